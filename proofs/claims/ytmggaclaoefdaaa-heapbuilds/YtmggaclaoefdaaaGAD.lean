/- What Check answers. What partsOf answers: all parts of a term, each ahead of its arguments. -/
import Derived.Test.YtmggaclaoefdaaaGAC
namespace Go.Proofs.Ytmggaclaoefdaaa
open Go.RowKit

/-- The answer of Check. -/
def checkV (T : Tm) : Int := if cnt T ≤ 60 then err T else 2

/-- A list of one term that has just been laid. -/
def one (b : Nat) (T : Tm) : Tm := .mk 0 ByteArray.empty (some ⟨b, 0, none⟩) 1 1 (fun _ => T)
theorem kids_one (b : Nat) (T : Tm) : kids (one b T) = cnt T := by show 0 + cnt T = _; omega
theorem errs_one (b : Nat) (T : Tm) : errs (one b T) = err T := rfl
theorem one_in {w : World} {T : Tm} {b : Nat} (hb : b = w.heap.size) (h : TIn w T) : TIn (w.alloc (.cells #[.int .i64 T.v, .string T.nm, .slice T.a T.len T.cap] 24)) (one b T) := by
  subst hb
  refine ⟨Nat.zero_le _, by unfold maxLen; omega, fun i hi => ?_⟩
  have hi0 : i = 0 := by omega
  subst hi0
  exact ⟨⟨w.heap.size, 0, rfl, by go_simp, by go_simp, by go_simp⟩, h.below ((Below.refl _ _).alloc (Nat.le_refl _) _)⟩

set_option maxHeartbeats 400000 in
theorem check_any (T : Tm) (w : World) (hin : TIn w T) :
    Calls Try.prog 16 #[T.val] w fun e w' => e = .returned (.int .i64 (checkV T)) ∧ Below w.heap.size w w' := by
  have HIn : Hid (TIn w T) := hin
  clear hin
  show Calls Try.prog 16 #[.agg #[.int .i64 T.v, .string T.nm, .slice T.a T.len T.cap]] w _
  have H1 : Hid (TIn (w.alloc (.cells #[.int .i64 T.v, .string T.nm, .slice T.a T.len T.cap] 24)) T) := HIn.out.below ((Below.refl _ _).alloc (Nat.le_refl _) _)
  have H2 : Hid (TIn ((w.alloc (.cells #[.int .i64 T.v, .string T.nm, .slice T.a T.len T.cap] 24)).alloc (.cells #[.int .i64 T.v, .string T.nm, .slice T.a T.len T.cap] 24)) (one (w.heap.size + 1) T)) := one_in (by simp) H1.out
  by_cases hc : cnt T ≤ 60
  · have HR : Hid (checkV T = err T) := by rw [Hid, checkV, if_pos hc]
    have HV : Hid (roomV 60 (kids (one (w.heap.size + 1) T)) = 60 - cnt T) := by rw [Hid, kids_one, roomV, if_pos (by omega)]
    go_enter Try.func16, Try.ntmps16
    go_wp2_with fail
    refine (room_any (one (w.heap.size + 1) T) 60 _ H2.out (by omega) (by omega)).mono ?_
    rintro e w1 ⟨rfl, hb1⟩
    rw [HV.out]
    have HB1 : Hid (Below (w.heap.size + 2) ((w.alloc (.cells #[.int .i64 T.v, .string T.nm, .slice T.a T.len T.cap] 24)).alloc (.cells #[.int .i64 T.v, .string T.nm, .slice T.a T.len T.cap] 24)) w1) := by
      have := hb1; rw [Hid]; simpa using this
    clear hb1
    have hsz1 : w.heap.size + 2 ≤ w1.heap.size := by have := HB1.out.size; simpa using this
    have hc0 : w1.cell? ⟨w.heap.size, 0, none⟩ = some (.int .i64 T.v) := (HB1.out.cell (p := ⟨w.heap.size, 0, none⟩) (by simp)).trans (by go_simp)
    have hc1 : w1.cell? ⟨w.heap.size, 1, none⟩ = some (.string T.nm) := (HB1.out.cell (p := ⟨w.heap.size, 1, none⟩) (by simp)).trans (by go_simp)
    have hc2 : w1.cell? ⟨w.heap.size, 2, none⟩ = some (.slice T.a T.len T.cap) := (HB1.out.cell (p := ⟨w.heap.size, 2, none⟩) (by simp)).trans (by go_simp)
    have HW1 : Hid (Below w.heap.size w w1) := (((Below.refl _ _).alloc (Nat.le_refl _) _).alloc (by simp) _).trans (HB1.out.mono (by omega))
    have H3 : Hid (TIn (w1.alloc (.cells #[.int .i64 T.v, .string T.nm, .slice T.a T.len T.cap] 24)) (one w1.heap.size T)) := one_in rfl (HIn.out.below HW1.out)
    go_wp2_with fail
    refine (parts_any (one w1.heap.size T) _ H3.out).mono ?_
    rintro e w2 ⟨rfl, hb2⟩
    rw [errs_one]
    go_wp2_with fail
    go_ret
    exact ⟨by rw [HR.out]; rfl, (HW1.out.trans (((Below.refl _ _).alloc (Nat.le_refl _) _).mono (by omega))).trans (hb2.mono (by simp; omega))⟩
  · have HR : Hid (checkV T = 2) := by rw [Hid, checkV, if_neg hc]
    have HV : Hid (roomV 60 (kids (one (w.heap.size + 1) T)) = -1) := by rw [Hid, kids_one, roomV, if_neg (by omega)]
    go_enter Try.func16, Try.ntmps16
    go_wp2_with fail
    refine (room_any (one (w.heap.size + 1) T) 60 _ H2.out (by omega) (by omega)).mono ?_
    rintro e w1 ⟨rfl, hb1⟩
    rw [HV.out]
    have HB1 : Hid (Below (w.heap.size + 2) ((w.alloc (.cells #[.int .i64 T.v, .string T.nm, .slice T.a T.len T.cap] 24)).alloc (.cells #[.int .i64 T.v, .string T.nm, .slice T.a T.len T.cap] 24)) w1) := by
      have := hb1; rw [Hid]; simpa using this
    clear hb1
    go_wp2_with fail
    go_ret
    exact ⟨by rw [HR.out]; rfl, (((Below.refl _ _).alloc (Nat.le_refl _) _).alloc (by simp) _).trans (HB1.out.mono (by omega))⟩
end Go.Proofs.Ytmggaclaoefdaaa

namespace Go.Proofs.Ytmggaclaoefdaaa
open Go.RowKit

theorem Try.info24 : (Try.prog.info? 24).map (fun i => (i.zero, i.size, i.bytes)) = some (some (.agg #[.int .i64 0, .string ByteArray.empty, .slice none 0 0]), 3, 48) := by kernel_rfl

def cells3 (T : Tm) : List Value := [.int .i64 T.v, .string T.nm, .slice T.a T.len T.cap]
def flat (l : List Tm) : List Value := l.flatMap cells3
def preTo (g : Nat → List Tm) : Nat → List Tm
  | 0 => []
  | k + 1 => preTo g k ++ g k
def pre : Tm → List Tm
  | .nil => [.nil]
  | .mk v nm a len cap f => .mk v nm a len cap f :: preTo (fun i => pre (f i)) len
theorem preTo_length (g : Nat → List Tm) (k : Nat) : (preTo g k).length = sumTo (fun i => (g i).length) k := by
  induction k with
  | zero => rfl
  | succ k ih => rw [preTo, sumTo, List.length_append, ih]
theorem pre_length (T : Tm) : (pre T).length = cnt T := by
  induction T with
  | nil => rfl
  | mk v nm a len cap f ih =>
    rw [pre, cnt, List.length_cons, preTo_length]
    have : (fun i => (pre (f i)).length) = fun i => cnt (f i) := funext ih
    rw [this]; omega
theorem flat_length (l : List Tm) : (flat l).length = l.length * 3 := by
  induction l with
  | nil => rfl
  | cons x r ih =>
    have : (flat (x :: r)).length = 3 + (flat r).length := by simp [flat, cells3]; omega
    rw [this, ih, List.length_cons]; omega
theorem flat_append (l r : List Tm) : flat (l ++ r) = flat l ++ flat r := by simp [flat]
theorem flat_one (l : List Tm) : ∀ u ∈ flat l, u.oneCell' = true := by
  intro u hu
  obtain ⟨T, _, hT⟩ := List.mem_flatMap.1 hu
  simp only [cells3, List.mem_cons, List.not_mem_nil, or_false] at hT
  rcases hT with rfl | rfl | rfl <;> rfl
theorem grown_of_below {w w' : World} (h : Below w.heap.size w w') (row : Option Nat) : w.grownBy w' row := ⟨h.os, h.tape, h.output, h.size, fun k hk _ => h.block k hk⟩
theorem ownsRow_mono {w : World} {base base' : Nat} {e : TypeId} {size : Nat} {v : Value} {n : Nat} {xs : List Value} (h : w.ownsRow base e size v n xs) (hb : base' ≤ base) : w.ownsRow base' e size v n xs := by
  refine ⟨h.1, ?_⟩
  rcases h.2 with h0 | ⟨g, cap, cur, rfl, hg, r⟩
  · exact .inl h0
  · exact .inr ⟨g, cap, cur, rfl, Nat.le_trans hb hg, r⟩

set_option maxHeartbeats 800000 in
theorem partsOf_any (T : Tm) : ∀ (w : World), TIn w T → cnt T ≤ 60 →
    Calls Try.prog 51 #[T.val] w fun r w' => ∃ g cp : Nat, r = .returned (.slice (some ⟨g, 0, none⟩) (cnt T) cp) ∧ w'.ownsRow w.heap.size 24 3 (.slice (some ⟨g, 0, none⟩) (cnt T) cp) (cnt T) (flat (pre T)) ∧ Below w.heap.size w w' := by
  induction T with
  | nil => intro w hin; exact False.elim hin
  | mk v nm a len cap f ih =>
    intro w hin hcnt
    have IH : Hid (∀ i (w : World), TIn w (f i) → cnt (f i) ≤ 60 → Calls Try.prog 51 #[(f i).val] w fun r w' => ∃ g cp : Nat, r = .returned (.slice (some ⟨g, 0, none⟩) (cnt (f i)) cp) ∧ w'.ownsRow w.heap.size 24 3 (.slice (some ⟨g, 0, none⟩) (cnt (f i)) cp) (cnt (f i)) (flat (pre (f i))) ∧ Below w.heap.size w w') := ih
    have HIn : Hid (TIn w (.mk v nm a len cap f)) := hin
    have hlen : len ≤ 2 ^ 63 - 1 := TIn.len (T := .mk v nm a len cap f) hin
    have HC : Hid (cnt (.mk v nm a len cap f) = 1 + sumTo (fun i => cnt (f i)) len) := rfl
    have HP : Hid (pre (.mk v nm a len cap f) = .mk v nm a len cap f :: preTo (fun i => pre (f i)) len) := rfl
    have HL : Hid (1 + sumTo (fun i => cnt (f i)) len ≤ 60) := hcnt
    obtain ⟨i0, hi, hz0, hz1, hz2⟩ := info_parts Try.info24
    clear ih hin hcnt
    show Calls Try.prog 51 #[.agg #[.int .i64 v, .string nm, .slice a len cap]] w _
    go_enter Try.func51, Try.ntmps51
    go_wp2_with fail
    go_loopw [3, 4] (fun out i wr => ∃ k g cp : Nat, k ≤ len ∧ i = .int .i64 k ∧ out = .slice (some ⟨g, 0, none⟩) (1 + sumTo (fun i => cnt (f i)) k) cp ∧ wr.ownsRow (w.heap.size + 1) 24 3 (.slice (some ⟨g, 0, none⟩) (1 + sumTo (fun i => cnt (f i)) k) cp) (1 + sumTo (fun i => cnt (f i)) k) (flat (.mk v nm a len cap f :: preTo (fun i => pre (f i)) k)) ∧ Below (w.heap.size + 1) (w.alloc (.cells #[.int .i64 v, .string nm, .slice a len cap] 24)) wr) (fun _ i _ => len - (intOf i).toNat)
    case atStart =>
      refine ⟨0, w.heap.size + 1, 1, Nat.zero_le _, rfl, rfl, ?_, (Below.refl _ _).alloc (by simp) _⟩
      have := World.ownsRow_lit (base := w.heap.size + 1) (e := 24) (size := 3) (w.alloc (.cells #[.int .i64 v, .string nm, .slice a len cap] 24)) #[.int .i64 v, .string nm, .slice a len cap] 1 (by simp) (by unfold maxLen; omega) rfl
      simpa [sumTo, preTo, flat, cells3, Tm.v, Tm.nm, Tm.a, Tm.len, Tm.cap] using this
    case round =>
      obtain ⟨k, g, cp, hk, rfl, rfl, hown, hb⟩ := hrel
      have hbox : wr.cell? ⟨w.heap.size, 2, none⟩ = some (.slice a len cap) := (hb.cell (p := ⟨w.heap.size, 2, none⟩) (by simp)).trans (by go_simp)
      have HB : Hid (Below (w.heap.size + 1) (w.alloc (.cells #[.int .i64 v, .string nm, .slice a len cap] 24)) wr) := hb
      have HBW : Hid (Below w.heap.size w wr) := ((Below.refl _ _).alloc (Nat.le_refl _) _).trans (hb.mono (by omega))
      have hsz : w.heap.size + 1 ≤ wr.heap.size := by have := hb.size; simpa using this
      have HO : Hid (wr.ownsRow (w.heap.size + 1) 24 3 (.slice (some ⟨g, 0, none⟩) (1 + sumTo (fun i => cnt (f i)) k) cp) (1 + sumTo (fun i => cnt (f i)) k) (flat (.mk v nm a len cap f :: preTo (fun i => pre (f i)) k))) := hown
      clear hown hb
      by_cases hlt : k < len
      · have hr : RowAt wr a k (f k) := (TIn.row (T := .mk v nm a len cap f) HIn.out hlt).below HBW.out
        obtain ⟨b, o, ha, c0, c1, c2⟩ := hr
        have HT : Hid (TIn wr (f k)) := (TIn.kid (T := .mk v nm a len cap f) HIn.out hlt).below HBW.out
        have HM : Hid (sumTo (fun i => cnt (f i)) (k + 1) ≤ sumTo (fun i => cnt (f i)) len) := sumTo_le _ hlt
        have HE : Hid (sumTo (fun i => cnt (f i)) (k + 1) = sumTo (fun i => cnt (f i)) k + cnt (f k)) := rfl
        have HQ : Hid (flat (.mk v nm a len cap f :: preTo (fun i => pre (f i)) (k + 1)) = flat (.mk v nm a len cap f :: preTo (fun i => pre (f i)) k) ++ flat (pre (f k))) := by
          rw [Hid, preTo, ← flat_append]; rfl
        generalize hfl : flat (.mk v nm a len cap f :: preTo (fun i => pre (f i)) k) = fl at *
        clear hfl
        have hle : 1 + sumTo (fun i => cnt (f i)) k + cnt (f k) ≤ 60 := by have := HM.out; have := HE.out; have := HL.out; omega
        generalize sumTo (fun i => cnt (f i)) k = sk at *
        subst ha
        go_wp2_with fail
        refine (IH.out k _ HT.out (by omega)).mono ?_
        rintro r w1 ⟨g1, cp1, rfl, hown1, hb1⟩
        have HO1 : Hid (w1.ownsRow (w.heap.size + 1) 24 3 (.slice (some ⟨g, 0, none⟩) (1 + sk) cp) (1 + sk) fl) := HO.out.kept (grown_of_below hb1 none) (Or.inr (by simp [Value.ownBlock]))
        have HO2 : Hid (w1.ownsRow wr.heap.size 24 3 (.slice (some ⟨g1, 0, none⟩) (cnt (f k)) cp1) (cnt (f k)) (flat (pre (f k)))) := hown1
        have HB1 : Hid (Below (w.heap.size + 1) (w.alloc (.cells #[.int .i64 v, .string nm, .slice (some ⟨b, o, none⟩) len cap] 24)) w1) := HB.out.trans (hb1.mono hsz)
        have hsz1 : w.heap.size + 1 ≤ w1.heap.size := Nat.le_trans hsz hb1.size
        clear hown1 hb1
        go_wp2_with (at_builtin; refine wpList_append_own _ rfl (.tmp 14) (.tmp 20) 22 rfl (w.heap.size + 1) 24 i0 (.agg #[.int .i64 0, .string ByteArray.empty, .slice none 0 0]) 3 48 Try.underlying22 hi hz0 hz1 hz2 rfl (by decide) (.slice (some ⟨g, 0, none⟩) (1 + sk) cp) (1 + sk) fl rfl HO1.out ⟨g1, 0, none⟩ (cnt (f k)) cp1 (flat (pre (f k))) rfl HO2.out.1 (HO2.out.cells rfl) (flat_one _) (by unfold maxLen; omega) (by omega) hsz1 ?_; intro v' w2 hown' hgrow hnil)
        have HB2 : Hid (Below (w.heap.size + 1) (w.alloc (.cells #[.int .i64 v, .string nm, .slice (some ⟨b, o, none⟩) len cap] 24)) w2) := HB1.out.grown hgrow hsz1 (fun j hj => (HO1.out.lt j hj).1)
        rcases hown'.2 with ⟨hv', _⟩ | ⟨g', cap', cur, hv', _⟩
        · exact absurd (hnil.1 hv').1 (by simp)
        · have HO3 : Hid (w2.ownsRow (w.heap.size + 1) 24 3 (.slice (some ⟨g', 0, none⟩) (1 + sk + cnt (f k)) cap') (1 + sk + cnt (f k)) (fl ++ flat (pre (f k)))) := by rw [← hv']; exact hown'
          subst hv'
          clear hown' hnil hgrow
          go_roundw
          case rel => exact ⟨k + 1, g', cap', by omega, by go_num, by rw [HE.out, ← Nat.add_assoc], by rw [HE.out, ← Nat.add_assoc, HQ.out]; exact HO3.out, HB2.out⟩
          case measure => simp [intOf]; omega
      · have hke : k = len := by omega
        subst hke
        go_wp2_with fail
        go_ret
        exact ⟨g, cp, rfl, ownsRow_mono HO.out (by omega), HBW.out⟩
end Go.Proofs.Ytmggaclaoefdaaa
