/- What parts answers: the first error of terms. What Check answers. What partsOf answers: all parts of a term, each ahead of its arguments. -/
import Derived.Test.YtmggaclaoefdaaaGAB
namespace Go.Proofs.Ytmggaclaoefdaaa
open Go.RowKit

/-- The first that is not 0. -/
def fst (g : Nat → Int) : Nat → Int
  | 0 => 0
  | k + 1 => if fst g k = 0 then g k else fst g k
theorem fst_zero (g : Nat → Int) {j k : Nat} (h : j ≤ k) (hk : fst g k = 0) : fst g j = 0 := by
  induction k with
  | zero => rw [Nat.le_zero.1 h]; rfl
  | succ k ih =>
    by_cases hj : j = k + 1
    · rw [hj]; exact hk
    · have : fst g k = 0 := by
        by_cases h0 : fst g k = 0
        · exact h0
        · rw [fst, if_neg h0] at hk; exact absurd hk h0
      exact ih (by omega) this
theorem fst_stop (g : Nat → Int) {j k : Nat} (h : j < k) (h0 : fst g j = 0) (hg : g j ≠ 0) : fst g k = g j := by
  induction k with
  | zero => omega
  | succ k ih =>
    by_cases hj : j = k
    · subst hj; rw [fst, if_pos h0]
    · have e := ih (by omega)
      rw [fst, if_neg (by rw [e]; exact hg), e]

/-- The first error of a term. -/
def err : Tm → Int
  | .nil => if partE 0 ⟨#[]⟩ 0 = 0 then 0 else partE 0 ⟨#[]⟩ 0
  | .mk v nm _ len _ f => if partE v nm len = 0 then fst (fun i => err (f i)) len else partE v nm len
/-- .. of its arguments. -/
def errs (T : Tm) : Int := fst (fun i => err (T.f i)) T.len
theorem err_eq (T : Tm) : err T = if partE T.v T.nm T.len = 0 then errs T else partE T.v T.nm T.len := by cases T <;> rfl

set_option maxHeartbeats 400000 in
theorem parts_any (T : Tm) : ∀ (w : World), TIn w T →
    Calls Try.prog 54 #[.slice T.a T.len T.cap] w fun e w' => e = .returned (.int .i64 (errs T)) ∧ Below w.heap.size w w' := by
  induction T with
  | nil => intro w hin; exact False.elim hin
  | mk v nm a len cap f ih =>
    intro w hin
    have IH : Hid (∀ i (w : World), TIn w (f i) → Calls Try.prog 54 #[.slice (f i).a (f i).len (f i).cap] w fun e w' => e = .returned (.int .i64 (errs (f i))) ∧ Below w.heap.size w w') := ih
    have HIn : Hid (TIn w (.mk v nm a len cap f)) := hin
    have hlen : len ≤ 2 ^ 63 - 1 := TIn.len (T := .mk v nm a len cap f) hin
    have HS : Hid (errs (.mk v nm a len cap f) = fst (fun i => err (f i)) len) := rfl
    clear ih hin
    show Calls Try.prog 54 #[.slice a len cap] w _
    go_enter Try.func54, Try.ntmps54
    go_wp2_with fail
    go_loopw [9] (fun i wr => ∃ k : Nat, k ≤ len ∧ i = .int .i64 k ∧ fst (fun i => err (f i)) k = 0 ∧ Below w.heap.size w wr) (fun i _ => len - (intOf i).toNat)
    case atStart => exact ⟨0, Nat.zero_le _, rfl, rfl, Below.refl _ _⟩
    case round =>
      obtain ⟨k, hk, rfl, hs, hb⟩ := hrel
      have HK : Hid (fst (fun i => err (f i)) k = 0) := hs
      have HB : Hid (Below w.heap.size w wr) := hb
      have hsz := hb.size
      clear hs hb
      by_cases hlt : k < len
      · have hr : RowAt wr a k (f k) := (TIn.row (T := .mk v nm a len cap f) HIn.out hlt).below HB.out
        obtain ⟨b, o, ha, c0, c1, c2⟩ := hr
        have HT : Hid (TIn wr (f k)) := (TIn.kid (T := .mk v nm a len cap f) HIn.out hlt).below HB.out
        have HE := err_eq (f k)
        have HN : Hid (err (f k) ≠ 0 → errs (.mk v nm a len cap f) = err (f k)) := fun h => by rw [HS.out]; exact fst_stop _ hlt HK.out h
        have HZ : Hid (err (f k) = 0 → fst (fun i => err (f i)) (k + 1) = 0) := fun h => by rw [fst, if_pos HK.out]; exact h
        have HE' : Hid (err (f k) = if partE (f k).v (f k).nm (f k).len = 0 then errs (f k) else partE (f k).v (f k).nm (f k).len) := HE
        clear HE
        subst ha
        go_wp2_with fail
        refine (part_any _ _ _ _ _ _ HT.out.name).mono ?_
        rintro e w1 ⟨rfl, hb1⟩
        have HB1 : Hid (Below (wr.heap.size + 1) (wr.alloc (.cells #[.int .i64 (f k).v, .string (f k).nm, .slice (f k).a (f k).len (f k).cap] 24)) w1) := by
          have := hb1; rw [Hid]; simpa using this
        clear hb1
        have hsz1 : wr.heap.size + 1 ≤ w1.heap.size := by have := HB1.out.size; simpa using this
        have HW1 : Hid (Below wr.heap.size wr w1) := ((Below.refl _ _).alloc (Nat.le_refl _) _).trans (HB1.out.mono (by omega))
        have hbox : w1.cell? ⟨wr.heap.size, 2, none⟩ = some (.slice (f k).a (f k).len (f k).cap) := (HB1.out.cell (p := ⟨wr.heap.size, 2, none⟩) (by simp)).trans (by go_simp)
        by_cases hp : partE (f k).v (f k).nm (f k).len = 0
        · have HE2 : Hid (err (f k) = errs (f k)) := by rw [Hid, HE'.out, if_pos hp]
          rw [hp]
          clear hp
          go_wp2_with fail
          refine (IH.out k _ (HT.out.below HW1.out)).mono ?_
          rintro e w2 ⟨rfl, hb2⟩
          have HW2 : Hid (Below w.heap.size w w2) := (HB.out.trans (HW1.out.mono (by omega))).trans (hb2.mono (by omega))
          clear hb2
          by_cases hq : errs (f k) = 0
          · have HZ2 := HZ.out (HE2.out.trans hq)
            have HZ3 : Hid (fst (fun i => err (f i)) (k + 1) = 0) := HZ2
            rw [hq]
            clear hq HZ2
            go_wp2_with fail
            go_roundw
            case rel => exact ⟨k + 1, by omega, by go_num, HZ3.out, HW2.out⟩
            case measure => simp [intOf]; omega
          · have hqb : (errs (f k) == 0) = false := beq_eq_false_iff_ne.2 hq
            have HR : Hid (errs (.mk v nm (some ⟨b, o, none⟩) len cap f) = errs (f k)) := (HN.out (by rw [HE2.out]; exact hq)).trans HE2.out
            clear hq
            go_wp2_with fail
            go_ret
            exact ⟨by rw [HR.out]; rfl, HW2.out⟩
        · have hpb : (partE (f k).v (f k).nm (f k).len == 0) = false := beq_eq_false_iff_ne.2 hp
          have HE2 : Hid (err (f k) = partE (f k).v (f k).nm (f k).len) := by rw [Hid, HE'.out, if_neg hp]
          have HR : Hid (errs (.mk v nm (some ⟨b, o, none⟩) len cap f) = partE (f k).v (f k).nm (f k).len) := (HN.out (by rw [HE2.out]; exact hp)).trans HE2.out
          clear hp
          go_wp2_with fail
          go_ret
          exact ⟨by rw [HR.out]; rfl, HB.out.trans (HW1.out.mono (by omega))⟩
      · have hke : k = len := by omega
        have HR : Hid (errs (.mk v nm a len cap f) = 0) := by rw [Hid, HS.out, ← hke, HK.out]
        clear hke
        go_wp2_with fail
        go_ret
        exact ⟨by rw [HR.out]; rfl, HB.out⟩
end Go.Proofs.Ytmggaclaoefdaaa

namespace Go.Proofs.Ytmggaclaoefdaaa
open Go.RowKit

/-- The answer of Check. -/
def checkV (T : Tm) : Int := if cnt T ≤ 60 then err T else 2

/-- A list of one term that has just been laid. -/
def one (b : Nat) (T : Tm) : Tm := .mk 0 ByteArray.empty (some ⟨b, 0, none⟩) 1 1 (fun _ => T)
theorem kids_one (b : Nat) (T : Tm) : kids (one b T) = cnt T := by show 0 + cnt T = _; omega
theorem errs_one (b : Nat) (T : Tm) : errs (one b T) = err T := rfl
theorem one_in {w : World} {T : Tm} {b : Nat} (hb : b = w.heap.size) (h : TIn w T) : TIn (w.alloc (.cells #[.int .i64 T.v, .string T.nm, .slice T.a T.len T.cap] 24)) (one b T) := by
  subst hb
  refine ⟨Nat.zero_le _, by unfold maxLen; omega, fun i hi => ?_⟩
  have hi0 : i = 0 := by omega
  subst hi0
  exact ⟨⟨w.heap.size, 0, rfl, by go_simp, by go_simp, by go_simp⟩, h.below ((Below.refl _ _).alloc (Nat.le_refl _) _)⟩

set_option maxHeartbeats 400000 in
theorem check_any (T : Tm) (w : World) (hin : TIn w T) :
    Calls Try.prog 16 #[T.val] w fun e w' => e = .returned (.int .i64 (checkV T)) ∧ Below w.heap.size w w' := by
  have HIn : Hid (TIn w T) := hin
  clear hin
  show Calls Try.prog 16 #[.agg #[.int .i64 T.v, .string T.nm, .slice T.a T.len T.cap]] w _
  have H1 : Hid (TIn (w.alloc (.cells #[.int .i64 T.v, .string T.nm, .slice T.a T.len T.cap] 24)) T) := HIn.out.below ((Below.refl _ _).alloc (Nat.le_refl _) _)
  have H2 : Hid (TIn ((w.alloc (.cells #[.int .i64 T.v, .string T.nm, .slice T.a T.len T.cap] 24)).alloc (.cells #[.int .i64 T.v, .string T.nm, .slice T.a T.len T.cap] 24)) (one (w.heap.size + 1) T)) := one_in (by simp) H1.out
  by_cases hc : cnt T ≤ 60
  · have HR : Hid (checkV T = err T) := by rw [Hid, checkV, if_pos hc]
    have HV : Hid (roomV 60 (kids (one (w.heap.size + 1) T)) = 60 - cnt T) := by rw [Hid, kids_one, roomV, if_pos (by omega)]
    go_enter Try.func16, Try.ntmps16
    go_wp2_with fail
    refine (room_any (one (w.heap.size + 1) T) 60 _ H2.out (by omega) (by omega)).mono ?_
    rintro e w1 ⟨rfl, hb1⟩
    rw [HV.out]
    have HB1 : Hid (Below (w.heap.size + 2) ((w.alloc (.cells #[.int .i64 T.v, .string T.nm, .slice T.a T.len T.cap] 24)).alloc (.cells #[.int .i64 T.v, .string T.nm, .slice T.a T.len T.cap] 24)) w1) := by
      have := hb1; rw [Hid]; simpa using this
    clear hb1
    have hsz1 : w.heap.size + 2 ≤ w1.heap.size := by have := HB1.out.size; simpa using this
    have hc0 : w1.cell? ⟨w.heap.size, 0, none⟩ = some (.int .i64 T.v) := (HB1.out.cell (p := ⟨w.heap.size, 0, none⟩) (by simp)).trans (by go_simp)
    have hc1 : w1.cell? ⟨w.heap.size, 1, none⟩ = some (.string T.nm) := (HB1.out.cell (p := ⟨w.heap.size, 1, none⟩) (by simp)).trans (by go_simp)
    have hc2 : w1.cell? ⟨w.heap.size, 2, none⟩ = some (.slice T.a T.len T.cap) := (HB1.out.cell (p := ⟨w.heap.size, 2, none⟩) (by simp)).trans (by go_simp)
    have HW1 : Hid (Below w.heap.size w w1) := (((Below.refl _ _).alloc (Nat.le_refl _) _).alloc (by simp) _).trans (HB1.out.mono (by omega))
    have H3 : Hid (TIn (w1.alloc (.cells #[.int .i64 T.v, .string T.nm, .slice T.a T.len T.cap] 24)) (one w1.heap.size T)) := one_in rfl (HIn.out.below HW1.out)
    go_wp2_with fail
    refine (parts_any (one w1.heap.size T) _ H3.out).mono ?_
    rintro e w2 ⟨rfl, hb2⟩
    rw [errs_one]
    go_wp2_with fail
    go_ret
    exact ⟨by rw [HR.out]; rfl, (HW1.out.trans (((Below.refl _ _).alloc (Nat.le_refl _) _).mono (by omega))).trans (hb2.mono (by simp; omega))⟩
  · have HR : Hid (checkV T = 2) := by rw [Hid, checkV, if_neg hc]
    have HV : Hid (roomV 60 (kids (one (w.heap.size + 1) T)) = -1) := by rw [Hid, kids_one, roomV, if_neg (by omega)]
    go_enter Try.func16, Try.ntmps16
    go_wp2_with fail
    refine (room_any (one (w.heap.size + 1) T) 60 _ H2.out (by omega) (by omega)).mono ?_
    rintro e w1 ⟨rfl, hb1⟩
    rw [HV.out]
    have HB1 : Hid (Below (w.heap.size + 2) ((w.alloc (.cells #[.int .i64 T.v, .string T.nm, .slice T.a T.len T.cap] 24)).alloc (.cells #[.int .i64 T.v, .string T.nm, .slice T.a T.len T.cap] 24)) w1) := by
      have := hb1; rw [Hid]; simpa using this
    clear hb1
    go_wp2_with fail
    go_ret
    exact ⟨by rw [HR.out]; rfl, (((Below.refl _ _).alloc (Nat.le_refl _) _).alloc (by simp) _).trans (HB1.out.mono (by omega))⟩
end Go.Proofs.Ytmggaclaoefdaaa

namespace Go.Proofs.Ytmggaclaoefdaaa
open Go.RowKit

theorem Try.info24 : (Try.prog.info? 24).map (fun i => (i.zero, i.size, i.bytes)) = some (some (.agg #[.int .i64 0, .string ByteArray.empty, .slice none 0 0]), 3, 48) := by kernel_rfl

def cells3 (T : Tm) : List Value := [.int .i64 T.v, .string T.nm, .slice T.a T.len T.cap]
def flat (l : List Tm) : List Value := l.flatMap cells3
def preTo (g : Nat → List Tm) : Nat → List Tm
  | 0 => []
  | k + 1 => preTo g k ++ g k
def pre : Tm → List Tm
  | .nil => [.nil]
  | .mk v nm a len cap f => .mk v nm a len cap f :: preTo (fun i => pre (f i)) len
theorem flat_length (l : List Tm) : (flat l).length = l.length * 3 := by
  induction l with
  | nil => rfl
  | cons x r ih =>
    have : (flat (x :: r)).length = 3 + (flat r).length := by simp [flat, cells3]; omega
    rw [this, ih, List.length_cons]; omega
theorem flat_append (l r : List Tm) : flat (l ++ r) = flat l ++ flat r := by simp [flat]
theorem flat_one (l : List Tm) : ∀ u ∈ flat l, u.oneCell' = true := by
  intro u hu
  obtain ⟨T, _, hT⟩ := List.mem_flatMap.1 hu
  simp only [cells3, List.mem_cons, List.not_mem_nil, or_false] at hT
  rcases hT with rfl | rfl | rfl <;> rfl
theorem grown_of_below {w w' : World} (h : Below w.heap.size w w') (row : Option Nat) : w.grownBy w' row := ⟨h.os, h.tape, h.output, h.size, fun k hk _ => h.block k hk⟩
theorem ownsRow_mono {w : World} {base base' : Nat} {e : TypeId} {size : Nat} {v : Value} {n : Nat} {xs : List Value} (h : w.ownsRow base e size v n xs) (hb : base' ≤ base) : w.ownsRow base' e size v n xs := by
  refine ⟨h.1, ?_⟩
  rcases h.2 with h0 | ⟨g, cap, cur, rfl, hg, r⟩
  · exact .inl h0
  · exact .inr ⟨g, cap, cur, rfl, Nat.le_trans hb hg, r⟩

end Go.Proofs.Ytmggaclaoefdaaa
