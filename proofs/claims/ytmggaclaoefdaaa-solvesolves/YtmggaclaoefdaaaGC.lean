/- What partsOf answers: all parts of a term, each ahead of its arguments. What CheckTerm answers: the same as Check. -/
import Derived.Test.YtmggaclaoefdaaaGA
namespace Go.Proofs.Ytmggaclaoefdaaa
open Go.RowKit

theorem Try.info24 : (Try.prog.info? 24).map (fun i => (i.zero, i.size, i.bytes)) = some (some (.agg #[.int .i64 0, .string ByteArray.empty, .slice none 0 0]), 3, 48) := by kernel_rfl

def cells3 (T : Tm) : List Value := [.int .i64 T.v, .string T.nm, .slice T.a T.len T.cap]
def flat (l : List Tm) : List Value := l.flatMap cells3
def preTo (g : Nat → List Tm) : Nat → List Tm
  | 0 => []
  | k + 1 => preTo g k ++ g k
def pre : Tm → List Tm
  | .nil => [.nil]
  | .mk v nm a len cap f => .mk v nm a len cap f :: preTo (fun i => pre (f i)) len
theorem preTo_length (g : Nat → List Tm) (k : Nat) : (preTo g k).length = sumTo (fun i => (g i).length) k := by
  induction k with
  | zero => rfl
  | succ k ih => rw [preTo, sumTo, List.length_append, ih]
theorem pre_length (T : Tm) : (pre T).length = cnt T := by
  induction T with
  | nil => rfl
  | mk v nm a len cap f ih =>
    rw [pre, cnt, List.length_cons, preTo_length]
    have : (fun i => (pre (f i)).length) = fun i => cnt (f i) := funext ih
    rw [this]; omega
theorem flat_length (l : List Tm) : (flat l).length = l.length * 3 := by
  induction l with
  | nil => rfl
  | cons x r ih =>
    have : (flat (x :: r)).length = 3 + (flat r).length := by simp [flat, cells3]; omega
    rw [this, ih, List.length_cons]; omega
theorem flat_append (l r : List Tm) : flat (l ++ r) = flat l ++ flat r := by simp [flat]
theorem flat_one (l : List Tm) : ∀ u ∈ flat l, u.oneCell' = true := by
  intro u hu
  obtain ⟨T, _, hT⟩ := List.mem_flatMap.1 hu
  simp only [cells3, List.mem_cons, List.not_mem_nil, or_false] at hT
  rcases hT with rfl | rfl | rfl <;> rfl
theorem grown_of_below {w w' : World} (h : Below w.heap.size w w') (row : Option Nat) : w.grownBy w' row := ⟨h.os, h.tape, h.output, h.size, fun k hk _ => h.block k hk⟩
theorem ownsRow_mono {w : World} {base base' : Nat} {e : TypeId} {size : Nat} {v : Value} {n : Nat} {xs : List Value} (h : w.ownsRow base e size v n xs) (hb : base' ≤ base) : w.ownsRow base' e size v n xs := by
  refine ⟨h.1, ?_⟩
  rcases h.2 with h0 | ⟨g, cap, cur, rfl, hg, r⟩
  · exact .inl h0
  · exact .inr ⟨g, cap, cur, rfl, Nat.le_trans hb hg, r⟩

set_option maxHeartbeats 800000 in
theorem partsOf_any (T : Tm) : ∀ (w : World), TIn w T → cnt T ≤ 60 →
    Calls Try.prog 51 #[T.val] w fun r w' => ∃ g cp : Nat, r = .returned (.slice (some ⟨g, 0, none⟩) (cnt T) cp) ∧ w'.ownsRow w.heap.size 24 3 (.slice (some ⟨g, 0, none⟩) (cnt T) cp) (cnt T) (flat (pre T)) ∧ Below w.heap.size w w' := by
  induction T with
  | nil => intro w hin; exact False.elim hin
  | mk v nm a len cap f ih =>
    intro w hin hcnt
    have IH : Hid (∀ i (w : World), TIn w (f i) → cnt (f i) ≤ 60 → Calls Try.prog 51 #[(f i).val] w fun r w' => ∃ g cp : Nat, r = .returned (.slice (some ⟨g, 0, none⟩) (cnt (f i)) cp) ∧ w'.ownsRow w.heap.size 24 3 (.slice (some ⟨g, 0, none⟩) (cnt (f i)) cp) (cnt (f i)) (flat (pre (f i))) ∧ Below w.heap.size w w') := ih
    have HIn : Hid (TIn w (.mk v nm a len cap f)) := hin
    have hlen : len ≤ 2 ^ 63 - 1 := TIn.len (T := .mk v nm a len cap f) hin
    have HC : Hid (cnt (.mk v nm a len cap f) = 1 + sumTo (fun i => cnt (f i)) len) := rfl
    have HP : Hid (pre (.mk v nm a len cap f) = .mk v nm a len cap f :: preTo (fun i => pre (f i)) len) := rfl
    have HL : Hid (1 + sumTo (fun i => cnt (f i)) len ≤ 60) := hcnt
    obtain ⟨i0, hi, hz0, hz1, hz2⟩ := info_parts Try.info24
    clear ih hin hcnt
    show Calls Try.prog 51 #[.agg #[.int .i64 v, .string nm, .slice a len cap]] w _
    go_enter Try.func51, Try.ntmps51
    go_wp2_with fail
    go_loopw [3, 4] (fun out i wr => ∃ k g cp : Nat, k ≤ len ∧ i = .int .i64 k ∧ out = .slice (some ⟨g, 0, none⟩) (1 + sumTo (fun i => cnt (f i)) k) cp ∧ wr.ownsRow (w.heap.size + 1) 24 3 (.slice (some ⟨g, 0, none⟩) (1 + sumTo (fun i => cnt (f i)) k) cp) (1 + sumTo (fun i => cnt (f i)) k) (flat (.mk v nm a len cap f :: preTo (fun i => pre (f i)) k)) ∧ Below (w.heap.size + 1) (w.alloc (.cells #[.int .i64 v, .string nm, .slice a len cap] 24)) wr) (fun _ i _ => len - (intOf i).toNat)
    case atStart =>
      refine ⟨0, w.heap.size + 1, 1, Nat.zero_le _, rfl, rfl, ?_, (Below.refl _ _).alloc (by simp) _⟩
      have := World.ownsRow_lit (base := w.heap.size + 1) (e := 24) (size := 3) (w.alloc (.cells #[.int .i64 v, .string nm, .slice a len cap] 24)) #[.int .i64 v, .string nm, .slice a len cap] 1 (by simp) (by unfold maxLen; omega) rfl
      simpa [sumTo, preTo, flat, cells3, Tm.v, Tm.nm, Tm.a, Tm.len, Tm.cap] using this
    case round =>
      obtain ⟨k, g, cp, hk, rfl, rfl, hown, hb⟩ := hrel
      have hbox : wr.cell? ⟨w.heap.size, 2, none⟩ = some (.slice a len cap) := (hb.cell (p := ⟨w.heap.size, 2, none⟩) (by simp)).trans (by go_simp)
      have HB : Hid (Below (w.heap.size + 1) (w.alloc (.cells #[.int .i64 v, .string nm, .slice a len cap] 24)) wr) := hb
      have HBW : Hid (Below w.heap.size w wr) := ((Below.refl _ _).alloc (Nat.le_refl _) _).trans (hb.mono (by omega))
      have hsz : w.heap.size + 1 ≤ wr.heap.size := by have := hb.size; simpa using this
      have HO : Hid (wr.ownsRow (w.heap.size + 1) 24 3 (.slice (some ⟨g, 0, none⟩) (1 + sumTo (fun i => cnt (f i)) k) cp) (1 + sumTo (fun i => cnt (f i)) k) (flat (.mk v nm a len cap f :: preTo (fun i => pre (f i)) k))) := hown
      clear hown hb
      by_cases hlt : k < len
      · have hr : RowAt wr a k (f k) := (TIn.row (T := .mk v nm a len cap f) HIn.out hlt).below HBW.out
        obtain ⟨b, o, ha, c0, c1, c2⟩ := hr
        have HT : Hid (TIn wr (f k)) := (TIn.kid (T := .mk v nm a len cap f) HIn.out hlt).below HBW.out
        have HM : Hid (sumTo (fun i => cnt (f i)) (k + 1) ≤ sumTo (fun i => cnt (f i)) len) := sumTo_le _ hlt
        have HE : Hid (sumTo (fun i => cnt (f i)) (k + 1) = sumTo (fun i => cnt (f i)) k + cnt (f k)) := rfl
        have HQ : Hid (flat (.mk v nm a len cap f :: preTo (fun i => pre (f i)) (k + 1)) = flat (.mk v nm a len cap f :: preTo (fun i => pre (f i)) k) ++ flat (pre (f k))) := by
          rw [Hid, preTo, ← flat_append]; rfl
        generalize hfl : flat (.mk v nm a len cap f :: preTo (fun i => pre (f i)) k) = fl at *
        clear hfl
        have hle : 1 + sumTo (fun i => cnt (f i)) k + cnt (f k) ≤ 60 := by have := HM.out; have := HE.out; have := HL.out; omega
        generalize sumTo (fun i => cnt (f i)) k = sk at *
        subst ha
        go_wp2_with fail
        refine (IH.out k _ HT.out (by omega)).mono ?_
        rintro r w1 ⟨g1, cp1, rfl, hown1, hb1⟩
        have HO1 : Hid (w1.ownsRow (w.heap.size + 1) 24 3 (.slice (some ⟨g, 0, none⟩) (1 + sk) cp) (1 + sk) fl) := HO.out.kept (grown_of_below hb1 none) (Or.inr (by simp [Value.ownBlock]))
        have HO2 : Hid (w1.ownsRow wr.heap.size 24 3 (.slice (some ⟨g1, 0, none⟩) (cnt (f k)) cp1) (cnt (f k)) (flat (pre (f k)))) := hown1
        have HB1 : Hid (Below (w.heap.size + 1) (w.alloc (.cells #[.int .i64 v, .string nm, .slice (some ⟨b, o, none⟩) len cap] 24)) w1) := HB.out.trans (hb1.mono hsz)
        have hsz1 : w.heap.size + 1 ≤ w1.heap.size := Nat.le_trans hsz hb1.size
        clear hown1 hb1
        go_wp2_with (at_builtin; refine wpList_append_own _ rfl (.tmp 14) (.tmp 20) 22 rfl (w.heap.size + 1) 24 i0 (.agg #[.int .i64 0, .string ByteArray.empty, .slice none 0 0]) 3 48 Try.underlying22 hi hz0 hz1 hz2 rfl (by decide) (.slice (some ⟨g, 0, none⟩) (1 + sk) cp) (1 + sk) fl rfl HO1.out ⟨g1, 0, none⟩ (cnt (f k)) cp1 (flat (pre (f k))) rfl HO2.out.1 (HO2.out.cells rfl) (flat_one _) (by unfold maxLen; omega) (by omega) hsz1 ?_; intro v' w2 hown' hgrow hnil)
        have HB2 : Hid (Below (w.heap.size + 1) (w.alloc (.cells #[.int .i64 v, .string nm, .slice (some ⟨b, o, none⟩) len cap] 24)) w2) := HB1.out.grown hgrow hsz1 (fun j hj => (HO1.out.lt j hj).1)
        rcases hown'.2 with ⟨hv', _⟩ | ⟨g', cap', cur, hv', _⟩
        · exact absurd (hnil.1 hv').1 (by simp)
        · have HO3 : Hid (w2.ownsRow (w.heap.size + 1) 24 3 (.slice (some ⟨g', 0, none⟩) (1 + sk + cnt (f k)) cap') (1 + sk + cnt (f k)) (fl ++ flat (pre (f k)))) := by rw [← hv']; exact hown'
          subst hv'
          clear hown' hnil hgrow
          go_roundw
          case rel => exact ⟨k + 1, g', cap', by omega, by go_num, by rw [HE.out, ← Nat.add_assoc], by rw [HE.out, ← Nat.add_assoc, HQ.out]; exact HO3.out, HB2.out⟩
          case measure => simp [intOf]; omega
      · have hke : k = len := by omega
        subst hke
        go_wp2_with fail
        go_ret
        exact ⟨g, cp, rfl, ownsRow_mono HO.out (by omega), HBW.out⟩
end Go.Proofs.Ytmggaclaoefdaaa

namespace Go.Proofs.Ytmggaclaoefdaaa
open Go.RowKit

def pe (T : Tm) : Int := partE T.v T.nm T.len
def firstL : List Tm → Int
  | [] => 0
  | x :: r => if pe x = 0 then firstL r else pe x
theorem firstL_append (l r : List Tm) : firstL (l ++ r) = if firstL l = 0 then firstL r else firstL l := by
  induction l with
  | nil => simp [firstL]
  | cons x l ih =>
    rw [List.cons_append, firstL, firstL, ih]
    by_cases h : pe x = 0
    · simp [h]
    · simp [h]
theorem firstL_pre (T : Tm) : firstL (pre T) = err T := by
  induction T with
  | nil => rfl
  | mk v nm a len cap f ih =>
    have key : ∀ k, firstL (preTo (fun i => pre (f i)) k) = fst (fun i => err (f i)) k := by
      intro k
      induction k with
      | zero => rfl
      | succ k ihk => rw [preTo, firstL_append, ihk, ih, fst]
    rw [pre, firstL, key, err]; rfl
theorem flat_get (l : List Tm) : ∀ (k : Nat) (h : k < l.length), (flat l)[k * 3]? = some (.int .i64 l[k].v) ∧ (flat l)[k * 3 + 1]? = some (.string l[k].nm) ∧ (flat l)[k * 3 + 2]? = some (.slice l[k].a l[k].len l[k].cap) := by
  induction l with
  | nil => intro k h; simp at h
  | cons x r ih =>
    have e : flat (x :: r) = cells3 x ++ flat r := by simp [flat]
    intro k h
    cases k with
    | zero => rw [e]; exact ⟨rfl, rfl, rfl⟩
    | succ k =>
      have hk : k < r.length := by simpa using h
      obtain ⟨h0, h1, h2⟩ := ih k hk
      have hl : (cells3 x).length = 3 := rfl
      rw [e]
      refine ⟨?_, ?_, ?_⟩
      · rw [List.getElem?_append_right (by rw [hl]; omega), hl, show (k + 1) * 3 - 3 = k * 3 by omega]; exact h0
      · rw [List.getElem?_append_right (by rw [hl]; omega), hl, show (k + 1) * 3 + 1 - 3 = k * 3 + 1 by omega]; exact h1
      · rw [List.getElem?_append_right (by rw [hl]; omega), hl, show (k + 1) * 3 + 2 - 3 = k * 3 + 2 by omega]; exact h2
theorem firstL_next (l : List Tm) (k : Nat) (h : k < l.length) (h0 : firstL (l.take k) = 0) (hp : pe l[k] = 0) : firstL (l.take (k + 1)) = 0 := by
  rw [List.take_succ_eq_append_getElem h, firstL_append, if_pos h0, firstL, if_pos hp]; rfl
theorem firstL_stop (l : List Tm) (k : Nat) (h : k < l.length) (h0 : firstL (l.take k) = 0) (hp : pe l[k] ≠ 0) : firstL l = pe l[k] := by
  have e : firstL (l.take (k + 1)) = pe l[k] := by
    rw [List.take_succ_eq_append_getElem h, firstL_append, if_pos h0, firstL, if_neg hp]
  have e2 : firstL (l.take (k + 1) ++ l.drop (k + 1)) = pe l[k] := by rw [firstL_append, e, if_neg hp]
  rwa [List.take_append_drop] at e2
theorem names_in (w : World) (T : Tm) (h : TIn w T) : ∀ X ∈ pre T, X.nm.size ≤ maxLen := by
  induction T with
  | nil => exact False.elim h
  | mk v nm a len cap f ih =>
    have key : ∀ k, k ≤ len → ∀ X ∈ preTo (fun i => pre (f i)) k, X.nm.size ≤ maxLen := by
      intro k
      induction k with
      | zero => intro _ X hX; simp [preTo] at hX
      | succ k ihk =>
        intro hk X hX
        rw [preTo] at hX
        rcases List.mem_append.1 hX with hX | hX
        · exact ihk (by omega) X hX
        · exact ih k (TIn.kid (T := .mk v nm a len cap f) h (by exact hk)) X hX
    intro X hX
    rw [pre] at hX
    rcases List.mem_cons.1 hX with rfl | hX
    · exact h.1
    · exact key len (Nat.le_refl _) X hX

set_option maxHeartbeats 1000000 in
theorem checkTerm_any (T : Tm) (w : World) (hin : TIn w T) :
    Calls Try.prog 17 #[T.val] w fun e w' => e = .returned (.int .i64 (checkV T)) ∧ Below w.heap.size w w' := by
  have HIn : Hid (TIn w T) := hin
  clear hin
  show Calls Try.prog 17 #[.agg #[.int .i64 T.v, .string T.nm, .slice T.a T.len T.cap]] w _
  have H1 : Hid (TIn (w.alloc (.cells #[.int .i64 T.v, .string T.nm, .slice T.a T.len T.cap] 24)) T) := HIn.out.below ((Below.refl _ _).alloc (Nat.le_refl _) _)
  by_cases hc : cnt T ≤ 60
  case neg =>
    have HR : Hid (checkV T = 2) := by rw [Hid, checkV, if_neg hc]
    have HV : Hid (sizeV 60 (cnt T) = 61) := by rw [Hid, sizeV, if_neg (by omega)]; rfl
    go_enter Try.func17, Try.ntmps17
    go_wp2_with fail
    refine (sizeOf_any T 60 _ H1.out (by omega) (by omega)).mono ?_
    rintro e w1 ⟨rfl, hb1⟩
    rw [HV.out]
    have HW1 : Hid (Below w.heap.size w w1) := ((Below.refl _ _).alloc (Nat.le_refl _) _).trans (hb1.mono (by simp))
    clear hb1
    go_wp2_with fail
    go_ret
    exact ⟨by rw [HR.out]; rfl, HW1.out⟩
  have HR : Hid (checkV T = firstL (pre T)) := by rw [Hid, checkV, if_pos hc, firstL_pre]
  have HV : Hid (sizeV 60 (cnt T) = cnt T) := by rw [Hid, sizeV, if_pos (by omega)]
  have HNm := names_in w T HIn.out
  have HN : Hid (∀ X ∈ pre T, X.nm.size ≤ maxLen) := HNm
  clear HNm
  go_enter Try.func17, Try.ntmps17
  go_wp2_with fail
  refine (sizeOf_any T 60 _ H1.out (by omega) (by omega)).mono ?_
  rintro e w1 ⟨rfl, hb1⟩
  rw [HV.out]
  have HB1 : Hid (Below (w.heap.size + 1) (w.alloc (.cells #[.int .i64 T.v, .string T.nm, .slice T.a T.len T.cap] 24)) w1) := by
    have := hb1; rw [Hid]; simpa using this
  have HW1 : Hid (Below w.heap.size w w1) := ((Below.refl _ _).alloc (Nat.le_refl _) _).trans (hb1.mono (by simp))
  clear hb1
  have hsz1 : w.heap.size + 1 ≤ w1.heap.size := by have := HB1.out.size; simpa using this
  have hc0 : w1.cell? ⟨w.heap.size, 0, none⟩ = some (.int .i64 T.v) := (HB1.out.cell (p := ⟨w.heap.size, 0, none⟩) (by simp)).trans (by go_simp)
  have hc1 : w1.cell? ⟨w.heap.size, 1, none⟩ = some (.string T.nm) := (HB1.out.cell (p := ⟨w.heap.size, 1, none⟩) (by simp)).trans (by go_simp)
  have hc2 : w1.cell? ⟨w.heap.size, 2, none⟩ = some (.slice T.a T.len T.cap) := (HB1.out.cell (p := ⟨w.heap.size, 2, none⟩) (by simp)).trans (by go_simp)
  go_wp2_with fail
  refine (partsOf_any T _ (HIn.out.below HW1.out) hc).mono ?_
  rintro r w2 ⟨g, cp, rfl, hown, hb2⟩
  have hlen : (pre T).length = cnt T := pre_length T
  have HLen : Hid ((pre T).length = cnt T) := hlen
  have HO : Hid (w2.ownsRow w.heap.size 24 3 (.slice (some ⟨g, 0, none⟩) (cnt T) cp) (cnt T) (flat (pre T))) := ownsRow_mono hown (by omega)
  have HW2 : Hid (Below w.heap.size w w2) := HW1.out.trans (hb2.mono (by omega))
  clear hown hb2 hlen hc0 hc1 hc2
  generalize pre T = l at *
  generalize cnt T = n at *
  go_wp2_with fail
  go_loopw [4] (fun i wr => ∃ k : Nat, k ≤ n ∧ i = .int .i64 k ∧ firstL (l.take k) = 0 ∧ wr.ownsRow w.heap.size 24 3 (.slice (some ⟨g, 0, none⟩) n cp) n (flat l) ∧ Below w.heap.size w wr) (fun i _ => n - (intOf i).toNat)
  case atStart => exact ⟨0, Nat.zero_le _, rfl, rfl, HO.out, HW2.out⟩
  case round =>
    obtain ⟨k, hk, rfl, hf, hown, hb⟩ := hrel
    have HF : Hid (firstL (l.take k) = 0) := hf
    have HO' : Hid (wr.ownsRow w.heap.size 24 3 (.slice (some ⟨g, 0, none⟩) n cp) n (flat l)) := hown
    have HB' : Hid (Below w.heap.size w wr) := hb
    have hsz := hb.size
    clear hf hown hb
    by_cases hlt : k < n
    · have hlt' : k < l.length := by rw [HLen.out]; exact hlt
      obtain ⟨f0, f1, f2⟩ := flat_get l k hlt'
      have HNext : Hid (pe l[k] = 0 → firstL (l.take (k + 1)) = 0) := firstL_next l k hlt' HF.out
      have HStop : Hid (pe l[k] ≠ 0 → checkV T = pe l[k]) := fun h => HR.out.trans (firstL_stop l k hlt' HF.out h)
      have c0 : wr.cell? ⟨g, k * 3, none⟩ = some (.int .i64 l[k].v) := (HO'.out.cellAt (k * 3) (by omega)).trans f0
      have c1 : wr.cell? ⟨g, k * 3 + 1, none⟩ = some (.string l[k].nm) := (HO'.out.cellAt (k * 3 + 1) (by omega)).trans f1
      have c2 : wr.cell? ⟨g, k * 3 + 2, none⟩ = some (.slice l[k].a l[k].len l[k].cap) := (HO'.out.cellAt (k * 3 + 2) (by omega)).trans f2
      have hnm : l[k].nm.size ≤ maxLen := HN.out _ (List.getElem_mem hlt')
      clear f0 f1 f2
      replace HNext : Hid (partE l[k].v l[k].nm l[k].len = 0 → firstL (l.take (k + 1)) = 0) := HNext
      replace HStop : Hid (partE l[k].v l[k].nm l[k].len ≠ 0 → checkV T = partE l[k].v l[k].nm l[k].len) := HStop
      generalize l[k].v = v at *
      generalize l[k].nm = nm at *
      generalize l[k].a = a at *
      generalize l[k].len = len at *
      generalize l[k].cap = cap at *
      by_cases hv : v = 0
      · subst hv
        cases hnb : nameB nm
        · skip
          have HX : Hid (checkV T = 1) := by
            have e : partE 0 nm len = 1 := by
              rw [partE, if_neg (by simp), if_pos hnb]
            rw [Hid, HStop.out (by rw [e]; decide), e]
          go_wp2_with (first | (go_at_call 56; refine (between_any _ _ _ _).mono ?_; rintro e w' ⟨rfl, rfl⟩) | (go_at_call 57; refine (isName_any _ _ hnm).mono ?_; rintro e w' ⟨rfl, rfl⟩))
          go_ret
          exact ⟨by rw [HX.out]; rfl, HB'.out.trans (((Below.refl _ _).alloc (Nat.le_refl _) _).mono hsz)⟩
        · by_cases h4 : 4 < len
          · skip
            have HX : Hid (checkV T = 2) := by
              have e : partE 0 nm len = 2 := by
                rw [partE, if_neg (by simp), if_neg (by rw [hnb]; simp), if_pos h4]
              rw [Hid, HStop.out (by rw [e]; decide), e]
            go_wp2_with (first | (go_at_call 56; refine (between_any _ _ _ _).mono ?_; rintro e w' ⟨rfl, rfl⟩) | (go_at_call 57; refine (isName_any _ _ hnm).mono ?_; rintro e w' ⟨rfl, rfl⟩))
            go_ret
            exact ⟨by rw [HX.out]; rfl, HB'.out.trans (((Below.refl _ _).alloc (Nat.le_refl _) _).mono hsz)⟩
          · cases hcut : (nm.toList == [33])
            · have hcn : ¬ nm.toList = [33] := beq_eq_false_iff_ne.1 hcut
              have HX : Hid (firstL (l.take (k + 1)) = 0) := by
                have e : partE 0 nm len = 0 := by
                  rw [partE, if_neg (by simp), if_neg (by rw [hnb]; simp), if_neg h4, if_neg (fun h => hcn h.1)]
                exact HNext.out e
              clear hcn
              go_wp2_with (first | (go_at_call 56; refine (between_any _ _ _ _).mono ?_; rintro e w' ⟨rfl, rfl⟩) | (go_at_call 57; refine (isName_any _ _ hnm).mono ?_; rintro e w' ⟨rfl, rfl⟩))
              go_roundw
              case rel => exact ⟨k + 1, by omega, by go_num, HX.out, HO'.out.alloc _, HB'.out.trans (((Below.refl _ _).alloc (Nat.le_refl _) _).mono hsz)⟩
              case measure => simp [intOf]; omega
            · have hcn : nm.toList = [33] := beq_iff_eq.1 hcut
              by_cases h0 : 0 < len
              · skip
                have HX : Hid (checkV T = 1) := by
                  have e : partE 0 nm len = 1 := by
                    rw [partE, if_neg (by simp), if_neg (by rw [hnb]; simp), if_neg h4, if_pos ⟨hcn, h0⟩]
                  rw [Hid, HStop.out (by rw [e]; decide), e]
                clear hcn
                go_wp2_with (first | (go_at_call 56; refine (between_any _ _ _ _).mono ?_; rintro e w' ⟨rfl, rfl⟩) | (go_at_call 57; refine (isName_any _ _ hnm).mono ?_; rintro e w' ⟨rfl, rfl⟩))
                go_ret
                exact ⟨by rw [HX.out]; rfl, HB'.out.trans (((Below.refl _ _).alloc (Nat.le_refl _) _).mono hsz)⟩
              · skip
                have HX : Hid (firstL (l.take (k + 1)) = 0) := by
                  have e : partE 0 nm len = 0 := by
                    rw [partE, if_neg (by simp), if_neg (by rw [hnb]; simp), if_neg h4, if_neg (fun h => h0 h.2)]
                  exact HNext.out e
                clear hcn
                go_wp2_with (first | (go_at_call 56; refine (between_any _ _ _ _).mono ?_; rintro e w' ⟨rfl, rfl⟩) | (go_at_call 57; refine (isName_any _ _ hnm).mono ?_; rintro e w' ⟨rfl, rfl⟩))
                go_roundw
                case rel => exact ⟨k + 1, by omega, by go_num, HX.out, HO'.out.alloc _, HB'.out.trans (((Below.refl _ _).alloc (Nat.le_refl _) _).mono hsz)⟩
                case measure => simp [intOf]; omega
      · have hvb : (v == 0) = false := beq_eq_false_iff_ne.2 hv
        cases hbt : btw v 1 12
        · skip
          have HX : Hid (checkV T = 3) := by
            have e : partE v nm len = 3 := by
              rw [partE, if_pos hv, varE]; simp [btw] at hbt; split
              · rfl
              · rw [if_pos (by omega)]
            rw [Hid, HStop.out (by rw [e]; decide), e]
          clear hv
          go_wp2_with (first | (go_at_call 56; refine (between_any _ _ _ _).mono ?_; rintro e w' ⟨rfl, rfl⟩) | (go_at_call 57; refine (isName_any _ _ hnm).mono ?_; rintro e w' ⟨rfl, rfl⟩))
          go_ret
          exact ⟨by rw [HX.out]; rfl, HB'.out.trans (((Below.refl _ _).alloc (Nat.le_refl _) _).mono hsz)⟩
        · have hbb : ¬ v < 1 ∧ ¬ 12 < v := by simp [btw] at hbt; omega
          by_cases hn : nm.toList = []
          · by_cases h0 : 0 < len
            · skip
              have HX : Hid (checkV T = 1) := by
                have e : partE v nm len = 1 := by
                  rw [partE, if_pos hv, varE, if_neg hbb.1, if_neg hbb.2, if_pos hn, if_pos h0]
                rw [Hid, HStop.out (by rw [e]; decide), e]
              clear hv hbb
              go_wp2_with (first | (go_at_call 56; refine (between_any _ _ _ _).mono ?_; rintro e w' ⟨rfl, rfl⟩) | (go_at_call 57; refine (isName_any _ _ hnm).mono ?_; rintro e w' ⟨rfl, rfl⟩))
              go_ret
              exact ⟨by rw [HX.out]; rfl, HB'.out.trans (((Below.refl _ _).alloc (Nat.le_refl _) _).mono hsz)⟩
            · skip
              have HX : Hid (firstL (l.take (k + 1)) = 0) := by
                have e : partE v nm len = 0 := by
                  rw [partE, if_pos hv, varE, if_neg hbb.1, if_neg hbb.2, if_pos hn, if_neg h0]
                exact HNext.out e
              clear hv hbb
              go_wp2_with (first | (go_at_call 56; refine (between_any _ _ _ _).mono ?_; rintro e w' ⟨rfl, rfl⟩) | (go_at_call 57; refine (isName_any _ _ hnm).mono ?_; rintro e w' ⟨rfl, rfl⟩))
              go_roundw
              case rel => exact ⟨k + 1, by omega, by go_num, HX.out, HO'.out.alloc _, HB'.out.trans (((Below.refl _ _).alloc (Nat.le_refl _) _).mono hsz)⟩
              case measure => simp [intOf]; omega
          · skip
            have HX : Hid (checkV T = 1) := by
              have e : partE v nm len = 1 := by
                rw [partE, if_pos hv, varE, if_neg hbb.1, if_neg hbb.2, if_neg hn]
              rw [Hid, HStop.out (by rw [e]; decide), e]
            clear hv hbb
            go_wp2_with (first | (go_at_call 56; refine (between_any _ _ _ _).mono ?_; rintro e w' ⟨rfl, rfl⟩) | (go_at_call 57; refine (isName_any _ _ hnm).mono ?_; rintro e w' ⟨rfl, rfl⟩))
            go_ret
            exact ⟨by rw [HX.out]; rfl, HB'.out.trans (((Below.refl _ _).alloc (Nat.le_refl _) _).mono hsz)⟩
    · have hke : k = n := by omega
      have HX : Hid (checkV T = 0) := by
        have e : l.take n = l := List.take_of_length_le (by rw [HLen.out]; exact Nat.le_refl _)
        rw [Hid, HR.out, ← e, ← hke, HF.out]
      clear hke
      go_wp2_with fail
      go_ret
      exact ⟨by rw [HX.out]; rfl, HB'.out⟩
end Go.Proofs.Ytmggaclaoefdaaa
