/- The same term, wherever it lies: the same answers. -/
import Derived.Test.YtmggaclaoefdaaaDoorSame
namespace Go.Proofs.YtmggaclaoefdaaaDoor
open Go.RowKit

theorem sumTo_ext {g h : Nat → Nat} {k : Nat} (e : ∀ i, i < k → g i = h i) : sumTo g k = sumTo h k := by
  induction k with
  | zero => rfl
  | succ k ih => rw [sumTo, sumTo, ih (fun i hi => e i (by omega)), e k (by omega)]
theorem fst_ext {g h : Nat → Int} {k : Nat} (e : ∀ i, i < k → g i = h i) : fst g k = fst h k := by
  induction k with
  | zero => rfl
  | succ k ih => rw [fst, fst, ih (fun i hi => e i (by omega)), e k (by omega)]
theorem txtTo_ext {g h : Nat → List UInt8} {k : Nat} (e : ∀ i, i < k → g i = h i) : txtTo g k = txtTo h k := by
  induction k with
  | zero => rfl
  | succ k ih => rw [txtTo, txtTo, ih (fun i hi => e i (by omega)), e k (by omega)]
theorem allTo_ext {g h : Nat → Bool} {k : Nat} (e : ∀ i, i < k → g i = h i) : allTo g k = allTo h k := by
  induction k with
  | zero => rfl
  | succ k ih => rw [allTo, allTo, ih (fun i hi => e i (by omega)), e k (by omega)]
theorem pgTo_ext {g h g' h' : Nat → Tm} {k : Nat} (e : ∀ i, i < k → clT (g i) (h i) = clT (g' i) (h' i)) : pgTo g h k = pgTo g' h' k := by
  induction k with
  | zero => rfl
  | succ k ih => rw [pgTo, pgTo, ih (fun i hi => e i (by omega)), e k (by omega)]
theorem txt_eq (T : Tm) : txt T = if T.v = 0 then T.nm.data.toList ++ (if T.len = 0 then [] else [40] ++ txts T ++ [41]) else 86 :: digs T.v.toNat := by
  cases T with
  | nil => rfl
  | mk => rfl
theorem Sim.all {T U : Tm} (h : Sim T U) : cnt T = cnt U ∧ err T = err U ∧ txt T = txt U ∧ T.v = U.v ∧ T.nm = U.nm ∧ T.len = U.len := by
  induction T generalizing U with
  | nil =>
    obtain ⟨h0, h1, h2⟩ := h
    refine ⟨?_, ?_, ?_, h0.symm, h1.symm, h2.symm⟩
    · rw [cnt_eq U, kids, h2]; rfl
    · rw [err_eq U, errs, h0, h1, h2]; rfl
    · rw [txt_eq U, if_pos h0, if_pos h2, h1]; rfl
  | mk v nm a len cap f ih =>
    obtain ⟨h0, h1, h2, h3⟩ := h
    have hk := fun i hi => ih i (h3 i hi)
    refine ⟨?_, ?_, ?_, h0, h1, h2⟩
    · rw [cnt_eq, cnt_eq U, kids, kids, ← h2]
      show 1 + sumTo (fun i => cnt (f i)) len = _
      rw [sumTo_ext (fun i hi => (hk i hi).1)]
    · rw [err_eq, err_eq U, errs, errs, ← h0, ← h1, ← h2]
      show (if partE v nm len = 0 then fst (fun i => err (f i)) len else _) = _
      rw [fst_ext (fun i hi => (hk i hi).2.1)]; rfl
    · rw [txt_eq, txt_eq U, txts, txts, ← h0, ← h1, ← h2]
      show (if v = 0 then nm.data.toList ++ (if len = 0 then [] else [40] ++ txtTo (fun i => txt (f i)) len ++ [41]) else _) = _
      rw [txtTo_ext (fun i hi => (hk i hi).2.2.1)]; rfl
theorem Sim.same {T T' U : Tm} (h : Sim T U) (h' : Sim T' U) : sameT T T' = true := by
  induction T generalizing T' U with
  | nil =>
    obtain ⟨h0, h1, h2⟩ := h
    obtain ⟨_, _, _, g0, g1, g2⟩ := h'.all
    rw [sameT, g0, g1, g2, h0, h1, h2]; simp
  | mk v nm a len cap f ih =>
    obtain ⟨h0, h1, h2, h3⟩ := h
    obtain ⟨_, _, _, g0, g1, g2⟩ := h'.all
    rw [sameT, g0, g1, g2, ← h0, ← h1, ← h2]
    simp only [beq_self_eq_true, Bool.true_and]
    refine allTo_iff.2 fun i hi => ih i (h3 i hi) ?_
    cases T' with
    | nil => exact absurd hi (by have : (0 : Nat) = U.len := g2; omega)
    | mk v' nm' a' len' cap' f' => exact h'.2.2.2 i (by have : len' = U.len := g2; omega)

/-- A list of terms, as arguments. -/
def lstT (us : List Tm) : Tm := .mk 0 ⟨#[]⟩ none us.length 0 (fun i => us.getD i .nil)
def pgOf (ds : List Cl) : Pg := { a := none, len := ds.length, cap := 0, hd := fun i => (ds.getD i nilD).1, bd := fun i => lstT (ds.getD i nilD).2 }
theorem BSim.query {B : Tm} {us : List Tm} (h : BSim B us) : queryV B = queryV (lstT us) ∧ txts B = txts (lstT us) ∧ goalsT B = goalsT (lstT us) ∧ goalsV B = goalsV (lstT us) := by
  have hl : B.len = (lstT us).len := h.1
  have h1 : queryV B = queryV (lstT us) := by
    rw [queryV, queryV, chks, chks, ← hl, fst_ext (h := fun i => checkV ((lstT us).f i))]
    intro i hi
    have := (h.2 i hi).all
    rw [checkV, checkV]
    show _ = if cnt (us.getD i .nil) ≤ 60 then err (us.getD i .nil) else 2
    rw [this.1, this.2.1]
  have h2 : txts B = txts (lstT us) := by
    rw [txts, txts, ← hl]
    exact txtTo_ext (fun i hi => (h.2 i hi).all.2.2.1)
  have h3 : goalsT B = goalsT (lstT us) := by rw [goalsT, goalsT, hl, h2]
  exact ⟨h1, h2, h3, by rw [goalsV, goalsV, h1, h3]⟩
theorem headV_sim {T U : Tm} (h : Sim T U) : headV T = headV U := by
  obtain ⟨h0, h1, h2, h3, h4, h5⟩ := h.all
  rw [headV, headV, checkV, checkV, h0, h1, h3, h4, h5]
theorem PSim.prog {P : Pg} {ds : List Cl} (h : PSim P ds) : progV P = progV (pgOf ds) ∧ progT P = progT (pgOf ds) ∧ printV P = printV (pgOf ds) := by
  have hl : P.len = (pgOf ds).len := h.1
  have h1 : progV P = progV (pgOf ds) := by
    rw [progV, progV, clsV, clsV, ← hl, fst_ext (h := fun i => clV ((pgOf ds).hd i) ((pgOf ds).bd i))]
    intro i hi
    have hc := h.2 i hi
    show clV _ _ = clV (ds.getD i nilD).1 (lstT (ds.getD i nilD).2)
    rw [clV, clV, headV_sim hc.1, hc.2.query.1]
  have h2 : progT P = progT (pgOf ds) := by
    rw [progT, progT, ← hl]
    refine pgTo_ext fun i hi => ?_
    have hc := h.2 i hi
    show clT _ _ = clT (ds.getD i nilD).1 (lstT (ds.getD i nilD).2)
    have hB : (P.bd i).len = (lstT (ds.getD i nilD).2).len := hc.2.1
    rw [clT, clT, hc.1.all.2.2.1, hc.2.query.2.2.1, hB]
  exact ⟨h1, h2, by rw [printV, printV, h1, h2]⟩
theorem BSim.same {B B' : Tm} {us : List Tm} (h : BSim B us) (h' : BSim B' us) : sameTs B B' = true := by
  rw [sameTs, h.1, h'.1]
  simp only [beq_self_eq_true, Bool.true_and]
  exact allTo_iff.2 fun i hi => (h.2 i (by rw [h.1]; exact hi)).same (h'.2 i (by rw [h'.1]; exact hi))
theorem PSim.same {P Q : Pg} {ds : List Cl} (h : PSim P ds) (h' : PSim Q ds) : samePg P Q = true := by
  rw [samePg, h.1, h'.1]
  simp only [beq_self_eq_true, Bool.true_and]
  refine allTo_iff.2 fun i hi => ?_
  have h1 := h.2 i (by rw [h.1]; exact hi)
  have h2 := h'.2 i (by rw [h'.1]; exact hi)
  rw [sameC, h1.1.same h2.1, h1.2.same h2.2]; rfl

/-- The text of the sample. -/
def smpL : List UInt8 := [112, 40, 97, 41, 46, 10, 112, 40, 86, 49, 41, 32, 58, 45, 32, 101, 113, 40, 86, 49, 44, 32, 98, 41, 46, 10]
def okL {α : Type} : R (List α) → List α
  | .ok a _ => a
  | .no _ => []
def isOk {α : Type} : R α → Bool
  | .ok _ _ => true
  | .no _ => false
theorem okL_eq {α : Type} {r : R (List α)} (h : isOk r = true) : ∃ q, r = .ok (okL r) q := by
  cases r with
  | ok a q => exact ⟨q, rfl⟩
  | no q => exact absurd h (by simp [isOk])
def smpD : List Cl := okL (pProg smpL 26 27 0)
theorem smp_ok : isOk (pProg smpL 26 27 0) = true := by decide +kernel
theorem smp_prog : progV (pgOf smpD) = 0 := by decide +kernel
theorem smp_text : printV (pgOf smpD) = smpL := by decide +kernel
def gsL : List UInt8 := [112, 40, 86, 50, 41, 44, 32, 33]
def gsD : List Tm := okL (pGoals gsL 9)
theorem gs_ok : isOk (pGoals gsL 9) = true := by decide +kernel
theorem gs_query : queryV (lstT gsD) = 0 := by decide +kernel
theorem gs_len : gsD.length = 2 := by decide +kernel
end Go.Proofs.YtmggaclaoefdaaaDoor
