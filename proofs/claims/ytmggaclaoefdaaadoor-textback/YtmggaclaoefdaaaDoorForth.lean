/- What is parsed is printed as it was: over the texts alone. -/
import Derived.Test.YtmggaclaoefdaaaDoorBack
namespace Go.Proofs.YtmggaclaoefdaaaDoor
open Go.RowKit

/-- What is parsed is printed as it was: variables. -/
theorem drop_cons_get {l : List UInt8} {p : Nat} {c : UInt8} (h : l[p]? = some c) : l.drop p = c :: l.drop (p + 1) := by
  have hp : p < l.length := by
    by_cases hp : p < l.length
    · exact hp
    · rw [List.getElem?_eq_none (by omega)] at h; simp at h
  rw [List.drop_eq_getElem_cons hp]
  rw [List.getElem?_eq_getElem hp] at h
  simp at h
  rw [h]
theorem dig1_of {c : UInt8} (h1 : 48 ≤ c.toNat) (h2 : c.toNat ≤ 57) : dig1 (c.toNat - 48) = c := by
  unfold dig1
  rw [show 48 + (c.toNat - 48) = c.toNat from by omega]
  simp
theorem pVar_forth {l : List UInt8} {p v q : Nat} (h0 : l[p]? = some 86) (h : pVar l p = .ok v q) : l.drop p = 86 :: digs v ++ l.drop q ∧ 1 ≤ v := by
  rw [drop_cons_get h0]
  unfold pVar at h
  split at h
  · simp at h
  · rename_i c hc
    split at h
    · rename_i hd
      have hb : 49 ≤ c.toNat ∧ c.toNat ≤ 57 := by simp [dig0, btw] at hd; omega
      rw [drop_cons_get hc]
      split at h
      · obtain ⟨rfl, rfl⟩ := R.ok.inj h
        refine ⟨?_, by omega⟩
        rw [digs, if_pos (by omega), dig1_of (by omega) (by omega)]; rfl
      · rename_i d hd2
        split at h
        · rename_i hb2
          have hb3 : 48 ≤ d.toNat ∧ d.toNat ≤ 57 := by simp [btw] at hb2; omega
          obtain ⟨rfl, rfl⟩ := R.ok.inj h
          refine ⟨?_, by omega⟩
          rw [drop_cons_get (show l[p + 1 + 1]? = some d from hd2), digs, if_neg (by omega), show (10 * (c.toNat - 48) + (d.toNat - 48)) / 10 = c.toNat - 48 from by omega, show (10 * (c.toNat - 48) + (d.toNat - 48)) % 10 = d.toNat - 48 from by omega, dig1_of (by omega) (by omega), dig1_of (by omega) (by omega)]; rfl
        · obtain ⟨rfl, rfl⟩ := R.ok.inj h
          refine ⟨?_, by omega⟩
          rw [digs, if_pos (by omega), dig1_of (by omega) (by omega)]; rfl
    · simp at h
theorem pName_forth {l : List UInt8} {p q : Nat} {nm : List UInt8} (h : pName l p = .ok nm q) : l.drop p = nm ++ l.drop q := by
  unfold pName at h
  split at h
  · rename_i hc
    obtain ⟨rfl, rfl⟩ := R.ok.inj h
    rw [drop_cons_get hc]; rfl
  · split at h
    · simp at h
    · split at h
      · obtain ⟨rfl, rfl⟩ := R.ok.inj h
        rw [← List.drop_drop]
        exact (List.take_append_drop _ _).symm
      · simp at h
/-- A list of terms is printed as it was parsed. -/
def LF (l : List UInt8) (ts : Nat → R (List Tm)) : Prop := ∀ p us q, ts p = .ok us q → l.drop p = txts (lstT us) ++ l.drop q ∧ 1 ≤ us.length
theorem term_forth {l : List UInt8} {ts : Nat → R (List Tm)} (hts : LF l ts) {p q : Nat} {U : Tm} (h : pTermW ts l p = .ok U q) : l.drop p = txt U ++ l.drop q := by
  unfold pTermW at h
  split at h
  · rename_i h0
    split at h
    · rename_i n q' hv
      obtain ⟨rfl, rfl⟩ := R.ok.inj h
      obtain ⟨h1, h2⟩ := pVar_forth h0 hv
      rw [h1, txt, if_neg (by omega)]; rfl
    · simp at h
  · split at h
    · simp at h
    · rename_i nm q' hn
      have h1 := pName_forth hn
      split at h
      · rename_i h40
        split at h
        · simp at h
        · rename_i us r hr
          obtain ⟨h2, h3⟩ := hts _ _ _ hr
          split at h
          · simp at h
          · rename_i hm
            obtain ⟨rfl, rfl⟩ := R.ok.inj h
            have h4 := mAt_no hm
            rw [h1, drop_cons_get h40, h2, h4, txt, if_pos rfl, if_neg (by omega)]
            simp [txts, lstT, Tm.f, Tm.len]
      · obtain ⟨rfl, rfl⟩ := R.ok.inj h
        rw [h1, txt, if_pos rfl, if_pos rfl]
        simp
theorem txts_one1 (t : Tm) : txts (lstT [t]) = txt t := by
  simp [txts, lstT, txtTo, Tm.f, Tm.len]
theorem txts_cons (t : Tm) {us : List Tm} (h : 1 ≤ us.length) : txts (lstT (t :: us)) = txt t ++ [44, 32] ++ txts (lstT us) := by
  obtain ⟨k, hk⟩ : ∃ k, us.length = k + 1 := ⟨us.length - 1, by omega⟩
  have e1 : txts (lstT (t :: us)) = txtTo (fun i => txt ((t :: us).getD i .nil)) (k + 2) := by
    show txtTo _ (us.length + 1) = _
    rw [hk]; rfl
  have e2 : txts (lstT us) = txtTo (fun i => txt (us.getD i .nil)) (k + 1) := by
    show txtTo _ us.length = _
    rw [hk]; rfl
  rw [e1, e2, txtTo_cons]; rfl
theorem list_forth (l : List UInt8) : ∀ n, LF l (pTerms l n) := by
  intro n
  induction n with
  | zero => intro p us q h; simp [pTerms] at h
  | succ n ih =>
    intro p us q h
    unfold pTerms at h
    split at h
    · simp at h
    · rename_i t q' ht
      have h1 := term_forth ih ht
      unfold pTailW at h
      split at h
      · rename_i h44
        split at h
        · simp [prep] at h
        · rename_i hm
          have h2 : l.drop q' = [44, 32] ++ l.drop (q' + 2) := mAt_no hm
          cases ht2 : pTerms l n (q' + 2) with
          | no r => rw [ht2] at h; simp [prep] at h
          | ok us' r =>
            rw [ht2] at h
            obtain ⟨rfl, rfl⟩ := R.ok.inj h
            obtain ⟨h3, h4⟩ := ih _ _ _ ht2
            refine ⟨?_, by simp⟩
            rw [h1, h2, h3]
            show _ = txts (lstT (t :: us')) ++ _
            rw [txts_cons t h4]
            simp
      · obtain ⟨rfl, rfl⟩ := R.ok.inj h
        refine ⟨?_, by simp⟩
        rw [h1]
        show _ = txts (lstT [t]) ++ _
        rw [txts_one1]
theorem goals_forth {l : List UInt8} {n q : Nat} {us : List Tm} (h : pGoals l n = .ok us q) : goalsT (lstT us) = l := by
  unfold pGoals at h
  split at h
  · rename_i e
    obtain ⟨rfl, rfl⟩ := R.ok.inj h
    rw [e]; rfl
  · split at h
    · simp at h
    · rename_i us' q' ht
      obtain ⟨h1, h2⟩ := list_forth l n _ _ _ ht
      split at h
      · simp at h
      · rename_i hq
        obtain ⟨rfl, rfl⟩ := R.ok.inj h
        rw [goalsT, if_neg (show ¬ (lstT us').len = 0 from fun e => absurd (show us'.length = 0 from e) (by omega))]
        rw [List.drop_zero, List.drop_eq_nil_iff.2 (by omega), List.append_nil] at h1
        exact h1.symm
theorem fin_forth {l : List UInt8} {H : Tm} {us : List Tm} {r q : Nat} {c : Cl} (h : pFin l H us r = .ok c q) : c = (H, us) ∧ l.drop r = [46, 10] ++ l.drop q := by
  unfold pFin at h
  split at h
  · simp at h
  · rename_i hm
    obtain ⟨rfl, rfl⟩ := R.ok.inj h
    exact ⟨rfl, mAt_no hm⟩
theorem clause_forth {l : List UInt8} {n p q : Nat} {c : Cl} (h : pClause l n p = .ok c q) : l.drop p = clT c.1 (lstT c.2) ++ l.drop q := by
  unfold pClause at h
  split at h
  · simp at h
  · rename_i H q' ht
    have h1 := term_forth (list_forth l n) ht
    split at h
    · split at h
      · simp at h
      · rename_i hm
        have h2 : l.drop q' = [32, 58, 45, 32] ++ l.drop (q' + 4) := mAt_no hm
        split at h
        · simp at h
        · rename_i us r hr
          obtain ⟨h3, h4⟩ := list_forth l n _ _ _ hr
          obtain ⟨rfl, h5⟩ := fin_forth h
          have h6 : ¬ (lstT us).len = 0 := fun e => absurd (show us.length = 0 from e) (by omega)
          rw [h1, h2, h3, h5]
          show _ = clT H (lstT us) ++ _
          rw [clT, if_neg h6, goalsT, if_neg h6]
          simp
    · obtain ⟨rfl, h5⟩ := fin_forth h
      rw [h1, h5]
      show _ = clT H (lstT []) ++ _
      rw [clT, if_pos (show (lstT []).len = 0 from rfl)]
      simp
theorem clsFrom_shift (h b : Nat → Tm) : ∀ m i, clsFrom h b (i + 1) m = clsFrom (fun j => h (j + 1)) (fun j => b (j + 1)) i m := by
  intro m
  induction m with
  | zero => intro i; rfl
  | succ m ih => intro i; rw [clsFrom, clsFrom, ih]
theorem progT_cons (c : Cl) (ds : List Cl) : progT (pgOf (c :: ds)) = clT c.1 (lstT c.2) ++ progT (pgOf ds) := by
  show pgTo (fun i => ((c :: ds).getD i nilD).1) (fun i => lstT ((c :: ds).getD i nilD).2) (ds.length + 1) = _ ++ pgTo (fun i => (ds.getD i nilD).1) (fun i => lstT (ds.getD i nilD).2) ds.length
  rw [pgTo_from, pgTo_from, clsFrom, clsFrom_shift]
  rfl
theorem prog_forth0 {l : List UInt8} {n : Nat} : ∀ {fu p q : Nat} {ds : List Cl}, pProg l n fu p = .ok ds q → l.drop p = progT (pgOf ds) := by
  intro fu
  induction fu with
  | zero => intro p q ds h; simp [pProg] at h
  | succ fu ih =>
    intro p q ds h
    unfold pProg at h
    split at h
    · split at h
      · simp at h
      · rename_i c q' hc
        cases hp : pProg l n fu q' with
        | no r => rw [hp] at h; simp [prepC] at h
        | ok ds' r =>
          rw [hp] at h
          obtain ⟨rfl, rfl⟩ := R.ok.inj h
          rw [clause_forth hc, ih hp]
          exact (progT_cons c ds').symm
    · obtain ⟨rfl, rfl⟩ := R.ok.inj h
      rw [List.drop_eq_nil_iff.2 (by omega)]; rfl
theorem prog_forth {l : List UInt8} {n fu q : Nat} {ds : List Cl} (h : pProg l n fu 0 = .ok ds q) : progT (pgOf ds) = l := by
  have := prog_forth0 h
  rw [List.drop_zero] at this
  exact this.symm
end Go.Proofs.YtmggaclaoefdaaaDoor
