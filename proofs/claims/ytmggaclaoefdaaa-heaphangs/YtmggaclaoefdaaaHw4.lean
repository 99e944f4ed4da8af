/- A heap says of two terms what chapter 3 says: over terms and cells alone. -/
import Derived.Test.YtmggaclaoefdaaaGBV
namespace Go.Proofs.Ytmggaclaoefdaaa
open Go.RowKit
set_option linter.unusedVariables false
set_option linter.unusedSimpArgs false

theorem range_hOf (l : List Cl) : (List.range l.length).map (hOf l) = l := List.ext_getElem (by simp) (fun i h1 h2 => by simp [hOf_get h2])
theorem hg_nil (h : Nat → Cl) : HG h 0 := ⟨⟨fun i hi => absurd hi (Nat.not_lt_zero i), fun i hi => absurd hi (Nat.not_lt_zero i), fun i hi => absurd hi (Nat.not_lt_zero i), Nat.zero_le _⟩, ⟨fun _ => 0, fun i hi => absurd hi (Nat.not_lt_zero i)⟩, fun i hi => absurd hi (Nat.not_lt_zero i), fun i hi => absurd hi (Nat.not_lt_zero i), fun i hi => absurd hi (Nat.not_lt_zero i), fun i hi => absurd hi (Nat.not_lt_zero i)⟩
/-- Two terms in one, on a heap of their own. -/
structure HangB (A B : Tm) (l : List Cl) (t : Nat) : Prop where
  hg : HG (hOf l) l.length
  tl : t + 2 < l.length
  te : endA (hOf l) l.length t = t
  ex : ∃ κ D, HR σ0 (hOf l) l.length κ D ∧ Rep σ0 (hOf l) l.length κ D (t + 1) (can A) ∧ Rep σ0 (hOf l) l.length κ D (t + 2) (can B)
theorem hang_build {h0 : Nat → Cl} {nm : ByteArray} {a : Option Addr} {cap : Nat} {f : Nat → Tm} (hT : checkV (.mk 0 nm a 2 cap f) = 0) (hl : (putH h0 0 (.mk 0 nm a 2 cap f)).1.1.length ≤ 400000) :
    ∃ t : Nat, (putH h0 0 (.mk 0 nm a 2 cap f)).2 = t ∧ HangB (f 0) (f 1) (putH h0 0 (.mk 0 nm a 2 cap f)).1.1 t := by
  have hE := checkV_err hT
  have hO := okv_of_err _ hE
  have Q := putT_po _ hE _ (pi_begin h0 0)
  have hRI := putT_ri (.mk 0 nm a 2 cap f) ((List.range 0).map h0, fun _ => none) ⟨fun u v c h => (by cases h), fun v c h => (by cases h)⟩
  change PutO 0 _ _ (putH h0 0 (.mk 0 nm a 2 cap f)) at Q
  change RI (putH h0 0 (.mk 0 nm a 2 cap f)).1 at hRI
  obtain ⟨t, ht, htl, hB⟩ := Q.at_
  have hg := Q.inv.hg (hg_nil h0) (fun i hi => absurd hi (Nat.not_lt_zero i)) hl
  have hvar := Q.inv.var
  generalize putH h0 0 (.mk 0 nm a 2 cap f) = q at *
  obtain ⟨h1, h2, h3, h4⟩ := hB.2 rfl
  have he : endA (hOf q.1.1) q.1.1.length t = t := endA_eq (EndR.root htl (fun ⟨e, _⟩ => by rw [h3] at e; have : (2 : Int) = 1 := e; omega))
  refine ⟨t, ht, hg, by omega, he, fun v => ((q.1.2 v).getD 0).toNat, fun v => 0 < v ∧ ∃ c, q.1.2 v = some c, ?_, ?_, ?_⟩
  · refine ⟨fun v T h => (by cases h), hg, fun u hu => hu.1, fun u v hu hv _ _ e => ?_, fun u hu _ => ?_⟩
    · obtain ⟨c, hc⟩ := hu.2
      obtain ⟨c', hc'⟩ := hv.2
      obtain ⟨y, rfl, _⟩ := hvar u c hc
      obtain ⟨y', rfl, _⟩ := hvar v c' hc'
      have e' : ((q.1.2 u).getD 0).toNat = ((q.1.2 v).getD 0).toNat := e
      rw [hc, hc'] at e'
      have e2 : y = y' := e'
      subst e2
      exact hRI.1 u v _ hc hc'
    · obtain ⟨c, hc⟩ := hu.2
      obtain ⟨y, rfl, hy, hf⟩ := hvar u c hc
      show ((q.1.2 u).getD 0).toNat < _ ∧ (hOf q.1.1 ((q.1.2 u).getD 0).toNat).k = 1 ∧ (hOf q.1.1 ((q.1.2 u).getD 0).toNat).n = _
      rw [hc]
      show y < _ ∧ (hOf q.1.1 y).k = 1 ∧ (hOf q.1.1 y).n = (y : Int)
      rw [hf (Nat.zero_le _)]
      exact ⟨hy, rfl, rfl⟩
  all_goals
    have hrep : ∀ (S : Tm), Okv 12 S → ∀ v ∈ vsT S, ∀ y : Nat, q.1.2 v = some (y : Int) → Rep σ0 (hOf q.1.1) q.1.1.length (fun v => ((q.1.2 v).getD 0).toNat) (fun v => 0 < v ∧ ∃ c, q.1.2 v = some c) y (can (vT v)) := fun S hS v hv y hy => by
      obtain ⟨y', e, hyl, hf⟩ := hvar v _ hy
      obtain rfl : y = y' := by omega
      have hvp := (vsT_okv S hS v hv).1
      have hw : wha σ0 (can (vT v)) = can (vT v) := wha_none rfl
      have hcv : (can (vT v)).v = v := rfl
      refine .var hyl (by rw [hcv]; omega) (by rw [hw, hcv]; omega) (by rw [hw, hcv]; exact ⟨hvp, _, hy⟩) (by rw [hw]; rfl) ?_
      rw [hw, hcv]
      show _ = ((q.1.2 v).getD 0).toNat
      rw [hy]
      exact endA_eq (EndR.root hyl (fun ⟨_, e⟩ => by rw [hf (Nat.zero_le _)] at e; exact e rfl))
  · obtain ⟨d, e1, e2, e3⟩ := h4 0 (by omega)
    have hk : Okv 12 (f 0) := hO.kid (show 0 < 2 by omega)
    rw [← ap_idc _ hk]
    exact Rep.ref hg (by omega) ⟨by rw [e1]; rfl, by rw [e1]; rfl, e2⟩ (Bd.rep hg (Nat.le_refl _) _ (hrep _ hk) d e3)
  · obtain ⟨d, e1, e2, e3⟩ := h4 1 (by omega)
    have hk : Okv 12 (f 1) := hO.kid (show 1 < 2 by omega)
    rw [← ap_idc _ hk]
    exact Rep.ref hg (by omega) ⟨by rw [e1]; rfl, by rw [e1]; rfl, e2⟩ (Bd.rep hg (Nat.le_refl _) _ (hrep _ hk) d e3)
/-- What making them the same there means. -/
def HangM (A B : Tm) (t : Nat) : MR → Prop
  | .yes s => ∃ τ, meetF 4001 σ0 4000 [(A, B)] = .yes s.1 τ ∧ ∃ κ D, HR (cs τ) (hOf s.2.1) s.2.1.length κ D ∧ Rep (cs τ) (hOf s.2.1) s.2.1.length κ D (t + 1) (can A) ∧ Rep (cs τ) (hOf s.2.1) s.2.1.length κ D (t + 2) (can B)
  | .no x _ _ => (x = -1 ∧ meetF 4001 σ0 4000 [(A, B)] = .over) ∨ ∃ k : Nat, x = (k : Int) ∧ meetF 4001 σ0 4000 [(A, B)] = .no k
theorem hang_meet {A B : Tm} {l : List Cl} {t : Nat} (H : HangB A B l t) : HangM A B t (smH 4001 (t + 1) (t + 2) (4000, l, [])) := by
  obtain ⟨κ, D, hR, rA, rB⟩ := H.ex
  have hS := sm_meet D 4001 (t + 1) (t + 2) 4000 l [] σ0 κ (can A) (can B) (by omega) hR rA rB
  have hcs : meetF 4001 σ0 4000 [(can A, can B)] = csO (meetF 4001 σ0 4000 [(A, B)]) := meetF_cs 4001 σ0 4000 [(A, B)]
  generalize smH 4001 (t + 1) (t + 2) (4000, l, []) = r at *
  cases r with
  | yes s =>
    obtain ⟨σ', κ', hR', hrep, _, hm⟩ := hS
    obtain ⟨F', hF', e⟩ := hm 4001 [] (by omega)
    obtain ⟨F, rfl⟩ : ∃ F, F' = F + 1 := ⟨F' - 1, by omega⟩
    have e' : csO (meetF 4001 σ0 4000 [(A, B)]) = .yes s.1 σ' := by rw [← hcs]; exact e
    cases hM : meetF 4001 σ0 4000 [(A, B)] with
    | over => rw [hM] at e'; cases e'
    | no k => rw [hM] at e'; cases e'
    | yes k τ =>
      rw [hM] at e'
      have e2 : MO.yes k (cs τ) = .yes s.1 σ' := e'
      injection e2 with e3 e4
      subst e3 e4
      exact ⟨τ, hM, κ', D, hR', hrep _ _ rA, hrep _ _ rB⟩
  | no x l' bs' =>
    rcases hS with ⟨hx, h⟩ | ⟨k, hx, h⟩
    · have e := h 4001 [] (by omega)
      have e' : csO (meetF 4001 σ0 4000 [(A, B)]) = .over := by rw [← hcs]; exact e
      cases hM : meetF 4001 σ0 4000 [(A, B)] with
      | over => exact .inl ⟨hx, hM⟩
      | no k => rw [hM] at e'; cases e'
      | yes k τ => rw [hM] at e'; cases e'
    · have e := h 4001 [] (by omega)
      have e' : csO (meetF 4001 σ0 4000 [(A, B)]) = .no k := by rw [← hcs]; exact e
      cases hM : meetF 4001 σ0 4000 [(A, B)] with
      | over => rw [hM] at e'; cases e'
      | no k' =>
        rw [hM] at e'
        have e2 : MO.no k' = .no k := e'
        injection e2 with e3
        subst e3
        exact .inr ⟨k', hx, hM⟩
      | yes k τ => rw [hM] at e'; cases e'
/-- What is read then: the term with what is put in, its variables numbered as they first stand. -/
noncomputable def newN (U : Tm) : Tm := ap (nmOf (num (addV [] (vsT U)))) U
theorem hang_read {τ : Sg} {h : Nat → Cl} {len : Nat} {κ : Int → Nat} {D : Int → Prop} (H : HR (cs τ) h len κ D) {i : Nat} {A : Tm} (R : Rep (cs τ) h len κ D i (can A)) (hO : Okv 12 A) (hI : Inv τ) (hF : ∀ v, 0 < v → v ≤ 12 → Fin τ 200 (vT v)) :
    std h len i = ap (cellT κ) (ap (ans τ) A) ∧ newN (std h len i) = newN (ap (ans τ) A) := by
  obtain ⟨d, hd⟩ := rep_fin R
  obtain ⟨h1, h2⟩ := rep_std H R d hd
  have hd' := fin_cs d A hd
  have e : can (ex (cs τ) d (can A)) = ap (ans τ) A := (ex_cs τ d A).trans (ans_ap hI hF d A hO hd')
  have h3 : std h len i = ap (cellT κ) (ap (ans τ) A) := by rw [h1, ← e, ap_can]
  refine ⟨h3, ?_⟩
  rw [h3]
  exact num_same (g := fun u => (κ u : Int) + 1) (fun u => by omega) (fun u hu v hv hc => by
    have k1 := h2 u (by rw [← vsT_can, e]; exact hu)
    have k2 := h2 v (by rw [← vsT_can, e]; exact hv)
    exact H.ij u v k1.1 k2.1 k1.2 k2.2 (by omega))
end Go.Proofs.Ytmggaclaoefdaaa
