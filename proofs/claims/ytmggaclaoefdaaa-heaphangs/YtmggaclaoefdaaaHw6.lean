/- What comes when two terms can be the same: over terms and cells alone. -/
import Derived.Test.YtmggaclaoefdaaaHw5
namespace Go.Proofs.Ytmggaclaoefdaaa
open Go.RowKit
set_option linter.unusedVariables false
set_option linter.unusedSimpArgs false

theorem okv_canH {N : Int} (T : Tm) : Okv N T → Okv N (can T) := by
  induction T with
  | nil => intro h; exact h.elim
  | mk v nm a len cap f ih =>
    intro h
    exact ⟨h.1, h.2.1, h.2.2.1, h.2.2.2.1, fun i hi => by show Okv N (if i < len then can (f i) else .nil); rw [if_pos hi]; exact ih i (h.2.2.2.2 i hi)⟩
theorem hang_yes {A B : Tm} {t k : Nat} {τ : Sg} {s : MS} (hH : HangM A B t (.yes s)) (oA : Okv 12 A) (oB : Okv 12 B) (hM : meetF 4001 σ0 4000 [(A, B)] = .yes k τ) (hr : ∀ i : Nat, i < 12 → ∃ k, roomF τ 200 [vT ((i : Int) + 1)] = some k) :
    s.1 = k ∧ Okv 12 (ap (ans τ) A) ∧ newN (std (hOf s.2.1) s.2.1.length (t + 1)) = newN (ap (ans τ) A) ∧ std (hOf s.2.1) s.2.1.length (t + 2) = std (hOf s.2.1) s.2.1.length (t + 1) := by
  obtain ⟨τ', hM', κ, D, hR, rA, rB⟩ := hH
  rw [hM] at hM'
  injection hM' with e1 e2
  subst e1 e2
  have hP : PO [(A, B)] := fun p hp => by simp at hp; subst hp; exact ⟨oA, oB⟩
  obtain ⟨hI, hS⟩ := meet_sound 4001 σ0 4000 [(A, B)] s.1 τ Inv.start hP hM
  have hF : ∀ v, 0 < v → v ≤ 12 → Fin τ 200 (vT v) := fun v h0 h1 => by
    obtain ⟨q, hq⟩ := hr (v.toNat - 1) (by omega)
    have := room_fin 200 _ _ hq (vT (((v.toNat - 1 : Nat) : Int) + 1)) (by simp)
    rwa [show (((v.toNat - 1 : Nat) : Int) + 1) = v from by omega] at this
  have hAB : ap (ans τ) A = ap (ans τ) B := (hS (ans τ) (ans_resp hI hF)).2 (A, B) (by simp)
  obtain ⟨a1, a2⟩ := hang_read hR rA oA hI hF
  obtain ⟨b1, b2⟩ := hang_read hR rB oB hI hF
  obtain ⟨d, hd⟩ := rep_fin rA
  have hd' := fin_cs d A hd
  refine ⟨rfl, ?_, a2, by rw [a1, b1, hAB]⟩
  rw [← ans_ap hI hF d A oA hd']
  exact okv_canH _ (okv_ex hI d A oA hd')
theorem hang_no {A B : Tm} {t k : Nat} {r : MR} (hH : HangM A B t r) (hM : meetF 4001 σ0 4000 [(A, B)] = .no k) : r.ok = false ∧ r.left = (k : Int) := by
  cases r with
  | yes s =>
    obtain ⟨τ, h, _⟩ := hH
    rw [hM] at h; cases h
  | no x l bs =>
    rcases hH with ⟨_, h⟩ | ⟨k', hx, h⟩
    · rw [hM] at h; cases h
    · rw [hM] at h
      injection h with e
      subst e
      exact ⟨rfl, hx⟩
theorem hang_is {A B : Tm} {t k : Nat} {τ : Sg} {r : MR} (hH : HangM A B t r) (hM : meetF 4001 σ0 4000 [(A, B)] = .yes k τ) : ∃ s, r = .yes s ∧ s.1 = k := by
  cases r with
  | yes s =>
    obtain ⟨τ', h, _⟩ := hH
    rw [hM] at h
    injection h with e1 e2
    exact ⟨s, rfl, e1.symm⟩
  | no x l bs =>
    rcases hH with ⟨_, h⟩ | ⟨k', hx, h⟩
    · rw [hM] at h; cases h
    · rw [hM] at h; cases h
theorem newN_can (U : Tm) : newN (can U) = newN U := by
  unfold newN
  rw [vsT_can, ap_can]
end Go.Proofs.Ytmggaclaoefdaaa
