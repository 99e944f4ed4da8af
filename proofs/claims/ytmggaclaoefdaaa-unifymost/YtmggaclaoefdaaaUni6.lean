/- What Unify's answer means. -/
import Derived.Test.YtmggaclaoefdaaaUni5
namespace Go.Proofs.Ytmggaclaoefdaaa
open Go.RowKit

theorem ap_congr {θ θ' : Int → Tm} (h : ∀ v, 0 < v → v ≤ 12 → θ v = θ' v) (T : Tm) : Okv 12 T → ap θ T = ap θ' T := by
  induction T with
  | nil => intro h; exact False.elim h
  | mk v nm a len cap f ih =>
    intro hO
    by_cases hv : v = 0
    · rw [ap, ap, if_pos hv, if_pos hv]
      congr 1
      funext i
      by_cases hi : i < len
      · rw [if_pos hi, if_pos hi]; exact ih i (hO.kid hi)
      · rw [if_neg hi, if_neg hi]
    · rw [ap, ap, if_neg hv, if_neg hv]
      have := hO.top
      exact h v (by have h1 : 0 ≤ v := this.1; omega) this.2.1
theorem okv_ex {σ : Sg} (hI : Inv σ) : ∀ (d : Nat) (T : Tm), Okv 12 T → Fin σ d T → Okv 12 (ex σ d T) := by
  intro d
  induction d with
  | zero => intro T _ h; exact False.elim h
  | succ d ih =>
    intro T hO h
    have hU := hI.what hO
    rw [ex]
    by_cases hv : (wha σ T).v = 0
    · rw [if_pos hv]
      exact ⟨by omega, by omega, fun h => absurd rfl h, hU.four, fun i hi => ih _ (hU.kid hi) (h i hi)⟩
    · rw [if_neg hv]
      exact ⟨hU.top.1, hU.top.2.1, fun _ => ⟨rfl, rfl⟩, Nat.zero_le _, fun i hi => absurd hi (Nat.not_lt_zero i)⟩
theorem Sim.okv {N : Int} {w : World} {X U : Tm} (h : Sim X U) (hX : TIn w X) : Okv N U → Okv N X := by
  induction X generalizing U with
  | nil => exact False.elim hX
  | mk v nm a len cap f ih =>
    intro hU
    obtain ⟨h1, h2, h3, h4⟩ := h
    have ht := hU.top
    have h5 := hU.four
    exact ⟨by omega, by omega, fun hv => by
      obtain ⟨g1, g2⟩ := ht.2.2 (by omega)
      exact ⟨by rw [h2]; exact g1, by omega⟩, by omega, fun i hi => ih i (h4 i hi) (hX.kid hi) (hU.kid (by omega))⟩
def NoF (A B : Tm) : Prop := Okv 12 A ∧ Okv 12 B ∧ ∀ θ, ap θ A ≠ ap θ B
def YesF (A B Q : Tm) : Prop := Okv 12 A ∧ Okv 12 B ∧ (∀ i, i < 12 → Okv 12 (Q.f i)) ∧ ap (byOf Q) A = ap (byOf Q) B ∧ ∀ θ, ap θ A = ap θ B → ∀ i : Nat, i < 12 → ap θ (Q.f i) = θ ((i : Int) + 1)
theorem UP.split {A B : Tm} {w w' : World} {e : Ending} (h : UP A B w e w') : Below w.heap.size w w' ∧ ((∃ c, c ≠ 0 ∧ e = R4 (.slice none 0 0) false 0 c) ∨ (∃ n, e = R4 (.slice none 0 0) false n 0 ∧ NoF A B) ∨ (∃ (Q : Tm) (n : Int), e = R4 (.slice Q.a 12 Q.cap) true n 0 ∧ Q.len = 12 ∧ TIn w' Q ∧ YesF A B Q)) := by
  obtain ⟨hB, h⟩ := h
  refine ⟨hB, ?_⟩
  rcases h with ⟨h, rfl⟩ | ⟨_, h, rfl⟩ | ⟨hA, hB2, ⟨_, rfl⟩ | ⟨k, _, hM, rfl⟩ | ⟨k, σ, _, hM, _, _, h2⟩⟩
  · exact .inl ⟨_, h, rfl⟩
  · exact .inl ⟨_, h, rfl⟩
  · exact .inl ⟨2, by omega, rfl⟩
  all_goals
    have oA := okv_of_err A (checkV_err hA)
    have oB := okv_of_err B (checkV_err hB2)
    have hP : PO [(A, B)] := fun p hp => by simp at hp; subst hp; exact ⟨oA, oB⟩
    have hR0 : ∀ θ, Resp θ σ0 := fun θ v U h => by simp [σ0] at h
  · refine .inr (.inl ⟨_, rfl, oA, oB, fun θ hθ => ?_⟩)
    exact (meet_most (θ := θ) 4001 σ0 4000 [(A, B)] Inv.start hP (hR0 θ) (fun p hp => by simp at hp; subst hp; exact hθ)).1 k hM
  · rcases h2 with ⟨_, rfl⟩ | ⟨hr, g, cp, ts, hL, rfl⟩
    · exact .inl ⟨2, by omega, rfl⟩
    · obtain ⟨hI, hS⟩ := meet_sound 4001 σ0 4000 [(A, B)] k σ Inv.start hP hM
      obtain ⟨Q, hv, hQ, _, hQS⟩ := hL.terms
      injection hv with hv1 hv2 hv3
      have hF : ∀ v, 0 < v → v ≤ 12 → Fin σ 200 (vT v) := fun v h0 h1 => by
        obtain ⟨q, hq⟩ := hr (v.toNat - 1) (by omega)
        have := room_fin 200 _ _ hq (vT (((v.toNat - 1 : Nat) : Int) + 1)) (by simp)
        rwa [show (((v.toNat - 1 : Nat) : Int) + 1) = v from by omega] at this
      have hsim : ∀ i : Nat, i < 12 → Sim (Q.f i) (ex σ 200 (vT ((i : Int) + 1))) := fun i hi => by
        have := hQS.2 i (by omega)
        simpa [List.getD, hi] using this
      have hby : ∀ v, 0 < v → v ≤ 12 → byOf Q v = ans σ v := fun v h0 h1 => by
        have := sim_can (hsim (v.toNat - 1) (by omega))
        rw [show (((v.toNat - 1 : Nat) : Int) + 1) = v from by omega] at this
        exact this
      refine .inr (.inr ⟨Q, _, by rw [hv1, hv3], hv2.symm, hQ, oA, oB, fun i hi => (hsim i hi).okv (hQ.kid (by omega)) (okv_ex hI 200 _ (vT_ok (by omega) (by omega)) (hF _ (by omega) (by omega))), ?_, fun θ hθ i hi => ?_⟩)
      · rw [ap_congr hby A oA, ap_congr hby B oB]
        exact (hS (ans σ) (ans_resp hI hF)).2 (A, B) (by simp)
      · have hR := (meet_most (θ := θ) 4001 σ0 4000 [(A, B)] Inv.start hP (hR0 θ) (fun p hp => by simp at hp; subst hp; exact hθ)).2 k σ hM
        rw [← ap_can θ (Q.f i), sim_can (hsim i hi), ap_can, ap_ex hR 200 _ (hF _ (by omega) (by omega))]
        exact ap_var θ (T := vT ((i : Int) + 1)) (by show ((i : Int) + 1) ≠ 0; omega)
end Go.Proofs.Ytmggaclaoefdaaa
