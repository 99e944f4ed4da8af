/- The names that the reference gives: the least variable speaks for those that are the same. -/
import Derived.Test.YtmggaclaoefdaaaRf4
namespace Go.Proofs.Ytmggaclaoefdaaa
open Go.RowKit

theorem wha_le {σ : Sg} (hd : Dec σ) : ∀ (k : Nat) (T : Tm), T.v.toNat = k → 0 ≤ T.v → 0 ≤ (wha σ T).v ∧ (wha σ T).v ≤ T.v := by
  intro k
  induction k using Nat.strongRecOn with
  | _ k ih =>
    intro T hk h0
    by_cases hv : T.v = 0
    · rw [wha_fn hv]; omega
    cases hs : σ T.v with
    | none => rw [wha_none hs]; omega
    | some U =>
      rw [wha_some hd h0 hv hs]
      rcases hd _ _ hs with h | ⟨h1, h2⟩
      · have := ih U.v.toNat (by omega) U rfl (by omega); omega
      · have := ih U.v.toNat (by omega) U rfl (by omega); omega
/-- The names after so many variables, the greatest first. -/
def nmD (ρ : Int → Tm) (N : Int) : Nat → Int → Int
  | 0 => fun _ => 0
  | k + 1 => fun u => if (ρ (N - k)).v ≠ 0 ∧ u = (ρ (N - k)).v then N - k else nmD ρ N k u
theorem nmD_at {ρ : Int → Tm} {N u r : Int} (hu : u ≠ 0) (hr : (ρ r).v = u) (hle : ∀ v, 0 < v → v ≤ N → (ρ v).v = u → r ≤ v) : ∀ k : Nat, (k : Int) ≤ N → N - k < r → r ≤ N → nmD ρ N k u = r := by
  intro k
  induction k with
  | zero => intro _ h1 h2; omega
  | succ k ih =>
    intro hk h1 h2
    show (if (ρ (N - k)).v ≠ 0 ∧ u = (ρ (N - k)).v then N - k else nmD ρ N k u) = r
    by_cases e : N - k = r
    · rw [e, if_pos ⟨by omega, hr.symm⟩]
    · have hlt : N - k < r := by omega
      rw [if_neg (fun h => by have := hle (N - k) (by omega) (by omega) h.2.symm; omega)]
      exact ih (by omega) hlt h2
theorem nmD_ren {N : Int} {σ : Sg} {ρ : Int → Tm} (hR : Rel N σ ρ) (hd : Dec σ) (hO : ∀ v U, σ v = some U → Okv N U) (hN : 0 ≤ N) : Ren N σ ρ (nmD ρ N N.toNat) := by
  intro T hT hv
  have hw := hR.vr T hT hv
  have hwo := wha_okv hO hT
  have h0 := hwo.top.1
  have h1 := hwo.top.2.1
  have hroot : σ (wha σ T).v = none := wh_root hd _ T hT.top.1 (by omega) hw
  have hlk : ∀ v : Int, v ≠ 0 → lk ρ (vT v) = ρ v := fun v h => by
    show (if v = 0 then vT v else ρ v) = _
    rw [if_neg h]
  have hself : wha σ (vT (wha σ T).v) = vT (wha σ T).v := wha_none hroot
  have hr : (ρ (wha σ T).v).v = (lk ρ T).v := by
    have := (hR.cls T (vT (wha σ T).v) hT (vT_ok h0 h1) hv).2 (by rw [hself]; rfl)
    rw [hlk _ hw] at this
    exact this.symm
  refine nmD_at hv hr (fun v v0 v1 hv' => ?_) _ (by omega) (by omega) h1
  have := (hR.cls T (vT v) hT (vT_ok (by omega) v1) hv).1 (by rw [hlk _ (by omega)]; exact hv'.symm)
  have hle := (wha_le hd _ (vT v) rfl (by show 0 ≤ v; omega)).2
  rw [this]
  exact hle
end Go.Proofs.Ytmggaclaoefdaaa
