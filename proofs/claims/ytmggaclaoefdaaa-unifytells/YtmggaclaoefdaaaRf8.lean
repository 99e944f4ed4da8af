/- A term stored into a list of terms. -/
import Derived.Test.YtmggaclaoefdaaaRf7
namespace Go.Proofs.Ytmggaclaoefdaaa
open Go.RowKit

theorem flat_set (X : Tm) : ∀ (ts : List Tm) (i : Nat), i < ts.length → (((flat ts).set (i * 3) (.int .i64 X.v)).set (i * 3 + 1) (.string X.nm)).set (i * 3 + 2) (.slice X.a X.len X.cap) = flat (ts.set i X) := by
  intro ts
  induction ts with
  | nil => intro i hi; exact absurd hi (Nat.not_lt_zero i)
  | cons T ts ih =>
    intro i hi
    have hc : ∀ U : Tm, ∀ us, flat (U :: us) = Value.int .i64 U.v :: Value.string U.nm :: Value.slice U.a U.len U.cap :: flat us := fun U us => by simp [flat, cells3]
    cases i with
    | zero => rw [hc]; show _ = flat (X :: ts); rw [hc]; rfl
    | succ i =>
      have h := ih i (by simp at hi; omega)
      rw [hc, show (i + 1) * 3 = i * 3 + 1 + 1 + 1 from by omega]
      show _ = flat (T :: ts.set i X)
      rw [hc, ← h]
      rfl
theorem owns_set {w : World} {lo g cap n : Nat} {ts : List Tm} (h : w.ownsRow lo 24 3 (.slice (some ⟨g, 0, none⟩) n cap) n (flat ts)) (hl : ts.length = n) {i : Nat} (hi : i < n) (X : Tm) :
    (((w.setCell ⟨g, i * 3, none⟩ (.int .i64 X.v)).setCell ⟨g, i * 3 + 1, none⟩ (.string X.nm)).setCell ⟨g, i * 3 + 2, none⟩ (.slice X.a X.len X.cap)).ownsRow lo 24 3 (.slice (some ⟨g, 0, none⟩) n cap) n (flat (ts.set i X)) := by
  obtain ⟨h1, h2⟩ := h
  rcases h2 with ⟨h2, _⟩ | ⟨g', cap', cur, hv, hlo, hg, hnc, hcm, hsz, htk⟩
  · cases h2
  cases hv
  refine ⟨?_, .inr ⟨g, cap, ((cur.setIfInBounds (i * 3) (.int .i64 X.v)).setIfInBounds (i * 3 + 1) (.string X.nm)).setIfInBounds (i * 3 + 2) (.slice X.a X.len X.cap), rfl, hlo, ?_, hnc, hcm, ?_, ?_⟩⟩
  · rw [← flat_set X ts i (by omega)]; simp [h1]
  · simp only [World.setCell, Array.getElem?_modify]
    simp [hg]
  · simp [hsz]
  · rw [← flat_set X ts i (by omega), ← htk]
    simp [List.take_set]
end Go.Proofs.Ytmggaclaoefdaaa
