/- What CheckTerm answers: the same as Check. -/
import Derived.Test.YtmggaclaoefdaaaGAC
namespace Go.Proofs.Ytmggaclaoefdaaa
open Go.RowKit

theorem flat_get (l : List Tm) : ∀ (k : Nat) (h : k < l.length), (flat l)[k * 3]? = some (.int .i64 l[k].v) ∧ (flat l)[k * 3 + 1]? = some (.string l[k].nm) ∧ (flat l)[k * 3 + 2]? = some (.slice l[k].a l[k].len l[k].cap) := by
  induction l with
  | nil => intro k h; simp at h
  | cons x r ih =>
    have e : flat (x :: r) = cells3 x ++ flat r := by simp [flat]
    intro k h
    cases k with
    | zero => rw [e]; exact ⟨rfl, rfl, rfl⟩
    | succ k =>
      have hk : k < r.length := by simpa using h
      obtain ⟨h0, h1, h2⟩ := ih k hk
      have hl : (cells3 x).length = 3 := rfl
      rw [e]
      refine ⟨?_, ?_, ?_⟩
      · rw [List.getElem?_append_right (by rw [hl]; omega), hl, show (k + 1) * 3 - 3 = k * 3 by omega]; exact h0
      · rw [List.getElem?_append_right (by rw [hl]; omega), hl, show (k + 1) * 3 + 1 - 3 = k * 3 + 1 by omega]; exact h1
      · rw [List.getElem?_append_right (by rw [hl]; omega), hl, show (k + 1) * 3 + 2 - 3 = k * 3 + 2 by omega]; exact h2
end Go.Proofs.Ytmggaclaoefdaaa
