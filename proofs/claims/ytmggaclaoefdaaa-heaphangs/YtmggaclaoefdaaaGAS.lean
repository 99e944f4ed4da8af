/- The reference's UnifyOf: what it answers. The reference's Straight: its memory. -/
import Derived.Test.YtmggaclaoefdaaaRfD
import Derived.Test.YtmggaclaoefdaaaGAE
import Derived.Test.YtmggaclaoefdaaaGAL
namespace Go.Proofs.Ytmggaclaoefdaaa
open Go.RowKit

/-- A number stored into a list of numbers. -/
theorem owns_set1 {w : World} {lo g cap n : Nat} {t : TypeId} {xs : List Value} (h : w.ownsRow lo t 1 (.slice (some ⟨g, 0, none⟩) n cap) n xs) (i : Nat) (x : Value) :
    (w.setCell ⟨g, i, none⟩ x).ownsRow lo t 1 (.slice (some ⟨g, 0, none⟩) n cap) n (xs.set i x) := by
  obtain ⟨h1, h2⟩ := h
  rcases h2 with ⟨h2, _⟩ | ⟨g', cap', cur, hv, hlo, hg, hnc, hcm, hsz, htk⟩
  · cases h2
  cases hv
  refine ⟨by simp [h1], .inr ⟨g, cap, cur.setIfInBounds i x, rfl, hlo, ?_, hnc, hcm, by simp [hsz], ?_⟩⟩
  · simp only [World.setCell, Array.getElem?_modify]
    simp [hg]
  · rw [← htk]
    simp [List.take_set]
end Go.Proofs.Ytmggaclaoefdaaa

namespace Go.Proofs.Ytmggaclaoefdaaa
open Go.RowKit

theorem rd0_len (lead : Nat → List Nat) (h4 : ∀ x, (lead x).length ≤ 4) (y : Nat) : ∀ i, (rd0 lead i y).length ≤ 4 * i := by
  intro i
  induction i with
  | zero => exact Nat.le_refl _
  | succ i ih =>
    rw [rd0_succ, List.length_append, List.length_replicate]
    have := @List.count_le_length _ _ y (lead i)
    have := h4 i
    omega
theorem IntsR.kept {lo : Nat} {w w' : World} {v : Value} {l : List Nat} {row : Option Nat} (h : IntsR lo w v l) (hg : w.grownBy w' row) (hn : v.ownBlock = none ∨ v.ownBlock ≠ row) : IntsR lo w' v l := by
  refine World.ownsRow.kept h hg ?_
  rcases hn with e | e
  · exact .inl e
  · exact .inr e
theorem IntsR.below {lo : Nat} {w w' : World} {v : Value} {l : List Nat} (h : IntsR lo w v l) (hb : Below w.heap.size w w') : IntsR lo w' v l := by
  refine h.kept (grown_of_below hb none) ?_
  cases v.ownBlock with
  | none => exact .inl rfl
  | some g => exact .inr (by simp)
theorem range_set {α : Type} (f : Nat → α) (n i : Nat) (x : α) : ((List.range n).map f).set i x = (List.range n).map fun j => if j = i then x else f j := by
  refine List.ext_getElem (by simp) fun j h1 h2 => ?_
  rw [List.getElem_set]
  simp only [List.getElem_map, List.getElem_range]
  by_cases e : i = j
  · rw [if_pos e, if_pos e.symm]
  · rw [if_neg e, if_neg (fun h => e h.symm)]
end Go.Proofs.Ytmggaclaoefdaaa
