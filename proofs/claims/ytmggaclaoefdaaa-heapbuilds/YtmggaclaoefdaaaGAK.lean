/- The reference's Full: what it answers. A term stored into a list of terms. The reference's Within: what it answers. -/
import Derived.Test.YtmggaclaoefdaaaGAJ
import Derived.Test.YtmggaclaoefdaaaGAH
namespace Go.Proofs.Ytmggaclaoefdaaa
open Go.RowKit

def T3 (X : Tm) (n : Int) (ok : Bool) : Ending := .returned (.tuple #[X.val, .int .i64 n, .bool ok])
end Go.Proofs.Ytmggaclaoefdaaa

namespace Go.Proofs.Ytmggaclaoefdaaa
open Go.RowKit

theorem flat_set (X : Tm) : ∀ (ts : List Tm) (i : Nat), i < ts.length → (((flat ts).set (i * 3) (.int .i64 X.v)).set (i * 3 + 1) (.string X.nm)).set (i * 3 + 2) (.slice X.a X.len X.cap) = flat (ts.set i X) := by
  intro ts
  induction ts with
  | nil => intro i hi; exact absurd hi (Nat.not_lt_zero i)
  | cons T ts ih =>
    intro i hi
    have hc : ∀ U : Tm, ∀ us, flat (U :: us) = Value.int .i64 U.v :: Value.string U.nm :: Value.slice U.a U.len U.cap :: flat us := fun U us => by simp [flat, cells3]
    cases i with
    | zero => rw [hc]; show _ = flat (X :: ts); rw [hc]; rfl
    | succ i =>
      have h := ih i (by simp at hi; omega)
      rw [hc, show (i + 1) * 3 = i * 3 + 1 + 1 + 1 from by omega]
      show _ = flat (T :: ts.set i X)
      rw [hc, ← h]
      rfl
theorem owns_set {w : World} {lo g cap n : Nat} {ts : List Tm} (h : w.ownsRow lo 24 3 (.slice (some ⟨g, 0, none⟩) n cap) n (flat ts)) (hl : ts.length = n) {i : Nat} (hi : i < n) (X : Tm) :
    (((w.setCell ⟨g, i * 3, none⟩ (.int .i64 X.v)).setCell ⟨g, i * 3 + 1, none⟩ (.string X.nm)).setCell ⟨g, i * 3 + 2, none⟩ (.slice X.a X.len X.cap)).ownsRow lo 24 3 (.slice (some ⟨g, 0, none⟩) n cap) n (flat (ts.set i X)) := by
  obtain ⟨h1, h2⟩ := h
  rcases h2 with ⟨h2, _⟩ | ⟨g', cap', cur, hv, hlo, hg, hnc, hcm, hsz, htk⟩
  · cases h2
  cases hv
  refine ⟨?_, .inr ⟨g, cap, ((cur.setIfInBounds (i * 3) (.int .i64 X.v)).setIfInBounds (i * 3 + 1) (.string X.nm)).setIfInBounds (i * 3 + 2) (.slice X.a X.len X.cap), rfl, hlo, ?_, hnc, hcm, ?_, ?_⟩⟩
  · rw [← flat_set X ts i (by omega)]; simp [h1]
  · simp only [World.setCell, Array.getElem?_modify]
    simp [hg]
  · simp [hsz]
  · rw [← flat_set X ts i (by omega), ← htk]
    simp [List.take_set]
end Go.Proofs.Ytmggaclaoefdaaa

namespace Go.Proofs.Ytmggaclaoefdaaa
open Go.RowKit

/-- A list of terms in memory of its own. -/
theorem own_list {w : World} {lo g cap n : Nat} {ts : List Tm} (h : w.ownsRow lo 24 3 (.slice (some ⟨g, 0, none⟩) n cap) n (flat ts)) (hl : ts.length = n) (hT : ∀ U ∈ ts, TIn w U) :
    TIn w (.mk 0 ⟨#[]⟩ (some ⟨g, 0, none⟩) n cap (fun i => ts.getD i .nil)) ∧ kidsL (.mk 0 ⟨#[]⟩ (some ⟨g, 0, none⟩) n cap (fun i => ts.getD i .nil)) = ts := by
  have hget : ∀ i (hi : i < ts.length), ts.getD i .nil = ts[i] := fun i hi => by simp [List.getD, List.getElem?_eq_getElem hi]
  have hn : n ≤ maxLen := by
    rcases h.2 with ⟨h', _⟩ | ⟨g', cap', cur, h', _, _, h2, h3, _⟩
    · simp at h'
    · cases h'; exact Nat.le_trans h2 h3
  refine ⟨⟨Nat.zero_le _, hn, fun i hi => ?_⟩, ?_⟩
  · have hi' : i < ts.length := by omega
    obtain ⟨f0, f1, f2⟩ := flat_get ts i hi'
    show RowAt w _ i (ts.getD i .nil) ∧ TIn w (ts.getD i .nil)
    rw [hget i hi']
    refine ⟨⟨g, 0, rfl, ?_, ?_, ?_⟩, hT _ (List.getElem_mem hi')⟩
    · rw [Nat.zero_add]; exact (h.cellAt (i * 3) (by omega)).trans f0
    · rw [Nat.zero_add]; exact (h.cellAt (i * 3 + 1) (by omega)).trans f1
    · rw [Nat.zero_add]; exact (h.cellAt (i * 3 + 2) (by omega)).trans f2
  · unfold kidsL
    show (List.range n).map (fun i => ts.getD i .nil) = ts
    refine List.ext_getElem (by simp [hl]) fun i h1 h2 => ?_
    simp [List.getD, List.getElem?_eq_getElem h2]
end Go.Proofs.Ytmggaclaoefdaaa
