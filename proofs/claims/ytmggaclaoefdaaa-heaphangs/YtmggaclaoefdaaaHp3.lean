/- The reference's Straight: what it answers. -/
import Derived.Test.YtmggaclaoefdaaaGAS
namespace Go.Proofs.Ytmggaclaoefdaaa
open Go.RowKit

theorem made1 (z : Value) (hz : z.cells = #[z]) (n : Nat) : (madeCells z.cells (n * 1)).toList = (List.range n).map fun _ : Nat => z := by
  rw [hz, Nat.mul_one, toList_madeCells_one]
  refine List.ext_getElem (by simp) fun i h1 h2 => ?_
  simp
theorem IntsR.form {lo : Nat} {w : World} {v : Value} {l : List Nat} (h : IntsR lo w v l) : ∃ sa cp, v = .slice sa l.length cp ∧ ∀ k (hk : k < l.length), ∃ g, sa = some ⟨g, 0, none⟩ ∧ w.cell? ⟨g, k, none⟩ = some (.int .i64 (l[k] : Int)) := by
  rcases h.2 with ⟨hv, h0⟩ | ⟨g, cp, cur, hv, _⟩
  · exact ⟨none, 0, by rw [hv, h0], fun k hk => by omega⟩
  · refine ⟨some ⟨g, 0, none⟩, cp, hv, fun k hk => ⟨g, rfl, ?_⟩⟩
    have h' : w.ownsRow lo 3 1 (.slice (some ⟨g, 0, none⟩) l.length cp) l.length (l.map fun x : Nat => Value.int .i64 (x : Int)) := hv ▸ h
    refine (h'.cellAt k (by omega)).trans ?_
    rw [List.getElem?_map, List.getElem?_eq_getElem hk]
    rfl
theorem range_get {α : Type} (f : Nat → α) (n i : Nat) (h : i < n) : ((List.range n).map f)[i]? = some (f i) := by simp [h]
theorem owns_froz {w : World} {lo g n cap : Nat} {t : TypeId} {s : Nat} {xs : List Value} (h : w.ownsRow lo t s (.slice (some ⟨g, 0, none⟩) n cap) n xs) (i : Nat) : w.frozen? ⟨g, i, none⟩ = false := by
  rcases h.2 with ⟨h', _⟩ | ⟨g', cap', cur, h', _, hg', _⟩
  · cases h'
  · cases h'; simp [World.frozen?, hg']
def leadB (h : Nat → Cl) (len x : Nat) : List Nat := if x < len then leads h x else []
theorem acy_leadB (h : Nat → Cl) (len : Nat) : Acy len (leadB h len) ↔ Acy len (leads h) := by
  constructor
  · rintro ⟨r, hr⟩
    exact ⟨r, fun x hx y hy => hr x hx y (by unfold leadB; rw [if_pos hx]; exact hy)⟩
  · rintro ⟨r, hr⟩
    exact ⟨r, fun x hx y hy => hr x hx y (by unfold leadB at hy; rw [if_pos hx] at hy; exact hy)⟩
/-- A heap whose cells are right, one by one. -/
structure HOk (h : Nat → Cl) (len : Nat) : Prop where
  n0 : ∀ i, i < len → 0 ≤ (h i).n
  n4 : ∀ i, i < len → (h i).k ≠ 1 → (h i).n ≤ 4
  inn : ∀ i, i < len → ∀ y ∈ leads h i, y < len
  few : len ≤ 400000
theorem HOk.four {h : Nat → Cl} {len : Nat} (H : HOk h len) (x : Nat) : (leadB h len x).length ≤ 4 := by
  unfold leadB
  by_cases hx : x < len
  · rw [if_pos hx]
    unfold leads
    by_cases hk : (h x).k = 1
    · rw [if_pos hk]
      split <;> simp
    · rw [if_neg hk, List.length_map, List.length_range]
      have := H.n4 x hx hk
      omega
  · rw [if_neg hx]; simp
theorem HOk.din {h : Nat → Cl} {len : Nat} (H : HOk h len) : ∀ x, x < len → ∀ y ∈ leadB h len x, y < len := fun x hx y hy => by
  unfold leadB at hy
  rw [if_pos hx] at hy
  exact H.inn x hx y hy
theorem KI.len {n : Nat} {deps rd : Nat → List Nat} {c : Nat → Int} {q : List Nat} {k : Nat} {ds : List Nat} (h : KI n deps rd c q k ds) : q.length ≤ n := by
  have := List.Nodup.length_le_of_subset h.nd (fun x hx => List.mem_range.2 (h.lt x hx) : q ⊆ List.range n)
  rwa [List.length_range] at this
end Go.Proofs.Ytmggaclaoefdaaa
