/- Maps of numbers. -/
import Derived.Test.YtmggaclaoefdaaaGAH
namespace Go.Proofs.Ytmggaclaoefdaaa
open Go.RowKit
set_option linter.unusedVariables false
set_option linter.unusedSimpArgs false

theorem zeroI (w : World) : (zeroValue 3).run Try.prog w = .ok (.int .i64 0) w := by kernel_rfl
theorem owns_size {w : World} {m n : Nat} {D : DataW Value} (h : w.ownsMap Try.prog 3 heldR m n D) : w.ownsMap Try.prog 3 heldR m (Maps.size D) D := by
  obtain ⟨es, clock, h1, h2, h3, h4⟩ := h
  refine ⟨es, clock, h1, h2, ?_, h4⟩
  rw [h4]
  have e1 : es.size = ((es.toList.map (WideElems.rg Try.prog 3 heldR)).foldr DataW.insert []).length := by rw [length_sorted]; simp
  exact Nat.le_of_eq e1
/-- Block m is a map of numbers. -/
def IM (w : World) (m : Nat) (σ : Int → Option Int) : Prop := ∃ (D : DataW Value) (ks : List Int), w.ownsMap Try.prog 3 heldR m ks.length D ∧ Maps.IsMap D ∧ Maps.size D = ks.length ∧ (ks.Nodup ∧ ∀ i ∈ ks, 0 ≤ i ∧ i ≤ 1000000) ∧ (∀ i, (σ i).isSome = true ↔ i ∈ ks) ∧
  ∀ i : Int, 0 ≤ i → i ≤ 1000000 → Maps.has D (.int .i64 i) = (σ i).isSome ∧ ∀ x, σ i = some x → ∀ z, D.atKey (.int .i64 i) z = .held (.int .i64 x)
theorem IM.kept {w w' : World} {m : Nat} {σ : Int → Option Int} {row : Option Nat} (h : IM w m σ) (hg : w.grownBy w' row) (hne : some m ≠ row) : IM w' m σ := by
  obtain ⟨D, ks, h1, h2⟩ := h
  exact ⟨D, ks, h1.kept hg hne, h2⟩
theorem IM.lt {w : World} {m : Nat} {σ : Int → Option Int} (h : IM w m σ) : m < w.heap.size := by
  obtain ⟨D, ks, h1, _⟩ := h
  exact h1.lt
theorem IM.keep {w w' : World} {m : Nat} {σ : Int → Option Int} (h : IM w m σ) (hb : w'.heap[m]? = w.heap[m]?) : IM w' m σ := by
  obtain ⟨D, ks, ⟨es, clock, h1, h2⟩, h3⟩ := h
  exact ⟨D, ks, ⟨es, clock, hb.trans h1, h2⟩, h3⟩
theorem IM.made (w : World) : IM (w.alloc (.map #[] 0)) w.heap.size (fun _ => none) :=
  ⟨.map [], [], World.ownsMap_made w _ _ _, Maps.isMap_empty, rfl, ⟨List.nodup_nil, fun i h => (by cases h)⟩, fun i => ⟨fun h => (by cases h), fun h => (by cases h)⟩, fun i _ _ => ⟨rfl, fun x h => (by cases h)⟩⟩
theorem ims_few {ks : List Int} (hnd : ks.Nodup ∧ ∀ i ∈ ks, 0 ≤ i ∧ i ≤ 1000000) : ks.length ≤ 1000001 := by
  have h1 : (ks.map Int.toNat).Nodup := by
    rw [List.nodup_iff_pairwise_ne, List.pairwise_map]
    have h0 := List.nodup_iff_pairwise_ne.1 hnd.1
    exact h0.imp_of_mem (fun ha hb hab e => hab (by have := hnd.2 _ ha; have := hnd.2 _ hb; omega))
  have h2 : (ks.map Int.toNat) ⊆ List.range 1000001 := fun x hx => by
    obtain ⟨i, hi, rfl⟩ := List.mem_map.1 hx
    have := hnd.2 i hi
    exact List.mem_range.2 (by omega)
  have h3 := List.Nodup.length_le_of_subset h1 h2
  rw [List.length_map, List.length_range] at h3
  exact h3
theorem IM.look2 {w : World} {m : Nat} {σ : Int → Option Int} (h : IM w m σ) {i : Int} (h0 : 0 ≤ i) (h1 : i ≤ 1000000) :
    (Instr.lookup 124 (.map (some m)) (.int .i64 i) true).run Try.prog w = .ok (.tuple #[.int .i64 ((σ i).getD 0), .bool (σ i).isSome]) w := by
  obtain ⟨D, ks, hD, hm, _, _, _, hs⟩ := h
  obtain ⟨hs1, hs2⟩ := hs i h0 h1
  obtain ⟨v, ps, hrun, hv⟩ := hD.look_ok (t := 124) (e := 3) keyed3 Try.underlying124 (zeroI w) (zd := .held (.int .i64 0)) (zp := []) rfl (key3 h0 h1)
  have hv' : DataW.held v = D.atKey (.int .i64 i) (.held (.int .i64 0)) := congrArg Prod.fst (Option.some.inj hv)
  rw [hs1] at hrun
  cases hσ : σ i with
  | some x =>
    rw [hs2 x hσ] at hv'
    obtain rfl := DataW.held.inj hv'
    rw [hσ] at hrun
    exact hrun
  | none =>
    rw [hσ] at hs1 hrun
    rw [Maps.atKey_of_not_has hs1] at hv'
    obtain rfl := DataW.held.inj hv'
    exact hrun
theorem IM.look1 {w : World} {m : Nat} {σ : Int → Option Int} (h : IM w m σ) {i : Int} (h0 : 0 ≤ i) (h1 : i ≤ 1000000) :
    (Instr.lookup 124 (.map (some m)) (.int .i64 i) false).run Try.prog w = .ok (.int .i64 ((σ i).getD 0)) w := by
  obtain ⟨D, ks, hD, hm, _, _, _, hs⟩ := h
  obtain ⟨hs1, hs2⟩ := hs i h0 h1
  obtain ⟨v, ps, hrun, hv⟩ := hD.lookup (t := 124) (e := 3) keyed3 Try.underlying124 (zeroI w) (zd := .held (.int .i64 0)) (zp := []) rfl (key3 h0 h1)
  have hv' : DataW.held v = D.atKey (.int .i64 i) (.held (.int .i64 0)) := congrArg Prod.fst (Option.some.inj hv)
  cases hσ : σ i with
  | some x =>
    rw [hs2 x hσ] at hv'
    obtain rfl := DataW.held.inj hv'
    exact hrun
  | none =>
    rw [hσ] at hs1
    rw [Maps.atKey_of_not_has hs1] at hv'
    obtain rfl := DataW.held.inj hv'
    exact hrun
def updI (σ : Int → Option Int) (i x : Int) : Int → Option Int := fun j => if j = i then some x else σ j
theorem IM.store {w : World} {m : Nat} {σ : Int → Option Int} (h : IM w m σ) {i : Int} (h0 : 0 ≤ i) (h1 : i ≤ 1000000) (x : Int) :
    ∃ w', (Instr.mapUpdate 124 (.map (some m)) (.int .i64 i) (.int .i64 x)).run Try.prog w = .ok () w' ∧ IM w' m (updI σ i x) ∧ w.grownBy w' (some m) := by
  obtain ⟨D, ks, hD, hm, hz, hnd, hk, hs⟩ := h
  have hf := ims_few hnd
  obtain ⟨w', hrun, ho, hg⟩ := hD.update (t := 124) (e := 3) keyed3 Try.underlying124 (by unfold maxLen; omega) (key3 h0 h1) (val := .int .i64 x) (d := .held (.int .i64 x)) (ps := []) rfl
  have hsz : Maps.size (D.put (.int .i64 i) (.held (.int .i64 x))) = (if i ∈ ks then ks else ks ++ [i]).length := by
    rw [Maps.size_put (hD.tidy keyed3), (hs i h0 h1).1, hz]
    by_cases e : i ∈ ks
    · rw [if_pos e, if_pos ((hk i).2 e)]
    · rw [if_neg e, if_neg (fun h => e ((hk i).1 h)), List.length_append]; rfl
  refine ⟨w', hrun, ⟨_, if i ∈ ks then ks else ks ++ [i], by rw [← hsz]; exact owns_size ho, hm.put _ _, hsz, ?_, fun j => ?_, fun j j0 j1 => ?_⟩, hg⟩
  · by_cases e : i ∈ ks
    · rw [if_pos e]; exact hnd
    · rw [if_neg e]
      refine ⟨?_, fun j hj => ?_⟩
      · rw [List.nodup_append]
        exact ⟨hnd.1, by simp, fun a ha c hc => by rw [List.mem_singleton] at hc; subst hc; exact fun e' => e (e' ▸ ha)⟩
      · rcases List.mem_append.1 hj with h | h
        · exact hnd.2 j h
        · rw [List.mem_singleton] at h; subst h; exact ⟨h0, h1⟩
  · unfold updI
    by_cases e : j = i
    · subst e
      rw [if_pos rfl]
      refine ⟨fun _ => ?_, fun _ => rfl⟩
      by_cases e : j ∈ ks
      · rw [if_pos e]; exact e
      · rw [if_neg e]; simp
    · rw [if_neg e, hk j]
      by_cases e' : i ∈ ks
      · rw [if_pos e']
      · rw [if_neg e']; simp [e]
  by_cases e : j = i
  · subst e
    refine ⟨by rw [Maps.has_put_same hm (keyed3.key (key3 h0 h1))]; simp [updI], fun x' hx' z => ?_⟩
    rw [Maps.atKey_put_same hm (keyed3.key (key3 h0 h1))]
    simp [updI] at hx'
    rw [hx']
  · have hne : (Lit.int .i64 j) ≠ .int .i64 i := fun h => e (by injection h)
    obtain ⟨g1, g2⟩ := hs j j0 j1
    refine ⟨by rw [Maps.has_put_other hne, g1, updI, if_neg e], fun x' hx' z => ?_⟩
    rw [Maps.atKey_put_other hne]
    rw [updI, if_neg e] at hx'
    exact g2 x' hx' z
end Go.Proofs.Ytmggaclaoefdaaa
