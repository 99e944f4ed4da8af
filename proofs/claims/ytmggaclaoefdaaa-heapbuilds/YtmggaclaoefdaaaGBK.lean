/- A term's parts, up to 1000; their variables; numbers in a list. where: the cells of variables, told. -/
import Derived.Test.YtmggaclaoefdaaaGAP
import Derived.Test.YtmggaclaoefdaaaGAJ
import Derived.Test.YtmggaclaoefdaaaGAD
import Derived.Test.YtmggaclaoefdaaaHc3
namespace Go.Proofs.Ytmggaclaoefdaaa
open Go.RowKit
set_option linter.unusedVariables false
set_option linter.unusedSimpArgs false

/-- The variables among parts. -/
def pvH (l : List Tm) : List Int := (l.filter fun q => decide (q.v ≠ 0)).map Tm.v
theorem pvH_append (l k : List Tm) : pvH (l ++ k) = pvH l ++ pvH k := by unfold pvH; rw [List.filter_append, List.map_append]
theorem pvH_to (g : Nat → List Tm) (k : Nat) : pvH (preTo g k) = ((List.range k).map fun i => pvH (g i)).flatten := by
  induction k with
  | zero => rfl
  | succ k ih => rw [preTo, pvH_append, ih, List.range_succ, List.map_append, List.flatten_append]; simp
theorem pvH_pre {N : Int} {T : Tm} (hT : Okv N T) : pvH (pre T) = vsT T := by
  induction T with
  | nil => exact hT.elim
  | mk v nm a len cap f ih =>
    show pvH ([Tm.mk v nm a len cap f] ++ preTo (fun i => pre (f i)) len) = (if v = 0 then ((List.range len).map fun i => vsT (f i)).flatten else [v])
    rw [pvH_append, pvH_to]
    by_cases hv : v = 0
    · rw [if_pos hv]
      have e : pvH [Tm.mk v nm a len cap f] = [] := by unfold pvH; simp [Tm.v, hv]
      rw [e, List.nil_append]
      congr 1
      exact List.map_congr_left fun i hi => ih i (hT.2.2.2.2 i (List.mem_range.1 hi))
    · rw [if_neg hv]
      have hl : len = 0 := (hT.2.2.1 hv).2
      subst hl
      have e : pvH [Tm.mk v nm a 0 cap f] = [v] := by unfold pvH; simp [Tm.v, hv]
      rw [e]; rfl
theorem pre_okvH {N : Int} {T : Tm} (hT : Okv N T) : ∀ q ∈ pre T, Okv N q := by
  induction T with
  | nil => exact hT.elim
  | mk v nm a len cap f ih =>
    intro q hq
    rcases List.mem_cons.1 hq with rfl | hq
    · exact hT
    · have key : ∀ k, k ≤ len → ∀ q ∈ preTo (fun i => pre (f i)) k, Okv N q := by
        intro k
        induction k with
        | zero => intro _ q hq; simp [preTo] at hq
        | succ k ihk =>
          intro hk q hq
          rcases List.mem_append.1 hq with hq | hq
          · exact ihk (by omega) q hq
          · exact ih k (hT.2.2.2.2 k (by omega)) q hq
      exact key len (Nat.le_refl _) q hq
theorem owns_setH {w : World} {lo g cap n : Nat} {t : TypeId} {xs : List Value} (h : w.ownsRow lo t 1 (.slice (some ⟨g, 0, none⟩) n cap) n xs) (i : Nat) (x : Value) :
    (w.setCell ⟨g, i, none⟩ x).ownsRow lo t 1 (.slice (some ⟨g, 0, none⟩) n cap) n (xs.set i x) := by
  obtain ⟨h1, h2⟩ := h
  rcases h2 with ⟨h2, _⟩ | ⟨g', cap', cur, hv, hlo, hg, hnc, hcm, hsz, htk⟩
  · cases h2
  cases hv
  refine ⟨by simp [h1], .inr ⟨g, cap, cur.setIfInBounds i x, rfl, hlo, ?_, hnc, hcm, by simp [hsz], ?_⟩⟩
  · simp only [World.setCell, Array.getElem?_modify]
    simp [hg]
  · rw [← htk]
    simp [List.take_set]
end Go.Proofs.Ytmggaclaoefdaaa

namespace Go.Proofs.Ytmggaclaoefdaaa
open Go.RowKit
set_option linter.unusedVariables false
set_option linter.unusedSimpArgs false

def whI (σ : Int → Option Int) (i : Nat) : Int := (σ ((i : Int) + 1)).getD (-1)
def whL (σ : Int → Option Int) (k : Nat) : List Value := (List.range 12).map fun i : Nat => Value.int .i64 (if i < k then whI σ i else 0)
theorem whL_set (σ : Int → Option Int) {k : Nat} (hk : k < 12) : (whL σ k).set k (.int .i64 (whI σ k)) = whL σ (k + 1) := by
  refine List.ext_getElem (by simp [whL]) fun i h1 h2 => ?_
  rw [List.getElem_set]
  simp only [whL, List.getElem_map, List.getElem_range]
  by_cases e : k = i
  · subst e; rw [if_pos rfl, if_pos (by omega)]
  · rw [if_neg e]
    by_cases h : i < k
    · rw [if_pos h, if_pos (by omega)]
    · rw [if_neg h, if_neg (by omega)]
set_option maxRecDepth 100000 in
set_option maxHeartbeats 2000000 in
theorem where_any {m : Nat} {σ : Int → Option Int} (w : World) (hM : IM w m σ) :
    Calls Try.prog 88 #[.map (some m)] w fun e w' => ∃ g, e = .returned (.slice (some ⟨g, 0, none⟩) 12 12) ∧ w'.ownsRow w.heap.size 3 1 (.slice (some ⟨g, 0, none⟩) 12 12) 12 ((List.range 12).map fun i : Nat => Value.int .i64 (whI σ i)) ∧ Below w.heap.size w w' := by
  have HM : Hid (IM w m σ) := hM
  obtain ⟨j0, hj, hj0, hj1, hj2⟩ := info_parts Try.info3
  have hml := hM.lt
  clear hM
  go_enter Try.func88, Try.ntmps88
  go_wp2_with (at_make; refine wpList_make_full _ rfl _ _ 56 rfl w.heap.size 3 j0 (.int .i64 0) 1 Try.underlying56 hj hj0 hj1 _ _ _ _ 12 rfl rfl rfl rfl (by rw [hj2]; omega) (by unfold maxLen; omega) (Nat.le_refl _) ?_; intro w1 ho1 hg1; rw [made1 _ rfl] at ho1; have HO1 : Hid (w1.ownsRow w.heap.size 3 1 (.slice (some ⟨w.heap.size, 0, none⟩) 12 12) 12 (whL σ 0)) := (by rw [Hid]; simpa [whL] using ho1); have HB1 : Hid (Below w.heap.size w w1) := ⟨hg1.os, hg1.tape, hg1.output, hg1.size, fun k hk => hg1.block k hk (by simp)⟩; clear ho1 hg1)
  have hgn : w.heap.size < w1.heap.size := (HO1.out.lt _ rfl).2
  go_loopw [10] (fun iv wq => ∃ k : Nat, k ≤ 12 ∧ iv = .int .i64 k ∧ wq.ownsRow w.heap.size 3 1 (.slice (some ⟨w.heap.size, 0, none⟩) 12 12) 12 (whL σ k) ∧ Below w.heap.size w wq) (fun v _ => 12 - (intOf v).toNat)
  case atStart => exact ⟨0, Nat.zero_le _, rfl, HO1.out, HB1.out⟩
  case round =>
    obtain ⟨k, hk, rfl, hO, hB⟩ := hrel
    have HO : Hid (wr.ownsRow w.heap.size 3 1 (.slice (some ⟨w.heap.size, 0, none⟩) 12 12) 12 (whL σ k)) := hO
    have HB : Hid (Below w.heap.size w wr) := hB
    have hMr : IM wr m σ := HM.out.keep (hB.block m hml)
    clear hO hB HO1 HB1
    by_cases hlt : k < 12
    case pos =>
      have hkI : (k : Int) < 12 := by omega
      have hlk := hMr.look2 (i := (k : Int) + 1) (by omega) (by omega)
      have hkf : wr.frozen? ⟨w.heap.size, k, none⟩ = false := by
        rcases HO.out.2 with ⟨h', _⟩ | ⟨g', cap', cur, h', _, hg', _⟩
        · cases h'
        · cases h'
          simp [World.frozen?, hg']
      obtain ⟨y, hy⟩ : ∃ y, wr.cell? ⟨w.heap.size, k, none⟩ = some y := ⟨_, (HO.out.cellAt k (by omega)).trans (List.getElem?_eq_getElem (by simpa [whL] using hlt))⟩
      have hO9 := owns_setH HO.out k (.int .i64 (whI σ k))
      rw [whL_set σ hlt] at hO9
      have HO9 : Hid ((wr.setCell ⟨w.heap.size, k, none⟩ (.int .i64 (whI σ k))).ownsRow w.heap.size 3 1 (.slice (some ⟨w.heap.size, 0, none⟩) 12 12) 12 (whL σ (k + 1))) := hO9
      have HB9 : Hid (Below w.heap.size w (wr.setCell ⟨w.heap.size, k, none⟩ (.int .i64 (whI σ k)))) := HB.out.grown (grown_set (W := wr) w.heap.size k (.int .i64 (whI σ k))) HB.out.size (fun p hp => by have : w.heap.size = p := Option.some.inj hp; omega)
      cases hσ : σ ((k : Int) + 1) with
      | some x =>
        have hwx : whI σ k = x := by unfold whI; rw [hσ]; rfl
        have hlk' : (Instr.lookup 124 (.map (some m)) (.int .i64 ((k : Int) + 1)) true).run Try.prog wr = .ok (.tuple #[.int .i64 x, .bool true]) wr := by
          have h9 := hlk
          simp only [hσ] at h9
          exact h9
        rw [hwx] at HO9 HB9
        clear hlk hMr hO9 hσ HO HB
        go_wp2_with fail
        go_roundw
        case rel => exact ⟨k + 1, by omega, by go_num, HO9.out, HB9.out⟩
        case measure => simp [intOf]; omega
      | none =>
        have hwx : whI σ k = -1 := by unfold whI; rw [hσ]; rfl
        have hlk' : (Instr.lookup 124 (.map (some m)) (.int .i64 ((k : Int) + 1)) true).run Try.prog wr = .ok (.tuple #[.int .i64 0, .bool false]) wr := by
          have h9 := hlk
          simp only [hσ] at h9
          exact h9
        rw [hwx] at HO9 HB9
        clear hlk hMr hO9 hσ HO HB
        go_wp2_with fail
        go_roundw
        case rel => exact ⟨k + 1, by omega, by go_num, HO9.out, HB9.out⟩
        case measure => simp [intOf]; omega
    have hkI : ¬ ((k : Int) < 12) := by omega
    obtain rfl : k = 12 := by omega
    go_wp2_with fail
    go_ret
    refine ⟨_, rfl, ?_, HB.out⟩
    have h9 := HO.out
    have e : whL σ 12 = (List.range 12).map fun i : Nat => Value.int .i64 (whI σ i) := by
      unfold whL
      refine List.map_congr_left fun i hi => ?_
      rw [if_pos (List.mem_range.1 hi)]
    rw [e] at h9
    exact h9
end Go.Proofs.Ytmggaclaoefdaaa
