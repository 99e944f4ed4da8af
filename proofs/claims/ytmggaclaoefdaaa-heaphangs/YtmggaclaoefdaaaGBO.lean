/- A term's parts, up to 1000; their variables; numbers in a list. where: the cells of variables, told. heap.Build, walked. -/
import Derived.Test.YtmggaclaoefdaaaGAU
import Derived.Test.YtmggaclaoefdaaaGAQ
import Derived.Test.YtmggaclaoefdaaaGAC
import Derived.Test.YtmggaclaoefdaaaHc3
import Derived.Deep.RegionHeld3
import Derived.Test.YtmggaclaoefdaaaGAN
namespace Go.Proofs.Ytmggaclaoefdaaa
open Go.RowKit
set_option linter.unusedVariables false
set_option linter.unusedSimpArgs false

theorem ap_vsH {π π' : Int → Int} {T : Tm} (h : ∀ v ∈ vsT T, π v = π' v) : ap (nmOf π) T = ap (nmOf π') T := by
  induction T with
  | nil => rfl
  | mk v nm a len cap f ih =>
    by_cases hv : v = 0
    · rw [ap_fn _ (T := .mk v nm a len cap f) hv, ap_fn _ (T := .mk v nm a len cap f) hv]
      have h' : ∀ u ∈ ((List.range len).map fun i => vsT (f i)).flatten, π u = π' u := by
        have : vsT (.mk v nm a len cap f) = ((List.range len).map fun i => vsT (f i)).flatten := by show (if v = 0 then _ else _) = _; rw [if_pos hv]
        rw [this] at h; exact h
      show Tm.mk 0 nm none len 0 (fun i => if i < len then ap (nmOf π) (f i) else .nil) = Tm.mk 0 nm none len 0 (fun i => if i < len then ap (nmOf π') (f i) else .nil)
      congr 1
      funext i
      by_cases hi : i < len
      · rw [if_pos hi, if_pos hi]
        exact ih i (fun u hu => h' u (List.mem_flatten.2 ⟨vsT (f i), List.mem_map.2 ⟨i, List.mem_range.2 hi, rfl⟩, hu⟩))
      · rw [if_neg hi, if_neg hi]
    · rw [ap_var _ (T := .mk v nm a len cap f) hv, ap_var _ (T := .mk v nm a len cap f) hv]
      have e : vsT (.mk v nm a len cap f) = [v] := by show (if v = 0 then _ else _) = _; rw [if_neg hv]
      rw [e] at h
      show can (vT (π v)) = can (vT (π' v))
      rw [h v (by simp)]
/-- The numbers of variables; 0: none so far. -/
def nfH (S : List Int) (u : Int) : Int := if u ∈ S then num S u else 0
theorem nfH_in {S : List Int} {u : Int} (h : u ∈ S) : nfH S u = num S u ∧ nfH S u ≠ 0 := by
  unfold nfH; rw [if_pos h]; refine ⟨rfl, ?_⟩; unfold num; omega
theorem nfH_out {S : List Int} {u : Int} (h : ¬ u ∈ S) : nfH S u = 0 := by unfold nfH; rw [if_neg h]
theorem nfH_set {len z : Nat} {S : List Int} (hn : ¬ (z : Int) ∈ S) : ((List.range len).map fun i : Nat => Value.int .i64 (nfH S (i : Int))).set z (.int .i64 ((S.length : Int) + 1)) = (List.range len).map fun i : Nat => Value.int .i64 (nfH (S ++ [(z : Int)]) (i : Int)) := by
  refine List.ext_getElem (by simp) fun i h1 h2 => ?_
  rw [List.getElem_set]
  simp only [List.getElem_map, List.getElem_range]
  by_cases e : z = i
  · rw [if_pos e]
    subst e
    rw [(nfH_in (S := S ++ [(z : Int)]) (by simp)).1]
    unfold num
    rw [List.idxOf_append, if_neg hn]
    simp
  · rw [if_neg e]
    have hne : ((i : Int)) ≠ (z : Int) := by omega
    by_cases h : (i : Int) ∈ S
    · rw [(nfH_in h).1, (nfH_in (S := S ++ [(z : Int)]) (List.mem_append_left _ h)).1, num_pre (List.prefix_append _ _) h]
    · rw [nfH_out h, nfH_out (fun h' => by
        rcases List.mem_append.1 h' with h' | h'
        · exact h h'
        · exact hne (List.mem_singleton.1 h'))]
theorem owns_setH {w : World} {lo g cap n : Nat} {t : TypeId} {xs : List Value} (h : w.ownsRow lo t 1 (.slice (some ⟨g, 0, none⟩) n cap) n xs) (i : Nat) (x : Value) :
    (w.setCell ⟨g, i, none⟩ x).ownsRow lo t 1 (.slice (some ⟨g, 0, none⟩) n cap) n (xs.set i x) := by
  obtain ⟨h1, h2⟩ := h
  rcases h2 with ⟨h2, _⟩ | ⟨g', cap', cur, hv, hlo, hg, hnc, hcm, hsz, htk⟩
  · cases h2
  cases hv
  refine ⟨by simp [h1], .inr ⟨g, cap, cur.setIfInBounds i x, rfl, hlo, ?_, hnc, hcm, by simp [hsz], ?_⟩⟩
  · simp only [World.setCell, Array.getElem?_modify]
    simp [hg]
  · rw [← htk]
    simp [List.take_set]
end Go.Proofs.Ytmggaclaoefdaaa

namespace Go.Proofs.Ytmggaclaoefdaaa
open Go.RowKit
set_option linter.unusedVariables false
set_option linter.unusedSimpArgs false

def whI (σ : Int → Option Int) (i : Nat) : Int := (σ ((i : Int) + 1)).getD (-1)
def whL (σ : Int → Option Int) (k : Nat) : List Value := (List.range 12).map fun i : Nat => Value.int .i64 (if i < k then whI σ i else 0)
theorem whL_set (σ : Int → Option Int) {k : Nat} (hk : k < 12) : (whL σ k).set k (.int .i64 (whI σ k)) = whL σ (k + 1) := by
  refine List.ext_getElem (by simp [whL]) fun i h1 h2 => ?_
  rw [List.getElem_set]
  simp only [whL, List.getElem_map, List.getElem_range]
  by_cases e : k = i
  · subst e; rw [if_pos rfl, if_pos (by omega)]
  · rw [if_neg e]
    by_cases h : i < k
    · rw [if_pos h, if_pos (by omega)]
    · rw [if_neg h, if_neg (by omega)]
set_option maxRecDepth 100000 in
set_option maxHeartbeats 2000000 in
theorem where_any {m : Nat} {σ : Int → Option Int} (w : World) (hM : IM w m σ) :
    Calls Try.prog 88 #[.map (some m)] w fun e w' => ∃ g, e = .returned (.slice (some ⟨g, 0, none⟩) 12 12) ∧ w'.ownsRow w.heap.size 3 1 (.slice (some ⟨g, 0, none⟩) 12 12) 12 ((List.range 12).map fun i : Nat => Value.int .i64 (whI σ i)) ∧ Below w.heap.size w w' := by
  have HM : Hid (IM w m σ) := hM
  obtain ⟨j0, hj, hj0, hj1, hj2⟩ := info_parts Try.info3
  have hml := hM.lt
  clear hM
  go_enter Try.func88, Try.ntmps88
  go_wp2_with (at_make; refine wpList_make_full _ rfl _ _ 56 rfl w.heap.size 3 j0 (.int .i64 0) 1 Try.underlying56 hj hj0 hj1 _ _ _ _ 12 rfl rfl rfl rfl (by rw [hj2]; omega) (by unfold maxLen; omega) (Nat.le_refl _) ?_; intro w1 ho1 hg1; rw [made1 _ rfl] at ho1; have HO1 : Hid (w1.ownsRow w.heap.size 3 1 (.slice (some ⟨w.heap.size, 0, none⟩) 12 12) 12 (whL σ 0)) := (by rw [Hid]; simpa [whL] using ho1); have HB1 : Hid (Below w.heap.size w w1) := ⟨hg1.os, hg1.tape, hg1.output, hg1.size, fun k hk => hg1.block k hk (by simp)⟩; clear ho1 hg1)
  have hgn : w.heap.size < w1.heap.size := (HO1.out.lt _ rfl).2
  go_loopw [10] (fun iv wq => ∃ k : Nat, k ≤ 12 ∧ iv = .int .i64 k ∧ wq.ownsRow w.heap.size 3 1 (.slice (some ⟨w.heap.size, 0, none⟩) 12 12) 12 (whL σ k) ∧ Below w.heap.size w wq) (fun v _ => 12 - (intOf v).toNat)
  case atStart => exact ⟨0, Nat.zero_le _, rfl, HO1.out, HB1.out⟩
  case round =>
    obtain ⟨k, hk, rfl, hO, hB⟩ := hrel
    have HO : Hid (wr.ownsRow w.heap.size 3 1 (.slice (some ⟨w.heap.size, 0, none⟩) 12 12) 12 (whL σ k)) := hO
    have HB : Hid (Below w.heap.size w wr) := hB
    have hMr : IM wr m σ := HM.out.keep (hB.block m hml)
    clear hO hB HO1 HB1
    by_cases hlt : k < 12
    case pos =>
      have hkI : (k : Int) < 12 := by omega
      have hlk := hMr.look2 (i := (k : Int) + 1) (by omega) (by omega)
      have hkf : wr.frozen? ⟨w.heap.size, k, none⟩ = false := by
        rcases HO.out.2 with ⟨h', _⟩ | ⟨g', cap', cur, h', _, hg', _⟩
        · cases h'
        · cases h'
          simp [World.frozen?, hg']
      obtain ⟨y, hy⟩ : ∃ y, wr.cell? ⟨w.heap.size, k, none⟩ = some y := ⟨_, (HO.out.cellAt k (by omega)).trans (List.getElem?_eq_getElem (by simpa [whL] using hlt))⟩
      have hO9 := owns_setH HO.out k (.int .i64 (whI σ k))
      rw [whL_set σ hlt] at hO9
      have HO9 : Hid ((wr.setCell ⟨w.heap.size, k, none⟩ (.int .i64 (whI σ k))).ownsRow w.heap.size 3 1 (.slice (some ⟨w.heap.size, 0, none⟩) 12 12) 12 (whL σ (k + 1))) := hO9
      have HB9 : Hid (Below w.heap.size w (wr.setCell ⟨w.heap.size, k, none⟩ (.int .i64 (whI σ k)))) := HB.out.grown (grown_set (W := wr) w.heap.size k (.int .i64 (whI σ k))) HB.out.size (fun p hp => by have : w.heap.size = p := Option.some.inj hp; omega)
      cases hσ : σ ((k : Int) + 1) with
      | some x =>
        have hwx : whI σ k = x := by unfold whI; rw [hσ]; rfl
        have hlk' : (Instr.lookup 124 (.map (some m)) (.int .i64 ((k : Int) + 1)) true).run Try.prog wr = .ok (.tuple #[.int .i64 x, .bool true]) wr := by
          have h9 := hlk
          simp only [hσ] at h9
          exact h9
        rw [hwx] at HO9 HB9
        clear hlk hMr hO9 hσ HO HB
        go_wp2_with fail
        go_roundw
        case rel => exact ⟨k + 1, by omega, by go_num, HO9.out, HB9.out⟩
        case measure => simp [intOf]; omega
      | none =>
        have hwx : whI σ k = -1 := by unfold whI; rw [hσ]; rfl
        have hlk' : (Instr.lookup 124 (.map (some m)) (.int .i64 ((k : Int) + 1)) true).run Try.prog wr = .ok (.tuple #[.int .i64 0, .bool false]) wr := by
          have h9 := hlk
          simp only [hσ] at h9
          exact h9
        rw [hwx] at HO9 HB9
        clear hlk hMr hO9 hσ HO HB
        go_wp2_with fail
        go_roundw
        case rel => exact ⟨k + 1, by omega, by go_num, HO9.out, HB9.out⟩
        case measure => simp [intOf]; omega
    have hkI : ¬ ((k : Int) < 12) := by omega
    obtain rfl : k = 12 := by omega
    go_wp2_with fail
    go_ret
    refine ⟨_, rfl, ?_, HB.out⟩
    have h9 := HO.out
    have e : whL σ 12 = (List.range 12).map fun i : Nat => Value.int .i64 (whI σ i) := by
      unfold whL
      refine List.map_congr_left fun i hi => ?_
      rw [if_pos (List.mem_range.1 hi)]
    rw [e] at h9
    exact h9
end Go.Proofs.Ytmggaclaoefdaaa

namespace Go.Proofs.Ytmggaclaoefdaaa
open Go.RowKit
set_option linter.unusedVariables false
set_option linter.unusedSimpArgs false
attribute [local go_sem] Oper.semAt_some

def B4 (v : Value) (n : Int) (l : Value) (c : Int) : Ending := .returned (.tuple #[v, .int .i64 n, l, .int .i64 c])
/-- What a term put behind a heap is: the heap, the cells of variables, where the term stands. -/
def putH (h : Nat → Cl) (len : Nat) (T : Tm) : HSt × Int := putT T ((List.range len).map h, fun _ => none)
def BuR (h : Nat → Cl) (len : Nat) (T : Tm) (w : World) (e : Ending) (w' : World) : Prop := ∃ c : Int, ChkR h len c ∧ Below w.heap.size w w' ∧ (
  (c ≠ 0 ∧ e = B4 (.slice none 0 0) 0 (.slice none 0 0) c) ∨ (c = 0 ∧ checkV T ≠ 0 ∧ e = B4 (.slice none 0 0) 0 (.slice none 0 0) (checkV T)) ∨ (c = 0 ∧ checkV T = 0 ∧ (
    (400000 < (putH h len T).1.1.length ∧ e = B4 (.slice none 0 0) 0 (.slice none 0 0) 2) ∨
    ((putH h len T).1.1.length ≤ 400000 ∧ ∃ (v : Value) (g : Nat), e = B4 v (putH h len T).2 (.slice (some ⟨g, 0, none⟩) 12 12) 0 ∧ CRw w.heap.size w' v (putH h len T).1.1 ∧ w'.ownsRow w.heap.size 3 1 (.slice (some ⟨g, 0, none⟩) 12 12) 12 ((List.range 12).map fun i : Nat => Value.int .i64 (whI (putH h len T).1.2 i))))))
theorem checkV_cnt {T : Tm} (h : checkV T = 0) : cnt T ≤ 60 := by
  unfold checkV at h
  by_cases hc : cnt T ≤ 60
  · exact hc
  · rw [if_neg hc] at h; omega
theorem ownsRow_drew {w : World} {lo : Nat} {t : TypeId} {s n : Nat} {v : Value} {xs : List Value} (h : w.ownsRow lo t s v n xs) : w.drew.ownsRow lo t s v n xs := h
set_option maxRecDepth 100000 in
set_option maxHeartbeats 8000000 in
theorem build_any {a : Option Addr} {len cap : Nat} {h : Nat → Cl} (T : Tm) (w : World) (hh : HIn w a len h) (hcap : len ≤ cap) (hn : a = none → len = 0 ∧ cap = 0) (hT : TIn w T) :
    Calls Try.prog 42 #[.slice a len cap, T.val] w (BuR h len T w) := by
  have HBa : Hid (Below w.heap.size w (w.alloc (.cells #[.int .i64 T.v, .string T.nm, .slice T.a T.len T.cap] 24))) := (Below.refl _ _).alloc (Nat.le_refl _) _
  have HXa : Hid ((w.alloc (.cells #[.int .i64 T.v, .string T.nm, .slice T.a T.len T.cap] 24)).heap[w.heap.size]? = some (.cells #[.int .i64 T.v, .string T.nm, .slice T.a T.len T.cap] 24)) := heap_alloc_new _ _
  have hsa : (w.alloc (.cells #[.int .i64 T.v, .string T.nm, .slice T.a T.len T.cap] 24)).heap.size = w.heap.size + 1 := by simp
  have HH : Hid (∀ W, Below w.heap.size w W → HIn W a len h) := fun W hW => hh.below hW
  have HT : Hid (∀ W, Below w.heap.size w W → TIn W T) := fun W hW => hT.below hW
  have HC1 : Hid (Calls Try.prog 40 #[.slice a len cap] (w.alloc (.cells #[.int .i64 T.v, .string T.nm, .slice T.a T.len T.cap] 24)) fun e w' => ∃ c : Int, e = .returned (.int .i64 c) ∧ ChkR h len c ∧ Below (w.alloc (.cells #[.int .i64 T.v, .string T.nm, .slice T.a T.len T.cap] 24)).heap.size (w.alloc (.cells #[.int .i64 T.v, .string T.nm, .slice T.a T.len T.cap] 24)) w') := hcheck_any _ (HH.out _ HBa.out) hcap
  have HN : Hid (a = none → len = 0 ∧ cap = 0) := hn
  have hmm := @run_makeMap Try.prog
  clear hh hT hn
  show Calls Try.prog 42 #[.slice a len cap, .agg #[.int .i64 T.v, .string T.nm, .slice T.a T.len T.cap]] w _
  go_enter Try.func42, Try.ntmps42
  go_wp2_with fail
  generalize w.alloc (.cells #[.int .i64 T.v, .string T.nm, .slice T.a T.len T.cap] 24) = wa at *
  refine HC1.out.mono ?_
  rintro e w1 ⟨c, rfl, hc, hb1⟩
  have HCk : Hid (ChkR h len c) := hc
  have HB1 : Hid (Below w.heap.size w w1) := below_after2 HBa.out hb1
  have HX1 : Hid (w1.heap[w.heap.size]? = some (.cells #[.int .i64 T.v, .string T.nm, .slice T.a T.len T.cap] 24)) := (hb1.block _ (by omega)).trans HXa.out
  have hs1 : w.heap.size + 1 ≤ w1.heap.size := by have := hb1.size; omega
  clear hc hb1
  by_cases hc0 : c = 0
  case neg =>
    have hcb : (c != 0) = true := bne_iff_ne.2 hc0
    go_wp2_with fail
    refine bodyPost_ret (v := .tuple #[.slice none 0 0, .int .i64 0, .slice none 0 0, .int .i64 c]) (by simp [results, Try.results42, go_sem]) rfl ?_
    exact ⟨c, HCk.out, HB1.out, .inl ⟨hc0, rfl⟩⟩
  subst hc0
  obtain ⟨hG, hl4⟩ := ChkR.good HCk.out
  clear hG
  obtain ⟨x0, x1, x2, _⟩ := block_cells HX1.out
  have HC2 : Hid (Calls Try.prog 16 #[.agg #[.int .i64 T.v, .string T.nm, .slice T.a T.len T.cap]] w1 fun e w' => e = .returned (.int .i64 (checkV T)) ∧ Below w1.heap.size w1 w') := check_any T w1 (HT.out _ HB1.out)
  go_wp2_with fail
  refine HC2.out.mono ?_
  rintro e w2 ⟨rfl, hb2⟩
  have HB2 : Hid (Below w.heap.size w w2) := below_after2 HB1.out hb2
  have HX2 : Hid (w2.heap[w.heap.size]? = some (.cells #[.int .i64 T.v, .string T.nm, .slice T.a T.len T.cap] 24)) := (hb2.block _ (by omega)).trans HX1.out
  have hs2 : w.heap.size + 1 ≤ w2.heap.size := by have := hb2.size; omega
  clear hb2 x0 x1 x2
  by_cases ht0 : checkV T = 0
  case neg =>
    have hcb : (checkV T != 0) = true := bne_iff_ne.2 ht0
    have Hne : Hid (checkV T ≠ 0) := ht0
    generalize hcv : checkV T = cv at *
    go_wp2_with fail
    refine bodyPost_ret (v := .tuple #[.slice none 0 0, .int .i64 0, .slice none 0 0, .int .i64 cv]) (by simp [results, Try.results42, go_sem]) rfl ?_
    exact ⟨0, HCk.out, HB2.out, .inr (.inl ⟨rfl, by rw [hcv]; exact Hne.out, by rw [hcv]; rfl⟩)⟩
  have HT0 : Hid (checkV T = 0) := ht0
  have HOk : Hid (Okv 12 T) := okv_of_err T (checkV_err ht0)
  have hcn : cnt T ≤ 60 := checkV_cnt ht0
  rw [ht0]
  clear ht0
  have HB3 : Hid (Below w2.heap.size w2 (w2.alloc (.map #[] 0))) := (Below.refl _ _).alloc (Nat.le_refl _) _
  have HM3 : Hid (IM (w2.alloc (.map #[] 0)) w2.heap.size (fun _ => none)) := IM.made w2
  have HX3 : Hid ((w2.alloc (.map #[] 0)).heap[w.heap.size]? = some (.cells #[.int .i64 T.v, .string T.nm, .slice T.a T.len T.cap] 24)) := (HB3.out.block _ (by omega)).trans HX2.out
  have HBw3 : Hid (Below w.heap.size w (w2.alloc (.map #[] 0))) := below_after2 HB2.out HB3.out
  have hs3 : (w2.alloc (.map #[] 0)).heap.size = w2.heap.size + 1 := by simp
  generalize hmb : w2.heap.size = mb at *
  go_wp2_with fail
  generalize hw3 : w2.alloc (.map #[] 0) = w3 at *
  have HKp : Hid (∀ W, Below mb w3 W → W.cell? ⟨w.heap.size, 0, none⟩ = some (.int .i64 T.v) ∧ W.cell? ⟨w.heap.size, 1, none⟩ = some (.string T.nm) ∧ W.cell? ⟨w.heap.size, 2, none⟩ = some (.slice T.a T.len T.cap)) := fun W hW => by
    have hb := (hW.block w.heap.size (by omega)).trans HX3.out
    exact ⟨(block_cells hb).1, (block_cells hb).2.1, (block_cells hb).2.2.1⟩
  have HCl : Hid (∀ W, Below w3.heap.size w3 W → Calls Try.prog 87 #[.slice a len cap] W fun e w' => ∃ v, e = .returned v ∧ CRw w3.heap.size w' v ((List.range len).map h) ∧ Below w3.heap.size w3 w') := fun W hW => by
    refine (clone_any W (HH.out _ (below_after2 HBw3.out hW)) HN.out (by omega)).mono ?_
    rintro e w' ⟨v, rfl, h1, h2⟩
    exact ⟨v, rfl, ownsRow_mono h1 hW.size, hW.trans (h2.mono hW.size)⟩
  have HPu : Hid (∀ v4 w4 W, CRw w3.heap.size w4 v4 ((List.range len).map h) → Below w3.heap.size w3 w4 → Below w4.heap.size w4 W → Calls Try.prog 86 #[v4, .agg #[.int .i64 T.v, .string T.nm, .slice T.a T.len T.cap], .map (some mb)] W fun e w' => ∃ sv cv, e = .returned (.tuple #[.slice sv (putH h len T).1.1.length cv, .int .i64 (putH h len T).2]) ∧ CRw w3.heap.size w' (.slice sv (putH h len T).1.1.length cv) (putH h len T).1.1 ∧ IM w' mb (putH h len T).1.2 ∧ Below mb w3 w') := fun v4 w4 W hC hB hW => by
    have hWw : Below w3.heap.size w3 W := hB.trans (hW.mono hB.size)
    have hTW := HT.out _ (below_after2 HBw3.out hWw)
    have hMW : IM W mb (fun _ => none) := HM3.out.kept (grown_of_below hWw none) (by simp)
    refine (put_all T w3.heap.size mb v4 ((List.range len).map h, fun _ => none) W hTW HOk.out ?_ (hC.below hW) hMW hWw.size (by simp; omega)).mono ?_
    · refine (NM.old (M := MpH mb v4) (w := w) (HT.out w (Below.refl _ _)) fun k hk => ?_)
      rcases hk with e | e
      · omega
      · have := (hC.lt k e).1; omega
    · rintro e w5 ⟨v5, rfl, h1, h2, h3, _⟩
      obtain ⟨sv, cv, hv, _⟩ := CRw.form h1
      subst hv
      refine ⟨sv, cv, rfl, h1, h2, (hWw.mono (by omega)).trans ⟨h3.os, h3.tape, h3.output, h3.size, fun k hk => h3.block k (by have := hWw.size; omega) ?_⟩⟩
      rintro (e | e)
      · omega
      · have := (hC.lt k e).1; omega
  have HK0 := HKp.out w3 (Below.refl _ _)
  obtain ⟨x0, x1, x2⟩ := HK0
  go_region_held3 (fun W => W.cell? ⟨w.heap.size, 0, none⟩ = some (.int .i64 T.v) ∧ W.cell? ⟨w.heap.size, 1, none⟩ = some (.string T.nm) ∧ W.cell? ⟨w.heap.size, 2, none⟩ = some (.slice T.a T.len T.cap)) ((refine HKp.out _ ?_; repeat (first | exact HB5.out | exact HB4m.out | exact Below.refl _ _ | refine Below.drew ?_))) (first
    | (go_at_call 87
       refine (HCl.out _ (by repeat (first | exact Below.refl _ _ | refine Below.drew ?_))).mono ?_
       rintro e w4 ⟨v4, rfl, hC4, hb4⟩
       have HC4 : Hid (CRw w3.heap.size w4 v4 ((List.range len).map h)) := hC4
       have HB4 : Hid (Below w3.heap.size w3 w4) := hb4
       have HB4m : Hid (Below mb w3 w4) := hb4.mono (by omega)
       clear hC4 hb4)
    | (go_at_call 86
       refine (HPu.out v4 w4 _ HC4.out HB4.out (by repeat (first | exact Below.refl _ _ | refine Below.drew ?_))).mono ?_
       rintro e w5 ⟨sv, cv, rfl, hC5, hM5, hb5⟩
       have HC5 : Hid (CRw w3.heap.size w5 (.slice sv (putH h len T).1.1.length cv) (putH h len T).1.1) := hC5
       have HM5 : Hid (IM w5 mb (putH h len T).1.2) := hM5
       have HB5 : Hid (Below mb w3 w5) := hb5
       clear hC5 hM5 hb5))
  all_goals
    have HBw5 : Hid (Below w.heap.size w w5) := HBw3.out.trans (HB5.out.mono (by omega))
    have HWh : Hid (Calls Try.prog 88 #[.map (some mb)] w5 fun e w' => ∃ g, e = .returned (.slice (some ⟨g, 0, none⟩) 12 12) ∧ w'.ownsRow w5.heap.size 3 1 (.slice (some ⟨g, 0, none⟩) 12 12) 12 ((List.range 12).map fun i : Nat => Value.int .i64 (whI (putH h len T).1.2 i)) ∧ Below w5.heap.size w5 w') := where_any w5 HM5.out
    have hs5 := HBw5.out.size
    have hs35 : w.heap.size ≤ w3.heap.size := by omega
    by_cases hbig : 400000 < (putH h len T).1.1.length
    · have hb : decide (((putH h len T).1.1.length : Int) > 400000) = true := decide_eq_true (by omega)
      have HG : Hid (400000 < (putH h len T).1.1.length) := hbig
      go_wp2_with fail
      refine bodyPost_ret (v := .tuple #[.slice none 0 0, .int .i64 0, .slice none 0 0, .int .i64 2]) (by simp [results, Try.results42, go_sem]) rfl ?_
      exact ⟨0, HCk.out, HBw5.out, .inr (.inr ⟨rfl, HT0.out, .inl ⟨HG.out, rfl⟩⟩)⟩
    · have hb : decide (((putH h len T).1.1.length : Int) > 400000) = false := decide_eq_false (by omega)
      have HG : Hid ((putH h len T).1.1.length ≤ 400000) := Nat.le_of_not_lt hbig
      go_wp2_with fail
      refine HWh.out.mono ?_
      rintro e w6 ⟨g, rfl, hO6, hb6⟩
      have HO6 : Hid (w6.ownsRow w.heap.size 3 1 (.slice (some ⟨g, 0, none⟩) 12 12) 12 ((List.range 12).map fun i : Nat => Value.int .i64 (whI (putH h len T).1.2 i))) := ownsRow_mono hO6 hs5
      have HC6 : Hid (CRw w.heap.size w6 (.slice sv (putH h len T).1.1.length cv) (putH h len T).1.1) := ownsRow_mono (HC5.out.below hb6) hs35
      have HB6 : Hid (Below w.heap.size w w6) := below_after2 HBw5.out hb6
      clear hO6 hb6
      go_wp2_with fail
      refine bodyPost_ret (v := .tuple #[.slice sv (putH h len T).1.1.length cv, .int .i64 (putH h len T).2, .slice (some ⟨g, 0, none⟩) 12 12, .int .i64 0]) (by simp [results, Try.results42, go_sem]) rfl ?_
      exact ⟨0, HCk.out, HB6.out, .inr (.inr ⟨rfl, HT0.out, .inr ⟨HG.out, _, g, rfl, HC6.out, HO6.out⟩⟩)⟩
end Go.Proofs.Ytmggaclaoefdaaa
