/- The reference's UnifyOf: what it answers. -/
import Derived.Test.YtmggaclaoefdaaaRfD
namespace Go.Proofs.Ytmggaclaoefdaaa
open Go.RowKit

/-- What UnifyOf says of two terms that are right. -/
def UF (A B : Tm) (w : World) (e : Ending) (w' : World) : Prop := Below w.heap.size w w' ∧ (
    (meetF 4001 σ0 4000 [(A, B)] = .over ∧ e = R4 (.slice none 0 0) false 0 2) ∨
    (∃ k : Nat, k ≤ 4000 ∧ meetF 4001 σ0 4000 [(A, B)] = .no k ∧ e = R4 (.slice none 0 0) false (4000 - (k : Int)) 0) ∨
    (∃ (k : Nat) (σ : Sg), k ≤ 4000 ∧ meetF 4001 σ0 4000 [(A, B)] = .yes k σ ∧ (
      ((∃ i : Nat, i < 12 ∧ roomF σ 200 [vT ((i : Int) + 1)] = none) ∧ e = R4 (.slice none 0 0) false 0 2) ∨
      ((∀ i : Nat, i < 12 → ∃ k, roomF σ 200 [vT ((i : Int) + 1)] = some k) ∧ ∃ (v : Value) (ts : List Tm), LstQ w.heap.size (vT 0) w' v ts ((List.range 12).map fun i : Nat => can (ex σ 200 (vT ((i : Int) + 1)))) ∧ e = R4 v true (4000 - (k : Int)) 0))))
theorem vT_good {w : World} {b m : Nat} {V : Value} {N v : Int} (h0 : 0 ≤ v) (h1 : v ≤ N) : Good w b m V N (vT v) := by
  have hn : ∀ k, NB k (vT v) := fun k => ⟨fun h => absurd h (Nat.lt_irrefl 0), fun i hi => absurd hi (Nat.not_lt_zero i)⟩
  exact ⟨vT_in _ _, vT_ok h0 h1, hn _, hn _, fun g _ => hn g⟩
/-- The state at the beginning. -/
theorem rf_begin {w1 : World} {lo g cap : Nat} (ho : w1.ownsRow lo 24 3 (.slice (some ⟨g, 0, none⟩) 13 cap) 13 (flat (newV 0 13))) (hlo : lo ≤ w1.heap.size) :
    RF (w1.alloc (bxS (.slice (some ⟨g, 0, none⟩) 13 cap) (.int .i64 0))) w1.heap.size 0 bxS lo g cap 12 13 (fun v => vT (((0 : Nat) : Int) + v)) (fun v => vT (((0 : Nat) : Int) + v)) (fun _ => 0) σ0 0 := by
  have hg := (ho.lt g rfl).2
  have hv : ∀ v : Int, (vT (((0 : Nat) : Int) + v)).v = v := fun v => by show ((0 : Nat) : Int) + v = v; omega
  have hok : ∀ v : Int, 0 ≤ v → v ≤ 12 → Okv 12 (vT (((0 : Nat) : Int) + v)) := fun v h0 h1 => vT_ok (by omega) (by omega)
  have hB : Below w1.heap.size w1 (w1.alloc (bxS (.slice (some ⟨g, 0, none⟩) 13 cap) (.int .i64 0))) := (Below.refl _ _).alloc (Nat.le_refl _) _
  refine ⟨⟨bxS_bx, heap_alloc_new _ _, ho.kept (grown_of_below hB none) (.inr (fun e => by cases e)), fun q hq => by obtain rfl := Option.some.inj hq; exact Nat.ne_of_lt hg, hlo⟩, rfl, by decide, fun v h0 h1 => ⟨hok v (by omega) h1, .inl ⟨hv v, hv v⟩⟩, rel0 12 _ (fun v h0 h1 => ⟨hv v, hok v (by omega) h1⟩), fun v U h => by simp [σ0] at h, fun v U h => by simp [σ0] at h, fun v h0 h1 => vT_good (by omega) (by omega)⟩
theorem made13 : (madeCells (Value.int .i64 0).cells (13 * 1)).toList = (List.range 13).map fun _ : Nat => Value.int .i64 0 := by kernel_rfl
theorem ob_eq {g q len cap : Nat} (h : (Value.slice (some ⟨g, 0, none⟩) len cap).ownBlock = some q) : q = g := (Option.some.inj h).symm
theorem gf_below {lo b : Nat} {V : Value} {w w1 w2 : World} (hB : Below lo w w1) (hl : lo ≤ w1.heap.size) (h : GF b b V w1 w2) (hb : lo ≤ b) (hv : ∀ g, V.ownBlock = some g → lo ≤ g) : Below lo w w2 :=
  ⟨h.os.trans hB.os, h.tape.trans hB.tape, h.output.trans hB.output, Nat.le_trans hB.size h.size, fun k hk => (h.block k (by omega) (by omega) (by omega) (fun g hg e => by have := hv g hg; omega)).trans (hB.block k hk)⟩
theorem nmD_set {ρ : Int → Tm} {k : Nat} {n : Nat} (hn : (ρ (12 - (k : Int))).v = n) (h0 : n ≠ 0) : ((List.range 13).map fun i : Nat => Value.int .i64 (nmD ρ 12 k (i : Int))).set n (.int .i64 (12 - (k : Int))) = (List.range 13).map fun i : Nat => Value.int .i64 (nmD ρ 12 (k + 1) (i : Int)) := by
  refine List.ext_getElem (by simp) fun i h1 h2 => ?_
  rw [List.getElem_set]
  simp only [List.getElem_map, List.getElem_range]
  show _ = Value.int .i64 (if (ρ (12 - (k : Int))).v ≠ 0 ∧ (i : Int) = (ρ (12 - (k : Int))).v then 12 - (k : Int) else nmD ρ 12 k (i : Int))
  rw [hn]
  by_cases e : n = i
  · rw [if_pos e, if_pos ⟨by omega, by omega⟩]
  · rw [if_neg e, if_neg (fun h => e (by omega))]
theorem nmD_same {ρ : Int → Tm} {k : Nat} (h0 : (ρ (12 - (k : Int))).v = 0) : nmD ρ 12 (k + 1) = nmD ρ 12 k := by
  funext u
  show (if (ρ (12 - (k : Int))).v ≠ 0 ∧ u = (ρ (12 - (k : Int))).v then 12 - (k : Int) else nmD ρ 12 k u) = _
  rw [if_neg (fun h => h.1 h0)]
/-- A number stored into a list of numbers. -/
theorem owns_set1 {w : World} {lo g cap n : Nat} {t : TypeId} {xs : List Value} (h : w.ownsRow lo t 1 (.slice (some ⟨g, 0, none⟩) n cap) n xs) (i : Nat) (x : Value) :
    (w.setCell ⟨g, i, none⟩ x).ownsRow lo t 1 (.slice (some ⟨g, 0, none⟩) n cap) n (xs.set i x) := by
  obtain ⟨h1, h2⟩ := h
  rcases h2 with ⟨h2, _⟩ | ⟨g', cap', cur, hv, hlo, hg, hnc, hcm, hsz, htk⟩
  · cases h2
  cases hv
  refine ⟨by simp [h1], .inr ⟨g, cap, cur.setIfInBounds i x, rfl, hlo, ?_, hnc, hcm, by simp [hsz], ?_⟩⟩
  · simp only [World.setCell, Array.getElem?_modify]
    simp [hg]
  · rw [← htk]
    simp [List.take_set]
set_option maxRecDepth 100000 in
set_option maxHeartbeats 8000000 in
theorem unifyOf_any (A B : Tm) (w : World) (hA : TIn w A) (hB : TIn w B) (hOA : Okv 12 A) (hOB : Okv 12 B) :
    Calls Try.prog 22 #[A.val, B.val] w (UF A B w) := by
  have HA : Hid (TIn w A ∧ TIn w B ∧ Okv 12 A ∧ Okv 12 B) := ⟨hA, hB, hOA, hOB⟩
  clear hA hB hOA hOB
  show Calls Try.prog 22 #[.agg #[.int .i64 A.v, .string A.nm, .slice A.a A.len A.cap], .agg #[.int .i64 B.v, .string B.nm, .slice B.a B.len B.cap]] w _
  go_enter Try.func22, Try.ntmps22
  go_wp2_with fail
  have HX0 := alloc2 w (.cells #[.int .i64 A.v, .string A.nm, .slice A.a A.len A.cap] 24) (.cells #[.int .i64 B.v, .string B.nm, .slice B.a B.len B.cap] 24)
  have hBx : Below w.heap.size w ((w.alloc (.cells #[.int .i64 A.v, .string A.nm, .slice A.a A.len A.cap] 24)).alloc (.cells #[.int .i64 B.v, .string B.nm, .slice B.a B.len B.cap] 24)) := below_alloc (below_alloc (Below.refl _ _) _) _
  generalize (w.alloc (.cells #[.int .i64 A.v, .string A.nm, .slice A.a A.len A.cap] 24)).alloc (.cells #[.int .i64 B.v, .string B.nm, .slice B.a B.len B.cap] 24) = wx at *
  refine (begin_any wx).mono ?_
  rintro e w1 ⟨g, cap, rfl, ho, hb1⟩
  have hgl : wx.heap.size ≤ g := (ho.lt g rfl).1
  have hB1 : Below w.heap.size w w1 := below_after hBx hb1
  have HRF := rf_begin ho hb1.size
  have hsx : w.heap.size ≤ wx.heap.size := hBx.size
  have hs1 : wx.heap.size ≤ w1.heap.size := hb1.size
  have hwx2 : w.heap.size + 1 < wx.heap.size := (Array.getElem?_eq_some_iff.1 HX0.2).1
  have h0 := (hb1.block _ (by omega)).trans HX0.1
  have h1 := (hb1.block _ (by omega)).trans HX0.2
  obtain ⟨x0, x1, x2, _, _, _⟩ := block_cells h0
  obtain ⟨y0, y1, y2, _, _, _⟩ := block_cells h1
  have HH0 : Hid (w1.heap[w.heap.size]? = some (.cells #[.int .i64 A.v, .string A.nm, .slice A.a A.len A.cap] 24)) := h0
  have HH1 : Hid (w1.heap[w.heap.size + 1]? = some (.cells #[.int .i64 B.v, .string B.nm, .slice B.a B.len B.cap] 24)) := h1
  have HB1 : Hid (Below w.heap.size w w1) := hB1
  have HRF0 : Hid (RF (w1.alloc (.cells #[.slice (some ⟨g, 0, none⟩) 13 cap, .int .i64 0] 94)) w1.heap.size 0 bxS wx.heap.size g cap 12 13 (fun v => vT (((0 : Nat) : Int) + v)) (fun v => vT (((0 : Nat) : Int) + v)) (fun _ => 0) σ0 (4000 - ((4000 : Nat) : Int))) := HRF
  have hbs : w.heap.size < w1.heap.size := by omega
  have hbs1 : w.heap.size + 1 < w1.heap.size := by omega
  clear ho hb1 HRF HX0 h0 h1 hB1 hBx
  have HBs : Hid (Below w.heap.size w (w1.alloc (.cells #[.slice (some ⟨g, 0, none⟩) 13 cap, .int .i64 0] 94))) := below_alloc HB1.out _
  have HGA : Hid (Good (w1.alloc (.cells #[.slice (some ⟨g, 0, none⟩) 13 cap, .int .i64 0] 94)) w1.heap.size w1.heap.size (.slice (some ⟨g, 0, none⟩) 13 cap) 12 A ∧ Good (w1.alloc (.cells #[.slice (some ⟨g, 0, none⟩) 13 cap, .int .i64 0] 94)) w1.heap.size w1.heap.size (.slice (some ⟨g, 0, none⟩) 13 cap) 12 B) :=
    ⟨⟨HA.out.1.below HBs.out, HA.out.2.2.1, HA.out.1.nb (by omega), HA.out.1.nb (by omega), fun q hq => by have := ob_eq hq; exact HA.out.1.nb (by omega)⟩, ⟨HA.out.2.1.below HBs.out, HA.out.2.2.2, HA.out.2.1.nb (by omega), HA.out.2.1.nb (by omega), fun q hq => by have := ob_eq hq; exact HA.out.2.1.nb (by omega)⟩⟩
  have HMeet := meet_any 4000 A B _ HRF0.out (Nat.le_refl _) HGA.out.1 HGA.out.2
  have HMc : Hid (Calls Try.prog 66 #[.pointer (some ⟨w1.heap.size, 0, none⟩), .agg #[.int .i64 A.v, .string A.nm, .slice A.a A.len A.cap], .agg #[.int .i64 B.v, .string B.nm, .slice B.a B.len B.cap]] (w1.alloc (.cells #[.slice (some ⟨g, 0, none⟩) 13 cap, .int .i64 0] 94)) (MP (w1.alloc (.cells #[.slice (some ⟨g, 0, none⟩) 13 cap, .int .i64 0] 94)) w1.heap.size 0 bxS wx.heap.size g cap 12 13 σ0 4000 A B)) := HMeet
  clear HMeet
  go_wp2_with fail
  refine HMc.out.mono ?_
  rintro e w2 ⟨hG2, h⟩
  have HB2 : Hid (Below w.heap.size w w2) := gf_below HBs.out HBs.out.size hG2 (by omega) (fun q hq => by have := ob_eq hq; omega)
  have hs2 : w1.heap.size + 1 ≤ w2.heap.size := by have := hG2.size; simpa using this
  clear hG2 x0 x1 x2 y0 y1 y2
  rcases h with ⟨rfl, hm⟩ | ⟨k, hk, rfl, hm, τ', ρ', r', σ', hR⟩ | ⟨k, σ', hk, rfl, hm, τ', ρ', r', hR⟩
  · have HM : Hid (meetF 4001 σ0 4000 [(A, B)] = .over) := hm 4001 (by omega)
    clear hm
    go_wp2_with fail
    refine bodyPost_ret (v := .tuple #[.slice none 0 0, .bool false, .int .i64 0, .int .i64 2]) ?_ rfl ⟨HB2.out, .inl ⟨HM.out, rfl⟩⟩
    simp [results, Try.results22, go_sem]
  · have HM : Hid (meetF 4001 σ0 4000 [(A, B)] = .no k) := hm 4001 (by omega)
    have s1 := hR.st.bx.c1 _ _ _ _ hR.blk
    rw [Nat.zero_add] at s1
    clear hm hR
    go_wp2_with fail
    go_quiet (fail)
    go_wp2_with fail
    refine bodyPost_ret (v := .tuple #[.slice none 0 0, .bool false, .int .i64 (4000 - (k : Int)), .int .i64 0]) ?_ rfl ⟨below_drewN2 HB2.out nq, .inr (.inl ⟨k, hk, HM.out, rfl⟩)⟩
    simp [results, Try.results22, go_sem]
  have HM : Hid (meetF 4001 σ0 4000 [(A, B)] = .yes k σ') := hm 4001 (by omega)
  have HR : Hid (RF w2 w1.heap.size 0 bxS wx.heap.size g cap 12 13 τ' ρ' r' σ' (4000 - (k : Int))) := hR
  clear hm hR
  obtain ⟨j0, hj, hj0, hj1, hj2⟩ := info_parts Try.info3
  obtain ⟨i0, hi, hz0, hz1, hz2⟩ := info_parts Try.info24
  have hz13 : (madeCells (Value.int .i64 0).cells (13 * 1)).toList = (List.range 13).map fun i : Nat => Value.int .i64 (nmD ρ' 12 0 (i : Int)) := made13
  go_wp2_with (at_make; refine wpList_make_full _ rfl _ _ 56 rfl w2.heap.size 3 j0 (.int .i64 0) 1 Try.underlying56 hj hj0 hj1 _ _ _ _ 13 rfl rfl rfl rfl (by rw [hj2]; decide) (by decide) (Nat.le_refl _) ?_; intro w3 ho3 hg3; rw [hz13] at ho3; have HO3 : Hid (w3.ownsRow w2.heap.size 3 1 (.slice (some ⟨w2.heap.size, 0, none⟩) 13 13) 13 ((List.range 13).map fun i : Nat => Value.int .i64 (nmD ρ' 12 0 (i : Int)))) := ho3; have HB3 : Hid (Below w2.heap.size w2 w3) := ⟨hg3.os, hg3.tape, hg3.output, hg3.size, fun k hk => hg3.block k hk (by simp)⟩; clear ho3 hg3 hz13)
  go_loopw [10] (fun i wr => ∃ n : Nat, n ≤ 12 ∧ i = .int .i64 (12 - (n : Int)) ∧ wr.ownsRow w2.heap.size 3 1 (.slice (some ⟨w2.heap.size, 0, none⟩) 13 13) 13 ((List.range 13).map fun i : Nat => Value.int .i64 (nmD ρ' 12 n (i : Int))) ∧ Below w2.heap.size w2 wr) (fun i _ => (intOf i).toNat)
  case atStart => exact ⟨0, Nat.zero_le _, rfl, HO3.out, HB3.out⟩
  case round =>
    obtain ⟨n, hn, rfl, hO, hBr⟩ := hrel
    have HO : Hid (wr.ownsRow w2.heap.size 3 1 (.slice (some ⟨w2.heap.size, 0, none⟩) 13 13) 13 ((List.range 13).map fun i : Nat => Value.int .i64 (nmD ρ' 12 n (i : Int)))) := hO
    have HBr : Hid (Below w2.heap.size w2 wr) := hBr
    have hsr := hBr.size
    clear hO hBr HO3 HB3
    by_cases hn12 : n < 12
    · have hge : decide ((12 : Int) - (n : Int) ≥ 1) = true := decide_eq_true (by omega)
      have hge2 : (1 : Int) ≤ 12 - (n : Int) := by omega
      have HLook : Hid (Calls Try.prog 67 #[.pointer (some ⟨w1.heap.size, 0, none⟩), .agg #[.int .i64 (12 - (n : Int)), .string ⟨#[]⟩, .slice none 0 0]] wr fun e w' => ∃ Y : Tm, e = .returned (.agg #[.int .i64 Y.v, .string Y.nm, .slice Y.a Y.len Y.cap]) ∧ Below wr.heap.size wr w' ∧ Lk 12 ρ' (vT (12 - (n : Int))) Y) := (lookAt_agg (vT (12 - (n : Int))) wr (HR.out.below HBr.out).by HR.out.ch (vT_ok (by omega) (by omega))).mono fun e w' ⟨Y, h1, h2, h3, _⟩ => ⟨Y, h1, h2, h3⟩
      go_wp2_with fail
      refine HLook.out.mono ?_
      rintro e w4 ⟨Y, rfl, hb4, hLk⟩
      have hYv : Y.v = (ρ' (12 - (n : Int))).v := by
        rw [hLk.1]
        show (if (12 - (n : Int)) = 0 then vT (12 - (n : Int)) else ρ' (12 - (n : Int))).v = _
        rw [if_neg (by omega)]
      have hYt := hLk.2.2.top
      have HB5 : Hid (Below wr.heap.size wr (w4.alloc (.cells #[.int .i64 Y.v, .string Y.nm, .slice Y.a Y.len Y.cap] 24))) := below_alloc hb4 _
      have HO5 : Hid ((w4.alloc (.cells #[.int .i64 Y.v, .string Y.nm, .slice Y.a Y.len Y.cap] 24)).ownsRow w2.heap.size 3 1 (.slice (some ⟨w2.heap.size, 0, none⟩) 13 13) 13 ((List.range 13).map fun i : Nat => Value.int .i64 (nmD ρ' 12 n (i : Int)))) := HO.out.kept (grown_of_below HB5.out none) (.inr (fun e => by cases e))
      have hgs : w2.heap.size < wr.heap.size := (HO.out.lt _ rfl).2
      have hs4 : wr.heap.size ≤ w4.heap.size := hb4.size
      by_cases hY0 : Y.v = 0
      · have e0 : (Y.v != 0) = false := by rw [hY0]; rfl
        have HE : Hid (nmD ρ' 12 (n + 1) = nmD ρ' 12 n) := nmD_same (by rw [← hYv]; exact hY0)
        clear hYv hYt hY0 hLk hb4
        go_wp2_with fail
        go_roundw
        case rel => exact ⟨n + 1, by omega, by go_num, by rw [HE.out]; exact HO5.out, below_after HBr.out HB5.out⟩
        case measure => simp [intOf]; omega
      · have e0 : (Y.v != 0) = true := bne_iff_ne.2 hY0
        obtain ⟨q, hq⟩ : ∃ q : Nat, Y.v = q := ⟨Y.v.toNat, by omega⟩
        have hq13 : q < 13 := by omega
        have hqI : (q : Int) < 13 := by omega
        have HS : Hid ((((List.range 13).map fun i : Nat => Value.int .i64 (nmD ρ' 12 n (i : Int))).set q (.int .i64 (12 - (n : Int)))) = (List.range 13).map fun i : Nat => Value.int .i64 (nmD ρ' 12 (n + 1) (i : Int))) := nmD_set (by rw [← hYv]; exact hq) (by omega)
        obtain ⟨z, hz⟩ : ∃ z, (w4.alloc (.cells #[.int .i64 q, .string Y.nm, .slice Y.a Y.len Y.cap] 24)).cell? ⟨w2.heap.size, q, none⟩ = some z := by
          have := HO5.out.cellAt q (by omega)
          rw [hq] at this
          exact ⟨_, this.trans (List.getElem?_eq_getElem (by simp; omega))⟩
        have hfz : (w4.alloc (.cells #[.int .i64 q, .string Y.nm, .slice Y.a Y.len Y.cap] 24)).frozen? ⟨w2.heap.size, q, none⟩ = false := by
          rcases HO5.out.2 with ⟨h', _⟩ | ⟨g', cap', cur, h', _, hg', _⟩
          · cases h'
          · cases h'
            rw [hq] at hg'
            simp [World.frozen?, hg']
        replace HB5 : Hid (Below wr.heap.size wr (w4.alloc (.cells #[.int .i64 q, .string Y.nm, .slice Y.a Y.len Y.cap] 24))) := by rw [← hq]; exact HB5.out
        replace HO5 : Hid ((w4.alloc (.cells #[.int .i64 q, .string Y.nm, .slice Y.a Y.len Y.cap] 24)).ownsRow w2.heap.size 3 1 (.slice (some ⟨w2.heap.size, 0, none⟩) 13 13) 13 ((List.range 13).map fun i : Nat => Value.int .i64 (nmD ρ' 12 n (i : Int)))) := by rw [← hq]; exact HO5.out
        rw [hq] at e0 ⊢
        clear hYv hYt hY0 hLk hb4 hq
        go_wp2_with fail
        have hO6 := owns_set1 HO5.out q (.int .i64 (12 - (n : Int)))
        rw [HS.out] at hO6
        have hB6 : Below w2.heap.size w2 ((w4.alloc (.cells #[.int .i64 q, .string Y.nm, .slice Y.a Y.len Y.cap] 24)).setCell ⟨w2.heap.size, q, none⟩ (.int .i64 (12 - (n : Int)))) := below_set (below_after HBr.out HB5.out) (Nat.le_refl _)
        go_roundw
        case rel => exact ⟨n + 1, by omega, by go_num, hO6, hB6⟩
        case measure => simp [intOf]; omega
    have hn0 : (12 : Int) - (n : Int) = 0 := by omega
    rw [hn0]
    clear hn0
    obtain rfl : n = 12 := by omega
    have HNm : Hid (NmIs wr w2.heap.size 0 13 (nmD ρ' 12 12)) := fun i hi => by
      rw [Nat.zero_add]
      refine (HO.out.cellAt i (by omega)).trans ?_
      rw [List.getElem?_eq_getElem (by simpa using hi)]
      simp
    have HRn : Hid (RF wr w1.heap.size 0 bxS wx.heap.size g cap 12 13 τ' ρ' r' σ' (4000 - (k : Int))) := HR.out.below HBr.out
    have HRen : Hid (Ren 12 σ' ρ' (nmD ρ' 12 12)) := nmD_ren HR.out.rel HR.out.dec HR.out.ok (by decide)
    have HBn : Hid (Below w.heap.size w wr) := below_after HB2.out HBr.out
    have hwn : w.heap.size ≤ wr.heap.size := HBn.out.size
    clear HO HBr hn
    generalize wr = wn at *
    go_wp2_with fail
    go_loopw [12, 13] (fun v i wr => ∃ (j : Nat) (ts : List Tm), j ≤ 12 ∧ i = .int .i64 ((j : Int) + 1) ∧ LstQ wn.heap.size (vT 0) wr v ts ((List.range j).map fun i : Nat => can (ex σ' 200 (vT ((i : Int) + 1)))) ∧ ts.length = j ∧ (∀ i : Nat, i < j → ∃ k, roomF σ' 200 [vT ((i : Int) + 1)] = some k) ∧ Below wn.heap.size wn wr) (fun _ i _ => 13 - (intOf i).toNat)
    case atStart => exact ⟨0, [], Nat.zero_le _, rfl, ⟨World.ownsRow_nil _ _ _ _, fun c hc => absurd hc (by simp), rfl, fun i hi => absurd hi (Nat.not_lt_zero i)⟩, rfl, fun i hi => absurd hi (Nat.not_lt_zero i), Below.refl _ _⟩
    case round =>
      obtain ⟨j, ts, hj, rfl, hL, hTL, hRoom, hBr⟩ := hrel
      have HL : Hid (LstQ wn.heap.size (vT 0) wr u12 ts ((List.range j).map fun i : Nat => can (ex σ' 200 (vT ((i : Int) + 1))))) := hL
      have HTL : Hid (ts.length = j) := hTL
      have HRm : Hid (∀ i : Nat, i < j → ∃ k, roomF σ' 200 [vT ((i : Int) + 1)] = some k) := hRoom
      have HBr : Hid (Below wn.heap.size wn wr) := hBr
      have hts : ts.length ≤ 12 := by omega
      have hsr := hBr.size
      have HRr : Hid (RF wr w1.heap.size 0 bxS wx.heap.size g cap 12 13 τ' ρ' r' σ' (4000 - (k : Int))) := HRn.out.below hBr
      clear hL hTL hRoom hBr
      by_cases hlt : j < 12
      case neg =>
        obtain rfl : j = 12 := by omega
        have s1 := HRr.out.st.bx.c1 _ _ _ _ HRr.out.blk
        rw [Nat.zero_add] at s1
        have HLw : Hid (LstQ w.heap.size (vT 0) wr u12 ts ((List.range 12).map fun i : Nat => can (ex σ' 200 (vT ((i : Int) + 1))))) := ⟨ownsRow_mono HL.out.own hwn, fun T hT => ⟨(HL.out.all T hT).1, fun q hq => (HL.out.all T hT).2.1 q (by omega), (HL.out.all T hT).2.2⟩, HL.out.len, HL.out.sim⟩
        have HBf : Hid (Below w.heap.size w wr) := below_after HBn.out HBr.out
        go_wp2_with fail
        go_quiet (fail)
        go_wp2_with fail
        have HBq : Hid (Below wr.heap.size wr (wr.drewN nq)) := below_drewN2 (Below.refl _ _) nq
        refine bodyPost_ret (v := .tuple #[u12, .bool true, .int .i64 (4000 - (k : Int)), .int .i64 0]) ?_ rfl ⟨below_after HBf.out HBq.out, .inr (.inr ⟨k, σ', hk, HM.out, .inr ⟨HRm.out, u12, ts, HLw.out.keep HBq.out, rfl⟩⟩)⟩
        simp [results, Try.results22, go_sem]
      have hle : decide ((j : Int) + 1 ≤ 12) = true := decide_eq_true (by omega)
      have hle2 : (j : Int) + 1 ≤ 12 := by omega
      have HFull : Hid (Calls Try.prog 68 #[.pointer (some ⟨w1.heap.size, 0, none⟩), .agg #[.int .i64 ((j : Int) + 1), .string ⟨#[]⟩, .slice none 0 0], .int .i64 200] wr (FP 12 σ' ρ' 200 (vT ((j : Int) + 1)) wr)) :=
        full_all 200 w1.heap.size 0 g 0 cap 12 13 τ' ρ' r' σ' (vT ((j : Int) + 1)) wr HRr.out.by HRr.out.ch (fun v h0 h1 => (HRr.out.trm v (by omega) h1).1) HRr.out.rel HRr.out.ok (Nat.le_refl _) (vT_ok (by omega) (by omega)) (vT_in _ _)
      go_wp2_with fail
      refine HFull.out.mono ?_
      rintro e w6 ⟨hb6, h⟩
      have HB6 : Hid (Below wr.heap.size wr w6) := hb6
      have hs6 : wr.heap.size ≤ w6.heap.size := hb6.size
      rcases h with ⟨X, n, rfl, hn1, hn2, hX, hXO, hXN, hXR, hXV⟩ | ⟨n, rfl, hn, hno⟩
      case inr =>
        rw [show T3 (vT 0) n false = .returned (.tuple #[.agg #[.int .i64 0, .string ⟨#[]⟩, .slice none 0 0], .int .i64 n, .bool false]) from rfl]
        have HNo : Hid (roomF σ' 200 [vT ((j : Int) + 1)] = none) := hno []
        have HBf : Hid (Below w.heap.size w (w6.alloc (.cells #[.int .i64 0, .string ⟨#[]⟩, .slice none 0 0] 24))) := below_alloc (below_after (below_after HBn.out HBr.out) HB6.out) _
        clear hno hb6
        go_wp2_with fail
        refine bodyPost_ret (v := .tuple #[.slice none 0 0, .bool false, .int .i64 0, .int .i64 2]) ?_ rfl ⟨HBf.out, .inr (.inr ⟨k, σ', hk, HM.out, .inl ⟨⟨j, hlt, HNo.out⟩, rfl⟩⟩)⟩
        simp [results, Try.results22, go_sem]
      rw [show T3 X n true = .returned (.tuple #[.agg #[.int .i64 X.v, .string X.nm, .slice X.a X.len X.cap], .int .i64 n, .bool true]) from rfl]
      have HRj : Hid (roomF σ' 200 [vT ((j : Int) + 1)] = some (200 - n)) := by rw [Hid, hXR []]; exact roomF_nil _ _
      have HXV : Hid (ap (nmOf (nmD ρ' 12 12)) X = can (ex σ' 200 (vT ((j : Int) + 1)))) := hXV _ HRen.out 200 (Nat.le_refl _)
      have HBa : Hid (Below wr.heap.size wr (w6.alloc (.cells #[.int .i64 X.v, .string X.nm, .slice X.a X.len X.cap] 24))) := below_alloc hb6 _
      have HNamed : Hid (Calls Try.prog 69 #[.agg #[.int .i64 X.v, .string X.nm, .slice X.a X.len X.cap], .slice (some ⟨w2.heap.size, 0, none⟩) 13 13] (w6.alloc (.cells #[.int .i64 X.v, .string X.nm, .slice X.a X.len X.cap] 24)) (NP (nmD ρ' 12 12) X (w6.alloc (.cells #[.int .i64 X.v, .string X.nm, .slice X.a X.len X.cap] 24)))) :=
        named_all 12 X w2.heap.size 0 13 13 (nmD ρ' 12 12) _ (HNm.out.below (below_after HBr.out HBa.out)) (by decide) (by decide) (hX.below ((Below.refl _ _).alloc (Nat.le_refl _) _)) hXO
      clear hX hXO hXN hXR hXV hb6
      go_wp2_with fail
      refine HNamed.out.mono ?_
      rintro e w7 ⟨Z, rfl, hb7, hZ, hZc, hZN⟩
      rw [show Z.val = .agg #[.int .i64 Z.v, .string Z.nm, .slice Z.a Z.len Z.cap] from rfl]
      have HB7 : Hid (Below wr.heap.size wr w7) := below_after HBa.out hb7
      have hs7 : wr.heap.size ≤ w7.heap.size := HB7.out.size
      have HB8 : Hid (Below wn.heap.size wn (w7.alloc (.cells #[.int .i64 Z.v, .string Z.nm, .slice Z.a Z.len Z.cap] 24))) := below_alloc (below_after HBr.out HB7.out) _
      have HL8 : Hid (LstQ wn.heap.size (vT 0) (w7.alloc (.cells #[.int .i64 Z.v, .string Z.nm, .slice Z.a Z.len Z.cap] 24)) u12 ts ((List.range j).map fun i : Nat => can (ex σ' 200 (vT ((i : Int) + 1))))) := (HL.out.keep HB7.out).keep ((Below.refl _ _).alloc (Nat.le_refl _) _)
      have HZ8 : Hid (TIn (w7.alloc (.cells #[.int .i64 Z.v, .string Z.nm, .slice Z.a Z.len Z.cap] 24)) Z ∧ (∀ q, q < wr.heap.size → NB q Z) ∧ can Z = can (ex σ' 200 (vT ((j : Int) + 1)))) := ⟨hZ.below ((Below.refl _ _).alloc (Nat.le_refl _) _), fun q hq => hZN q (by have := HBa.out.size; omega) (nb0 q), hZc.trans HXV.out⟩
      have HN8 : Hid (∀ j u, (flat [Z])[j]? = some u → (w7.alloc (.cells #[.int .i64 Z.v, .string Z.nm, .slice Z.a Z.len Z.cap] 24)).cell? ((⟨w7.heap.size, 0, none⟩ : Addr).add j) = some u) := news1 w7 Z
      have hsz8 : wn.heap.size ≤ (w7.alloc (.cells #[.int .i64 Z.v, .string Z.nm, .slice Z.a Z.len Z.cap] 24)).heap.size := HB8.out.size
      clear hb7 hZ hZc hZN
      go_wp2_with (at_builtin; refine wpList_append_own_at _ rfl (.tmp 56) (.tmp 60) 22 rfl wn.heap.size 24 i0 (.agg #[.int .i64 0, .string ByteArray.empty, .slice none 0 0]) 3 48 Try.underlying22 hi hz0 hz1 hz2 rfl (by decide) u12 ts.length (flat ts) rfl HL8.out.own ⟨w7.heap.size, 0, none⟩ 1 1 (flat [Z]) rfl rfl HN8.out (flat_one _) (by unfold maxLen; omega) (by omega) hsz8 ?_; intro v' w9 hown' hgrow hnil hat)
      have HB9 : Hid (Below wn.heap.size wn w9) := HB8.out.grown hgrow hsz8 (fun q hq => (HL8.out.own.lt q hq).1)
      have HL9 : Hid (LstQ wn.heap.size (vT 0) w9 v' (ts ++ [Z]) ((List.range (j + 1)).map fun i : Nat => can (ex σ' 200 (vT ((i : Int) + 1))))) := by
        rw [Hid, List.range_succ, List.map_append]
        exact HL8.out.more HZ8.out.1 (fun q hq _ => HZ8.out.2.1 q (by omega)) (fun q hq => HZ8.out.2.1 q (HL.out.own.lt q hq).2) HZ8.out.2.2 hown' hgrow hat
      have HR9 : Hid (∀ i : Nat, i < j + 1 → ∃ k, roomF σ' 200 [vT ((i : Int) + 1)] = some k) := fun i hi => by
        by_cases h : i < j
        · exact HRm.out i h
        · obtain rfl : i = j := by omega
          exact ⟨_, HRj.out⟩
      have hl9 : (ts ++ [Z]).length = j + 1 := by rw [List.length_append, HTL.out]; rfl
      clear hown' hgrow hnil hat
      go_roundw
      case rel => exact ⟨j + 1, ts ++ [Z], by omega, by go_num, HL9.out, hl9, HR9.out, HB9.out⟩
      case measure => simp [intOf]; omega
end Go.Proofs.Ytmggaclaoefdaaa
