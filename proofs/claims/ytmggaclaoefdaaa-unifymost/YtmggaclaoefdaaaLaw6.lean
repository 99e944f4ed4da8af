/- The law UnifyMost, walked. -/
import Derived.Test.YtmggaclaoefdaaaUni6
namespace Go.Proofs.Ytmggaclaoefdaaa
open Go.RowKit

theorem below_drewN {b : Nat} {w w' : World} (h : Below b w w') (n : Nat) : Below b w (w'.drewN n) := by
  induction n with
  | zero => exact h
  | succ n ih => exact ih.drew

set_option maxRecDepth 100000 in
set_option maxHeartbeats 16000000 in
theorem law6 (A B Y : Tm) (w : World) (hA : TIn w A) (hB : TIn w B) (hY : TIn w Y) :
    Calls Try.prog 5 #[A.val, B.val, .slice Y.a Y.len Y.cap] w fun e w' => e = .returned (.bool true) ∧ Below w.heap.size w w' := by
  have HIn : Hid (∀ W, Below w.heap.size w W → TIn W A ∧ TIn W B ∧ TIn W Y) := fun W hW => ⟨hA.below hW, hB.below hW, hY.below hW⟩
  have HRow : Hid (∀ i, i < Y.len → ∀ W, Below w.heap.size w W → RowAt W Y.a i (Y.f i)) := fun i hi W hW => (hY.row hi).below hW
  have hyl : Y.len ≤ 2 ^ 63 - 1 := hY.len
  clear hA hB hY
  show Calls Try.prog 5 #[.agg #[.int .i64 A.v, .string A.nm, .slice A.a A.len A.cap], .agg #[.int .i64 B.v, .string B.nm, .slice B.a B.len B.cap], .slice Y.a Y.len Y.cap] w _
  go_enter Try.func5, Try.ntmps5
  go_wp2_with fail
  have HBx : Hid (Below w.heap.size w ((w.alloc (.cells #[.int .i64 A.v, .string A.nm, .slice A.a A.len A.cap] 24)).alloc (.cells #[.int .i64 B.v, .string B.nm, .slice B.a B.len B.cap] 24))) := ((Below.refl _ _).alloc (Nat.le_refl _) _).alloc (by simp) _
  have HX0 : Hid (((w.alloc (.cells #[.int .i64 A.v, .string A.nm, .slice A.a A.len A.cap] 24)).alloc (.cells #[.int .i64 B.v, .string B.nm, .slice B.a B.len B.cap] 24)).heap[w.heap.size]? = some (.cells #[.int .i64 A.v, .string A.nm, .slice A.a A.len A.cap] 24)) := by
    rw [Hid, heap_alloc_old _ _ (by simp)]; exact heap_alloc_new w _
  have HT0 : Hid (((w.alloc (.cells #[.int .i64 A.v, .string A.nm, .slice A.a A.len A.cap] 24)).alloc (.cells #[.int .i64 B.v, .string B.nm, .slice B.a B.len B.cap] 24)).heap[w.heap.size + 1]? = some (.cells #[.int .i64 B.v, .string B.nm, .slice B.a B.len B.cap] 24)) := by
    have := heap_alloc_new (w.alloc (.cells #[.int .i64 A.v, .string A.nm, .slice A.a A.len A.cap] 24)) (.cells #[.int .i64 B.v, .string B.nm, .slice B.a B.len B.cap] 24)
    rwa [show (w.alloc (.cells #[.int .i64 A.v, .string A.nm, .slice A.a A.len A.cap] 24)).heap.size = w.heap.size + 1 from by simp] at this
  generalize ((w.alloc (.cells #[.int .i64 A.v, .string A.nm, .slice A.a A.len A.cap] 24)).alloc (.cells #[.int .i64 B.v, .string B.nm, .slice B.a B.len B.cap] 24)) = wb at *
  have hsb : w.heap.size + 1 < wb.heap.size := (Array.getElem?_eq_some_iff.1 HT0.out).1
  have HCx : Hid (∀ W, Below wb.heap.size wb W → W.heap[w.heap.size]? = some (.cells #[.int .i64 A.v, .string A.nm, .slice A.a A.len A.cap] 24) ∧ W.heap[w.heap.size + 1]? = some (.cells #[.int .i64 B.v, .string B.nm, .slice B.a B.len B.cap] 24)) := fun W hW => ⟨(hW.block _ (by omega)).trans HX0.out, (hW.block _ (by omega)).trans HT0.out⟩
  refine (begunU wb).mono ?_
  rintro e w1 ⟨rfl, hb1⟩
  have HB1 : Hid (Below wb.heap.size wb w1) := hb1
  obtain ⟨x0, x1, x2, f0, f1, f2⟩ := block_cells (HCx.out _ hb1).1
  obtain ⟨t0, t1, t2, g0, g1, g2⟩ := block_cells (HCx.out _ hb1).2
  clear hb1
  have HUn : Hid (Calls Try.prog 21 #[.agg #[.int .i64 A.v, .string A.nm, .slice A.a A.len A.cap], .agg #[.int .i64 B.v, .string B.nm, .slice B.a B.len B.cap]] w1 (UP A B w1)) := unify_any A B w1 (HIn.out _ (HBx.out.trans (HB1.out.mono HBx.out.size))).1 (HIn.out _ (HBx.out.trans (HB1.out.mono HBx.out.size))).2.1
  go_wp2_with fail
  refine HUn.out.mono ?_
  intro e wU h
  obtain ⟨hbU, h⟩ := h.split
  have HU : Hid (Below wb.heap.size wb wU) := HB1.out.trans (hbU.mono HB1.out.size)
  clear x0 x1 x2 f0 f1 f2 t0 t1 t2 g0 g1 g2 hbU
  generalize hua : Y.a = ua at *
  rcases h with ⟨c, hc, rfl⟩ | ⟨n, rfl, hNo⟩ | ⟨Q, n, rfl, hQl, hQ, hYes⟩
  · have hcb : (c != 0) = true := bne_iff_ne.2 hc
    rw [show R4 (.slice none 0 0) false 0 c = .returned (.tuple #[.slice none 0 0, .bool false, .int .i64 0, .int .i64 c]) from rfl]
    clear hc
    go_wp2_with fail
    go_ret
    exact ⟨rfl, HBx.out.trans (HU.out.mono HBx.out.size)⟩
  · have HNo : Hid (NoF A B) := hNo
    rw [show R4 (.slice none 0 0) false n 0 = .returned (.tuple #[.slice none 0 0, .bool false, .int .i64 n, .int .i64 0]) from rfl]
    clear hNo
    go_wp2_with fail
    go_loopw [11, 12] (fun a i wr => ∃ (j : Nat) (s : Bool), j ≤ Y.len ∧ i = .int .i64 j ∧ a = .bool s ∧ (s = true → Y.len = 12 ∧ ∀ i, i < j → checkV (Y.f i) = 0) ∧ Below wU.heap.size wU wr) (fun _ i _ => Y.len - (intOf i).toNat)
    case atStart => exact ⟨0, _, Nat.zero_le _, rfl, rfl, fun h => ⟨by have := beq_iff_eq.1 h; omega, fun i hi => absurd hi (Nat.not_lt_zero i)⟩, Below.refl _ _⟩
    case round =>
      obtain ⟨j, s, hj, rfl, rfl, hs, hB⟩ := hrel
      have HBr : Hid (Below wU.heap.size wU wr) := hB
      have HS : Hid (s = true → Y.len = 12 ∧ ∀ i, i < j → checkV (Y.f i) = 0) := hs
      have HBb : Hid (Below wb.heap.size wb wr) := HU.out.trans (hB.mono HU.out.size)
      clear hs hB
      by_cases hlt : j < Y.len
      · cases s with
        | false =>
          go_wp2_with fail
          go_roundw
          case rel => exact ⟨j + 1, false, by omega, by go_num, rfl, fun h => by simp at h, HBr.out⟩
          case measure => simp [intOf]; omega
        | true =>
          obtain ⟨bb, o, ha, c0, c1, c2⟩ := HRow.out j hlt wr (HBx.out.trans (HBb.out.mono HBx.out.size))
          have HTj : Hid (TIn wr (Y.f j)) := (HIn.out _ (HBx.out.trans (HBb.out.mono HBx.out.size))).2.2.kid hlt
          subst ha
          go_wp2_with fail
          refine (checkTerm_any (Y.f j) _ HTj.out).mono ?_
          rintro e w5 ⟨rfl, hb5⟩
          have HB5 : Hid (Below wU.heap.size wU w5) := HBr.out.trans (hb5.mono HBr.out.size)
          have HS5 : Hid ((checkV (Y.f j) == 0) = true → Y.len = 12 ∧ ∀ i, i < j + 1 → checkV (Y.f i) = 0) := fun h => by
            obtain ⟨h1, h2⟩ := HS.out (by simp)
            refine ⟨h1, fun i hi => ?_⟩
            by_cases e : i < j
            · exact h2 i e
            · obtain rfl : i = j := by omega
              exact beq_iff_eq.1 h
          clear hb5
          go_wp2_with fail
          go_roundw
          case rel => exact ⟨j + 1, _, by omega, by go_num, rfl, HS5.out, HB5.out⟩
          case measure => simp [intOf]; omega
      have HSe : Hid (s = true → Y.len = 12 ∧ ∀ i, i < Y.len → checkV (Y.f i) = 0) := fun h => ⟨(HS.out h).1, fun i hi => (HS.out h).2 i (by omega)⟩
      clear HS
      subst hua
      have hdl : decide ((j : Int) < (Y.len : Int)) = false := decide_eq_false (by omega)
      cases s with
      | false =>
        go_wp2_with fail
        go_quiet (fail)
        have HBn : Hid (Below wb.heap.size wb (wr.drewN nq)) := below_drewN HBb.out nq
        have HBe : Hid (Below wU.heap.size wU (wr.drewN nq)) := below_drewN HBr.out nq
        generalize wr.drewN nq = wn at *
        go_wp2_with fail
        go_ret
        exact ⟨rfl, HBx.out.trans (HBn.out.mono HBx.out.size)⟩
      | true =>
        have HOA : Hid (Okv 12 A) := HNo.out.1
        have HOB : Hid (Okv 12 B) := HNo.out.2.1
        have HKp : Hid (∀ W, Below wr.heap.size wr W → W.cell? ⟨w.heap.size, 0, none⟩ = some (.int .i64 A.v) ∧ W.cell? ⟨w.heap.size, 1, none⟩ = some (.string A.nm) ∧ W.cell? ⟨w.heap.size, 2, none⟩ = some (.slice A.a A.len A.cap) ∧ W.cell? ⟨w.heap.size + 1, 0, none⟩ = some (.int .i64 B.v) ∧ W.cell? ⟨w.heap.size + 1, 1, none⟩ = some (.string B.nm) ∧ W.cell? ⟨w.heap.size + 1, 2, none⟩ = some (.slice B.a B.len B.cap)) := fun W hW => by
          have hWb := HBb.out.trans (hW.mono HBb.out.size)
          obtain ⟨a0, a1, a2, _, _, _⟩ := block_cells (HCx.out _ hWb).1
          obtain ⟨b0, b1, b2, _, _, _⟩ := block_cells (HCx.out _ hWb).2
          exact ⟨a0, a1, a2, b0, b1, b2⟩
        have HIb : Hid (∀ W, Below wr.heap.size wr W → TIn W A ∧ TIn W B ∧ TIn W Y) := fun W hW => by
          have hWb := HBb.out.trans (hW.mono HBb.out.size)
          have h := HIn.out _ (HBx.out.trans (hWb.mono HBx.out.size))
          exact ⟨h.1, h.2.1, h.2.2⟩
        have HLen : Hid (Y.len = 12) := (HSe.out rfl).1
        go_wp2_with fail
        have HPA : Hid (∀ W, Below wr.heap.size wr W → Calls Try.prog 26 #[.agg #[.int .i64 A.v, .string A.nm, .slice A.a A.len A.cap], .slice Y.a Y.len Y.cap] W (PP Y A W)) := fun W hW => by
          have h := putIn_all A Y W (HIb.out _ hW).2.2 HLen.out (HIb.out _ hW).1 HOA.out
          skip
          exact h
        have HPB : Hid (∀ W, Below wr.heap.size wr W → Calls Try.prog 26 #[.agg #[.int .i64 B.v, .string B.nm, .slice B.a B.len B.cap], .slice Y.a Y.len Y.cap] W (PP Y B W)) := fun W hW => by
          have h := putIn_all B Y W (HIb.out _ hW).2.2 HLen.out (HIb.out _ hW).2.1 HOB.out
          skip
          exact h
        have tok1 : True := trivial
        have HB9 : Hid (Below wr.heap.size wr wr) := Below.refl _ _
        go_region_held3 (fun W => W.cell? ⟨w.heap.size, 0, none⟩ = some (.int .i64 A.v) ∧ W.cell? ⟨w.heap.size, 1, none⟩ = some (.string A.nm) ∧ W.cell? ⟨w.heap.size, 2, none⟩ = some (.slice A.a A.len A.cap) ∧ W.cell? ⟨w.heap.size + 1, 0, none⟩ = some (.int .i64 B.v) ∧ W.cell? ⟨w.heap.size + 1, 1, none⟩ = some (.string B.nm) ∧ W.cell? ⟨w.heap.size + 1, 2, none⟩ = some (.slice B.a B.len B.cap)) (first | exact HKp.out _ HB9.out | exact HKp.out _ HB9.out.drew)
          (first
            | (go_at_call 26
               have _t := tok1
               refine (HPA.out _ (by first | exact HB9.out | exact HB9.out.drew)).mono ?_
               rintro e wp ⟨X1, rfl, hb, hX1, hc1, hn1⟩
               replace HB9 : Hid (Below wr.heap.size wr wp) := Below.trans (by first | exact HB9.out | exact HB9.out.drew) (hb.mono HB9.out.size)
               have HX1 : Hid (TIn wp X1) := hX1
               have HC1 : Hid (can X1 = ap (byOf Y) A) := hc1
               rw [show X1.val = .agg #[.int .i64 X1.v, .string X1.nm, .slice X1.a X1.len X1.cap] from rfl]
               clear hb hX1 hc1 hn1 tok1 _t)
            | (go_at_call 26
               refine (HPB.out _ (by first | exact HB9.out | exact HB9.out.drew)).mono ?_
               rintro e wm ⟨X2, rfl, hb, hX2, hc2, hn2⟩
               replace HB9 : Hid (Below wr.heap.size wr wm) := Below.trans (by first | exact HB9.out | exact HB9.out.drew) (hb.mono HB9.out.size)
               have HX2 : Hid (TIn wm X2 ∧ TIn wm X1) := ⟨hX2, by first | exact HX1.out.below hb | exact (HX1.out.below (Below.refl _ _).drew).below hb⟩
               have HC2 : Hid (can X2 = ap (byOf Y) B) := hc2
               rw [show X2.val = .agg #[.int .i64 X2.v, .string X2.nm, .slice X2.a X2.len X2.cap] from rfl]
               clear hb hX2 hc2 hn2)
            | (go_at_call 25
               refine (same36 X1 X2 _ (by first | exact HX2.out.2 | exact HX2.out.2.below (Below.refl _ _).drew) (by first | exact HX2.out.1 | exact HX2.out.1.below (Below.refl _ _).drew)).mono ?_
               rintro e wk ⟨rfl, hb⟩
               replace HB9 : Hid (Below wr.heap.size wr wk) := Below.trans (by first | exact HB9.out | exact HB9.out.drew) (hb.mono HB9.out.size)
               rw [show sameT X1 X2 = false from Bool.eq_false_iff.2 (fun h => HNo.out.2.2 (byOf Y) (HC1.out.symm.trans (((same_can X1 X2).1 h).trans HC2.out)))]
               clear hb))
        all_goals
          go_wp2_with fail
          go_ret
          exact ⟨rfl, HBx.out.trans ((HBb.out.trans (HB9.out.mono HBb.out.size)).mono HBx.out.size)⟩

  · have HYes : Hid (YesF A B Q) := hYes
    have HQl : Hid (Q.len = 12) := hQl
    have HQ : Hid (∀ W, Below wU.heap.size wU W → TIn W Q) := fun W hW => hQ.below hW
    rw [show R4 (.slice Q.a 12 Q.cap) true n 0 = .returned (.tuple #[.slice Q.a 12 Q.cap, .bool true, .int .i64 n, .int .i64 0]) from rfl]
    clear hYes hQl hQ
    go_wp2_with fail
    go_loopw [11, 12] (fun a i wr => ∃ (j : Nat) (s : Bool), j ≤ Y.len ∧ i = .int .i64 j ∧ a = .bool s ∧ (s = true → Y.len = 12 ∧ ∀ i, i < j → checkV (Y.f i) = 0) ∧ Below wU.heap.size wU wr) (fun _ i _ => Y.len - (intOf i).toNat)
    case atStart => exact ⟨0, _, Nat.zero_le _, rfl, rfl, fun h => ⟨by have := beq_iff_eq.1 h; omega, fun i hi => absurd hi (Nat.not_lt_zero i)⟩, Below.refl _ _⟩
    case round =>
      obtain ⟨j, s, hj, rfl, rfl, hs, hB⟩ := hrel
      have HBr : Hid (Below wU.heap.size wU wr) := hB
      have HS : Hid (s = true → Y.len = 12 ∧ ∀ i, i < j → checkV (Y.f i) = 0) := hs
      have HBb : Hid (Below wb.heap.size wb wr) := HU.out.trans (hB.mono HU.out.size)
      clear hs hB
      by_cases hlt : j < Y.len
      · cases s with
        | false =>
          go_wp2_with fail
          go_roundw
          case rel => exact ⟨j + 1, false, by omega, by go_num, rfl, fun h => by simp at h, HBr.out⟩
          case measure => simp [intOf]; omega
        | true =>
          obtain ⟨bb, o, ha, c0, c1, c2⟩ := HRow.out j hlt wr (HBx.out.trans (HBb.out.mono HBx.out.size))
          have HTj : Hid (TIn wr (Y.f j)) := (HIn.out _ (HBx.out.trans (HBb.out.mono HBx.out.size))).2.2.kid hlt
          subst ha
          go_wp2_with fail
          refine (checkTerm_any (Y.f j) _ HTj.out).mono ?_
          rintro e w5 ⟨rfl, hb5⟩
          have HB5 : Hid (Below wU.heap.size wU w5) := HBr.out.trans (hb5.mono HBr.out.size)
          have HS5 : Hid ((checkV (Y.f j) == 0) = true → Y.len = 12 ∧ ∀ i, i < j + 1 → checkV (Y.f i) = 0) := fun h => by
            obtain ⟨h1, h2⟩ := HS.out (by simp)
            refine ⟨h1, fun i hi => ?_⟩
            by_cases e : i < j
            · exact h2 i e
            · obtain rfl : i = j := by omega
              exact beq_iff_eq.1 h
          clear hb5
          go_wp2_with fail
          go_roundw
          case rel => exact ⟨j + 1, _, by omega, by go_num, rfl, HS5.out, HB5.out⟩
          case measure => simp [intOf]; omega
      have HSe : Hid (s = true → Y.len = 12 ∧ ∀ i, i < Y.len → checkV (Y.f i) = 0) := fun h => ⟨(HS.out h).1, fun i hi => (HS.out h).2 i (by omega)⟩
      clear HS
      subst hua
      have hdl : decide ((j : Int) < (Y.len : Int)) = false := decide_eq_false (by omega)
      cases s with
      | false =>
        go_wp2_with fail
        go_quiet (fail)
        have HBn : Hid (Below wb.heap.size wb (wr.drewN nq)) := below_drewN HBb.out nq
        have HBe : Hid (Below wU.heap.size wU (wr.drewN nq)) := below_drewN HBr.out nq
        generalize wr.drewN nq = wn at *
        have HOA : Hid (Okv 12 A) := HYes.out.1
        have HOB : Hid (Okv 12 B) := HYes.out.2.1
        have HKp : Hid (∀ W, Below wn.heap.size wn W → W.cell? ⟨w.heap.size, 0, none⟩ = some (.int .i64 A.v) ∧ W.cell? ⟨w.heap.size, 1, none⟩ = some (.string A.nm) ∧ W.cell? ⟨w.heap.size, 2, none⟩ = some (.slice A.a A.len A.cap) ∧ W.cell? ⟨w.heap.size + 1, 0, none⟩ = some (.int .i64 B.v) ∧ W.cell? ⟨w.heap.size + 1, 1, none⟩ = some (.string B.nm) ∧ W.cell? ⟨w.heap.size + 1, 2, none⟩ = some (.slice B.a B.len B.cap)) := fun W hW => by
          have hWb := HBn.out.trans (hW.mono HBn.out.size)
          obtain ⟨a0, a1, a2, _, _, _⟩ := block_cells (HCx.out _ hWb).1
          obtain ⟨b0, b1, b2, _, _, _⟩ := block_cells (HCx.out _ hWb).2
          exact ⟨a0, a1, a2, b0, b1, b2⟩
        have HIb : Hid (∀ W, Below wn.heap.size wn W → TIn W A ∧ TIn W B ∧ TIn W Q) := fun W hW => by
          have hWb := HBn.out.trans (hW.mono HBn.out.size)
          have h := HIn.out _ (HBx.out.trans (hWb.mono HBx.out.size))
          exact ⟨h.1, h.2.1, HQ.out _ (HBe.out.trans (hW.mono HBe.out.size))⟩
        have HLen : Hid (Q.len = 12) := HQl.out
        go_wp2_with fail
        have HPA : Hid (∀ W, Below wn.heap.size wn W → Calls Try.prog 26 #[.agg #[.int .i64 A.v, .string A.nm, .slice A.a A.len A.cap], .slice Q.a 12 Q.cap] W (PP Q A W)) := fun W hW => by
          have h := putIn_all A Q W (HIb.out _ hW).2.2 HLen.out (HIb.out _ hW).1 HOA.out
          rw [HLen.out] at h
          exact h
        have HPB : Hid (∀ W, Below wn.heap.size wn W → Calls Try.prog 26 #[.agg #[.int .i64 B.v, .string B.nm, .slice B.a B.len B.cap], .slice Q.a 12 Q.cap] W (PP Q B W)) := fun W hW => by
          have h := putIn_all B Q W (HIb.out _ hW).2.2 HLen.out (HIb.out _ hW).2.1 HOB.out
          rw [HLen.out] at h
          exact h
        have tok1 : True := trivial
        have HB9 : Hid (Below wn.heap.size wn wn) := Below.refl _ _
        go_region_held3 (fun W => W.cell? ⟨w.heap.size, 0, none⟩ = some (.int .i64 A.v) ∧ W.cell? ⟨w.heap.size, 1, none⟩ = some (.string A.nm) ∧ W.cell? ⟨w.heap.size, 2, none⟩ = some (.slice A.a A.len A.cap) ∧ W.cell? ⟨w.heap.size + 1, 0, none⟩ = some (.int .i64 B.v) ∧ W.cell? ⟨w.heap.size + 1, 1, none⟩ = some (.string B.nm) ∧ W.cell? ⟨w.heap.size + 1, 2, none⟩ = some (.slice B.a B.len B.cap)) (first | exact HKp.out _ HB9.out | exact HKp.out _ HB9.out.drew)
          (first
            | (go_at_call 26
               have _t := tok1
               refine (HPA.out _ (by first | exact HB9.out | exact HB9.out.drew)).mono ?_
               rintro e wp ⟨X1, rfl, hb, hX1, hc1, hn1⟩
               replace HB9 : Hid (Below wn.heap.size wn wp) := Below.trans (by first | exact HB9.out | exact HB9.out.drew) (hb.mono HB9.out.size)
               have HX1 : Hid (TIn wp X1) := hX1
               have HC1 : Hid (can X1 = ap (byOf Q) A) := hc1
               rw [show X1.val = .agg #[.int .i64 X1.v, .string X1.nm, .slice X1.a X1.len X1.cap] from rfl]
               clear hb hX1 hc1 hn1 tok1 _t)
            | (go_at_call 26
               refine (HPB.out _ (by first | exact HB9.out | exact HB9.out.drew)).mono ?_
               rintro e wm ⟨X2, rfl, hb, hX2, hc2, hn2⟩
               replace HB9 : Hid (Below wn.heap.size wn wm) := Below.trans (by first | exact HB9.out | exact HB9.out.drew) (hb.mono HB9.out.size)
               have HX2 : Hid (TIn wm X2 ∧ TIn wm X1) := ⟨hX2, by first | exact HX1.out.below hb | exact (HX1.out.below (Below.refl _ _).drew).below hb⟩
               have HC2 : Hid (can X2 = ap (byOf Q) B) := hc2
               rw [show X2.val = .agg #[.int .i64 X2.v, .string X2.nm, .slice X2.a X2.len X2.cap] from rfl]
               clear hb hX2 hc2 hn2)
            | (go_at_call 25
               refine (same36 X1 X2 _ (by first | exact HX2.out.2 | exact HX2.out.2.below (Below.refl _ _).drew) (by first | exact HX2.out.1 | exact HX2.out.1.below (Below.refl _ _).drew)).mono ?_
               rintro e wk ⟨rfl, hb⟩
               replace HB9 : Hid (Below wn.heap.size wn wk) := Below.trans (by first | exact HB9.out | exact HB9.out.drew) (hb.mono HB9.out.size)
               rw [(same_can X1 X2).2 (HC1.out.trans (HYes.out.2.2.2.1.trans HC2.out.symm))]
               clear hb))
        all_goals
          go_wp2_with fail
          go_loopw [13] (fun i wr2 => ∃ j2 : Nat, j2 ≤ 12 ∧ i = .int .i64 j2 ∧ Below wk.heap.size wk wr2) (fun i _ => 12 - (intOf i).toNat)
          case atStart => exact ⟨0, Nat.zero_le _, rfl, Below.refl _ _⟩
          case round =>
            obtain ⟨j2, hj2, rfl, hB2⟩ := hrel
            have HB2 : Hid (Below wb.heap.size wb wr) := (HBn.out.trans (HB9.out.mono HBn.out.size)).trans (hB2.mono (HBn.out.trans (HB9.out.mono HBn.out.size)).size)
            have HB2k : Hid (Below wk.heap.size wk wr) := hB2
            clear hB2
            by_cases hlt2 : j2 < 12
            case neg =>
              have hd2 : decide ((j2 : Int) < 12) = false := decide_eq_false (by omega)
              go_wp2_with fail
              go_ret
              exact ⟨rfl, HBx.out.trans (HB2.out.mono HBx.out.size)⟩
            have hd2 : decide ((j2 : Int) < 12) = true := decide_eq_true (by omega)
            go_wp2_with fail
            go_ret
            exact ⟨rfl, HBx.out.trans (HB2.out.mono HBx.out.size)⟩
      | true =>
        have HOA : Hid (Okv 12 A) := HYes.out.1
        have HOB : Hid (Okv 12 B) := HYes.out.2.1
        have HKp : Hid (∀ W, Below wr.heap.size wr W → W.cell? ⟨w.heap.size, 0, none⟩ = some (.int .i64 A.v) ∧ W.cell? ⟨w.heap.size, 1, none⟩ = some (.string A.nm) ∧ W.cell? ⟨w.heap.size, 2, none⟩ = some (.slice A.a A.len A.cap) ∧ W.cell? ⟨w.heap.size + 1, 0, none⟩ = some (.int .i64 B.v) ∧ W.cell? ⟨w.heap.size + 1, 1, none⟩ = some (.string B.nm) ∧ W.cell? ⟨w.heap.size + 1, 2, none⟩ = some (.slice B.a B.len B.cap)) := fun W hW => by
          have hWb := HBb.out.trans (hW.mono HBb.out.size)
          obtain ⟨a0, a1, a2, _, _, _⟩ := block_cells (HCx.out _ hWb).1
          obtain ⟨b0, b1, b2, _, _, _⟩ := block_cells (HCx.out _ hWb).2
          exact ⟨a0, a1, a2, b0, b1, b2⟩
        have HIb : Hid (∀ W, Below wr.heap.size wr W → TIn W A ∧ TIn W B ∧ TIn W Y) := fun W hW => by
          have hWb := HBb.out.trans (hW.mono HBb.out.size)
          have h := HIn.out _ (HBx.out.trans (hWb.mono HBx.out.size))
          exact ⟨h.1, h.2.1, h.2.2⟩
        have HLen : Hid (Y.len = 12) := (HSe.out rfl).1
        go_wp2_with fail
        have HPA : Hid (∀ W, Below wr.heap.size wr W → Calls Try.prog 26 #[.agg #[.int .i64 A.v, .string A.nm, .slice A.a A.len A.cap], .slice Y.a Y.len Y.cap] W (PP Y A W)) := fun W hW => by
          have h := putIn_all A Y W (HIb.out _ hW).2.2 HLen.out (HIb.out _ hW).1 HOA.out
          skip
          exact h
        have HPB : Hid (∀ W, Below wr.heap.size wr W → Calls Try.prog 26 #[.agg #[.int .i64 B.v, .string B.nm, .slice B.a B.len B.cap], .slice Y.a Y.len Y.cap] W (PP Y B W)) := fun W hW => by
          have h := putIn_all B Y W (HIb.out _ hW).2.2 HLen.out (HIb.out _ hW).2.1 HOB.out
          skip
          exact h
        have tok1 : True := trivial
        have HB9 : Hid (Below wr.heap.size wr wr) := Below.refl _ _
        go_region_held3 (fun W => W.cell? ⟨w.heap.size, 0, none⟩ = some (.int .i64 A.v) ∧ W.cell? ⟨w.heap.size, 1, none⟩ = some (.string A.nm) ∧ W.cell? ⟨w.heap.size, 2, none⟩ = some (.slice A.a A.len A.cap) ∧ W.cell? ⟨w.heap.size + 1, 0, none⟩ = some (.int .i64 B.v) ∧ W.cell? ⟨w.heap.size + 1, 1, none⟩ = some (.string B.nm) ∧ W.cell? ⟨w.heap.size + 1, 2, none⟩ = some (.slice B.a B.len B.cap)) (first | exact HKp.out _ HB9.out | exact HKp.out _ HB9.out.drew)
          (first
            | (go_at_call 26
               have _t := tok1
               refine (HPA.out _ (by first | exact HB9.out | exact HB9.out.drew)).mono ?_
               rintro e wp ⟨X1, rfl, hb, hX1, hc1, hn1⟩
               replace HB9 : Hid (Below wr.heap.size wr wp) := Below.trans (by first | exact HB9.out | exact HB9.out.drew) (hb.mono HB9.out.size)
               have HX1 : Hid (TIn wp X1) := hX1
               have HC1 : Hid (can X1 = ap (byOf Y) A) := hc1
               rw [show X1.val = .agg #[.int .i64 X1.v, .string X1.nm, .slice X1.a X1.len X1.cap] from rfl]
               clear hb hX1 hc1 hn1 tok1 _t)
            | (go_at_call 26
               refine (HPB.out _ (by first | exact HB9.out | exact HB9.out.drew)).mono ?_
               rintro e wm ⟨X2, rfl, hb, hX2, hc2, hn2⟩
               replace HB9 : Hid (Below wr.heap.size wr wm) := Below.trans (by first | exact HB9.out | exact HB9.out.drew) (hb.mono HB9.out.size)
               have HX2 : Hid (TIn wm X2 ∧ TIn wm X1) := ⟨hX2, by first | exact HX1.out.below hb | exact (HX1.out.below (Below.refl _ _).drew).below hb⟩
               have HC2 : Hid (can X2 = ap (byOf Y) B) := hc2
               rw [show X2.val = .agg #[.int .i64 X2.v, .string X2.nm, .slice X2.a X2.len X2.cap] from rfl]
               clear hb hX2 hc2 hn2)
            | (go_at_call 25
               refine (same36 X1 X2 _ (by first | exact HX2.out.2 | exact HX2.out.2.below (Below.refl _ _).drew) (by first | exact HX2.out.1 | exact HX2.out.1.below (Below.refl _ _).drew)).mono ?_
               rintro e wk ⟨rfl, hb⟩
               replace HB9 : Hid (Below wr.heap.size wr wk) := Below.trans (by first | exact HB9.out | exact HB9.out.drew) (hb.mono HB9.out.size)
               skip
               clear hb))
        all_goals
          have HS6 : Hid (sameT X1 X2 = true → Y.len = 12 ∧ ap (byOf Y) A = ap (byOf Y) B) := fun h => ⟨(HSe.out (by simp)).1, HC1.out.symm.trans (((same_can X1 X2).1 h).trans HC2.out)⟩
          generalize sameT X1 X2 = s6 at *
          have HBn : Hid (Below wb.heap.size wb wk) := HBb.out.trans (HB9.out.mono HBb.out.size)
          have HBe : Hid (Below wU.heap.size wU wk) := HBr.out.trans (HB9.out.mono HBr.out.size)
          clear HB9 HKp HIb HLen HOA HOB HC1 HC2 HX1 HX2 HPA HPB
          generalize wk = wn at *
          have HOA : Hid (Okv 12 A) := HYes.out.1
          have HOB : Hid (Okv 12 B) := HYes.out.2.1
          have HKp : Hid (∀ W, Below wn.heap.size wn W → W.cell? ⟨w.heap.size, 0, none⟩ = some (.int .i64 A.v) ∧ W.cell? ⟨w.heap.size, 1, none⟩ = some (.string A.nm) ∧ W.cell? ⟨w.heap.size, 2, none⟩ = some (.slice A.a A.len A.cap) ∧ W.cell? ⟨w.heap.size + 1, 0, none⟩ = some (.int .i64 B.v) ∧ W.cell? ⟨w.heap.size + 1, 1, none⟩ = some (.string B.nm) ∧ W.cell? ⟨w.heap.size + 1, 2, none⟩ = some (.slice B.a B.len B.cap)) := fun W hW => by
            have hWb := HBn.out.trans (hW.mono HBn.out.size)
            obtain ⟨a0, a1, a2, _, _, _⟩ := block_cells (HCx.out _ hWb).1
            obtain ⟨b0, b1, b2, _, _, _⟩ := block_cells (HCx.out _ hWb).2
            exact ⟨a0, a1, a2, b0, b1, b2⟩
          have HIb : Hid (∀ W, Below wn.heap.size wn W → TIn W A ∧ TIn W B ∧ TIn W Q) := fun W hW => by
            have hWb := HBn.out.trans (hW.mono HBn.out.size)
            have h := HIn.out _ (HBx.out.trans (hWb.mono HBx.out.size))
            exact ⟨h.1, h.2.1, HQ.out _ (HBe.out.trans (hW.mono HBe.out.size))⟩
          have HLen : Hid (Q.len = 12) := HQl.out
          go_wp2_with fail
          have HPA : Hid (∀ W, Below wn.heap.size wn W → Calls Try.prog 26 #[.agg #[.int .i64 A.v, .string A.nm, .slice A.a A.len A.cap], .slice Q.a 12 Q.cap] W (PP Q A W)) := fun W hW => by
            have h := putIn_all A Q W (HIb.out _ hW).2.2 HLen.out (HIb.out _ hW).1 HOA.out
            rw [HLen.out] at h
            exact h
          have HPB : Hid (∀ W, Below wn.heap.size wn W → Calls Try.prog 26 #[.agg #[.int .i64 B.v, .string B.nm, .slice B.a B.len B.cap], .slice Q.a 12 Q.cap] W (PP Q B W)) := fun W hW => by
            have h := putIn_all B Q W (HIb.out _ hW).2.2 HLen.out (HIb.out _ hW).2.1 HOB.out
            rw [HLen.out] at h
            exact h
          have tok1 : True := trivial
          have HB9 : Hid (Below wn.heap.size wn wn) := Below.refl _ _
          go_region_held3 (fun W => W.cell? ⟨w.heap.size, 0, none⟩ = some (.int .i64 A.v) ∧ W.cell? ⟨w.heap.size, 1, none⟩ = some (.string A.nm) ∧ W.cell? ⟨w.heap.size, 2, none⟩ = some (.slice A.a A.len A.cap) ∧ W.cell? ⟨w.heap.size + 1, 0, none⟩ = some (.int .i64 B.v) ∧ W.cell? ⟨w.heap.size + 1, 1, none⟩ = some (.string B.nm) ∧ W.cell? ⟨w.heap.size + 1, 2, none⟩ = some (.slice B.a B.len B.cap)) (first | exact HKp.out _ HB9.out | exact HKp.out _ HB9.out.drew)
            (first
              | (go_at_call 26
                 have _t := tok1
                 refine (HPA.out _ (by first | exact HB9.out | exact HB9.out.drew)).mono ?_
                 rintro e wp ⟨X1, rfl, hb, hX1, hc1, hn1⟩
                 replace HB9 : Hid (Below wn.heap.size wn wp) := Below.trans (by first | exact HB9.out | exact HB9.out.drew) (hb.mono HB9.out.size)
                 have HX1 : Hid (TIn wp X1) := hX1
                 have HC1 : Hid (can X1 = ap (byOf Q) A) := hc1
                 rw [show X1.val = .agg #[.int .i64 X1.v, .string X1.nm, .slice X1.a X1.len X1.cap] from rfl]
                 clear hb hX1 hc1 hn1 tok1 _t)
              | (go_at_call 26
                 refine (HPB.out _ (by first | exact HB9.out | exact HB9.out.drew)).mono ?_
                 rintro e wm ⟨X2, rfl, hb, hX2, hc2, hn2⟩
                 replace HB9 : Hid (Below wn.heap.size wn wm) := Below.trans (by first | exact HB9.out | exact HB9.out.drew) (hb.mono HB9.out.size)
                 have HX2 : Hid (TIn wm X2 ∧ TIn wm X1) := ⟨hX2, by first | exact HX1.out.below hb | exact (HX1.out.below (Below.refl _ _).drew).below hb⟩
                 have HC2 : Hid (can X2 = ap (byOf Q) B) := hc2
                 rw [show X2.val = .agg #[.int .i64 X2.v, .string X2.nm, .slice X2.a X2.len X2.cap] from rfl]
                 clear hb hX2 hc2 hn2)
              | (go_at_call 25
                 refine (same36 X1 X2 _ (by first | exact HX2.out.2 | exact HX2.out.2.below (Below.refl _ _).drew) (by first | exact HX2.out.1 | exact HX2.out.1.below (Below.refl _ _).drew)).mono ?_
                 rintro e wk ⟨rfl, hb⟩
                 replace HB9 : Hid (Below wn.heap.size wn wk) := Below.trans (by first | exact HB9.out | exact HB9.out.drew) (hb.mono HB9.out.size)
                 rw [(same_can X1 X2).2 (HC1.out.trans (HYes.out.2.2.2.1.trans HC2.out.symm))]
                 clear hb))
          all_goals
            go_wp2_with fail
            go_loopw [13] (fun i wr2 => ∃ j2 : Nat, j2 ≤ 12 ∧ i = .int .i64 j2 ∧ Below wk.heap.size wk wr2) (fun i _ => 12 - (intOf i).toNat)
            case atStart => exact ⟨0, Nat.zero_le _, rfl, Below.refl _ _⟩
            case round =>
              obtain ⟨j2, hj2, rfl, hB2⟩ := hrel
              have HB2 : Hid (Below wb.heap.size wb wr) := (HBn.out.trans (HB9.out.mono HBn.out.size)).trans (hB2.mono (HBn.out.trans (HB9.out.mono HBn.out.size)).size)
              have HB2k : Hid (Below wk.heap.size wk wr) := hB2
              clear hB2
              by_cases hlt2 : j2 < 12
              case neg =>
                have hd2 : decide ((j2 : Int) < 12) = false := decide_eq_false (by omega)
                go_wp2_with fail
                go_ret
                exact ⟨rfl, HBx.out.trans (HB2.out.mono HBx.out.size)⟩
              have hd2 : decide ((j2 : Int) < 12) = true := decide_eq_true (by omega)
              cases s6 with
              | false =>
                go_wp2_with fail
                go_ret
                exact ⟨rfl, HBx.out.trans (HB2.out.mono HBx.out.size)⟩
              | true =>
                have hYl := (HS6.out rfl).1
                have HEq : Hid (ap (byOf Y) (Q.f j2) = can (Y.f j2)) := by
                  rw [Hid, HYes.out.2.2.2.2 (byOf Y) (HS6.out rfl).2 j2 hlt2]
                  show can (Y.f ((((j2 : Int) + 1).toNat) - 1)) = _
                  rw [show ((j2 : Int) + 1).toNat - 1 = j2 from by omega]
                have HIn2 : Hid (∀ W, Below wr.heap.size wr W → TIn W Y ∧ TIn W Q) := fun W hW => ⟨(HIn.out _ (HBx.out.trans ((HB2.out.trans (hW.mono HB2.out.size)).mono HBx.out.size))).2.2, (HQ.out _ ((HBe.out.trans (HB9.out.mono HBe.out.size)).trans ((HB2k.out.trans (hW.mono HB2k.out.size)).mono (HBe.out.trans (HB9.out.mono HBe.out.size)).size)))⟩
                obtain ⟨bq, oq, haq, q0, q1, q2⟩ := (HIn2.out _ (Below.refl _ _)).2.row (i := j2) (by have := HQl.out; omega)
                obtain ⟨by', oy, hay, y0, y1, y2⟩ := (HIn2.out _ (Below.refl _ _)).1.row (i := j2) (by omega)
                have HKq : Hid (∀ W, Below wr.heap.size wr W → W.cell? ⟨bq, oq + j2 * 3, none⟩ = some (.int .i64 (Q.f j2).v) ∧ W.cell? ⟨bq, oq + j2 * 3 + 1, none⟩ = some (.string (Q.f j2).nm) ∧ W.cell? ⟨bq, oq + j2 * 3 + 2, none⟩ = some (.slice (Q.f j2).a (Q.f j2).len (Q.f j2).cap) ∧ W.cell? ⟨by', oy + j2 * 3, none⟩ = some (.int .i64 (Y.f j2).v) ∧ W.cell? ⟨by', oy + j2 * 3 + 1, none⟩ = some (.string (Y.f j2).nm) ∧ W.cell? ⟨by', oy + j2 * 3 + 2, none⟩ = some (.slice (Y.f j2).a (Y.f j2).len (Y.f j2).cap)) := fun W hW => by
                  obtain ⟨b1, o1, e1, c0, c1, c2⟩ := (HIn2.out _ hW).2.row (i := j2) (by have := HQl.out; omega)
                  obtain ⟨b2, o2, e2, d0, d1, d2⟩ := (HIn2.out _ hW).1.row (i := j2) (by omega)
                  rw [haq] at e1
                  rw [hay] at e2
                  cases e1
                  cases e2
                  exact ⟨c0, c1, c2, d0, d1, d2⟩
                have HP3 : Hid (∀ W, Below wr.heap.size wr W → Calls Try.prog 26 #[.agg #[.int .i64 (Q.f j2).v, .string (Q.f j2).nm, .slice (Q.f j2).a (Q.f j2).len (Q.f j2).cap], .slice (some ⟨by', oy, none⟩) Y.len Y.cap] W (PP Y (Q.f j2) W)) := fun W hW => by
                  have h := putIn_all (Q.f j2) Y W (HIn2.out _ hW).1 hYl ((HIn2.out _ hW).2.kid (by have := HQl.out; omega)) (HYes.out.2.2.1 j2 hlt2)
                  rw [hay] at h
                  exact h
                clear q0 q1 q2 y0 y1 y2
                generalize Y.a = ya at *
                generalize Q.a = qa at *
                subst haq hay
                have hqI : (j2 : Int) < 12 := by omega
                have hyI : (j2 : Int) < (Y.len : Int) := by omega
                have HB8 : Hid (Below wr.heap.size wr wr) := Below.refl _ _
                have HYl : Hid (Y.len = 12) := hYl
                clear hYl
                go_wp2_with fail
                go_region_held3 (fun W => W.cell? ⟨bq, oq + j2 * 3, none⟩ = some (.int .i64 (Q.f j2).v) ∧ W.cell? ⟨bq, oq + j2 * 3 + 1, none⟩ = some (.string (Q.f j2).nm) ∧ W.cell? ⟨bq, oq + j2 * 3 + 2, none⟩ = some (.slice (Q.f j2).a (Q.f j2).len (Q.f j2).cap) ∧ W.cell? ⟨by', oy + j2 * 3, none⟩ = some (.int .i64 (Y.f j2).v) ∧ W.cell? ⟨by', oy + j2 * 3 + 1, none⟩ = some (.string (Y.f j2).nm) ∧ W.cell? ⟨by', oy + j2 * 3 + 2, none⟩ = some (.slice (Y.f j2).a (Y.f j2).len (Y.f j2).cap)) (first | exact HKq.out _ HB8.out | exact HKq.out _ HB8.out.drew)
                  (first
                    | (go_at_call 26
                       refine (HP3.out _ (by first | exact HB8.out | exact HB8.out.drew)).mono ?_
                       rintro e wp2 ⟨X3, rfl, hb, hX3, hc3, hn3⟩
                       replace HB8 : Hid (Below wr.heap.size wr wp2) := Below.trans (by first | exact HB8.out | exact HB8.out.drew) (hb.mono HB8.out.size)
                       have HX3 : Hid (TIn wp2 X3) := hX3
                       have HC3 : Hid (can X3 = can (Y.f j2)) := hc3.trans HEq.out
                       rw [show X3.val = .agg #[.int .i64 X3.v, .string X3.nm, .slice X3.a X3.len X3.cap] from rfl]
                       clear hb hX3 hc3 hn3)
                    | (go_at_call 25
                       refine (same36 X3 (Y.f j2) _ (by first | exact HX3.out | exact HX3.out.below (Below.refl _ _).drew) (by first | exact (HIn2.out _ HB8.out).1.kid (by have := HYl.out; omega) | exact (HIn2.out _ HB8.out.drew).1.kid (by have := HYl.out; omega))).mono ?_
                       rintro e wk2 ⟨rfl, hb⟩
                       replace HB8 : Hid (Below wr.heap.size wr wk2) := Below.trans (by first | exact HB8.out | exact HB8.out.drew) (hb.mono HB8.out.size)
                       rw [(same_can X3 (Y.f j2)).2 HC3.out]
                       clear hb))
                all_goals
                  go_wp2_with fail
                  go_roundw
                  case rel => exact ⟨j2 + 1, by omega, by go_num, HB2k.out.trans (HB8.out.mono HB2k.out.size)⟩
                  case measure => simp [intOf]; omega

end Go.Proofs.Ytmggaclaoefdaaa
