/- The reference's Full, walked. -/
import Derived.Test.YtmggaclaoefdaaaGAT
namespace Go.Proofs.Ytmggaclaoefdaaa
open Go.RowKit

set_option maxRecDepth 100000 in
set_option maxHeartbeats 8000000 in
theorem full_step (most : Nat) (hall : ∀ k, k < most → FC k) : FC most := by
  intro b ob g o cap N len τ ρ r σ T w hS hC hτ hR hO hm hOT hT
  have HAll : Hid (∀ k, k < most → FC k) := hall
  have HIn : Hid (∀ W, Below w.heap.size w W → ByIs W b ob g o cap N len τ ∧ (∀ v, 0 < v → v ≤ N → TIn W (τ v)) ∧ TIn W T) := fun W hW => ⟨hS.below hW, fun v h0 h1 => (hτ v h0 h1).below hW, hT.below hW⟩
  have HC : Hid (Chain N τ ρ r) := hC
  have HR : Hid (Rel N σ ρ ∧ ∀ v U, σ v = some U → Okv N U) := ⟨hR, hO⟩
  have HOT : Hid (Okv N T) := hOT
  obtain ⟨i0, hi, hz0, hz1, hz2⟩ := info_parts Try.info24
  clear hall hS hC hτ hR hO hOT hT
  show Calls Try.prog 68 #[.pointer (some ⟨b, ob, none⟩), .agg #[.int .i64 T.v, .string T.nm, .slice T.a T.len T.cap], .int .i64 most] w _
  go_enter Try.func68, Try.ntmps68
  go_wp2_with fail
  have HBa : Hid (Below w.heap.size w ((w.alloc (.cells #[.int .i64 T.v, .string T.nm, .slice T.a T.len T.cap] 24)).alloc (.cells #[.int .i64 0, .string ⟨#[]⟩, .slice none 0 0] 24))) := ((Below.refl _ _).alloc (Nat.le_refl _) _).alloc (by simp) _
  have HX0 : Hid (((w.alloc (.cells #[.int .i64 T.v, .string T.nm, .slice T.a T.len T.cap] 24)).alloc (.cells #[.int .i64 0, .string ⟨#[]⟩, .slice none 0 0] 24)).heap[w.heap.size]? = some (.cells #[.int .i64 T.v, .string T.nm, .slice T.a T.len T.cap] 24)) := by
    rw [Hid, heapOld _ _ (by simp)]; exact heap_alloc_new w _
  have HZ0 : Hid (((w.alloc (.cells #[.int .i64 T.v, .string T.nm, .slice T.a T.len T.cap] 24)).alloc (.cells #[.int .i64 0, .string ⟨#[]⟩, .slice none 0 0] 24)).heap[w.heap.size + 1]? = some (.cells #[.int .i64 0, .string ⟨#[]⟩, .slice none 0 0] 24)) := by
    have := heap_alloc_new (w.alloc (.cells #[.int .i64 T.v, .string T.nm, .slice T.a T.len T.cap] 24)) (.cells #[.int .i64 0, .string ⟨#[]⟩, .slice none 0 0] 24)
    rwa [show (w.alloc (.cells #[.int .i64 T.v, .string T.nm, .slice T.a T.len T.cap] 24)).heap.size = w.heap.size + 1 from by simp] at this
  generalize (w.alloc (.cells #[.int .i64 T.v, .string T.nm, .slice T.a T.len T.cap] 24)).alloc (.cells #[.int .i64 0, .string ⟨#[]⟩, .slice none 0 0] 24) = wa at *
  refine (lookAt_any T wa (HIn.out _ HBa.out).1 HC.out HOT.out).mono ?_
  rintro e w1 ⟨Y, rfl, hb1, hLk, hYT⟩
  have HLk : Hid (Lk N ρ T Y) := hLk
  have HB1 : Hid (Below w.heap.size w w1) := HBa.out.trans (hb1.mono HBa.out.size)
  have HX1 : Hid (w1.heap[w.heap.size]? = some (.cells #[.int .i64 T.v, .string T.nm, .slice T.a T.len T.cap] 24)) := (hb1.block _ (Array.getElem?_eq_some_iff.1 HX0.out).1).trans HX0.out
  have HZ1 : Hid (w1.heap[w.heap.size + 1]? = some (.cells #[.int .i64 0, .string ⟨#[]⟩, .slice none 0 0] 24)) := (hb1.block _ (Array.getElem?_eq_some_iff.1 HZ0.out).1).trans HZ0.out
  have HTY : Hid (∀ W, Below w.heap.size w W → TIn W Y) := fun W hW => by
    rcases hYT with rfl | ⟨v, h0, h1, rfl⟩
    · exact (HIn.out _ hW).2.2
    · exact (HIn.out _ hW).2.1 v h0 h1
  rw [show Y.val = .agg #[.int .i64 Y.v, .string Y.nm, .slice Y.a Y.len Y.cap] from rfl]
  generalize hua : Y.a = ua at *
  have hlenY : Y.len ≤ 2 ^ 63 - 1 := (HTY.out _ (Below.refl _ _)).len
  have hlen4 : Y.len ≤ 4 := hLk.2.2.four
  obtain ⟨x0, x1, x2, f0, f1, f2⟩ := block_cells HX1.out
  obtain ⟨W', hW, z0, z1, z2, hB', hgr⟩ := fin3n (r := w.heap.size) (Nat.le_refl _) HX1.out HB1.out (.int .i64 Y.v) (.string Y.nm) (.slice ua Y.len Y.cap)
  have HXw : Hid (W'.heap[w.heap.size]? = some (.cells #[.int .i64 Y.v, .string Y.nm, .slice ua Y.len Y.cap] 24)) := by
    have := set3 (a := .int .i64 Y.v) (b := .string Y.nm) (c := .slice ua Y.len Y.cap) HX1.out
    rw [hW] at this; exact this
  have HZw : Hid (W'.heap[w.heap.size + 1]? = some (.cells #[.int .i64 0, .string ⟨#[]⟩, .slice none 0 0] 24)) := (hgr.block _ (Array.getElem?_eq_some_iff.1 HZ1.out).1 (by simp)).trans HZ1.out
  have HBw : Hid (Below w.heap.size w W') := hB'
  have hWs : w.heap.size + 2 ≤ W'.heap.size := (Array.getElem?_eq_some_iff.1 HZw.out).1
  clear hb1 hLk hYT hgr hB' z0 z1 z2
  by_cases hm0 : most = 0
  · have hmb : decide ((most : Int) < 1) = true := decide_eq_true (by omega)
    have hgb : decide ((1 : Int) > (most : Int)) = true := decide_eq_true (by omega)
    have HNo : Hid (∀ us, roomF σ most (T :: us) = none) := fun us => by rw [hm0]; rfl
    obtain ⟨y0, y1, y2, e0, e1, e2⟩ := block_cells HZw.out
    clear hm0
    go_wp2_with (rw [hW]; clear x0 x1 x2 f0 f1 f2)
    obtain ⟨V', hV, z0, z1, z2, hBV, _⟩ := fin3n (r := w.heap.size + 1) (by omega) HZw.out HBw.out (.int .i64 0) (.string ⟨#[]⟩) (.slice none 0 0)
    rw [hV]
    refine bodyPost_ret (v := .tuple #[(vT 0).val, .int .i64 1, .bool false]) ?_ rfl ⟨hBV, .inr ⟨1, rfl, by omega, HNo.out⟩⟩
    simp [results, Try.results68, go_sem, z0, z1, z2, Tm.val, vT, Tm.v, Tm.nm, Tm.a, Tm.len, Tm.cap]
  have hmb : decide ((most : Int) < 1) = false := decide_eq_false (by omega)
  have hgb : decide ((1 : Int) > (most : Int)) = false := decide_eq_false (by omega)
  obtain ⟨v0, v1, v2, e0, e1, e2⟩ := block_cells HXw.out
  go_wp2_with (rw [hW]; clear x0 x1 x2 f0 f1 f2)
  have HQ0 : Hid ((W'.alloc (.cells #[.int .i64 Y.v, .string Y.nm, .slice none 0 0] 24)).heap[W'.heap.size]? = some (.cells #[.int .i64 Y.v, .string Y.nm, .slice none 0 0] 24)) := heap_alloc_new W' _
  have HBq : Hid (Below w.heap.size w (W'.alloc (.cells #[.int .i64 Y.v, .string Y.nm, .slice none 0 0] 24))) := HBw.out.alloc HBw.out.size _
  have HXq : Hid ((W'.alloc (.cells #[.int .i64 Y.v, .string Y.nm, .slice none 0 0] 24)).heap[w.heap.size]? = some (.cells #[.int .i64 Y.v, .string Y.nm, .slice ua Y.len Y.cap] 24)) := by rw [Hid, heapOld _ _ (by omega)]; exact HXw.out
  have HZq : Hid ((W'.alloc (.cells #[.int .i64 Y.v, .string Y.nm, .slice none 0 0] 24)).heap[w.heap.size + 1]? = some (.cells #[.int .i64 0, .string ⟨#[]⟩, .slice none 0 0] 24)) := by rw [Hid, heapOld _ _ (by omega)]; exact HZw.out
  have HKd := kids_lk HR.out.1 HR.out.2 HOT.out HLk.out
  have HRm : Hid (∀ us, roomF σ most (T :: us) = roomF σ (most - 1) ((kidsL Y).drop 0 ++ us)) := fun us => by
    obtain ⟨m, rfl⟩ : ∃ m, most = m + 1 := ⟨most - 1, by omega⟩
    show roomF σ m (kidsL (wha σ T) ++ us) = _
    rw [HKd.1]; rfl
  have hqs : (W'.alloc (.cells #[.int .i64 Y.v, .string Y.nm, .slice none 0 0] 24)).heap.size = W'.heap.size + 1 := by simp
  generalize hq : W'.heap.size = q at *
  generalize (W'.alloc (.cells #[.int .i64 Y.v, .string Y.nm, .slice none 0 0] 24)) = wq at *
  clear HKd v0 v1 v2 e0 e1 e2 hW
  go_loopw [9, 11] (fun nn i wr => ∃ (j n : Nat) (ts : List Tm) (v : Value), j ≤ Y.len ∧ i = .int .i64 j ∧ nn = .int .i64 n ∧ 1 ≤ n ∧ n ≤ most ∧ LstQ (q + 1) (vT 0) wr v ts (ts.map can) ∧ ts.length = j ∧ wr.heap[q]? = some (.cells #[.int .i64 Y.v, .string Y.nm, v] 24) ∧ wr.heap[w.heap.size + 1]? = some (.cells #[.int .i64 0, .string ⟨#[]⟩, .slice none 0 0] 24) ∧ wr.heap[w.heap.size]? = some (.cells #[.int .i64 Y.v, .string Y.nm, .slice ua Y.len Y.cap] 24) ∧ q + 1 ≤ wr.heap.size ∧ Below w.heap.size w wr ∧ (∀ us, roomF σ most (T :: us) = roomF σ (most - n) ((kidsL Y).drop j ++ us)) ∧ (∀ i, i < j → Okv N (ts.getD i .nil) ∧ ∀ π, Ren N σ ρ π → ∀ d, most ≤ d + 1 → ap (nmOf π) (ts.getD i .nil) = can (ex σ d (Y.f i)))) (fun _ i _ => Y.len - (intOf i).toNat)
  case atStart => exact ⟨0, 1, [], _, Nat.zero_le _, rfl, rfl, Nat.le_refl _, by omega, ⟨World.ownsRow_nil _ _ _ _, fun c hc => absurd hc (by simp), rfl, fun i hi => absurd hi (Nat.not_lt_zero i)⟩, rfl, HQ0.out, HZq.out, HXq.out, by omega, HBq.out, HRm.out, fun i hi => absurd hi (Nat.not_lt_zero i)⟩
  case round =>
    obtain ⟨j, n, ts, v, hj, rfl, rfl, hn1, hn2, hL, hTL, hC2, hZ1, hX1, hsz, hB, hRm, hVal⟩ := hrel
    have HL : Hid (LstQ (q + 1) (vT 0) wr v ts (ts.map can)) := hL
    have HTL : Hid (ts.length = j) := hTL
    have HC2 : Hid (wr.heap[q]? = some (.cells #[.int .i64 Y.v, .string Y.nm, v] 24)) := hC2
    have HZ1 : Hid (wr.heap[w.heap.size + 1]? = some (.cells #[.int .i64 0, .string ⟨#[]⟩, .slice none 0 0] 24)) := hZ1
    have HX1 : Hid (wr.heap[w.heap.size]? = some (.cells #[.int .i64 Y.v, .string Y.nm, .slice ua Y.len Y.cap] 24)) := hX1
    have HB : Hid (Below w.heap.size w wr) := hB
    have HRm : Hid (∀ us, roomF σ most (T :: us) = roomF σ (most - n) ((kidsL Y).drop j ++ us)) := hRm
    have HVal : Hid (∀ i, i < j → Okv N (ts.getD i .nil) ∧ ∀ π, Ren N σ ρ π → ∀ d, most ≤ d + 1 → ap (nmOf π) (ts.getD i .nil) = can (ex σ d (Y.f i))) := hVal
    have hts4 : ts.length ≤ 4 := by omega
    obtain ⟨b0, b1, b2, _, _, _⟩ := block_cells HX1.out
    clear hL hTL hC2 hZ1 hX1 hB hRm hVal
    by_cases hlt : j < Y.len
    case neg =>
      have hje : j = Y.len := by omega
      obtain ⟨Q, hvQ, hQ, hQN, hQL, hQS⟩ := HL.out.exact
      have HQ : Hid (TIn wr Q ∧ (∀ k, k < q + 1 → NB k Q) ∧ Q.len = Y.len ∧ ∀ i, i < Q.len → Q.f i = ts.getD i .nil) := ⟨hQ, fun k hk => hQN k hk (nb0 k), by rw [hQL, HTL.out, hje], hQS⟩
      have HRe : Hid (∀ us, roomF σ most (T :: us) = roomF σ (most - n) us) := fun us => by
        rw [HRm.out us, hje, kidsL_end]; rfl
      have HVe : Hid (∀ i, i < Y.len → Okv N (ts.getD i .nil) ∧ ∀ π, Ren N σ ρ π → ∀ d, most ≤ d + 1 → ap (nmOf π) (ts.getD i .nil) = can (ex σ d (Y.f i))) := fun i hi => HVal.out i (by omega)
      have hdj : decide ((j : Int) < (Y.len : Int)) = false := decide_eq_false (by omega)
      subst hvQ
      clear hQ hQN hQL hQS hje
      obtain ⟨c0, c1, c2, _, _, _⟩ := block_cells HC2.out
      obtain ⟨y0, y1, y2, f0, f1, f2⟩ := block_cells HZ1.out
      go_wp2_with fail
      obtain ⟨V', hV, z0, z1, z2, hBV, hgV⟩ := fin3n (r := w.heap.size + 1) (by omega) HZ1.out HB.out (.int .i64 Y.v) (.string Y.nm) (.slice Q.a Q.len Q.cap)
      rw [hV]
      have hQ' : TIn V' Q := HQ.out.1.grown hgV (fun k hk => by obtain rfl := Option.some.inj hk; exact HQ.out.2.1 _ (by omega))
      have hY := HLk.out.2.2
      have hXO : Okv N (.mk Y.v Y.nm Q.a Q.len Q.cap Q.f) := ⟨hY.top.1, hY.top.2.1, fun h => ⟨(hY.top.2.2 h).1, by rw [HQ.out.2.2.1]; exact (hY.top.2.2 h).2⟩, by rw [HQ.out.2.2.1]; exact hlen4, fun i hi => by rw [HQ.out.2.2.2 i hi]; exact (HVe.out i (by rw [← HQ.out.2.2.1]; exact hi)).1⟩
      refine bodyPost_ret (v := .tuple #[Tm.val (.mk Y.v Y.nm Q.a Q.len Q.cap Q.f), .int .i64 n, .bool true]) ?_ rfl ⟨hBV, .inl ⟨.mk Y.v Y.nm Q.a Q.len Q.cap Q.f, n, rfl, hn1, hn2, hQ'.retop (HTY.out _ hBV).name, hXO, fun k hk => (HQ.out.2.1 k (by omega)).retop, HRe.out, fun π hπ d hd => ?_⟩⟩
      · simp [results, Try.results68, go_sem, z0, z1, z2, Tm.val, Tm.v, Tm.nm, Tm.a, Tm.len, Tm.cap]
      · obtain ⟨d', rfl⟩ : ∃ d', d = d' + 1 := ⟨d - 1, by omega⟩
        exact full_ex HR.out.1 HOT.out HLk.out HQ.out.2.2.1 hπ (fun i hi => by rw [HQ.out.2.2.2 i hi]; exact (HVe.out i (by rw [← HQ.out.2.2.1]; exact hi)).2 π hπ d' hd)
    have hr := (HTY.out wr HB.out).row hlt
    rw [hua] at hr
    obtain ⟨bb, oo, ha, c0, c1, c2⟩ := hr
    subst ha
    have hltI : (j : Int) < (Y.len : Int) := by omega
    have hmn : ((most - n : Nat) : Int) = (most : Int) - (n : Int) := by omega
    have HCall : Hid (Calls Try.prog 68 #[.pointer (some ⟨b, ob, none⟩), .agg #[.int .i64 (Y.f j).v, .string (Y.f j).nm, .slice (Y.f j).a (Y.f j).len (Y.f j).cap], .int .i64 ((most : Int) - (n : Int))] wr (FP N σ ρ (most - n) (Y.f j) wr)) := by
      have h := HAll.out (most - n) (by omega) b ob g o cap N len τ ρ r σ (Y.f j) wr (HIn.out _ HB.out).1 HC.out (HIn.out _ HB.out).2.1 HR.out.1 HR.out.2 (by omega) (HLk.out.2.2.kid hlt) ((HTY.out _ HB.out).kid hlt)
      rw [hmn] at h
      exact h
    clear hmn
    obtain ⟨d0, d1, d2, k0, k1, k2⟩ := block_cells HC2.out
    go_wp2_with fail
    refine HCall.out.mono ?_
    rintro e w2 ⟨hb2, h⟩
    have HB2 : Hid (Below wr.heap.size wr w2) := hb2
    have hs2 : wr.heap.size ≤ w2.heap.size := hb2.size
    rcases h with ⟨X, k, rfl, hk1, hk2, hX, hXO, hXN, hXR, hXV⟩ | ⟨k, rfl, hk, hno⟩
    case inr =>
      rw [show T3 (vT 0) k false = .returned (.tuple #[.agg #[.int .i64 0, .string ⟨#[]⟩, .slice none 0 0], .int .i64 k, .bool false]) from rfl]
      have HNo : Hid (∀ us, roomF σ most (T :: us) = none) := fun us => by rw [HRm.out us, kidsL_drop hlt]; exact hno _
      have HZ2 : Hid (w2.heap[w.heap.size + 1]? = some (.cells #[.int .i64 0, .string ⟨#[]⟩, .slice none 0 0] 24)) := (hb2.block _ (Array.getElem?_eq_some_iff.1 HZ1.out).1).trans HZ1.out
      have HBZ : Hid (Below w.heap.size w (w2.alloc (.cells #[.int .i64 0, .string ⟨#[]⟩, .slice none 0 0] 24))) := (HB.out.trans (hb2.mono HB.out.size)).alloc (Nat.le_trans HB.out.size hb2.size) _
      have HZ3 : Hid ((w2.alloc (.cells #[.int .i64 0, .string ⟨#[]⟩, .slice none 0 0] 24)).heap[w.heap.size + 1]? = some (.cells #[.int .i64 0, .string ⟨#[]⟩, .slice none 0 0] 24)) := by rw [Hid, heapOld _ _ (by omega)]; exact HZ2.out
      obtain ⟨y0, y1, y2, f0, f1, f2⟩ := block_cells HZ3.out
      clear hno hb2 b0 b1 b2 c0 c1 c2 d0 d1 d2 k0 k1 k2
      go_wp2_with fail
      obtain ⟨V', hV, z0, z1, z2, hBV, _⟩ := fin3n (r := w.heap.size + 1) (by omega) HZ3.out HBZ.out (.int .i64 0) (.string ⟨#[]⟩) (.slice none 0 0)
      rw [hV]
      refine bodyPost_ret (v := .tuple #[(vT 0).val, .int .i64 ((n : Int) + (k : Int)), .bool false]) ?_ rfl ⟨hBV, .inr ⟨n + k, by rw [T3, Int.natCast_add], by omega, HNo.out⟩⟩
      simp [results, Try.results68, go_sem, z0, z1, z2, Tm.val, vT, Tm.v, Tm.nm, Tm.a, Tm.len, Tm.cap]
    rw [show T3 X k true = .returned (.tuple #[.agg #[.int .i64 X.v, .string X.nm, .slice X.a X.len X.cap], .int .i64 k, .bool true]) from rfl]
    have HXf : Hid (TIn w2 X ∧ Okv N X ∧ (∀ k, k < wr.heap.size → NB k X)) := ⟨hX, hXO, hXN⟩
    have HXR : Hid (∀ us, roomF σ (most - n) (Y.f j :: us) = roomF σ (most - n - k) us) := hXR
    have HXV : Hid (∀ π, Ren N σ ρ π → ∀ d, most - n ≤ d → ap (nmOf π) X = can (ex σ d (Y.f j))) := hXV
    have HL5 : Hid (LstQ (q + 1) (vT 0) ((w2.alloc (.cells #[.int .i64 X.v, .string X.nm, .slice X.a X.len X.cap] 24)).alloc (.cells #[.int .i64 X.v, .string X.nm, .slice X.a X.len X.cap] 24)) v ts (ts.map can)) := ((HL.out.keep HB2.out).keep ((Below.refl _ _).alloc (Nat.le_refl _) _)).keep ((Below.refl _ _).alloc (Nat.le_refl _) _)
    have HN5 : Hid (∀ j u, (flat [X])[j]? = some u → ((w2.alloc (.cells #[.int .i64 X.v, .string X.nm, .slice X.a X.len X.cap] 24)).alloc (.cells #[.int .i64 X.v, .string X.nm, .slice X.a X.len X.cap] 24)).cell? ((⟨w2.heap.size + 1, 0, none⟩ : Addr).add j) = some u) := by
      have := news1 (w2.alloc (.cells #[.int .i64 X.v, .string X.nm, .slice X.a X.len X.cap] 24)) X
      rwa [show (w2.alloc (.cells #[.int .i64 X.v, .string X.nm, .slice X.a X.len X.cap] 24)).heap.size = w2.heap.size + 1 from by simp] at this
    have hs5 : ((w2.alloc (.cells #[.int .i64 X.v, .string X.nm, .slice X.a X.len X.cap] 24)).alloc (.cells #[.int .i64 X.v, .string X.nm, .slice X.a X.len X.cap] 24)).heap.size = w2.heap.size + 2 := by simp
    have hsz3 : q + 1 ≤ ((w2.alloc (.cells #[.int .i64 X.v, .string X.nm, .slice X.a X.len X.cap] 24)).alloc (.cells #[.int .i64 X.v, .string X.nm, .slice X.a X.len X.cap] 24)).heap.size := by omega
    have HQ5 : Hid (((w2.alloc (.cells #[.int .i64 X.v, .string X.nm, .slice X.a X.len X.cap] 24)).alloc (.cells #[.int .i64 X.v, .string X.nm, .slice X.a X.len X.cap] 24)).heap[q]? = some (.cells #[.int .i64 Y.v, .string Y.nm, v] 24)) := by
      rw [Hid, heapOld _ _ (by simp; omega), heapOld _ _ (by omega)]; exact (hb2.block q (by omega)).trans HC2.out
    have HQ4 : Hid ((w2.alloc (.cells #[.int .i64 X.v, .string X.nm, .slice X.a X.len X.cap] 24)).heap[q]? = some (.cells #[.int .i64 Y.v, .string Y.nm, v] 24)) := by
      rw [Hid, heapOld _ _ (by omega)]; exact (hb2.block q (by omega)).trans HC2.out
    obtain ⟨p0, p1, p2, m0, m1, m2⟩ := block_cells HQ4.out
    have hne6 : some q ≠ v.ownBlock := fun e => by have := (HL.out.own.lt _ e.symm).1; omega
    clear hb2 hX hXO hXN hXR hXV b0 b1 b2 c0 c1 c2 d0 d1 d2 k0 k1 k2
    go_wp2_with (at_builtin; refine wpList_append_own_at _ rfl (.tmp 57) (.tmp 59) 22 rfl (q + 1) 24 i0 (.agg #[.int .i64 0, .string ByteArray.empty, .slice none 0 0]) 3 48 Try.underlying22 hi hz0 hz1 hz2 rfl (by decide) v ts.length (flat ts) rfl HL5.out.own ⟨w2.heap.size + 1, 0, none⟩ 1 1 (flat [X]) rfl rfl HN5.out (flat_one _) (by unfold maxLen; omega) (by omega) hsz3 ?_; intro v' w6 hown' hgrow hnil hat; have hv' : ∃ g' cap', v' = .slice (some ⟨g', 0, none⟩) (ts.length + 1) cap' := (by rcases hown'.2 with ⟨_, h0⟩ | ⟨g', cap', _, h, _⟩; (· omega); (· exact ⟨g', cap', h⟩)); obtain ⟨g', cap', rfl⟩ := hv'; have HQ6 : Hid (w6.heap[q]? = some (.cells #[.int .i64 Y.v, .string Y.nm, v] 24)) := (hgrow.block q (by omega) hne6).trans HQ5.out; obtain ⟨q0, q1, q2, n0, n1, n2⟩ := block_cells HQ6.out)
    have hgs := grown_set (W := w6) q 2 (.slice (some ⟨g', 0, none⟩) (ts.length + 1) cap')
    have hB5 : Below w.heap.size w ((w2.alloc (.cells #[.int .i64 X.v, .string X.nm, .slice X.a X.len X.cap] 24)).alloc (.cells #[.int .i64 X.v, .string X.nm, .slice X.a X.len X.cap] 24)) := ((HB.out.trans (HB2.out.mono HB.out.size)).alloc (Nat.le_trans HB.out.size HB2.out.size) _).alloc (by have := HB.out.size; simp; omega) _
    have hB6 : Below w.heap.size w w6 := hB5.grown hgrow hB5.size (fun p hp => by have := (HL5.out.own.lt p hp).1; omega)
    have HBF : Hid (Below w.heap.size w (w6.setCell ⟨q, 2, none⟩ (.slice (some ⟨g', 0, none⟩) (ts.length + 1) cap'))) := hB6.grown hgs hB6.size (fun p hp => by have := Option.some.inj hp; omega)
    have hX5 : TIn ((w2.alloc (.cells #[.int .i64 X.v, .string X.nm, .slice X.a X.len X.cap] 24)).alloc (.cells #[.int .i64 X.v, .string X.nm, .slice X.a X.len X.cap] 24)) X := (HXf.out.1.below ((Below.refl _ _).alloc (Nat.le_refl _) _)).below ((Below.refl _ _).alloc (Nat.le_refl _) _)
    have hL6 : LstQ (q + 1) (vT 0) w6 (.slice (some ⟨g', 0, none⟩) (ts.length + 1) cap') (ts ++ [X]) (ts.map can ++ [can X]) := HL5.out.more hX5 (fun k hk _ => HXf.out.2.2 k (by omega)) (fun p hp => HXf.out.2.2 p (HL.out.own.lt p hp).2) rfl hown' hgrow hat
    have HLF : Hid (LstQ (q + 1) (vT 0) (w6.setCell ⟨q, 2, none⟩ (.slice (some ⟨g', 0, none⟩) (ts.length + 1) cap')) (.slice (some ⟨g', 0, none⟩) (ts.length + 1) cap') (ts ++ [X]) ((ts ++ [X]).map can)) := by
      rw [Hid, List.map_append]
      refine ⟨hL6.own.kept hgs (.inr (fun e => by have h1 := (hL6.own.lt g' rfl).1; have h2 : g' = q := Option.some.inj e; omega)), fun U hU => ?_, hL6.len, hL6.sim⟩
      obtain ⟨h1, h2, h3⟩ := hL6.all U hU
      exact ⟨h1.grown hgs (fun p hp => by obtain rfl := Option.some.inj hp; exact h2 _ (by omega) (nb0 _)), h2, h3⟩
    have h56 : ∀ p, p < q → p < wr.heap.size → w6.heap[p]? = wr.heap[p]? := fun p hp hp2 => (hgrow.block p (by omega) (fun e => by have := (HL5.out.own.lt _ e.symm).1; omega)).trans (by rw [heapOld _ _ (by simp; omega), heapOld _ _ (by omega)]; exact HB2.out.block p hp2)
    have HCF : Hid ((w6.setCell ⟨q, 2, none⟩ (.slice (some ⟨g', 0, none⟩) (ts.length + 1) cap')).heap[q]? = some (.cells #[.int .i64 Y.v, .string Y.nm, (.slice (some ⟨g', 0, none⟩) (ts.length + 1) cap')] 24)) := setL HQ6.out
    have HZF : Hid ((w6.setCell ⟨q, 2, none⟩ (.slice (some ⟨g', 0, none⟩) (ts.length + 1) cap')).heap[w.heap.size + 1]? = some (.cells #[.int .i64 0, .string ⟨#[]⟩, .slice none 0 0] 24)) := (hgs.block _ (by have := hgrow.size; omega) (by simp; omega)).trans ((h56 _ (by omega) (by omega)).trans HZ1.out)
    have HXF : Hid ((w6.setCell ⟨q, 2, none⟩ (.slice (some ⟨g', 0, none⟩) (ts.length + 1) cap')).heap[w.heap.size]? = some (.cells #[.int .i64 Y.v, .string Y.nm, .slice (some ⟨bb, oo, none⟩) Y.len Y.cap] 24)) := (hgs.block _ (by have := hgrow.size; omega) (by simp; omega)).trans ((h56 _ (by omega) (by omega)).trans HX1.out)
    have hszF : q + 1 ≤ (w6.setCell ⟨q, 2, none⟩ (.slice (some ⟨g', 0, none⟩) (ts.length + 1) cap')).heap.size := by have := hgs.size; have := hgrow.size; omega
    have HRF : Hid (∀ us, roomF σ most (T :: us) = roomF σ (most - (n + k)) ((kidsL Y).drop (j + 1) ++ us)) := fun us => by
      rw [HRm.out us, kidsL_drop hlt, show most - (n + k) = most - n - k from by omega]; exact HXR.out _
    have HVF : Hid (∀ i, i < j + 1 → Okv N ((ts ++ [X]).getD i .nil) ∧ ∀ π, Ren N σ ρ π → ∀ d, most ≤ d + 1 → ap (nmOf π) ((ts ++ [X]).getD i .nil) = can (ex σ d (Y.f i))) := fun i hi => by
      have hj' := HTL.out
      by_cases h : i < j
      · have e : (ts ++ [X]).getD i .nil = ts.getD i .nil := by simp [List.getD, List.getElem?_append_left (show i < ts.length by omega)]
        rw [e]; exact HVal.out i h
      · obtain rfl : i = j := by omega
        have e : (ts ++ [X]).getD i .nil = X := by rw [← hj']; simp [List.getD]
        rw [e]; exact ⟨HXf.out.2.1, fun π hπ d hd => HXV.out π hπ d (by omega)⟩
    have hlF : (ts ++ [X]).length = j + 1 := by rw [List.length_append, HTL.out]; rfl
    clear hgs hB5 hB6 hX5 hL6 h56 hown' hgrow hnil hat
    go_wp2_with fail
    go_roundw
    case rel => exact ⟨j + 1, n + k, ts ++ [X], _, by omega, by go_num, by go_num, by omega, by omega, HLF.out, hlF, HCF.out, HZF.out, HXF.out, hszF, HBF.out, HRF.out, HVF.out⟩
    case measure => simp [intOf]; omega
theorem full_all : ∀ most, FC most := by
  intro most
  induction most using Nat.strongRecOn with
  | _ most ih => exact full_step most ih
end Go.Proofs.Ytmggaclaoefdaaa
