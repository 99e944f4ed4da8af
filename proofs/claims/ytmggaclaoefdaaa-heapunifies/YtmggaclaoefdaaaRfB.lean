/- The reference's Within: what it answers. -/
import Derived.Test.YtmggaclaoefdaaaGAV
namespace Go.Proofs.Ytmggaclaoefdaaa
open Go.RowKit

/-- An append to a list of terms of the call's own, whatever is appended, as one step of a region that draws. -/
theorem step_app {ops : Array Oper} {o : Oper} {a : Act} {w : World} {K : Act → World → Prop} {Q : Exit → Act → World → Prop} {E : Prop}
    (hg : o.guard = none) (hty : o.type = 22) (s x : Operand) (hop : o.op = Op.call { callee := Callee.builtin Builtin.append, args := #[s, x], argTypes := #[22, 22] })
    (base g0 n cap0 : Nat) (xs : List Value) (hs : a.eval s = .slice (some ⟨g0, 0, none⟩) n cap0) (hown : w.ownsRow base 24 3 (.slice (some ⟨g0, 0, none⟩) n cap0) n xs)
    (sa : Option Addr) (m c : Nat) (news : List Value) (hx : a.eval x = .slice sa m c) (hl : news.length = m * 3) (hno : sa = none → m = 0) (hnews : ∀ ad, sa = some ad → ∀ j u, news[j]? = some u → w.cell? (ad.add j) = some u) (h1 : ∀ u ∈ news, u.oneCell' = true)
    (hnm : n + m ≤ 1000000) (hbase : base ≤ w.heap.size) (nm : Nat) (zs : List Value) (enm : n + m = nm) (ezs : xs ++ news = zs)
    (h : ∀ g cap' w', w'.ownsRow base 24 3 (.slice (some ⟨g, 0, none⟩) nm cap') nm zs → w.grownBy w' (some g0) → (g = g0 ∨ g = w.heap.size) → K (a.put o.dst (.slice (some ⟨g, 0, none⟩) nm cap')) w') :
    if Region.wanted o (yielded ops a.tmps) = true then Oper.wp Try.prog o a w K Q else E := by
  subst enm ezs
  cases sa with
  | none =>
    obtain rfl := hno rfl
    have hnil : news = [] := List.eq_nil_of_length_eq_zero (by simpa using hl)
    subst hnil
    have hcap : n ≤ cap0 := by
      rcases hown.2 with ⟨h', _⟩ | ⟨g', cap', cur, h', _, _, h2, _⟩
      · simp at h'
      · cases h'; exact h2
    refine step_run hg s x 22 hop _ _ _ _ hs hx (by rw [hty]; exact run_append_none ⟨g0, 0, none⟩ n cap0 c w hcap) (h g0 cap0 w ?_ ⟨rfl, rfl, rfl, Nat.le_refl _, fun _ _ _ => rfl⟩ (.inl rfl))
    rw [List.append_nil]
    exact hown
  | some ad =>
    obtain ⟨i0, hi, hz0, hz1, hz2⟩ := info_parts Try.info24
    obtain ⟨v', w', hr, h2, h3, h4, h5⟩ := run_append_own_at (P := Try.prog) w base 22 22 24 i0 (.agg #[.int .i64 0, .string ByteArray.empty, .slice none 0 0]) 3 48 Try.underlying22 hi hz0 hz1 hz2 rfl (by decide) _ n xs hown ad m c news hl (hnews ad rfl) h1 (by unfold maxLen; omega) (by omega) hbase
    rcases h2.2 with ⟨h6, _⟩ | ⟨g, cap', cur, rfl, _⟩
    · have := (h4.1 h6).1; simp at this
    refine step_run hg s x 22 hop _ _ _ _ hs hx (by rw [hty]; exact hr) (h g cap' w' h2 h3 ?_)
    rcases h5 with e | e
    · exact .inl (Option.some.inj e)
    · exact .inr (Option.some.inj e)
/-- A list of terms in memory of its own. -/
theorem own_list {w : World} {lo g cap n : Nat} {ts : List Tm} (h : w.ownsRow lo 24 3 (.slice (some ⟨g, 0, none⟩) n cap) n (flat ts)) (hl : ts.length = n) (hT : ∀ U ∈ ts, TIn w U) :
    TIn w (.mk 0 ⟨#[]⟩ (some ⟨g, 0, none⟩) n cap (fun i => ts.getD i .nil)) ∧ kidsL (.mk 0 ⟨#[]⟩ (some ⟨g, 0, none⟩) n cap (fun i => ts.getD i .nil)) = ts := by
  have hget : ∀ i (hi : i < ts.length), ts.getD i .nil = ts[i] := fun i hi => by simp [List.getD, List.getElem?_eq_getElem hi]
  have hn : n ≤ maxLen := by
    rcases h.2 with ⟨h', _⟩ | ⟨g', cap', cur, h', _, _, h2, h3, _⟩
    · simp at h'
    · cases h'; exact Nat.le_trans h2 h3
  refine ⟨⟨Nat.zero_le _, hn, fun i hi => ?_⟩, ?_⟩
  · have hi' : i < ts.length := by omega
    obtain ⟨f0, f1, f2⟩ := flat_get ts i hi'
    show RowAt w _ i (ts.getD i .nil) ∧ TIn w (ts.getD i .nil)
    rw [hget i hi']
    refine ⟨⟨g, 0, rfl, ?_, ?_, ?_⟩, hT _ (List.getElem_mem hi')⟩
    · rw [Nat.zero_add]; exact (h.cellAt (i * 3) (by omega)).trans f0
    · rw [Nat.zero_add]; exact (h.cellAt (i * 3 + 1) (by omega)).trans f1
    · rw [Nat.zero_add]; exact (h.cellAt (i * 3 + 2) (by omega)).trans f2
  · unfold kidsL
    show (List.range n).map (fun i => ts.getD i .nil) = ts
    refine List.ext_getElem (by simp [hl]) fun i h1 h2 => ?_
    simp [List.getD, List.getElem?_eq_getElem h2]
/-- The cells of a list that lies in rows. -/
theorem rows_cells {w : World} {bq oq : Nat} {ts : List Tm} (h : ∀ i (hi : i < ts.length), RowAt w (some ⟨bq, oq, none⟩) i ts[i]) : ∀ j u, (flat ts)[j]? = some u → w.cell? ((⟨bq, oq, none⟩ : Addr).add j) = some u := by
  intro j u hj
  have hl : j < ts.length * 3 := by
    have := (List.getElem?_eq_some_iff.1 hj).1
    rwa [flat_length] at this
  have hd : j / 3 < ts.length := by omega
  obtain ⟨b', o', e, c0, c1, c2⟩ := h (j / 3) hd
  cases e
  obtain ⟨f0, f1, f2⟩ := flat_get ts (j / 3) hd
  have ha : (⟨bq, oq, none⟩ : Addr).add j = ⟨bq, oq + j, none⟩ := by unfold Addr.add; split <;> simp_all
  rw [ha]
  have hm : j % 3 = 0 ∨ j % 3 = 1 ∨ j % 3 = 2 := by omega
  rcases hm with hm | hm | hm
  · rw [show j = j / 3 * 3 from by omega, f0] at hj
    rw [show oq + j = oq + j / 3 * 3 from by omega, c0]; exact hj
  · rw [show j = j / 3 * 3 + 1 from by omega, f1] at hj
    rw [show oq + j = oq + j / 3 * 3 + 1 from by omega, c1]; exact hj
  · rw [show j = j / 3 * 3 + 2 from by omega, f2] at hj
    rw [show oq + j = oq + j / 3 * 3 + 2 from by omega, c2]; exact hj
theorem getD_mem (l : List Tm) (i : Nat) (h : i < l.length) : l.getD i .nil ∈ l := by
  rw [show l.getD i .nil = l[i] from by simp [List.getD, List.getElem?_eq_getElem h]]
  exact List.getElem_mem h
theorem kidsL_len (T : Tm) : (kidsL T).length = T.len := by simp [kidsL]
theorem kidsL_get (T : Tm) (i : Nat) (h : i < (kidsL T).length) : (kidsL T)[i] = T.f i := by simp [kidsL]
/-- What Within says of a term: so much may still be looked at. -/
def WI (w : World) (b ob : Nat) (B : Value → Value → Obj) (lo g cap : Nat) (N : Int) (len : Nat) (τ ρ : Int → Tm) (r : Int → Nat) (σ : Sg) (x : Int) (L : Nat) (T : Tm) (e : Ending) (w' : World) : Prop := G b w w' ∧ (
  (within σ x L [T] = .over ∧ e = .returned (.int .i64 2) ∧ RF w' b ob B lo g cap N len τ ρ r σ 4001) ∨
  (∃ k : Nat, k ≤ L ∧ within σ x L [T] = .found k ∧ e = .returned (.int .i64 1) ∧ RF w' b ob B lo g cap N len τ ρ r σ (4000 - (k : Int))) ∨
  (∃ k : Nat, k ≤ L ∧ within σ x L [T] = .free k ∧ e = .returned (.int .i64 0) ∧ RF w' b ob B lo g cap N len τ ρ r σ (4000 - (k : Int))))
theorem tail_run (bq oq ln cq : Nat) (h : 1 ≤ ln) (W : World) : (Instr.slice 22 (.slice (some ⟨bq, oq, none⟩) ln cq) (some (.int .i64 1)) none none).run Try.prog W = .ok (.slice (some ⟨bq, if cq = 1 then oq else oq + 3, none⟩) (ln - 1) (cq - 1)) W := by
  obtain ⟨i0, hi, hz0, hz1, hz2⟩ := info_parts Try.info24
  have h' : (1 : Int) ≤ (ln : Int) := by omega
  simp [Instr.slice, run_underlying Try.underlying22, Instr.sliceBounds, run_sliceBound, sizeOf, typeInfo, hi, hz1, h', Addr.add]
  split <;> simp_all
set_option maxRecDepth 100000 in
set_option maxHeartbeats 4000000 in
theorem within_any {b ob : Nat} {B : Value → Value → Obj} {lo g cap : Nat} {N : Int} {len : Nat} {τ ρ : Int → Tm} {r : Int → Nat} {σ : Sg} (L0 : Nat) (S T : Tm) (w : World) (hS : RF w b ob B lo g cap N len τ ρ r σ (4000 - (L0 : Int))) (hL : L0 ≤ 4000) (hOS : Okv N S) (hx : (lk ρ S).v ≠ 0) (hT : Good w b b (.slice (some ⟨g, 0, none⟩) len cap) N T) :
    Calls Try.prog 100 #[.pointer (some ⟨b, ob, none⟩), .int .i64 (lk ρ S).v, T.val] w (WI w b ob B lo g cap N len τ ρ r σ (wha σ S).v L0 T) := by
  have HS : Hid (RF w b ob B lo g cap N len τ ρ r σ (4000 - (L0 : Int))) := hS
  have HOS : Hid (Okv N S) := hOS
  have HT : Hid (Good w b b (.slice (some ⟨g, 0, none⟩) len cap) N T) := hT
  have hbl := hS.lt.1
  generalize hxr : (lk ρ S).v = x at *
  have HX : Hid ((lk ρ S).v = x) := hxr
  have hxb : (x != 0) = true := bne_iff_ne.2 hx
  clear hS hOS hT hxr
  show Calls Try.prog 100 #[.pointer (some ⟨b, ob, none⟩), .int .i64 x, .agg #[.int .i64 T.v, .string T.nm, .slice T.a T.len T.cap]] w _
  go_enter Try.func100, Try.ntmps100
  go_wp2_with fail
  go_loopg [7] L0 (fun fu v wr => ∃ Q : Tm, v = .slice Q.a Q.len Q.cap ∧ TIn wr Q ∧ NB b Q ∧ (∀ i, i < Q.len → Okv N (Q.f i)) ∧ RF wr b ob B lo g cap N len τ ρ r σ (4000 - (fu : Int)) ∧ G b w wr ∧ within σ (wha σ S).v L0 [T] = within σ (wha σ S).v fu (kidsL Q) ∧ Q.len + 3 * fu ≤ 1 + 3 * L0 ∧ fu ≤ L0 ∧ Q.len ≤ Q.cap)
  case atStart =>
    have hB : Below w.heap.size w ((w.alloc (.cells #[.int .i64 T.v, .string T.nm, .slice T.a T.len T.cap] 24)).alloc (.cells #[.int .i64 T.v, .string T.nm, .slice T.a T.len T.cap] 24)) := ((Below.refl _ _).alloc (Nat.le_refl _) _).alloc (by simp) _
    have hb1 : ((w.alloc (.cells #[.int .i64 T.v, .string T.nm, .slice T.a T.len T.cap] 24)).alloc (.cells #[.int .i64 T.v, .string T.nm, .slice T.a T.len T.cap] 24)).heap[w.heap.size + 1]? = some (.cells #[.int .i64 T.v, .string T.nm, .slice T.a T.len T.cap] 24) := by
      have := heap_alloc_new (w.alloc (.cells #[.int .i64 T.v, .string T.nm, .slice T.a T.len T.cap] 24)) (.cells #[.int .i64 T.v, .string T.nm, .slice T.a T.len T.cap] 24)
      rwa [show (w.alloc (.cells #[.int .i64 T.v, .string T.nm, .slice T.a T.len T.cap] 24)).heap.size = w.heap.size + 1 from by simp] at this
    obtain ⟨x0, x1, x2, _, _, _⟩ := block_cells hb1
    generalize (w.alloc (.cells #[.int .i64 T.v, .string T.nm, .slice T.a T.len T.cap] 24)).alloc (.cells #[.int .i64 T.v, .string T.nm, .slice T.a T.len T.cap] 24) = wa at *
    refine ⟨.mk 0 ⟨#[]⟩ (some ⟨w.heap.size + 1, 0, none⟩) 1 1 (fun _ => T), rfl, ⟨Nat.zero_le _, by simp [maxLen], fun i hi => ?_⟩, ⟨fun _ => ⟨_, _, rfl, by omega⟩, fun i hi => HT.out.2.2.1⟩, fun i hi => HT.out.2.1, HS.out.below hB, G.below hB, rfl, Nat.le_refl _, Nat.le_refl _, Nat.le_refl _⟩
    obtain rfl : i = 0 := by omega
    exact ⟨⟨_, _, rfl, x0, x1, x2⟩, HT.out.1.below hB⟩
  case round =>
    obtain ⟨Q, rfl, hQ, hNB, hOk, hRF, hG, hwi, hlen, hfu, hqc⟩ := hrel
    have HQ : Hid (TIn wr Q ∧ NB b Q ∧ ∀ i, i < Q.len → Okv N (Q.f i)) := ⟨hQ, hNB, hOk⟩
    have HRF : Hid (RF wr b ob B lo g cap N len τ ρ r σ (4000 - (gk : Int))) := hRF
    have HG : Hid (G b w wr) := hG
    have HWI : Hid (within σ (wha σ S).v L0 [T] = within σ (wha σ S).v gk (kidsL Q)) := hwi
    have hqm : Q.len ≤ 2 ^ 63 - 1 := hQ.len
    clear hQ hNB hOk hRF hG hwi
    by_cases h0 : Q.len = 0
    · have HK : Hid (kidsL Q = []) := kidsL_nil h0
      rw [h0]
      go_wp2_with fail
      go_ret
      refine ⟨HG.out, .inr (.inr ⟨gk, hfu, ?_, rfl, HRF.out⟩)⟩
      rw [HWI.out, HK.out, within_nil]
    have hq1 : 0 < Q.len := by omega
    have hqI : (0 : Int) < (Q.len : Int) := by omega
    have hgt : decide ((Q.len : Int) > 0) = true := decide_eq_true hqI
    have s1 := HRF.out.st.bx.c1 _ _ _ _ HRF.out.blk
    have f1 := HRF.out.st.bx.f1 _ _ _ _ HRF.out.blk
    have hwr : IntKind.i64.wrap (4000 - (gk : Int) + 1) = 4001 - (gk : Int) := by simp [IntKind.wrap, IntKind.bits, IntKind.signed]; omega
    have HRW : Hid (RF (wr.setCell ⟨b, ob + 1, none⟩ (.int .i64 (4001 - (gk : Int)))) b ob B lo g cap N len τ ρ r σ (4001 - (gk : Int))) := HRF.out.work _
    have HGW : Hid (G b w (wr.setCell ⟨b, ob + 1, none⟩ (.int .i64 (4001 - (gk : Int))))) := HG.out.trans (G.set b wr (ob + 1) _)
    have HKd : Hid (kidsL Q = Q.f 0 :: (kidsL Q).drop 1) := by
      have := kidsL_drop hq1
      rw [List.drop_zero] at this
      exact this
    by_cases hg0 : gk = 0
    · subst hg0
      have HOv : Hid (within σ (wha σ S).v L0 [T] = .over) := by rw [Hid, HWI.out, HKd.out]; rfl
      go_wp2_with fail
      go_ret
      exact ⟨HGW.out, .inl ⟨HOv.out, rfl, HRW.out⟩⟩
    obtain ⟨m, hm⟩ : ∃ m, gk = m + 1 := ⟨gk - 1, by omega⟩
    have HW1 : Hid (within σ (wha σ S).v L0 [T] = if (wha σ (Q.f 0)).v = (wha σ S).v then .found m else within σ (wha σ S).v m (kidsL (wha σ (Q.f 0)) ++ (kidsL Q).drop 1)) := by
      rw [Hid, HWI.out, HKd.out, hm]; rfl
    have HQW : Hid (TIn (wr.setCell ⟨b, ob + 1, none⟩ (.int .i64 (4001 - (gk : Int)))) Q) := HQ.out.1.grown (G.set b wr (ob + 1) _) (fun k hk => by obtain rfl := Option.some.inj hk; exact HQ.out.2.1)
    obtain ⟨bq, oq, ha, c0, c1, c2⟩ := HQW.out.row hq1
    have HA : Hid (Q.a = some ⟨bq, oq, none⟩) := ha
    rw [show oq + 0 * 3 = oq from by omega] at c0 c1 c2
    rw [ha]
    clear ha
    have hwk : 4001 - (gk : Int) = 4000 - (m : Int) := by omega
    have HRm : Hid (RF (wr.setCell ⟨b, ob + 1, none⟩ (.int .i64 (4001 - (gk : Int)))) b ob B lo g cap N len τ ρ r σ (4000 - (m : Int))) := by rw [Hid, ← hwk]; exact HRW.out
    have HO0 : Hid (Okv N (Q.f 0)) := HQ.out.2.2 0 hq1
    have Hm : Hid (gk = m + 1) := hm
    clear hm hwk
    go_wp2_with fail
    refine (lookAt_any (Q.f 0) _ HRm.out.by HRm.out.ch HO0.out).mono ?_
    rintro e w1 ⟨Y, rfl, hb1, hLk, hYT⟩
    rw [show Y.val = .agg #[.int .i64 Y.v, .string Y.nm, .slice Y.a Y.len Y.cap] from rfl]
    have HLk : Hid (Lk N ρ (Q.f 0) Y) := hLk
    have HTY : Hid (TIn w1 Y ∧ NB b Y) := by
      rcases hYT with rfl | ⟨v, h0, h1, rfl⟩
      · exact ⟨(HQW.out.kid hq1).below hb1, HQ.out.2.1.kid hq1⟩
      · have := HRm.out.trm v (by omega) h1
        exact ⟨this.1.below hb1, this.2.2.1⟩
    have HR1 : Hid (RF w1 b ob B lo g cap N len τ ρ r σ (4000 - (m : Int))) := HRm.out.below hb1
    have HG1 : Hid (G b w w1) := HGW.out.trans (G.below hb1)
    have HQ1 : Hid (TIn w1 Q) := HQW.out.below hb1
    have hYv : Y.v = (lk ρ (Q.f 0)).v := hLk.1
    have hcl := HR1.out.rel.cls S (Q.f 0) HOS.out HO0.out (by rw [HX.out]; exact hx)
    have HBx : Hid (Below w1.heap.size w1 (w1.alloc (.cells #[.int .i64 Y.v, .string Y.nm, .slice Y.a Y.len Y.cap] 24))) := (Below.refl _ _).alloc (Nat.le_refl _) _
    clear hb1 hLk hYT c0 c1 c2 s1 f1
    by_cases hf : Y.v = x
    · have HFo : Hid (within σ (wha σ S).v L0 [T] = .found m) := by
        rw [Hid, HW1.out, if_pos (hcl.1 (by rw [HX.out, ← hYv]; exact hf.symm)).symm]
      have hfb : (Y.v == x) = true := beq_iff_eq.2 hf
      have hml : m ≤ L0 := by have := Hm.out; omega
      clear hf hcl hYv
      go_wp2_with fail
      go_ret
      exact ⟨HG1.out.trans (G.below HBx.out), .inr (.inl ⟨m, hml, HFo.out, rfl, HR1.out.below HBx.out⟩)⟩
    have hfb : (Y.v == x) = false := beq_eq_false_iff_ne.2 hf
    have HKy := kids_lk HR1.out.rel HR1.out.ok HO0.out HLk.out
    have HFr : Hid (within σ (wha σ S).v L0 [T] = within σ (wha σ S).v m (kidsL Y ++ (kidsL Q).drop 1)) := by
      rw [Hid, HW1.out, if_neg (fun e => hf (by rw [hYv, ← HX.out]; exact (hcl.2 e.symm).symm)), HKy.1]
    have hlen4 : Y.len ≤ 4 := HLk.out.2.2.four
    have hYa : Y.a = none → Y.len = 0 := fun e => by
      by_cases h : 0 < Y.len
      · obtain ⟨b', o', e', _⟩ := HTY.out.1.row h
        rw [e] at e'; cases e'
      · omega
    clear hf hcl hYv HKy
    generalize hua : Y.a = ua at *
    have htl := tail_run bq oq Q.len Q.cap hq1
    have HOw : Hid (((w1.alloc (.cells #[.int .i64 Y.v, .string Y.nm, .slice ua Y.len Y.cap] 24)).alloc (.cells #[] 24)).ownsRow (w1.heap.size + 1) 24 3 (.slice (some ⟨w1.heap.size + 1, 0, none⟩) 0 0) 0 []) := by
      have := owns_empty (w1.alloc (.cells #[.int .i64 Y.v, .string Y.nm, .slice ua Y.len Y.cap] 24)) (w1.heap.size + 1) (by simp)
      rwa [show (w1.alloc (.cells #[.int .i64 Y.v, .string Y.nm, .slice ua Y.len Y.cap] 24)).heap.size = w1.heap.size + 1 from by simp] at this
    have hs3 : (w1.alloc (.cells #[.int .i64 Y.v, .string Y.nm, .slice ua Y.len Y.cap] 24)).heap.size = w1.heap.size + 1 := by simp
    have hs4 : ((w1.alloc (.cells #[.int .i64 Y.v, .string Y.nm, .slice ua Y.len Y.cap] 24)).alloc (.cells #[] 24)).heap.size = w1.heap.size + 2 := by simp
    have HB4 : Hid (Below w1.heap.size w1 ((w1.alloc (.cells #[.int .i64 Y.v, .string Y.nm, .slice ua Y.len Y.cap] 24)).alloc (.cells #[] 24))) := HBx.out.alloc (by omega) _
    have HN1 : Hid (∀ ad, ua = some ad → ∀ j u, (flat (kidsL Y))[j]? = some u → ((w1.alloc (.cells #[.int .i64 Y.v, .string Y.nm, .slice ua Y.len Y.cap] 24)).alloc (.cells #[] 24)).cell? (ad.add j) = some u) := by
      intro ad had
      by_cases h : 0 < Y.len
      · obtain ⟨b', o', e', _⟩ := HTY.out.1.row h
        rw [hua, had] at e'
        obtain rfl := Option.some.inj e'
        refine rows_cells fun i hi => ?_
        rw [kidsL_len] at hi
        rw [kidsL_get]
        obtain ⟨b2, o2, e2, d0, d1, d2⟩ := (HTY.out.1.below HB4.out).row hi
        rw [hua, had] at e2
        cases e2
        exact ⟨_, _, rfl, d0, d1, d2⟩
      · intro j u hj
        rw [kidsL_nil (by omega)] at hj
        simp [flat] at hj
    have HN2 : Hid (∀ W, Below w1.heap.size w1 W → ∀ ad, some (⟨bq, if Q.cap = 1 then oq else oq + 3, none⟩ : Addr) = some ad → ∀ j u, (flat ((kidsL Q).drop 1))[j]? = some u → W.cell? (ad.add j) = some u) := by
      intro W hW ad had
      obtain rfl := Option.some.inj had
      by_cases hc : Q.cap = 1
      · intro j u hj
        rw [show (kidsL Q).drop 1 = [] from List.drop_eq_nil_iff.2 (by rw [kidsL_len]; omega)] at hj
        simp [flat] at hj
      · rw [if_neg hc]
        refine rows_cells fun i hi => ?_
        rw [List.length_drop, kidsL_len] at hi
        rw [List.getElem_drop, kidsL_get]
        obtain ⟨b', o', e', d0, d1, d2⟩ := (HQ1.out.below hW).row (show 1 + i < Q.len by omega)
        rw [HA.out] at e'
        cases e'
        refine ⟨bq, oq + 3, rfl, ?_, ?_, ?_⟩
        · rw [show oq + 3 + i * 3 = oq + (1 + i) * 3 from by omega]; exact d0
        · rw [show oq + 3 + i * 3 + 1 = oq + (1 + i) * 3 + 1 from by omega]; exact d1
        · rw [show oq + 3 + i * 3 + 2 = oq + (1 + i) * 3 + 2 from by omega]; exact d2
    have hn2 : Y.len + (Q.len - 1) ≤ 1000000 := by omega
    have hdl : (flat ((kidsL Q).drop 1)).length = (Q.len - 1) * 3 := by rw [flat_length, List.length_drop, kidsL_len]
    clear hbl
    generalize (if Q.cap = 1 then oq else oq + 3) = ot at htl HN2
    go_wp2_with fail
    go_region_law (first
      | (refine step_app rfl rfl (.tmp 39) (.tmp 41) rfl (w1.heap.size + 1) (w1.heap.size + 1) 0 0 [] (by first | rfl | simp [Act.eval, Act.put]) HOw.out ua Y.len Y.cap (flat (kidsL Y)) (by first | rfl | simp [Act.eval, Act.put]) (by rw [flat_length, kidsL_len]) hYa HN1.out (flat_one _) (by omega) (by simp) Y.len (flat (kidsL Y)) (Nat.zero_add _) (List.nil_append _) ?_
         intro g1 c1 w2 ho2 hg2 hat2
         have HO2 : Hid (w2.ownsRow (w1.heap.size + 1) 24 3 (.slice (some ⟨g1, 0, none⟩) Y.len c1) Y.len (flat (kidsL Y))) := ho2
         have hgl1 : w1.heap.size + 1 ≤ g1 := (ho2.lt g1 rfl).1
         have HB2 : Hid (Below w1.heap.size w1 w2) := Below.grown HB4.out (w' := w2) (row := some (w1.heap.size + 1)) ⟨hg2.os, hg2.tape, hg2.output, hg2.size, hg2.block⟩ HB4.out.size (fun k hk => by have := Option.some.inj hk; omega)
         have hs2 : w1.heap.size + 2 ≤ w2.heap.size := (by have := hg2.size; simp only [World.drew] at this; omega)
         clear ho2 hg2 hat2)
      | (refine step_app rfl rfl (.tmp 42) (.tmp 44) rfl (w1.heap.size + 1) g1 Y.len c1 (flat (kidsL Y)) (by first | rfl | simp [Act.eval, Act.put]) HO2.out (some ⟨bq, ot, none⟩) (Q.len - 1) (Q.cap - 1) (flat ((kidsL Q).drop 1)) (by first | rfl | simp [Act.eval, Act.put]) hdl (fun h => by cases h) (HN2.out _ HB2.out) (flat_one _) hn2 (by omega) (Y.len + (Q.len - 1)) (flat (kidsL Y ++ (kidsL Q).drop 1)) rfl (flat_append _ _).symm ?_
         intro g2 c2 w3 ho3 hg3 hat3
         have HO3 : Hid (w3.ownsRow (w1.heap.size + 1) 24 3 (.slice (some ⟨g2, 0, none⟩) (Y.len + (Q.len - 1)) c2) (Y.len + (Q.len - 1)) (flat (kidsL Y ++ (kidsL Q).drop 1))) := ho3
         have HB3 : Hid (Below w1.heap.size w1 w3) := Below.grown HB2.out (w' := w3) (row := some g1) ⟨hg3.os, hg3.tape, hg3.output, hg3.size, hg3.block⟩ HB2.out.size (fun k hk => by have := Option.some.inj hk; omega)
         clear ho3 hg3 hat3))
    all_goals
      have hTs : ∀ U ∈ kidsL Y ++ (kidsL Q).drop 1, TIn w3 U ∧ NB b U ∧ Okv N U := fun U hU => by
        rcases List.mem_append.1 hU with h | h
        · obtain ⟨i, hi, rfl⟩ := List.mem_map.1 h
          have hi' : i < Y.len := List.mem_range.1 hi
          exact ⟨(HTY.out.1.kid hi').below HB3.out, HTY.out.2.kid hi', HLk.out.2.2.kid hi'⟩
        · obtain ⟨i, hi, rfl⟩ := List.mem_map.1 (List.mem_of_mem_drop h)
          have hi' : i < Q.len := List.mem_range.1 hi
          exact ⟨(HQ1.out.kid hi').below HB3.out, HQ.out.2.1.kid hi', HQ.out.2.2 i hi'⟩
      have hLn : (kidsL Y ++ (kidsL Q).drop 1).length = Y.len + (Q.len - 1) := by rw [List.length_append, List.length_drop, kidsL_len, kidsL_len]
      obtain ⟨hTQ, hKQ⟩ := own_list HO3.out hLn (fun U hU => (hTs U hU).1)
      have hgl : w1.heap.size + 1 ≤ g2 := (HO3.out.lt g2 rfl).1
      have hcap2 : Y.len + (Q.len - 1) ≤ c2 := by
        rcases HO3.out.2 with ⟨h', _⟩ | ⟨g', cap', cur, h', _, _, h2, _⟩
        · simp at h'
        · cases h'; exact h2
      have hget : ∀ i, i < Y.len + (Q.len - 1) → (kidsL Y ++ (kidsL Q).drop 1).getD i .nil ∈ kidsL Y ++ (kidsL Q).drop 1 := fun i hi => by
        exact getD_mem _ i (by omega)
      have hbw : b < w1.heap.size := HR1.out.lt.1
      have HFin : Hid (TIn w3 (.mk 0 ⟨#[]⟩ (some ⟨g2, 0, none⟩) (Y.len + (Q.len - 1)) c2 (fun i => (kidsL Y ++ (kidsL Q).drop 1).getD i .nil)) ∧ NB b (.mk 0 ⟨#[]⟩ (some ⟨g2, 0, none⟩) (Y.len + (Q.len - 1)) c2 (fun i => (kidsL Y ++ (kidsL Q).drop 1).getD i .nil)) ∧ (∀ i, i < Y.len + (Q.len - 1) → Okv N ((kidsL Y ++ (kidsL Q).drop 1).getD i .nil)) ∧ RF w3 b ob B lo g cap N len τ ρ r σ (4000 - (m : Int)) ∧ G b w w3 ∧ within σ (wha σ S).v L0 [T] = within σ (wha σ S).v m (kidsL (.mk 0 ⟨#[]⟩ (some ⟨g2, 0, none⟩) (Y.len + (Q.len - 1)) c2 (fun i => (kidsL Y ++ (kidsL Q).drop 1).getD i .nil))) ∧ Y.len + (Q.len - 1) + 3 * m ≤ 1 + 3 * L0 ∧ m ≤ L0 ∧ Y.len + (Q.len - 1) ≤ c2) :=
        ⟨hTQ, ⟨fun _ => ⟨_, _, rfl, by omega⟩, fun i hi => (hTs _ (hget i hi)).2.1⟩, fun i hi => (hTs _ (hget i hi)).2.2, HR1.out.below HB3.out, HG1.out.trans (G.below HB3.out), by rw [HFr.out, hKQ], by have := Hm.out; omega, by have := Hm.out; omega, hcap2⟩
      have hmg : m < gk := by have := Hm.out; omega
      clear hTs hLn hTQ hKQ hgl hcap2 hget hbw
      go_wp2_with fail
      go_roundg m
      case measure => exact hmg
      case rel => exact ⟨_, rfl, HFin.out⟩
end Go.Proofs.Ytmggaclaoefdaaa
