/- Each of a name with arguments, with whatever function tells. A term through and through, by what its variables are: over terms alone. -/
import Derived.Test.YtmggaclaoefdaaaGBD
import Derived.Test.YtmggaclaoefdaaaGAT
namespace Go.Proofs.Ytmggaclaoefdaaa
open Go.RowKit

theorem LstR.bw {M : Nat → Prop} {lo : Nat} {w w' : World} {v : Value} {ts us : List Tm} (h : LstR lo w v ts us) (hb : Bw M w.heap.size w w') (hM : ∀ k, M k → k < lo) : LstR lo w' v ts us := by
  refine ⟨⟨h.own.1, ?_⟩, fun T hT => ⟨(h.all T hT).1.bw hb (Nat.le_refl _) ((h.all T hT).2.1.nm hM), (h.all T hT).2⟩, h.len, h.sim⟩
  rcases h.own.2 with hn | ⟨g, cap, cur, rfl, hb', hg, rest⟩
  · exact .inl hn
  · exact .inr ⟨g, cap, cur, rfl, hb', (hb.block g (Array.getElem?_eq_some_iff.1 hg).1 (fun e => by have := hM g e; omega)).trans hg, rest⟩
def upV (T : Tm) (j : Nat) : List Int := ((List.range j).map fun i => vsT (T.f i)).flatten
theorem upV_succ (T : Tm) (j : Nat) : upV T (j + 1) = upV T j ++ vsT (T.f j) := by
  unfold upV; rw [List.range_succ, List.map_append, List.flatten_append]; simp
theorem vsT_fn {T : Tm} (h : T.v = 0) : vsT T = upV T T.len := by
  cases T with
  | nil => rfl
  | mk v nm a len cap f =>
    have h : v = 0 := h
    rw [vsT, if_pos h]; rfl

set_option maxRecDepth 100000 in
set_option maxHeartbeats 4000000 in
theorem each_args {t : Tell} (ht : TellOk t) {g : Nat} {caps : Array Value} {T : Tm} (hv : T.v = 0) (h4 : T.len ≤ 4) (hk : ∀ i, i < T.len → EG t g caps (T.f i)) : EG t g caps T := by
  intro s w hB0 hI hT hM
  have HO : Hid (TellOk t) := ht
  have HC : Hid (∀ i, i < T.len → ∀ (s : t.S) (W : World), Bw t.M w.heap.size w W → t.I s W → Calls Try.prog 120 #[.agg #[.int .i64 (T.f i).v, .string (T.f i).nm, .slice (T.f i).a (T.f i).len (T.f i).cap], .func (.func g) #[] caps] W (XP t W (tl t s (vsT (T.f i))) (fun s' => ap (t.O s') (T.f i)))) := fun i hi s W hW hIW =>
    hk i hi s W (Nat.le_trans hB0 hW.size) hIW ((hT.kid hi).bw hW (Nat.le_refl _) (hM.kid hi)) (hM.kid hi)
  have HKid : Hid (∀ i, i < T.len → ∀ W, Bw t.M w.heap.size w W → RowAt W T.a i (T.f i)) := fun i hi W hW => by
    obtain ⟨b, o, e, c0, c1, c2⟩ := hT.row hi
    obtain ⟨b', o', e', hb'⟩ := hM.root (by omega)
    rw [e] at e'
    cases e'
    have hl : b < w.heap.size := lt_of_cell c0
    have hx : W.heap[b]? = w.heap[b]? := hW.block b hl hb'
    exact ⟨b, o, e, (World.cell?_of_block hx).trans c0, (World.cell?_of_block hx).trans c1, (World.cell?_of_block hx).trans c2⟩
  have HV : Hid (vsT T = upV T T.len) := vsT_fn hv
  have HAp : Hid (∀ s', ap (t.O s') T = .mk 0 T.nm none T.len 0 (fun i => if i < T.len then ap (t.O s') (T.f i) else .nil)) := fun s' => ap_fn _ hv
  have HI0 : Hid (∀ W, Below t.B w W → t.I s W) := fun W hW => ht.keep _ _ _ hI hW
  have hlen : T.len ≤ 2 ^ 63 - 1 := hT.len
  have hnm := hT.name
  have hvb : (T.v != 0) = false := by rw [hv]; rfl
  obtain ⟨i0, hi, hz0, hz1, hz2⟩ := info_parts Try.info24
  clear hk hT hM hI hv
  generalize hua : T.a = ua at *
  show Calls Try.prog 120 #[.agg #[.int .i64 T.v, .string T.nm, .slice T.a T.len T.cap], .func (.func g) #[] caps] w _
  rw [hua]
  go_enter Try.func120, Try.ntmps120
  go_wp2_with fail
  obtain ⟨a1, a2, aB⟩ := alloc3 w (.cells #[.int .i64 T.v, .string T.nm, .slice ua T.len T.cap] 24) (.cells #[.int .i64 0, .string ⟨#[]⟩, .slice none 0 0] 24) (.cells #[.int .i64 0, .string T.nm, .slice none 0 0] 24)
  go_loopw [21] (fun i wr => ∃ (j : Nat) (ts : List Tm) (v : Value), j ≤ T.len ∧ i = .int .i64 j ∧ LstR (w.heap.size + 3) wr v ts ts ∧ ts.length = j ∧ wr.heap[w.heap.size + 2]? = some (.cells #[.int .i64 0, .string T.nm, v] 24) ∧ wr.heap[w.heap.size + 1]? = some (.cells #[.int .i64 0, .string ⟨#[]⟩, .slice none 0 0] 24) ∧ w.heap.size + 3 ≤ wr.heap.size ∧ Bw t.M w.heap.size w wr ∧ t.I (tl t s (upV T j)) wr ∧ (∀ i, i < j → ∀ s'', t.le (tl t s (upV T j)) s'' → can (ts.getD i .nil) = ap (t.O s'') (T.f i))) (fun i _ => T.len - (intOf i).toNat)
  case atStart => exact ⟨0, [], _, Nat.zero_le _, rfl, ⟨World.ownsRow_nil _ _ _ _, fun c hc => absurd hc (by simp), rfl, fun i hi => absurd hi (Nat.not_lt_zero i)⟩, rfl, a2, a1, by simp, Bw.ofBelow aB, HI0.out _ (aB.mono hB0), fun i hi => absurd hi (Nat.not_lt_zero i)⟩
  case round =>
    clear a1 a2 aB
    obtain ⟨j, ts, v, hj, rfl, hL, hTL, hC2, hZ1, hsz, hB, hIj, hVal⟩ := hrel
    have HL : Hid (LstR (w.heap.size + 3) wr v ts ts) := hL
    have HC2 : Hid (wr.heap[w.heap.size + 2]? = some (.cells #[.int .i64 0, .string T.nm, v] 24)) := hC2
    have HZ1 : Hid (wr.heap[w.heap.size + 1]? = some (.cells #[.int .i64 0, .string ⟨#[]⟩, .slice none 0 0] 24)) := hZ1
    have HB : Hid (Bw t.M w.heap.size w wr) := hB
    have HIj : Hid (t.I (tl t s (upV T j)) wr) := hIj
    have HVal : Hid (∀ i, i < j → ∀ s'', t.le (tl t s (upV T j)) s'' → can (ts.getD i .nil) = ap (t.O s'') (T.f i)) := hVal
    have HTL : Hid (ts.length = j) := hTL
    have hts4 : ts.length ≤ 4 := by omega
    have HML : Hid (∀ k, t.M k → k < w.heap.size) := fun k hk => Nat.lt_of_lt_of_le (HO.out.lt k hk) hB0
    clear hL hC2 hZ1 hB hTL hIj hVal
    by_cases hlt : j < T.len
    case neg =>
      have hje : j = T.len := by omega
      obtain ⟨Q, hvQ, hQ, hQA, hQS⟩ := HL.out.terms
      have hQl : Q.len = T.len := by rw [hQS.1, HTL.out, hje]
      have HQ : Hid (TIn wr Q ∧ Above (w.heap.size + 3) Q ∧ Q.len = T.len ∧ ∀ i, i < T.len → can (Q.f i) = can (ts.getD i .nil)) := ⟨hQ, hQA, hQl, fun i hi => sim_can (hQS.2 i (by omega))⟩
      have HIe : Hid (t.I (tl t s (vsT T)) wr) := by rw [Hid, HV.out, ← hje]; exact HIj.out
      have HVe : Hid (∀ i, i < T.len → ∀ s'', t.le (tl t s (vsT T)) s'' → can (ts.getD i .nil) = ap (t.O s'') (T.f i)) := fun i hi s'' h => HVal.out i (by omega) s'' (by rw [hje, ← HV.out]; exact h)
      subst hvQ
      clear hQ hQA hQS hje hQl
      obtain ⟨c0, c1, c2, _, _, _⟩ := block_cells HC2.out
      obtain ⟨y0, y1, y2, f0, f1, f2⟩ := block_cells HZ1.out
      go_wp2_with fail
      obtain ⟨W', hW', z0, z1, z2, hB', hgr⟩ := fin3b (r := w.heap.size + 1) (by omega) HZ1.out HB.out (.int .i64 0) (.string T.nm) (.slice Q.a Q.len Q.cap)
      rw [hW']
      have hT' : TIn W' Q := HQ.out.1.grown hgr (fun k hk => by obtain rfl := Option.some.inj hk; exact HQ.out.2.1.nb (by omega))
      have hBB : Below t.B wr W' := (Below.refl _ _).grown hgr (by omega) (fun k hk => by have := Option.some.inj hk; omega)
      refine bodyPost_ret (v := Tm.val (.mk 0 T.nm Q.a Q.len Q.cap Q.f)) ?_ rfl ⟨.mk 0 T.nm Q.a Q.len Q.cap Q.f, rfl, hB', HO.out.keep _ _ _ HIe.out hBB, hT'.retop hnm, (HQ.out.2.1.mono (by omega)).retop, fun s'' h => ?_⟩
      · simp [results, Try.results120, go_sem, z0, z1, z2, Tm.val, Tm.v, Tm.nm, Tm.a, Tm.len, Tm.cap]
      · show can (Tm.mk 0 T.nm Q.a Q.len Q.cap Q.f) = ap (t.O s'') T
        rw [HAp.out]
        show Tm.mk 0 T.nm none Q.len 0 (fun i => if i < Q.len then can (Q.f i) else .nil) = _
        rw [HQ.out.2.2.1]
        congr 1
        funext i
        by_cases hi : i < T.len
        · rw [if_pos hi, if_pos hi, HQ.out.2.2.2 i hi]; exact HVe.out i hi s'' h
        · rw [if_neg hi, if_neg hi]
    have hr := HKid.out j hlt wr HB.out
    obtain ⟨bb, o, ha, c0, c1, c2⟩ := hr
    subst ha
    have HBe : Hid (Below wr.heap.size wr (wr.alloc (.cells #[.int .i64 (T.f j).v, .string (T.f j).nm, .slice (T.f j).a (T.f j).len (T.f j).cap] 24))) := (Below.refl _ _).alloc (Nat.le_refl _) _
    have HBa : Hid (Bw t.M w.heap.size w (wr.alloc (.cells #[.int .i64 (T.f j).v, .string (T.f j).nm, .slice (T.f j).a (T.f j).len (T.f j).cap] 24))) := HB.out.trans (Bw.ofBelow (HBe.out.mono HB.out.size))
    have HAa : Hid ((wr.alloc (.cells #[.int .i64 (T.f j).v, .string (T.f j).nm, .slice (T.f j).a (T.f j).len (T.f j).cap] 24)).heap[wr.heap.size]? = some (.cells #[.int .i64 (T.f j).v, .string (T.f j).nm, .slice (T.f j).a (T.f j).len (T.f j).cap] 24)) := heap_alloc_new wr _
    have HIa : Hid (t.I (tl t s (upV T j)) (wr.alloc (.cells #[.int .i64 (T.f j).v, .string (T.f j).nm, .slice (T.f j).a (T.f j).len (T.f j).cap] 24))) := HO.out.keep _ _ _ HIj.out (HBe.out.mono (by omega))
    go_wp2_with fail
    generalize wr.alloc (.cells #[.int .i64 (T.f j).v, .string (T.f j).nm, .slice (T.f j).a (T.f j).len (T.f j).cap] 24) = wa at *
    obtain ⟨d0, d1, d2, k0, k1, k2⟩ := block_cells ((HBe.out.block _ (by omega)).trans HC2.out)
    obtain ⟨e0, e1, e2, _, _, _⟩ := block_cells HAa.out
    have hwa : wr.heap.size < wa.heap.size := lt_of_cell e0
    have tok1 : True := trivial
    go_region_law (first
      | (have _t := tok1
         go_simp
         go_at_call 120
         refine (HC.out j hlt _ _ (by first | exact HBa.out | exact HBa.out.drew | exact HBa.out.drew.drew | exact HBa.out.drew.drew.drew) (by first | exact HIa.out | exact HO.out.keep _ _ _ HIa.out (Below.refl _ _).drew | exact HO.out.keep _ _ _ HIa.out (Below.refl _ _).drew.drew | exact HO.out.keep _ _ _ HIa.out (Below.refl _ _).drew.drew.drew)).mono ?_
         rintro e w5 ⟨X, rfl, hb5, hI5, hX5, hA5, hS5⟩
         have HB5 : Hid (Bw t.M wa.heap.size wa w5) := Bw.trans (Bw.ofBelow (by repeat (first | exact Below.refl _ _ | refine Below.drew ?_))) (hb5.mono (Nat.le_refl _))
         have HX5 : Hid (TIn w5 X ∧ Above wa.heap.size X ∧ t.I (tl t s (upV T (j + 1))) w5 ∧ ∀ s'', t.le (tl t s (upV T (j + 1))) s'' → can X = ap (t.O s'') (T.f j)) := ⟨hX5, hA5, by rw [upV_succ, tl_append]; exact hI5, fun s'' h => hS5 s'' (by rw [← tl_append, ← upV_succ]; exact h)⟩
         have g2 : w5.cell? ⟨w.heap.size + 2, 2, none⟩ = some v := (HB5.out.cell (p := ⟨w.heap.size + 2, 2, none⟩) (by show w.heap.size + 2 < wa.heap.size; omega) (fun e => by have h : w.heap.size + 2 < w.heap.size := HML.out _ e; omega)).trans d2
         have gf2 : w5.frozen? ⟨w.heap.size + 2, 2, none⟩ = false := (HB5.out.frozen (p := ⟨w.heap.size + 2, 2, none⟩) (by show w.heap.size + 2 < wa.heap.size; omega) (fun e => by have h : w.heap.size + 2 < w.heap.size := HML.out _ e; omega)).trans k2
         have HL5 : Hid (LstR (w.heap.size + 3) (w5.alloc (.cells #[.int .i64 X.v, .string X.nm, .slice X.a X.len X.cap] 24)) v ts ts) := ((HL.out.keep HBe.out).bw HB5.out (fun k hk => by have := HML.out k hk; omega)).keep ((Below.refl _ _).alloc (Nat.le_refl _) _)
         rw [show X.val = .agg #[.int .i64 X.v, .string X.nm, .slice X.a X.len X.cap] from rfl]
         have g2b : (w5.alloc (.cells #[.int .i64 X.v, .string X.nm, .slice X.a X.len X.cap] 24)).cell? ⟨w.heap.size + 2, 2, none⟩ = some v := (((Below.refl _ w5).alloc (Nat.le_refl _) (.cells #[.int .i64 X.v, .string X.nm, .slice X.a X.len X.cap] 24)).cell (p := ⟨w.heap.size + 2, 2, none⟩) (lt_of_cell g2)).trans g2
         clear hb5 hX5 hA5 hS5 hI5 tok1)
      | (refine step_append_own_at rfl (.tmp 26) (.tmp 30) 22 rfl (w.heap.size + 3) 24 i0 (.agg #[.int .i64 0, .string ByteArray.empty, .slice none 0 0]) 3 48 Try.underlying22 hi hz0 hz1 hz2 rfl (by decide) v ts.length (flat ts) (by simp [Act.eval]) HL5.out.own ⟨w5.heap.size, 0, none⟩ 1 1 (flat [X]) (by simp [Act.eval]) rfl (news1 w5 X) (flat_one _) (by unfold maxLen; omega) (by omega) (by have := HB5.out.size; simp; omega) (by omega) ?_
         intro g cap' w6 hown6 hg6 hat6
         have HO6 : Hid (w6.ownsRow (w.heap.size + 3) 24 3 (.slice (some ⟨g, 0, none⟩) (ts.length + 1) cap') (ts.length + 1) (flat ts ++ flat [X])) := hown6
         have HG6 : Hid ((w5.alloc (.cells #[.int .i64 X.v, .string X.nm, .slice X.a X.len X.cap] 24)).grownBy w6 v.ownBlock) := hg6
         have HA6 : Hid (some g = v.ownBlock ∨ g = (w5.alloc (.cells #[.int .i64 X.v, .string X.nm, .slice X.a X.len X.cap] 24)).heap.size) := hat6
         have hne6 : some (w.heap.size + 2) ≠ v.ownBlock := fun e => by have := (HL.out.own.lt _ e.symm).1; omega
         have q2 : w6.cell? ⟨w.heap.size + 2, 2, none⟩ = some v := hg6.cell ((((Below.refl _ w5).alloc (Nat.le_refl _) (.cells #[.int .i64 X.v, .string X.nm, .slice X.a X.len X.cap] 24)).cell (p := ⟨w.heap.size + 2, 2, none⟩) (lt_of_cell g2)).trans g2) hne6
         have qf2 : w6.frozen? ⟨w.heap.size + 2, 2, none⟩ = false := (World.frozen?_of_block (hg6.block _ (by have := lt_of_cell g2; simp; have h : w.heap.size + 2 < w5.heap.size := this; omega) hne6)).trans ((((Below.refl _ w5).alloc (Nat.le_refl _) (.cells #[.int .i64 X.v, .string X.nm, .slice X.a X.len X.cap] 24)).frozen (p := ⟨w.heap.size + 2, 2, none⟩) (lt_of_cell g2)).trans gf2)
         clear hown6 hg6 hat6))
    all_goals
      have hgs := grown_set (W := w6) (w.heap.size + 2) 2 (.slice (some ⟨g, 0, none⟩) (ts.length + 1) cap')
      have hwr5 : Bw t.M wr.heap.size wr w5 := (Bw.ofBelow HBe.out).trans (HB5.out.mono (Nat.le_of_lt hwa))
      have hB6 : Bw t.M w.heap.size w w6 := ((HB.out.trans (hwr5.mono HB.out.size)).trans (Bw.ofBelow ((Below.refl _ _).alloc (by have := hwr5.size; omega) _))).grown HG6.out (by have := hwr5.size; simp; omega) (fun q hq => by have := (HL.out.own.lt q hq).1; exact .inl (by omega))
      have HBF : Hid (Bw t.M w.heap.size w (w6.setCell ⟨w.heap.size + 2, 2, none⟩ (.slice (some ⟨g, 0, none⟩) (ts.length + 1) cap'))) := hB6.grown hgs (by have := hwr5.size; have := HG6.out.size; simp at this; omega) (fun q hq => by have := Option.some.inj hq; exact .inl (by omega))
      have HIF : Hid (t.I (tl t s (upV T (j + 1))) (w6.setCell ⟨w.heap.size + 2, 2, none⟩ (.slice (some ⟨g, 0, none⟩) (ts.length + 1) cap'))) := HO.out.keep _ _ _ HX5.out.2.2.1 ((((Below.refl t.B w5).alloc (by have := hwr5.size; omega) _).grown HG6.out (by have := hwr5.size; simp; omega) (fun q hq => by have := (HL.out.own.lt q hq).1; omega)).grown hgs (by have := hwr5.size; have := HG6.out.size; simp at this; omega) (fun q hq => by have := Option.some.inj hq; omega))
      have hL6 : LstR (w.heap.size + 3) w6 (.slice (some ⟨g, 0, none⟩) (ts.length + 1) cap') (ts ++ [X]) (ts ++ [X]) := HL5.out.more (HX5.out.1.below ((Below.refl _ _).alloc (Nat.le_refl _) _)) (HX5.out.2.1.mono (by omega)) (fun q hq => HX5.out.2.1.nb (by have := (HL.out.own.lt q hq).2; omega)) (Sim.refl X) HO6.out HG6.out (by
        rcases HA6.out with e | e
        · exact .inl e
        · exact .inr (by rw [e]; rfl))
      have HLF : Hid (LstR (w.heap.size + 3) (w6.setCell ⟨w.heap.size + 2, 2, none⟩ (.slice (some ⟨g, 0, none⟩) (ts.length + 1) cap')) (.slice (some ⟨g, 0, none⟩) (ts.length + 1) cap') (ts ++ [X]) (ts ++ [X])) := by
        refine ⟨hL6.own.kept hgs (.inr (fun e => by have h1 := (hL6.own.lt g rfl).1; have h2 : g = w.heap.size + 2 := Option.some.inj e; omega)), fun U hU => ?_, hL6.len, hL6.sim⟩
        obtain ⟨h1, h2, h3⟩ := hL6.all U hU
        exact ⟨h1.grown hgs (fun q hq => by obtain rfl := Option.some.inj hq; exact h2.nb (by omega)), h2, h3⟩
      have hne6 : some (w.heap.size + 2) ≠ v.ownBlock := fun e => by have := (HL.out.own.lt _ e.symm).1; omega
      have hne7 : some (w.heap.size + 1) ≠ v.ownBlock := fun e => by have := (HL.out.own.lt _ e.symm).1; omega
      have h56 : ∀ q, q < wr.heap.size → some q ≠ v.ownBlock → ¬ t.M q → w6.heap[q]? = wr.heap[q]? := fun q hq hn hm => (HG6.out.block q (by have := hwr5.size; simp; omega) hn).trans ((heapOld _ _ (by have := hwr5.size; omega)).trans (hwr5.block q hq hm))
      have HCF : Hid ((w6.setCell ⟨w.heap.size + 2, 2, none⟩ (.slice (some ⟨g, 0, none⟩) (ts.length + 1) cap')).heap[w.heap.size + 2]? = some (.cells #[.int .i64 0, .string T.nm, .slice (some ⟨g, 0, none⟩) (ts.length + 1) cap'] 24)) := setL ((h56 _ (by omega) hne6 (fun e => by have := HML.out _ e; omega)).trans HC2.out)
      have HZF : Hid ((w6.setCell ⟨w.heap.size + 2, 2, none⟩ (.slice (some ⟨g, 0, none⟩) (ts.length + 1) cap')).heap[w.heap.size + 1]? = some (.cells #[.int .i64 0, .string ⟨#[]⟩, .slice none 0 0] 24)) := (hgs.block _ (by have := hwr5.size; have := HG6.out.size; simp at this; omega) (by simp)).trans ((h56 _ (by omega) hne7 (fun e => by have := HML.out _ e; omega)).trans HZ1.out)
      have hszF : w.heap.size + 3 ≤ (w6.setCell ⟨w.heap.size + 2, 2, none⟩ (.slice (some ⟨g, 0, none⟩) (ts.length + 1) cap')).heap.size := by have := hwr5.size; have := HG6.out.size; have := hgs.size; simp at *; omega
      have HVF : Hid (∀ i, i < j + 1 → ∀ s'', t.le (tl t s (upV T (j + 1))) s'' → can ((ts ++ [X]).getD i .nil) = ap (t.O s'') (T.f i)) := fun i hi s'' h => by
        have hj' := HTL.out
        by_cases h2 : i < j
        · have e : (ts ++ [X]).getD i .nil = ts.getD i .nil := by simp [List.getD, List.getElem?_append_left (show i < ts.length by omega)]
          rw [e]; exact HVal.out i h2 s'' (HO.out.trans _ _ _ (by rw [upV_succ, tl_append]; exact tl_le HO.out _ _) h)
        · obtain rfl : i = j := by omega
          have e : (ts ++ [X]).getD i .nil = X := by rw [← hj']; simp [List.getD]
          rw [e]; exact HX5.out.2.2.2 s'' h
      have hlF : (ts ++ [X]).length = j + 1 := by rw [List.length_append, HTL.out]; rfl
      clear hgs hwr5 hB6 hL6 hne6 hne7 h56
      go_wp2_with fail
      go_roundw
      case rel => exact ⟨j + 1, ts ++ [X], _, by omega, by go_num, HLF.out, hlF, HCF.out, HZF.out, hszF, HBF.out, HIF.out, HVF.out⟩
      case measure => simp [intOf]; omega
/-- All its names have at most four arguments. -/
def Fo : Tm → Prop
  | .nil => True
  | .mk _ _ _ len _ f => len ≤ 4 ∧ ∀ i, i < len → Fo (f i)
theorem Okv.fo {N : Int} {T : Tm} (h : Okv N T) : Fo T := by
  induction T with
  | nil => trivial
  | mk v nm a len cap f ih => exact ⟨h.2.2.2.1, fun i hi => ih i (h.2.2.2.2 i hi)⟩
theorem each_gen {t : Tell} (ht : TellOk t) {g : Nat} (hE : Ent g) {caps : Array Value} (T : Tm) (h4 : Fo T) (hC : ∀ v ∈ vsT T, TC t g caps v) : EG t g caps T := by
  induction T with
  | nil => exact each_args ht rfl (Nat.zero_le _) (fun i hi => absurd hi (Nat.not_lt_zero i))
  | mk v nm a len cap f ih =>
    by_cases hv : v = 0
    · refine each_args ht hv h4.1 (fun i hi => ih i (h4.2 i hi) (fun u hu => hC u ?_))
      rw [vsT_fn (T := .mk v nm a len cap f) hv]
      exact List.mem_flatten.2 ⟨_, List.mem_map.2 ⟨i, List.mem_range.2 hi, rfl⟩, hu⟩
    · exact each_tell ht hE hv (hC v (by rw [vsT, if_neg hv]; simp))
end Go.Proofs.Ytmggaclaoefdaaa

namespace Go.Proofs.Ytmggaclaoefdaaa
open Go.RowKit

/-- Of a variable only its number counts. -/
theorem ex_v {σ : Sg} {T : Tm} (hv : T.v ≠ 0) (d : Nat) : ex σ d T = ex σ d (vT T.v) ∧ (Fin σ d T → Fin σ d (vT T.v)) := by
  cases d with
  | zero => exact ⟨rfl, fun h => h⟩
  | succ d =>
    cases hs : σ T.v with
    | none =>
      have e1 : wha σ T = T := wha_none hs
      have e2 : wha σ (vT T.v) = vT T.v := wha_none (T := vT T.v) hs
      refine ⟨?_, fun _ i hi => ?_⟩
      · rw [ex, ex, e1, e2, if_neg hv, if_neg (show ¬ (vT T.v).v = 0 from hv)]; rfl
      · rw [e2] at hi; exact absurd hi (Nat.not_lt_zero i)
    | some U =>
      have e : wha σ T = wha σ (vT T.v) := by
        unfold wha
        show wh σ (T.v.toNat + 1) T = wh σ (T.v.toNat + 1) (vT T.v)
        rw [wh, wh, if_neg hv, if_neg (show ¬ (vT T.v).v = 0 from hv), hs, show σ (vT T.v).v = some U from hs]
      refine ⟨by rw [ex, ex, e], fun hF i hi => ?_⟩
      rw [← e] at hi ⊢
      exact hF i hi
theorem vsT_eq {T U : Tm} (h : can T = can U) : vsT T = vsT U := by rw [← vsT_can T, ← vsT_can U, h]
theorem ap_eq {θ : Int → Tm} {T U : Tm} (h : can T = can U) : ap θ T = ap θ U := by rw [← ap_can θ T, ← ap_can θ U, h]
theorem map_flat {α β : Type} (f : α → List β) (l : List (List α)) : ((l.flatten).map f).flatten = (l.map fun x => (x.map f).flatten).flatten := by
  induction l with
  | nil => rfl
  | cons x l ih => simp only [List.flatten_cons, List.map_append, List.flatten_append, List.map_cons, ih]
/-- A term through and through: its variables, and what is put in for them. -/
theorem ex_parts {σ : Sg} {D : Nat} (θ : Int → Tm) : ∀ (d : Nat) (T : Tm), Fin σ d T → (∀ v ∈ vsT T, Fin σ D (vT v)) →
    vsT (ex σ d T) = ((vsT T).map fun v => vsT (ex σ D (vT v))).flatten ∧ ap (fun v => ap θ (ex σ D (vT v))) T = ap θ (ex σ d T) := by
  intro d
  induction d with
  | zero => intro T h; exact h.elim
  | succ d ih =>
    intro T hF hV
    by_cases hv : T.v = 0
    · have e : wha σ T = T := wha_fn hv
      have hx : ex σ (d + 1) T = .mk 0 T.nm none T.len 0 (fun i => ex σ d (T.f i)) := by rw [ex, e, if_pos hv]
      have hk : ∀ i, i < T.len → Fin σ d (T.f i) := fun i hi => by
        have := hF i (by rw [e]; exact hi)
        rwa [e] at this
      have hvk : ∀ i, i < T.len → ∀ v ∈ vsT (T.f i), Fin σ D (vT v) := fun i hi v h => hV v (by
        rw [vsT_fn hv]
        exact List.mem_flatten.2 ⟨_, List.mem_map.2 ⟨i, List.mem_range.2 hi, rfl⟩, h⟩)
      constructor
      · rw [hx, vsT, if_pos rfl, vsT_fn hv, upV, map_flat, List.map_map]
        congr 1
        apply List.map_congr_left
        intro i hi
        have hi := List.mem_range.1 hi
        exact (ih (T.f i) (hk i hi) (hvk i hi)).1
      · rw [hx, ap_fn _ hv, ap, if_pos rfl]
        congr 1
        funext i
        by_cases hi : i < T.len
        · rw [if_pos hi, if_pos hi]; exact (ih (T.f i) (hk i hi) (hvk i hi)).2
        · rw [if_neg hi, if_neg hi]
    · have hvs : vsT T = [T.v] := by
        cases T with
        | nil => exact absurd rfl hv
        | mk v nm a len cap f =>
          have hv : ¬ v = 0 := hv
          rw [vsT, if_neg hv]; rfl
      obtain ⟨e1, e2⟩ := ex_v (σ := σ) hv (d + 1)
      have hsame : can (ex σ (d + 1) (vT T.v)) = can (ex σ D (vT T.v)) := ex_same (e2 hF) (hV T.v (by rw [hvs]; simp))
      refine ⟨?_, ?_⟩
      · rw [hvs, e1, vsT_eq hsame]; simp
      · rw [ap_var _ hv, e1]; exact ap_eq hsame.symm
end Go.Proofs.Ytmggaclaoefdaaa
