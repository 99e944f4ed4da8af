/- Each of a name with arguments. -/
import Derived.Test.YtmggaclaoefdaaaBnd7
import Derived.Deep.RegionLaw
namespace Go.Proofs.Ytmggaclaoefdaaa
open Go.RowKit

/-- An append to a row of the call's own, as one step of a region that draws. -/
theorem step_append_own_at {P : Program} {ops : Array Oper} {o : Oper} {a : Act} {w : World} {K : Act → World → Prop} {Q : Exit → Act → World → Prop} {E : Prop}
    (hg : o.guard = none) (s x : Operand) (t : TypeId) (hop : o.op = Op.call { callee := Callee.builtin Builtin.append, args := #[s, x], argTypes := #[t, t] })
    (base : Nat) (e : TypeId) (i : TypeInfo) (z : Value) (size bytes : Nat) (ht : P.underlying t = some (.slice e)) (hi : P.info? e = some i) (hz : i.zero = some z)
    (hsize : i.size = size) (hby : i.bytes = bytes) (hzs : z.cells.size = size) (hsz : 0 < size)
    (v : Value) (n : Nat) (xs : List Value) (hs : a.eval s = v) (hown : w.ownsRow base e size v n xs)
    (ad : Addr) (m c : Nat) (news : List Value) (hx : a.eval x = .slice (some ad) m c) (hl : news.length = m * size) (hnews : ∀ j u, news[j]? = some u → w.cell? (ad.add j) = some u) (h1 : ∀ u ∈ news, u.oneCell' = true)
    (h63 : n + m ≤ maxLen) (hbytes : (n + m) * bytes ≤ 140737488355328) (hbase : base ≤ w.heap.size) (hm : 0 < m)
    (h : ∀ g cap' w', w'.ownsRow base e size (.slice (some ⟨g, 0, none⟩) (n + m) cap') (n + m) (xs ++ news) → w.grownBy w' v.ownBlock → (some g = v.ownBlock ∨ g = w.heap.size) → K (a.put o.dst (.slice (some ⟨g, 0, none⟩) (n + m) cap')) w') :
    if Region.wanted o (yielded ops a.tmps) = true then Oper.wp P o a w K Q else E := by
  have hw : Region.wanted o (yielded ops a.tmps) = true := by simp [Region.wanted, hg]
  rw [if_pos hw]
  obtain ⟨v', w', hr, h2, h3, h4, h5⟩ := run_append_own_at (P := P) w base t o.type e i z size bytes ht hi hz hsize hby hzs hsz v n xs hown ad m c news hl hnews h1 h63 hbytes hbase
  rcases h2.2 with ⟨h6, _⟩ | ⟨g, cap', cur, rfl, _⟩
  · have := (h4.1 h6).2; omega
  unfold Oper.wp
  simp [execOp, hop, resolve, invoke, builtin, hs, hx, hr, Result.andThen]
  refine h g cap' w' h2 h3 ?_
  rcases h5 with e | e
  · exact .inl (by rw [← e]; rfl)
  · exact .inr (Option.some.inj e)

theorem alloc3 (w : World) (o0 o1 o2 : Obj) : (((w.alloc o0).alloc o1).alloc o2).heap[w.heap.size + 1]? = some o1 ∧ (((w.alloc o0).alloc o1).alloc o2).heap[w.heap.size + 2]? = some o2 ∧ Below w.heap.size w (((w.alloc o0).alloc o1).alloc o2) := by
  have s1 : (w.alloc o0).heap.size = w.heap.size + 1 := by simp
  have s2 : ((w.alloc o0).alloc o1).heap.size = w.heap.size + 2 := by simp
  refine ⟨?_, ?_, ((((Below.refl _ _).alloc (Nat.le_refl _) _).alloc (by omega) _).alloc (by omega) _)⟩
  · rw [heapOld _ _ (by omega), ← s1]; exact heap_alloc_new _ _
  · rw [← s2]; exact heap_alloc_new _ _
theorem news1 (w : World) (X : Tm) : ∀ j u, (flat [X])[j]? = some u → (w.alloc (.cells #[.int .i64 X.v, .string X.nm, .slice X.a X.len X.cap] 24)).cell? ((⟨w.heap.size, 0, none⟩ : Addr).add j) = some u := by
  intro j u hj
  have hb := heap_alloc_new w (.cells #[.int .i64 X.v, .string X.nm, .slice X.a X.len X.cap] 24)
  rw [addr_add, cell_of_row _ _ _ _ _ _ hb]
  simpa [flat, cells3] using hj

set_option maxRecDepth 100000 in
set_option maxHeartbeats 4000000 in
theorem each_fn {σ : Sg} {d : Nat} {T : Tm} (hv : T.v = 0) (hk : ∀ i, i < T.len → EC σ d (T.f i)) : EC σ (d + 1) T := by
  intro w b m tv N lo nn L pv pn hS h1 h2 hO hT hF
  have hpv : pv < w.heap.size := (Array.getElem?_eq_some_iff.1 h1).1
  have hpn : pn < w.heap.size := (Array.getElem?_eq_some_iff.1 h2).1
  have HC : Hid (∀ i, i < T.len → ∀ W, Below w.heap.size w W → Calls Try.prog 120 #[.agg #[.int .i64 (T.f i).v, .string (T.f i).nm, .slice (T.f i).a (T.f i).len (T.f i).cap], .func (.func 121) #[] #[.pointer (some ⟨pv, 0, none⟩), .pointer (some ⟨pn, 0, none⟩)]] W (EP σ d (T.f i) W)) := fun i hi W hW =>
    hk i hi W b m tv N lo nn L pv pn (hS.below hW) ((hW.block pv hpv).trans h1) ((hW.block pn hpn).trans h2) (hO.kid hi) ((hT.kid hi).below hW) (by
      have := hF i (by rw [wha_fn hv]; exact hi)
      rwa [wha_fn hv] at this)
  have HKid : Hid (∀ i, i < T.len → ∀ W, Below w.heap.size w W → RowAt W T.a i (T.f i)) := fun i hi W hW => (hT.row hi).below hW
  have HX : Hid (ex σ (d + 1) T = .mk 0 T.nm none T.len 0 (fun i => ex σ d (T.f i))) := by rw [Hid, ex, wha_fn hv, if_pos hv]
  have hlen : T.len ≤ 2 ^ 63 - 1 := hT.len
  have hlen4 : T.len ≤ 4 := hO.four
  have hnm := hT.name
  have hvb : (T.v != 0) = false := by rw [hv]; rfl
  obtain ⟨i0, hi, hz0, hz1, hz2⟩ := info_parts Try.info24
  clear hk hS h1 h2 hO hT hF hv
  generalize hua : T.a = ua at *
  show Calls Try.prog 120 #[.agg #[.int .i64 T.v, .string T.nm, .slice T.a T.len T.cap], .func (.func 121) #[] #[.pointer (some ⟨pv, 0, none⟩), .pointer (some ⟨pn, 0, none⟩)]] w _
  rw [hua]
  go_enter Try.func120, Try.ntmps120
  go_wp2_with fail
  obtain ⟨a1, a2, aB⟩ := alloc3 w (.cells #[.int .i64 T.v, .string T.nm, .slice ua T.len T.cap] 24) (.cells #[.int .i64 0, .string ⟨#[]⟩, .slice none 0 0] 24) (.cells #[.int .i64 0, .string T.nm, .slice none 0 0] 24)
  go_loopw [21] (fun i wr => ∃ (j : Nat) (ts : List Tm) (v : Value), j ≤ T.len ∧ i = .int .i64 j ∧ LstR (w.heap.size + 3) wr v ts ((List.range j).map fun i => ex σ d (T.f i)) ∧ wr.heap[w.heap.size + 2]? = some (.cells #[.int .i64 0, .string T.nm, v] 24) ∧ wr.heap[w.heap.size + 1]? = some (.cells #[.int .i64 0, .string ⟨#[]⟩, .slice none 0 0] 24) ∧ w.heap.size + 3 ≤ wr.heap.size ∧ Below w.heap.size w wr) (fun i _ => T.len - (intOf i).toNat)
  case atStart => exact ⟨0, [], _, Nat.zero_le _, rfl, ⟨World.ownsRow_nil _ _ _ _, fun c hc => absurd hc (by simp), rfl, fun i hi => absurd hi (Nat.not_lt_zero i)⟩, a2, a1, by simp, aB⟩
  case round =>
    clear a1 a2 aB
    obtain ⟨j, ts, v, hj, rfl, hL, hC2, hZ1, hsz, hB⟩ := hrel
    have HL : Hid (LstR (w.heap.size + 3) wr v ts ((List.range j).map fun i => ex σ d (T.f i))) := hL
    have HC2 : Hid (wr.heap[w.heap.size + 2]? = some (.cells #[.int .i64 0, .string T.nm, v] 24)) := hC2
    have HZ1 : Hid (wr.heap[w.heap.size + 1]? = some (.cells #[.int .i64 0, .string ⟨#[]⟩, .slice none 0 0] 24)) := hZ1
    have HB : Hid (Below w.heap.size w wr) := hB
    have HTL : Hid (ts.length = j) := by have := hL.len; rw [Hid]; simpa using this
    have hts4 : ts.length ≤ 4 := by have := HTL.out; omega
    clear hL hC2 hZ1 hB
    by_cases hlt : j < T.len
    case neg =>
      have hje : j = T.len := by omega
      obtain ⟨Q, hvQ, hQ, hQA, hQS⟩ := HL.out.terms
      have HQ : Hid (TIn wr Q ∧ Above (w.heap.size + 3) Q ∧ BSim Q ((List.range T.len).map fun i => ex σ d (T.f i))) := ⟨hQ, hQA, hje ▸ hQS⟩
      subst hvQ
      clear hQ hQA hQS hje
      obtain ⟨c0, c1, c2, _, _, _⟩ := block_cells HC2.out
      obtain ⟨y0, y1, y2, f0, f1, f2⟩ := block_cells HZ1.out
      go_wp2_with fail
      obtain ⟨W', hW', z0, z1, z2, hB', hgr⟩ := fin3n (r := w.heap.size + 1) (by omega) HZ1.out HB.out (.int .i64 0) (.string T.nm) (.slice Q.a Q.len Q.cap)
      rw [hW']
      have hT' : TIn W' Q := HQ.out.1.grown hgr (fun k hk => by obtain rfl := Option.some.inj hk; exact HQ.out.2.1.nb (by omega))
      refine bodyPost_ret (v := Tm.val (.mk 0 T.nm Q.a Q.len Q.cap Q.f)) ?_ rfl ⟨.mk 0 T.nm Q.a Q.len Q.cap Q.f, rfl, hB', hT'.retop hnm, (HQ.out.2.1.mono (by omega)).retop, ?_⟩
      · simp [results, Try.results120, go_sem, z0, z1, z2, Tm.val, Tm.v, Tm.nm, Tm.a, Tm.len, Tm.cap]
      · rw [HX.out]
        have hl : Q.len = T.len := by have := HQ.out.2.2.1; simpa using this
        refine ⟨rfl, rfl, hl, fun i hi => ?_⟩
        have := HQ.out.2.2.2 i hi
        have e : ((List.range T.len).map fun i => ex σ d (T.f i)).getD i .nil = ex σ d (T.f i) := by simp [List.getD, show i < T.len by omega]
        rwa [e] at this
    have hr := HKid.out j hlt wr HB.out
    obtain ⟨bb, o, ha, c0, c1, c2⟩ := hr
    subst ha
    have HBe : Hid (Below wr.heap.size wr (wr.alloc (.cells #[.int .i64 (T.f j).v, .string (T.f j).nm, .slice (T.f j).a (T.f j).len (T.f j).cap] 24))) := (Below.refl _ _).alloc (Nat.le_refl _) _
    have HBa : Hid (Below w.heap.size w (wr.alloc (.cells #[.int .i64 (T.f j).v, .string (T.f j).nm, .slice (T.f j).a (T.f j).len (T.f j).cap] 24))) := HB.out.trans (HBe.out.mono HB.out.size)
    have HAa : Hid ((wr.alloc (.cells #[.int .i64 (T.f j).v, .string (T.f j).nm, .slice (T.f j).a (T.f j).len (T.f j).cap] 24)).heap[wr.heap.size]? = some (.cells #[.int .i64 (T.f j).v, .string (T.f j).nm, .slice (T.f j).a (T.f j).len (T.f j).cap] 24)) := heap_alloc_new wr _
    go_wp2_with fail
    generalize wr.alloc (.cells #[.int .i64 (T.f j).v, .string (T.f j).nm, .slice (T.f j).a (T.f j).len (T.f j).cap] 24) = wa at *
    obtain ⟨d0, d1, d2, k0, k1, k2⟩ := block_cells ((HBe.out.block _ (by omega)).trans HC2.out)
    obtain ⟨e0, e1, e2, _, _, _⟩ := block_cells HAa.out
    have hwa : wr.heap.size < wa.heap.size := lt_of_cell e0
    have tok1 : True := trivial
    go_region_law (first
      | (have _t := tok1
         go_simp
         go_at_call 120
         refine (HC.out j hlt _ (by repeat (first | exact HBa.out | refine Below.drew ?_))).mono ?_
         rintro e w5 ⟨X, rfl, hb5, hX5, hA5, hS5⟩
         have HB5 : Hid (Below wa.heap.size wa w5) := Below.trans (by repeat (first | exact Below.refl _ _ | refine Below.drew ?_)) (hb5.mono (Nat.le_refl _))
         have HX5 : Hid (TIn w5 X ∧ Above wa.heap.size X ∧ Sim X (ex σ d (T.f j))) := ⟨hX5, hA5, hS5⟩
         have g2 : w5.cell? ⟨w.heap.size + 2, 2, none⟩ = some v := (HB5.out.cell (p := ⟨w.heap.size + 2, 2, none⟩) (by show w.heap.size + 2 < wa.heap.size; omega)).trans d2
         have gf2 : w5.frozen? ⟨w.heap.size + 2, 2, none⟩ = false := (HB5.out.frozen (p := ⟨w.heap.size + 2, 2, none⟩) (by show w.heap.size + 2 < wa.heap.size; omega)).trans k2
         have HL5 : Hid (LstR (w.heap.size + 3) (w5.alloc (.cells #[.int .i64 X.v, .string X.nm, .slice X.a X.len X.cap] 24)) v ts ((List.range j).map fun i => ex σ d (T.f i))) := (HL.out.keep (HBe.out.trans (HB5.out.mono (Nat.le_of_lt hwa)))).keep ((Below.refl _ _).alloc (Nat.le_refl _) _)
         rw [show X.val = .agg #[.int .i64 X.v, .string X.nm, .slice X.a X.len X.cap] from rfl]
         have g2b : (w5.alloc (.cells #[.int .i64 X.v, .string X.nm, .slice X.a X.len X.cap] 24)).cell? ⟨w.heap.size + 2, 2, none⟩ = some v := (((Below.refl _ w5).alloc (Nat.le_refl _) (.cells #[.int .i64 X.v, .string X.nm, .slice X.a X.len X.cap] 24)).cell (p := ⟨w.heap.size + 2, 2, none⟩) (lt_of_cell g2)).trans g2
         clear hb5 hX5 hA5 hS5 tok1)
      | (refine step_append_own_at rfl (.tmp 26) (.tmp 30) 22 rfl (w.heap.size + 3) 24 i0 (.agg #[.int .i64 0, .string ByteArray.empty, .slice none 0 0]) 3 48 Try.underlying22 hi hz0 hz1 hz2 rfl (by decide) v ts.length (flat ts) (by simp [Act.eval]) HL5.out.own ⟨w5.heap.size, 0, none⟩ 1 1 (flat [X]) (by simp [Act.eval]) rfl (news1 w5 X) (flat_one _) (by unfold maxLen; omega) (by omega) (by have := HB5.out.size; simp; omega) (by omega) ?_
         intro g cap' w6 hown6 hg6 hat6
         have HO6 : Hid (w6.ownsRow (w.heap.size + 3) 24 3 (.slice (some ⟨g, 0, none⟩) (ts.length + 1) cap') (ts.length + 1) (flat ts ++ flat [X])) := hown6
         have HG6 : Hid ((w5.alloc (.cells #[.int .i64 X.v, .string X.nm, .slice X.a X.len X.cap] 24)).grownBy w6 v.ownBlock) := hg6
         have HA6 : Hid (some g = v.ownBlock ∨ g = (w5.alloc (.cells #[.int .i64 X.v, .string X.nm, .slice X.a X.len X.cap] 24)).heap.size) := hat6
         have hne6 : some (w.heap.size + 2) ≠ v.ownBlock := fun e => by have := (HL.out.own.lt _ e.symm).1; omega
         have q2 : w6.cell? ⟨w.heap.size + 2, 2, none⟩ = some v := hg6.cell ((((Below.refl _ w5).alloc (Nat.le_refl _) (.cells #[.int .i64 X.v, .string X.nm, .slice X.a X.len X.cap] 24)).cell (p := ⟨w.heap.size + 2, 2, none⟩) (lt_of_cell g2)).trans g2) hne6
         have qf2 : w6.frozen? ⟨w.heap.size + 2, 2, none⟩ = false := (World.frozen?_of_block (hg6.block _ (by have := lt_of_cell g2; simp; have h : w.heap.size + 2 < w5.heap.size := this; omega) hne6)).trans ((((Below.refl _ w5).alloc (Nat.le_refl _) (.cells #[.int .i64 X.v, .string X.nm, .slice X.a X.len X.cap] 24)).frozen (p := ⟨w.heap.size + 2, 2, none⟩) (lt_of_cell g2)).trans gf2)
         clear hown6 hg6 hat6))
    all_goals
      have hgs := grown_set (W := w6) (w.heap.size + 2) 2 (.slice (some ⟨g, 0, none⟩) (ts.length + 1) cap')
      have hwr5 : Below wr.heap.size wr w5 := HBe.out.trans (HB5.out.mono (Nat.le_of_lt hwa))
      have hB6 : Below w.heap.size w w6 := ((HB.out.trans (hwr5.mono HB.out.size)).alloc (by have := hwr5.size; omega) _).grown HG6.out (by have := hwr5.size; simp; omega) (fun q hq => by have := (HL.out.own.lt q hq).1; omega)
      have HBF : Hid (Below w.heap.size w (w6.setCell ⟨w.heap.size + 2, 2, none⟩ (.slice (some ⟨g, 0, none⟩) (ts.length + 1) cap'))) := hB6.grown hgs (by have := hwr5.size; have := HG6.out.size; simp at this; omega) (fun q hq => by have := Option.some.inj hq; omega)
      have hL6 : LstR (w.heap.size + 3) w6 (.slice (some ⟨g, 0, none⟩) (ts.length + 1) cap') (ts ++ [X]) (((List.range j).map fun i => ex σ d (T.f i)) ++ [ex σ d (T.f j)]) := HL5.out.more (HX5.out.1.below ((Below.refl _ _).alloc (Nat.le_refl _) _)) (HX5.out.2.1.mono (by omega)) (fun q hq => HX5.out.2.1.nb (by have := (HL.out.own.lt q hq).2; omega)) HX5.out.2.2 HO6.out HG6.out (by
        rcases HA6.out with e | e
        · exact .inl e
        · exact .inr (by rw [e]; rfl))
      have HLF : Hid (LstR (w.heap.size + 3) (w6.setCell ⟨w.heap.size + 2, 2, none⟩ (.slice (some ⟨g, 0, none⟩) (ts.length + 1) cap')) (.slice (some ⟨g, 0, none⟩) (ts.length + 1) cap') (ts ++ [X]) ((List.range (j + 1)).map fun i => ex σ d (T.f i))) := by
        rw [Hid, List.range_succ, List.map_append]
        refine ⟨hL6.own.kept hgs (.inr (fun e => by have h1 := (hL6.own.lt g rfl).1; have h2 : g = w.heap.size + 2 := Option.some.inj e; omega)), fun U hU => ?_, hL6.len, hL6.sim⟩
        obtain ⟨h1, h2, h3⟩ := hL6.all U hU
        exact ⟨h1.grown hgs (fun q hq => by obtain rfl := Option.some.inj hq; exact h2.nb (by omega)), h2, h3⟩
      have hne6 : some (w.heap.size + 2) ≠ v.ownBlock := fun e => by have := (HL.out.own.lt _ e.symm).1; omega
      have hne7 : some (w.heap.size + 1) ≠ v.ownBlock := fun e => by have := (HL.out.own.lt _ e.symm).1; omega
      have h56 : ∀ q, q < wr.heap.size → some q ≠ v.ownBlock → w6.heap[q]? = wr.heap[q]? := fun q hq hn => (HG6.out.block q (by have := hwr5.size; simp; omega) hn).trans ((heapOld _ _ (by have := hwr5.size; omega)).trans (hwr5.block q hq))
      have HCF : Hid ((w6.setCell ⟨w.heap.size + 2, 2, none⟩ (.slice (some ⟨g, 0, none⟩) (ts.length + 1) cap')).heap[w.heap.size + 2]? = some (.cells #[.int .i64 0, .string T.nm, .slice (some ⟨g, 0, none⟩) (ts.length + 1) cap'] 24)) := setL ((h56 _ (by omega) hne6).trans HC2.out)
      have HZF : Hid ((w6.setCell ⟨w.heap.size + 2, 2, none⟩ (.slice (some ⟨g, 0, none⟩) (ts.length + 1) cap')).heap[w.heap.size + 1]? = some (.cells #[.int .i64 0, .string ⟨#[]⟩, .slice none 0 0] 24)) := (hgs.block _ (by have := hwr5.size; have := HG6.out.size; simp at this; omega) (by simp)).trans ((h56 _ (by omega) hne7).trans HZ1.out)
      have hszF : w.heap.size + 3 ≤ (w6.setCell ⟨w.heap.size + 2, 2, none⟩ (.slice (some ⟨g, 0, none⟩) (ts.length + 1) cap')).heap.size := by have := hwr5.size; have := HG6.out.size; have := hgs.size; simp at *; omega
      clear hgs hwr5 hB6 hL6 hne6 hne7 h56
      go_wp2_with fail
      go_roundw
      case rel => exact ⟨j + 1, ts ++ [X], _, by omega, by go_num, HLF.out, HCF.out, HZF.out, hszF, HBF.out⟩
      case measure => simp [intOf]; omega
theorem each_all (σ : Sg) (hd : Dec σ) : ∀ (d k : Nat) (T : Tm), 0 ≤ T.v → T.v.toNat ≤ k → (∀ N, Okv N T → EC σ d T) := by
  intro d
  induction d with
  | zero => intro k T _ _ N _ w b m tv N' lo nn L pv pn hS h1 h2 hO hT hF; exact False.elim hF
  | succ d ihd =>
    intro k
    induction k with
    | zero =>
      intro T h0 hk N hO
      exact each_fn (by omega) (fun i hi => ihd _ (T.f i) (hO.kid hi).top.1 (Nat.le_refl _) N (hO.kid hi))
    | succ k ihk =>
      intro T h0 hk N hO
      by_cases hv : T.v = 0
      · exact each_fn hv (fun i hi => ihd _ (T.f i) (hO.kid hi).top.1 (Nat.le_refl _) N (hO.kid hi))
      · refine each_var hv (fun U hU => whole_of ?_)
        intro w b m tv N' lo nn L pv pn hS h1 h2 hO' hT hF
        rcases hd _ _ hU with h | ⟨h3, h4⟩
        · exact ihk U (by omega) (by omega) N' hO' w b m tv N' lo nn L pv pn hS h1 h2 hO' hT hF
        · exact ihk U (by omega) (by omega) N' hO' w b m tv N' lo nn L pv pn hS h1 h2 hO' hT hF
theorem whole_any {σ : Sg} {d : Nat} {T : Tm} (w : World) {b m : Nat} {tv : Value} {N : Int} {lo nn : Nat} {L : Int} (hS : VS w b m tv N lo nn σ L) (hO : Okv N T) (hT : TIn w T) (hF : Fin σ d T) :
    Calls Try.prog 97 #[.pointer (some ⟨b, 0, none⟩), T.val, .func (.func 98) #[] #[]] w (EP σ d T w) :=
  whole_of (each_all σ hS.dec d _ T hO.top.1 (Nat.le_refl _) N hO) w b m tv N lo nn L hS hO hT hF
end Go.Proofs.Ytmggaclaoefdaaa
