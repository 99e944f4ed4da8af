/- PutIn: what it answers. The reference's Named: what it answers. The names that the reference gives: the least variable speaks for those that are the same. A term stored into a list of terms. -/
import Derived.Test.YtmggaclaoefdaaaUni4
import Derived.Test.YtmggaclaoefdaaaRf1
import Derived.Test.YtmggaclaoefdaaaGAN
namespace Go.Proofs.Ytmggaclaoefdaaa
open Go.RowKit

/-- What a list says that variables are. -/
def byOf (Y : Tm) : Int → Tm := fun v => can (Y.f (v.toNat - 1))
/-- What PutIn answers of a term. -/
def PP (Y T : Tm) (w : World) (e : Ending) (w' : World) : Prop := ∃ X : Tm, e = .returned X.val ∧ Below w.heap.size w w' ∧ TIn w' X ∧ can X = ap (byOf Y) T ∧ ∀ k, k < w.heap.size → NB k Y → NB k X
def PC (T : Tm) : Prop := ∀ (Y : Tm) (w : World), TIn w Y → Y.len = 12 → TIn w T → Okv 12 T → Calls Try.prog 26 #[T.val, .slice Y.a Y.len Y.cap] w (PP Y T w)
/-- A list of terms that is being built, of what is put in. -/
structure LstQ (lo : Nat) (Y : Tm) (w : World) (v : Value) (ts us : List Tm) : Prop where
  own : w.ownsRow lo 24 3 v ts.length (flat ts)
  all : ∀ T ∈ ts, TIn w T ∧ (∀ k, k < lo → NB k Y → NB k T) ∧ ∀ k, v.ownBlock = some k → NB k T
  len : ts.length = us.length
  sim : ∀ i, i < ts.length → can (ts.getD i .nil) = us.getD i .nil
theorem LstQ.keep {lo : Nat} {Y : Tm} {w w' : World} {v : Value} {ts us : List Tm} (h : LstQ lo Y w v ts us) (hB : Below w.heap.size w w') : LstQ lo Y w' v ts us := by
  refine ⟨h.own.kept (grown_of_below hB none) ?_, fun T hT => ⟨(h.all T hT).1.below hB, (h.all T hT).2⟩, h.len, h.sim⟩
  cases v.ownBlock with
  | none => exact .inl rfl
  | some g => exact .inr (by simp)
theorem LstQ.more {lo : Nat} {Y : Tm} {w4 w5 : World} {v v' : Value} {ts us : List Tm} {T U : Tm} (h : LstQ lo Y w4 v ts us) (hT : TIn w4 T) (hA : ∀ k, k < lo → NB k Y → NB k T)
    (hN : ∀ g, v.ownBlock = some g → NB g T) (hS : can T = U)
    (hown : w5.ownsRow lo 24 3 v' (ts.length + 1) (flat ts ++ flat [T])) (hg : w4.grownBy w5 v.ownBlock) (hat : v'.ownBlock = v.ownBlock ∨ v'.ownBlock = some w4.heap.size) : LstQ lo Y w5 v' (ts ++ [T]) (us ++ [U]) := by
  have hnb : ∀ X : Tm, TIn w4 X → (∀ g, v.ownBlock = some g → NB g X) → ∀ g, v'.ownBlock = some g → NB g X := fun X h1 h2 g hg => by
    rcases hat with e | e
    · exact h2 g (by rw [← e]; exact hg)
    · have : g = w4.heap.size := by rw [e] at hg; exact (Option.some.inj hg).symm
      exact h1.nb (by omega)
  refine ⟨?_, ?_, ?_, ?_⟩
  · rw [flat_append, List.length_append]; exact hown
  · intro X hX
    rcases List.mem_append.1 hX with hX | hX
    · obtain ⟨h1, h2, h3⟩ := h.all X hX
      exact ⟨h1.grown hg h3, h2, hnb _ h1 h3⟩
    · rw [List.mem_singleton] at hX
      subst hX
      exact ⟨hT.grown hg hN, hA, hnb _ hT hN⟩
  · rw [List.length_append, List.length_append, h.len]; rfl
  · intro i hi
    rw [List.length_append] at hi
    by_cases hl : i < ts.length
    · have h1 := h.sim i hl
      simpa [List.getD, List.getElem?_append_left hl, List.getElem?_append_left (show i < us.length by rw [← h.len]; exact hl)] using h1
    · have hi' : i = ts.length := by simp at hi; omega
      subst hi'
      have e : us.length = ts.length := h.len.symm
      simpa [List.getD, List.getElem?_append_right, e] using hS
theorem LstQ.terms {lo : Nat} {Y : Tm} {w : World} {v : Value} {ts us : List Tm} (h : LstQ lo Y w v ts us) :
    ∃ T : Tm, v = .slice T.a T.len T.cap ∧ TIn w T ∧ (∀ k, k < lo → NB k Y → NB k T) ∧ T.len = us.length ∧ ∀ i, i < T.len → can (T.f i) = us.getD i .nil := by
  have hget : ∀ i (hi : i < ts.length), ts.getD i .nil = ts[i] := fun i hi => by simp [List.getD, List.getElem?_eq_getElem hi]
  rcases h.own.2 with ⟨rfl, h0⟩ | ⟨g, cap, cur, rfl, hlo, hgg, hnc, hcm, hsz, htk⟩
  · refine ⟨.mk 0 ⟨#[]⟩ none 0 0 (fun _ => .nil), rfl, ⟨Nat.zero_le _, Nat.zero_le _, fun i hi => absurd hi (Nat.not_lt_zero i)⟩, fun k _ _ => ⟨fun h => absurd h (Nat.lt_irrefl 0), fun i hi => absurd hi (Nat.not_lt_zero i)⟩, ?_, fun i hi => absurd hi (Nat.not_lt_zero i)⟩
    show 0 = us.length
    rw [← h.len, h0]
  · refine ⟨.mk 0 ⟨#[]⟩ (some ⟨g, 0, none⟩) ts.length cap (fun i => ts.getD i .nil), rfl, ⟨Nat.zero_le _, (show ts.length ≤ maxLen from Nat.le_trans hnc hcm), fun i hi => ?_⟩, fun k hk hY => ⟨fun _ => ⟨g, 0, rfl, by omega⟩, fun i hi => ?_⟩, h.len, fun i hi => h.sim i hi⟩
    · obtain ⟨f0, f1, f2⟩ := flat_get ts i hi
      have hm := h.all _ (List.getElem_mem hi)
      show RowAt w _ i (ts.getD i .nil) ∧ TIn w (ts.getD i .nil)
      rw [hget i hi]
      refine ⟨⟨g, 0, rfl, ?_, ?_, ?_⟩, hm.1⟩
      · rw [Nat.zero_add]; exact (h.own.cellAt (i * 3) (by omega)).trans f0
      · rw [Nat.zero_add]; exact (h.own.cellAt (i * 3 + 1) (by omega)).trans f1
      · rw [Nat.zero_add]; exact (h.own.cellAt (i * 3 + 2) (by omega)).trans f2
    · show NB k (ts.getD i .nil)
      rw [hget i hi]; exact (h.all _ (List.getElem_mem hi)).2.1 k hk hY
theorem NB.retop {k : Nat} {T : Tm} {v : Int} {nm : ByteArray} (h : NB k T) : NB k (.mk v nm T.a T.len T.cap T.f) := by
  cases T with
  | nil => exact ⟨fun h0 => absurd h0 (Nat.lt_irrefl 0), fun i hi => absurd hi (Nat.not_lt_zero i)⟩
  | mk => exact h
theorem alloc3a (w : World) (o0 o1 o2 : Obj) : (((w.alloc o0).alloc o1).alloc o2).heap[w.heap.size]? = some o0 := by
  have s1 : (w.alloc o0).heap.size = w.heap.size + 1 := by simp
  have s2 : ((w.alloc o0).alloc o1).heap.size = w.heap.size + 2 := by simp
  rw [heapOld _ _ (by omega), heapOld _ _ (by omega)]; exact heap_alloc_new _ _

set_option maxRecDepth 100000 in
set_option maxHeartbeats 2000000 in
theorem putIn_var {T : Tm} (hv : T.v ≠ 0) : PC T := by
  intro Y w hY hl hT hO
  have hp := hO.top
  have p0 := hp.1
  have p1 := hp.2.1
  have hk : T.v.toNat - 1 < Y.len := by omega
  obtain ⟨bb, o, ha, c0, c1, c2⟩ := hY.row hk
  have HX : Hid (TIn w (Y.f (T.v.toNat - 1))) := hY.kid hk
  have HN : Hid (∀ k, NB k Y → NB k (Y.f (T.v.toNat - 1))) := fun k h => h.kid hk
  have HE : Hid (can (Y.f (T.v.toNat - 1)) = ap (byOf Y) T) := by rw [Hid, ap_var _ hv]; rfl
  have hvb : (T.v != 0) = true := bne_iff_ne.2 hv
  have i0 : (0 : Int) ≤ T.v - 1 := by omega
  have i1 : T.v - 1 < (Y.len : Int) := by omega
  have hylen : Y.len ≤ 2 ^ 63 - 1 := hY.len
  have hlb := lt_of_cell c0
  clear hp hY hT hO
  generalize hX : Y.f (T.v.toNat - 1) = X at *

  clear hl
  show Calls Try.prog 26 #[.agg #[.int .i64 T.v, .string T.nm, .slice T.a T.len T.cap], .slice Y.a Y.len Y.cap] w _
  rw [ha]
  go_enter Try.func26, Try.ntmps26
  go_wp2_with fail
  have HBa : Hid (Below w.heap.size w ((w.alloc (.cells #[.int .i64 T.v, .string T.nm, .slice T.a T.len T.cap] 24)).alloc (.cells #[.int .i64 X.v, .string X.nm, .slice X.a X.len X.cap] 24))) := ((Below.refl _ _).alloc (Nat.le_refl _) _).alloc (by simp) _
  refine bodyPost_ret (v := X.val) ?_ rfl ⟨X, rfl, HBa.out, HX.out.below HBa.out, HE.out, fun k _ h => HN.out k h⟩
  simp [results, Try.results26, go_sem, Tm.val]

set_option maxRecDepth 100000 in
set_option maxHeartbeats 8000000 in
theorem putIn_fn {T : Tm} (hv : T.v = 0) (hk : ∀ i, i < T.len → PC (T.f i)) : PC T := by
  intro Y w hY hl hT hO
  have HC : Hid (∀ i, i < T.len → ∀ W, Below w.heap.size w W → Calls Try.prog 26 #[.agg #[.int .i64 (T.f i).v, .string (T.f i).nm, .slice (T.f i).a (T.f i).len (T.f i).cap], .slice Y.a Y.len Y.cap] W (PP Y (T.f i) W)) := fun i hi W hW => hk i hi Y W (hY.below hW) hl ((hT.kid hi).below hW) (hO.kid hi)
  have HKid : Hid (∀ i, i < T.len → ∀ W, Below w.heap.size w W → RowAt W T.a i (T.f i)) := fun i hi W hW => (hT.row hi).below hW
  have HX : Hid (ap (byOf Y) T = .mk 0 T.nm none T.len 0 (fun i => if i < T.len then ap (byOf Y) (T.f i) else .nil)) := ap_fn _ hv
  have HNY : Hid (∀ k, w.heap.size ≤ k → NB k Y) := fun k hk => hY.nb hk
  have hlen : T.len ≤ 2 ^ 63 - 1 := hT.len
  have hlen4 : T.len ≤ 4 := hO.four
  have hnm := hT.name
  have hvb : (T.v != 0) = false := by rw [hv]; rfl
  obtain ⟨i0, hi, hz0, hz1, hz2⟩ := info_parts Try.info24
  clear hk hY hT hO hv hl
  generalize hua : T.a = ua at *
  show Calls Try.prog 26 #[.agg #[.int .i64 T.v, .string T.nm, .slice T.a T.len T.cap], .slice Y.a Y.len Y.cap] w _
  rw [hua]
  go_enter Try.func26, Try.ntmps26
  go_wp2_with fail
  obtain ⟨a1, a2, aB⟩ := alloc3 w (.cells #[.int .i64 T.v, .string T.nm, .slice ua T.len T.cap] 24) (.cells #[.int .i64 0, .string ⟨#[]⟩, .slice none 0 0] 24) (.cells #[.int .i64 0, .string T.nm, .slice none 0 0] 24)
  have a0 := alloc3a w (.cells #[.int .i64 T.v, .string T.nm, .slice ua T.len T.cap] 24) (.cells #[.int .i64 0, .string ⟨#[]⟩, .slice none 0 0] 24) (.cells #[.int .i64 0, .string T.nm, .slice none 0 0] 24)
  go_loopw [6] (fun i wr => ∃ (j : Nat) (ts : List Tm) (v : Value), j ≤ T.len ∧ i = .int .i64 j ∧ LstQ (w.heap.size + 3) Y wr v ts ((List.range j).map fun i => ap (byOf Y) (T.f i)) ∧ wr.heap[w.heap.size + 2]? = some (.cells #[.int .i64 0, .string T.nm, v] 24) ∧ wr.heap[w.heap.size + 1]? = some (.cells #[.int .i64 0, .string ⟨#[]⟩, .slice none 0 0] 24) ∧ wr.heap[w.heap.size]? = some (.cells #[.int .i64 T.v, .string T.nm, .slice ua T.len T.cap] 24) ∧ w.heap.size + 3 ≤ wr.heap.size ∧ Below w.heap.size w wr) (fun i _ => T.len - (intOf i).toNat)
  case atStart => exact ⟨0, [], _, Nat.zero_le _, rfl, ⟨World.ownsRow_nil _ _ _ _, fun c hc => absurd hc (by simp), rfl, fun i hi => absurd hi (Nat.not_lt_zero i)⟩, a2, a1, a0, by simp, aB⟩
  case round =>
    clear a0 a1 a2 aB
    obtain ⟨j, ts, v, hj, rfl, hL, hC2, hZ1, hT0, hsz, hB⟩ := hrel
    have HL : Hid (LstQ (w.heap.size + 3) Y wr v ts ((List.range j).map fun i => ap (byOf Y) (T.f i))) := hL
    have HC2 : Hid (wr.heap[w.heap.size + 2]? = some (.cells #[.int .i64 0, .string T.nm, v] 24)) := hC2
    have HZ1 : Hid (wr.heap[w.heap.size + 1]? = some (.cells #[.int .i64 0, .string ⟨#[]⟩, .slice none 0 0] 24)) := hZ1
    have HT0 : Hid (wr.heap[w.heap.size]? = some (.cells #[.int .i64 T.v, .string T.nm, .slice ua T.len T.cap] 24)) := hT0
    have HB : Hid (Below w.heap.size w wr) := hB
    have HTL : Hid (ts.length = j) := by have := hL.len; rw [Hid]; simpa using this
    have hts4 : ts.length ≤ 4 := by have := HTL.out; omega
    clear hL hC2 hZ1 hT0 hB
    obtain ⟨b0, b1, b2, _, _, _⟩ := block_cells HT0.out
    by_cases hlt : j < T.len
    case neg =>
      have hje : j = T.len := by omega
      obtain ⟨Q, hvQ, hQ, hQN, hQL, hQS⟩ := HL.out.terms
      have HQ : Hid (TIn wr Q ∧ (∀ k, k < w.heap.size + 3 → NB k Y → NB k Q) ∧ Q.len = T.len ∧ ∀ i, i < Q.len → can (Q.f i) = ap (byOf Y) (T.f i)) := by
        rw [hje] at hQL hQS
        have hl : Q.len = T.len := by simpa using hQL
        refine ⟨hQ, hQN, hl, fun i hi => ?_⟩
        rw [hQS i hi]
        simp [List.getD, show i < T.len by omega]
      subst hvQ
      clear hQ hQN hQL hQS hje
      obtain ⟨c0, c1, c2, _, _, _⟩ := block_cells HC2.out
      obtain ⟨y0, y1, y2, f0, f1, f2⟩ := block_cells HZ1.out
      go_wp2_with fail
      obtain ⟨W', hW', z0, z1, z2, hB', hgr⟩ := fin3n (r := w.heap.size + 1) (by omega) HZ1.out HB.out (.int .i64 0) (.string T.nm) (.slice Q.a Q.len Q.cap)
      rw [hW']
      have hT' : TIn W' Q := HQ.out.1.grown hgr (fun k hk => by obtain rfl := Option.some.inj hk; exact HQ.out.2.1 _ (by omega) (HNY.out _ (by omega)))
      refine bodyPost_ret (v := Tm.val (.mk 0 T.nm Q.a Q.len Q.cap Q.f)) ?_ rfl ⟨.mk 0 T.nm Q.a Q.len Q.cap Q.f, rfl, hB', hT'.retop hnm, ?_, fun k hk hY => (HQ.out.2.1 k (by omega) hY).retop⟩
      · simp [results, Try.results26, go_sem, z0, z1, z2, Tm.val, Tm.v, Tm.nm, Tm.a, Tm.len, Tm.cap]
      · rw [HX.out]
        show Tm.mk 0 T.nm none Q.len 0 (fun i => if i < Q.len then can (Q.f i) else .nil) = _
        rw [HQ.out.2.2.1]
        congr 1
        funext i
        by_cases hi : i < T.len
        · rw [if_pos hi, if_pos hi]; exact HQ.out.2.2.2 i (by rw [HQ.out.2.2.1]; exact hi)
        · rw [if_neg hi, if_neg hi]
    have hr := HKid.out j hlt wr HB.out
    obtain ⟨bb, o, ha, c0, c1, c2⟩ := hr
    subst ha
    have hltI : (j : Int) < (T.len : Int) := by omega
    go_wp2_with fail
    obtain ⟨d0, d1, d2, k0, k1, k2⟩ := block_cells HC2.out
    have tok1 : True := trivial
    go_region_law (first
      | (have _t := tok1
         go_simp
         go_at_call 26
         refine (HC.out j hlt _ (by repeat (first | exact HB.out | refine Below.drew ?_))).mono ?_
         rintro e w5 ⟨X, rfl, hb5, hX5, hS5, hN5⟩
         have HB5 : Hid (Below wr.heap.size wr w5) := Below.trans (by repeat (first | exact Below.refl _ _ | refine Below.drew ?_)) (hb5.mono (Nat.le_refl _))
         have HX5 : Hid (TIn w5 X ∧ can X = ap (byOf Y) (T.f j) ∧ ∀ k, k < wr.heap.size → NB k Y → NB k X) := ⟨hX5, hS5, hN5⟩
         have g2 : w5.cell? ⟨w.heap.size + 2, 2, none⟩ = some v := (HB5.out.cell (p := ⟨w.heap.size + 2, 2, none⟩) (by show w.heap.size + 2 < wr.heap.size; omega)).trans d2
         have gf2 : w5.frozen? ⟨w.heap.size + 2, 2, none⟩ = false := (HB5.out.frozen (p := ⟨w.heap.size + 2, 2, none⟩) (by show w.heap.size + 2 < wr.heap.size; omega)).trans k2
         have HL5 : Hid (LstQ (w.heap.size + 3) Y (w5.alloc (.cells #[.int .i64 X.v, .string X.nm, .slice X.a X.len X.cap] 24)) v ts ((List.range j).map fun i => ap (byOf Y) (T.f i))) := (HL.out.keep HB5.out).keep ((Below.refl _ _).alloc (Nat.le_refl _) _)
         rw [show X.val = .agg #[.int .i64 X.v, .string X.nm, .slice X.a X.len X.cap] from rfl]
         have g2b : (w5.alloc (.cells #[.int .i64 X.v, .string X.nm, .slice X.a X.len X.cap] 24)).cell? ⟨w.heap.size + 2, 2, none⟩ = some v := (((Below.refl _ w5).alloc (Nat.le_refl _) (.cells #[.int .i64 X.v, .string X.nm, .slice X.a X.len X.cap] 24)).cell (p := ⟨w.heap.size + 2, 2, none⟩) (lt_of_cell g2)).trans g2
         clear hb5 hX5 hS5 hN5 tok1)
      | (refine step_append_own_at rfl (.tmp 27) (.tmp 35) 22 rfl (w.heap.size + 3) 24 i0 (.agg #[.int .i64 0, .string ByteArray.empty, .slice none 0 0]) 3 48 Try.underlying22 hi hz0 hz1 hz2 rfl (by decide) v ts.length (flat ts) (by simp [Act.eval]) HL5.out.own ⟨w5.heap.size, 0, none⟩ 1 1 (flat [X]) (by simp [Act.eval]) rfl (news1 w5 X) (flat_one _) (by unfold maxLen; omega) (by omega) (by have := HB5.out.size; simp; omega) (by omega) ?_
         intro g cap' w6 hown6 hg6 hat6
         have HO6 : Hid (w6.ownsRow (w.heap.size + 3) 24 3 (.slice (some ⟨g, 0, none⟩) (ts.length + 1) cap') (ts.length + 1) (flat ts ++ flat [X])) := hown6
         have HG6 : Hid ((w5.alloc (.cells #[.int .i64 X.v, .string X.nm, .slice X.a X.len X.cap] 24)).grownBy w6 v.ownBlock) := hg6
         have HA6 : Hid (some g = v.ownBlock ∨ g = (w5.alloc (.cells #[.int .i64 X.v, .string X.nm, .slice X.a X.len X.cap] 24)).heap.size) := hat6
         have hne6 : some (w.heap.size + 2) ≠ v.ownBlock := fun e => by have := (HL.out.own.lt _ e.symm).1; omega
         have q2 : w6.cell? ⟨w.heap.size + 2, 2, none⟩ = some v := hg6.cell ((((Below.refl _ w5).alloc (Nat.le_refl _) (.cells #[.int .i64 X.v, .string X.nm, .slice X.a X.len X.cap] 24)).cell (p := ⟨w.heap.size + 2, 2, none⟩) (lt_of_cell g2)).trans g2) hne6
         have qf2 : w6.frozen? ⟨w.heap.size + 2, 2, none⟩ = false := (World.frozen?_of_block (hg6.block _ (by have := lt_of_cell g2; simp; have h : w.heap.size + 2 < w5.heap.size := this; omega) hne6)).trans ((((Below.refl _ w5).alloc (Nat.le_refl _) (.cells #[.int .i64 X.v, .string X.nm, .slice X.a X.len X.cap] 24)).frozen (p := ⟨w.heap.size + 2, 2, none⟩) (lt_of_cell g2)).trans gf2)
         clear hown6 hg6 hat6))
    all_goals
      have hgs := grown_set (W := w6) (w.heap.size + 2) 2 (.slice (some ⟨g, 0, none⟩) (ts.length + 1) cap')
      have hwr5 : Below wr.heap.size wr w5 := HB5.out
      have hB6 : Below w.heap.size w w6 := ((HB.out.trans (hwr5.mono HB.out.size)).alloc (by have := hwr5.size; omega) _).grown HG6.out (by have := hwr5.size; simp; omega) (fun q hq => by have := (HL.out.own.lt q hq).1; omega)
      have HBF : Hid (Below w.heap.size w (w6.setCell ⟨w.heap.size + 2, 2, none⟩ (.slice (some ⟨g, 0, none⟩) (ts.length + 1) cap'))) := hB6.grown hgs (by have := hwr5.size; have := HG6.out.size; simp at this; omega) (fun q hq => by have := Option.some.inj hq; omega)
      have hL6 : LstQ (w.heap.size + 3) Y w6 (.slice (some ⟨g, 0, none⟩) (ts.length + 1) cap') (ts ++ [X]) (((List.range j).map fun i => ap (byOf Y) (T.f i)) ++ [ap (byOf Y) (T.f j)]) := HL5.out.more (HX5.out.1.below ((Below.refl _ _).alloc (Nat.le_refl _) _)) (fun k hk hY => HX5.out.2.2 k (by omega) hY) (fun q hq => HX5.out.2.2 q (HL.out.own.lt q hq).2 (HNY.out q (by have := (HL.out.own.lt q hq).1; omega))) HX5.out.2.1 HO6.out HG6.out (by
        rcases HA6.out with e | e
        · exact .inl e
        · exact .inr (by rw [e]; rfl))
      have HLF : Hid (LstQ (w.heap.size + 3) Y (w6.setCell ⟨w.heap.size + 2, 2, none⟩ (.slice (some ⟨g, 0, none⟩) (ts.length + 1) cap')) (.slice (some ⟨g, 0, none⟩) (ts.length + 1) cap') (ts ++ [X]) ((List.range (j + 1)).map fun i => ap (byOf Y) (T.f i))) := by
        rw [Hid, List.range_succ, List.map_append]
        refine ⟨hL6.own.kept hgs (.inr (fun e => by have h1 := (hL6.own.lt g rfl).1; have h2 : g = w.heap.size + 2 := Option.some.inj e; omega)), fun U hU => ?_, hL6.len, hL6.sim⟩
        obtain ⟨h1, h2, h3⟩ := hL6.all U hU
        exact ⟨h1.grown hgs (fun q hq => by obtain rfl := Option.some.inj hq; exact h2 _ (by omega) (HNY.out _ (by omega))), h2, h3⟩
      have hneA : ∀ q, q < w.heap.size + 3 → some q ≠ v.ownBlock := fun q hq e => by have := (HL.out.own.lt _ e.symm).1; omega
      have h56 : ∀ q, q < wr.heap.size → some q ≠ v.ownBlock → w6.heap[q]? = wr.heap[q]? := fun q hq hn => (HG6.out.block q (by have := hwr5.size; simp; omega) hn).trans ((heapOld _ _ (by have := hwr5.size; omega)).trans (hwr5.block q hq))
      have hs6 : wr.heap.size ≤ w6.heap.size := by have := hwr5.size; have := HG6.out.size; simp at this; omega
      have HCF : Hid ((w6.setCell ⟨w.heap.size + 2, 2, none⟩ (.slice (some ⟨g, 0, none⟩) (ts.length + 1) cap')).heap[w.heap.size + 2]? = some (.cells #[.int .i64 0, .string T.nm, (.slice (some ⟨g, 0, none⟩) (ts.length + 1) cap')] 24)) := setL ((h56 _ (by omega) (hneA _ (by omega))).trans HC2.out)
      have HZF : Hid ((w6.setCell ⟨w.heap.size + 2, 2, none⟩ (.slice (some ⟨g, 0, none⟩) (ts.length + 1) cap')).heap[w.heap.size + 1]? = some (.cells #[.int .i64 0, .string ⟨#[]⟩, .slice none 0 0] 24)) := (hgs.block _ (by omega) (by simp)).trans ((h56 _ (by omega) (hneA _ (by omega))).trans HZ1.out)
      have HTF : Hid ((w6.setCell ⟨w.heap.size + 2, 2, none⟩ (.slice (some ⟨g, 0, none⟩) (ts.length + 1) cap')).heap[w.heap.size]? = some (.cells #[.int .i64 T.v, .string T.nm, .slice (some ⟨bb, o, none⟩) T.len T.cap] 24)) := (hgs.block _ (by omega) (by simp)).trans ((h56 _ (by omega) (hneA _ (by omega))).trans HT0.out)
      have hszF : w.heap.size + 3 ≤ (w6.setCell ⟨w.heap.size + 2, 2, none⟩ (.slice (some ⟨g, 0, none⟩) (ts.length + 1) cap')).heap.size := by have := hgs.size; omega
      clear hgs hwr5 hB6 hL6 hneA h56 hs6
      go_wp2_with fail
      go_roundw
      case rel => exact ⟨j + 1, ts ++ [X], _, by omega, by go_num, HLF.out, HCF.out, HZF.out, HTF.out, hszF, HBF.out⟩
      case measure => simp [intOf]; omega
theorem putIn_all (T : Tm) : PC T := by
  induction T with
  | nil => intro Y w _ _ hT; exact False.elim hT
  | mk v nm a len cap f ih =>
    by_cases hv : v = 0
    · exact putIn_fn hv (fun i _ => ih i)
    · exact putIn_var hv
end Go.Proofs.Ytmggaclaoefdaaa

namespace Go.Proofs.Ytmggaclaoefdaaa
open Go.RowKit

theorem nb0 (k : Nat) : NB k (vT 0) := ⟨fun h => absurd h (Nat.lt_irrefl 0), fun i hi => absurd hi (Nat.not_lt_zero i)⟩
/-- Other numbers of variables. -/
def nmOf (π : Int → Int) : Int → Tm := fun v => can (vT (π v))
end Go.Proofs.Ytmggaclaoefdaaa

namespace Go.Proofs.Ytmggaclaoefdaaa
open Go.RowKit

theorem wha_le {σ : Sg} (hd : Dec σ) : ∀ (k : Nat) (T : Tm), T.v.toNat = k → 0 ≤ T.v → 0 ≤ (wha σ T).v ∧ (wha σ T).v ≤ T.v := by
  intro k
  induction k using Nat.strongRecOn with
  | _ k ih =>
    intro T hk h0
    by_cases hv : T.v = 0
    · rw [wha_fn hv]; omega
    cases hs : σ T.v with
    | none => rw [wha_none hs]; omega
    | some U =>
      rw [wha_some hd h0 hv hs]
      rcases hd _ _ hs with h | ⟨h1, h2⟩
      · have := ih U.v.toNat (by omega) U rfl (by omega); omega
      · have := ih U.v.toNat (by omega) U rfl (by omega); omega
end Go.Proofs.Ytmggaclaoefdaaa

namespace Go.Proofs.Ytmggaclaoefdaaa
open Go.RowKit

theorem flat_set (X : Tm) : ∀ (ts : List Tm) (i : Nat), i < ts.length → (((flat ts).set (i * 3) (.int .i64 X.v)).set (i * 3 + 1) (.string X.nm)).set (i * 3 + 2) (.slice X.a X.len X.cap) = flat (ts.set i X) := by
  intro ts
  induction ts with
  | nil => intro i hi; exact absurd hi (Nat.not_lt_zero i)
  | cons T ts ih =>
    intro i hi
    have hc : ∀ U : Tm, ∀ us, flat (U :: us) = Value.int .i64 U.v :: Value.string U.nm :: Value.slice U.a U.len U.cap :: flat us := fun U us => by simp [flat, cells3]
    cases i with
    | zero => rw [hc]; show _ = flat (X :: ts); rw [hc]; rfl
    | succ i =>
      have h := ih i (by simp at hi; omega)
      rw [hc, show (i + 1) * 3 = i * 3 + 1 + 1 + 1 from by omega]
      show _ = flat (T :: ts.set i X)
      rw [hc, ← h]
      rfl
theorem owns_set {w : World} {lo g cap n : Nat} {ts : List Tm} (h : w.ownsRow lo 24 3 (.slice (some ⟨g, 0, none⟩) n cap) n (flat ts)) (hl : ts.length = n) {i : Nat} (hi : i < n) (X : Tm) :
    (((w.setCell ⟨g, i * 3, none⟩ (.int .i64 X.v)).setCell ⟨g, i * 3 + 1, none⟩ (.string X.nm)).setCell ⟨g, i * 3 + 2, none⟩ (.slice X.a X.len X.cap)).ownsRow lo 24 3 (.slice (some ⟨g, 0, none⟩) n cap) n (flat (ts.set i X)) := by
  obtain ⟨h1, h2⟩ := h
  rcases h2 with ⟨h2, _⟩ | ⟨g', cap', cur, hv, hlo, hg, hnc, hcm, hsz, htk⟩
  · cases h2
  cases hv
  refine ⟨?_, .inr ⟨g, cap, ((cur.setIfInBounds (i * 3) (.int .i64 X.v)).setIfInBounds (i * 3 + 1) (.string X.nm)).setIfInBounds (i * 3 + 2) (.slice X.a X.len X.cap), rfl, hlo, ?_, hnc, hcm, ?_, ?_⟩⟩
  · rw [← flat_set X ts i (by omega)]; simp [h1]
  · simp only [World.setCell, Array.getElem?_modify]
    simp [hg]
  · simp [hsz]
  · rw [← flat_set X ts i (by omega), ← htk]
    simp [List.take_set]
end Go.Proofs.Ytmggaclaoefdaaa
