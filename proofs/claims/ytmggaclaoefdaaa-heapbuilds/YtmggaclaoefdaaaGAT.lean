/- The reference's Named: what it answers. The reference's Full: what it answers. The names that the reference gives: the least variable speaks for those that are the same. Appending nothing. A term stored into a list of terms. -/
import Derived.Test.YtmggaclaoefdaaaGAS
import Derived.Test.YtmggaclaoefdaaaGAP
namespace Go.Proofs.Ytmggaclaoefdaaa
open Go.RowKit

theorem nb0 (k : Nat) : NB k (vT 0) := ⟨fun h => absurd h (Nat.lt_irrefl 0), fun i hi => absurd hi (Nat.not_lt_zero i)⟩
/-- Other numbers of variables. -/
def nmOf (π : Int → Int) : Int → Tm := fun v => can (vT (π v))
/-- A list of numbers. -/
def NmIs (w : World) (gn on ln : Nat) (π : Int → Int) : Prop := ∀ i, i < ln → w.cell? ⟨gn, on + i, none⟩ = some (.int .i64 (π i))
theorem NmIs.below {w w' : World} {gn on ln : Nat} {π : Int → Int} (h : NmIs w gn on ln π) (hb : Below w.heap.size w w') : NmIs w' gn on ln π := fun i hi => (hb.cell (p := ⟨gn, on + i, none⟩) (lt_of_cell (h i hi))).trans (h i hi)
def NP (π : Int → Int) (T : Tm) (w : World) (e : Ending) (w' : World) : Prop := ∃ X : Tm, e = .returned X.val ∧ Below w.heap.size w w' ∧ TIn w' X ∧ can X = ap (nmOf π) T ∧ ∀ k, k < w.heap.size → NB k (vT 0) → NB k X
def NC (N : Int) (T : Tm) : Prop := ∀ (gn on ln cn : Nat) (π : Int → Int) (w : World), NmIs w gn on ln π → N < ln → ln ≤ 1000000 → TIn w T → Okv N T → Calls Try.prog 69 #[T.val, .slice (some ⟨gn, on, none⟩) ln cn] w (NP π T w)

set_option maxRecDepth 100000 in
set_option maxHeartbeats 2000000 in
theorem named_var {N : Int} {T : Tm} (hv : T.v ≠ 0) : NC N T := by
  intro gn on ln cn π w hY hl hbig hT hO
  have hp := hO.top
  have p0 := hp.1
  have p1 := hp.2.1
  have hk : T.v.toNat < ln := by omega
  have c0 := hY _ hk
  rw [show ((T.v.toNat : Nat) : Int) = T.v from by omega] at c0
  have HE : Hid (can (vT (π T.v)) = ap (nmOf π) T) := by rw [Hid, ap_var _ hv]; rfl
  have hvb : (T.v != 0) = true := bne_iff_ne.2 hv
  have i1 : T.v < (ln : Int) := by omega
  have hlb := lt_of_cell c0
  clear hp hY hT hO
  show Calls Try.prog 69 #[.agg #[.int .i64 T.v, .string T.nm, .slice T.a T.len T.cap], .slice (some ⟨gn, on, none⟩) ln cn] w _
  go_enter Try.func69, Try.ntmps69
  go_wp2_with fail
  have HBa : Hid (Below w.heap.size w ((w.alloc (.cells #[.int .i64 T.v, .string T.nm, .slice T.a T.len T.cap] 24)).alloc (.cells #[.int .i64 (π T.v), .string ⟨#[]⟩, .slice none 0 0] 24))) := ((Below.refl _ _).alloc (Nat.le_refl _) _).alloc (by simp) _
  refine bodyPost_ret (v := (vT (π T.v)).val) ?_ rfl ⟨vT (π T.v), rfl, HBa.out, vT_in _ _, HE.out, fun k _ _ => ⟨fun h => absurd h (Nat.lt_irrefl 0), fun i hi => absurd hi (Nat.not_lt_zero i)⟩⟩
  simp [results, Try.results69, go_sem, Tm.val, vT, Tm.v, Tm.nm, Tm.a, Tm.len, Tm.cap]

set_option maxRecDepth 100000 in
set_option maxHeartbeats 8000000 in
theorem named_fn {N : Int} {T : Tm} (hv : T.v = 0) (hk : ∀ i, i < T.len → NC N (T.f i)) : NC N T := by
  intro gn on ln cn π w hY hl hbig hT hO
  have HC : Hid (∀ i, i < T.len → ∀ W, Below w.heap.size w W → Calls Try.prog 69 #[.agg #[.int .i64 (T.f i).v, .string (T.f i).nm, .slice (T.f i).a (T.f i).len (T.f i).cap], .slice (some ⟨gn, on, none⟩) ln cn] W (NP π (T.f i) W)) := fun i hi W hW => hk i hi gn on ln cn π W (hY.below hW) hl hbig ((hT.kid hi).below hW) (hO.kid hi)
  have HKid : Hid (∀ i, i < T.len → ∀ W, Below w.heap.size w W → RowAt W T.a i (T.f i)) := fun i hi W hW => (hT.row hi).below hW
  have HX : Hid (ap (nmOf π) T = .mk 0 T.nm none T.len 0 (fun i => if i < T.len then ap (nmOf π) (T.f i) else .nil)) := ap_fn _ hv
  have HNY : Hid (∀ k, w.heap.size ≤ k → NB k (vT 0)) := fun k _ => nb0 k
  have hlen : T.len ≤ 2 ^ 63 - 1 := hT.len
  have hlen4 : T.len ≤ 4 := hO.four
  have hnm := hT.name
  have hvb : (T.v != 0) = false := by rw [hv]; rfl
  obtain ⟨i0, hi, hz0, hz1, hz2⟩ := info_parts Try.info24
  clear hk hY hT hO hv hl hbig
  generalize hua : T.a = ua at *
  show Calls Try.prog 69 #[.agg #[.int .i64 T.v, .string T.nm, .slice T.a T.len T.cap], .slice (some ⟨gn, on, none⟩) ln cn] w _
  rw [hua]
  go_enter Try.func69, Try.ntmps69
  go_wp2_with fail
  obtain ⟨a1, a2, aB⟩ := alloc3 w (.cells #[.int .i64 T.v, .string T.nm, .slice ua T.len T.cap] 24) (.cells #[.int .i64 0, .string ⟨#[]⟩, .slice none 0 0] 24) (.cells #[.int .i64 0, .string T.nm, .slice none 0 0] 24)
  have a0 := alloc3a w (.cells #[.int .i64 T.v, .string T.nm, .slice ua T.len T.cap] 24) (.cells #[.int .i64 0, .string ⟨#[]⟩, .slice none 0 0] 24) (.cells #[.int .i64 0, .string T.nm, .slice none 0 0] 24)
  go_loopw [6] (fun i wr => ∃ (j : Nat) (ts : List Tm) (v : Value), j ≤ T.len ∧ i = .int .i64 j ∧ LstQ (w.heap.size + 3) (vT 0) wr v ts ((List.range j).map fun i => ap (nmOf π) (T.f i)) ∧ wr.heap[w.heap.size + 2]? = some (.cells #[.int .i64 0, .string T.nm, v] 24) ∧ wr.heap[w.heap.size + 1]? = some (.cells #[.int .i64 0, .string ⟨#[]⟩, .slice none 0 0] 24) ∧ wr.heap[w.heap.size]? = some (.cells #[.int .i64 T.v, .string T.nm, .slice ua T.len T.cap] 24) ∧ w.heap.size + 3 ≤ wr.heap.size ∧ Below w.heap.size w wr) (fun i _ => T.len - (intOf i).toNat)
  case atStart => exact ⟨0, [], _, Nat.zero_le _, rfl, ⟨World.ownsRow_nil _ _ _ _, fun c hc => absurd hc (by simp), rfl, fun i hi => absurd hi (Nat.not_lt_zero i)⟩, a2, a1, a0, by simp, aB⟩
  case round =>
    clear a0 a1 a2 aB
    obtain ⟨j, ts, v, hj, rfl, hL, hC2, hZ1, hT0, hsz, hB⟩ := hrel
    have HL : Hid (LstQ (w.heap.size + 3) (vT 0) wr v ts ((List.range j).map fun i => ap (nmOf π) (T.f i))) := hL
    have HC2 : Hid (wr.heap[w.heap.size + 2]? = some (.cells #[.int .i64 0, .string T.nm, v] 24)) := hC2
    have HZ1 : Hid (wr.heap[w.heap.size + 1]? = some (.cells #[.int .i64 0, .string ⟨#[]⟩, .slice none 0 0] 24)) := hZ1
    have HT0 : Hid (wr.heap[w.heap.size]? = some (.cells #[.int .i64 T.v, .string T.nm, .slice ua T.len T.cap] 24)) := hT0
    have HB : Hid (Below w.heap.size w wr) := hB
    have HTL : Hid (ts.length = j) := by have := hL.len; rw [Hid]; simpa using this
    have hts4 : ts.length ≤ 4 := by have := HTL.out; omega
    clear hL hC2 hZ1 hT0 hB
    obtain ⟨b0, b1, b2, _, _, _⟩ := block_cells HT0.out
    by_cases hlt : j < T.len
    case neg =>
      have hje : j = T.len := by omega
      obtain ⟨Q, hvQ, hQ, hQN, hQL, hQS⟩ := HL.out.terms
      have HQ : Hid (TIn wr Q ∧ (∀ k, k < w.heap.size + 3 → NB k (vT 0) → NB k Q) ∧ Q.len = T.len ∧ ∀ i, i < Q.len → can (Q.f i) = ap (nmOf π) (T.f i)) := by
        rw [hje] at hQL hQS
        have hl : Q.len = T.len := by simpa using hQL
        refine ⟨hQ, hQN, hl, fun i hi => ?_⟩
        rw [hQS i hi]
        simp [List.getD, show i < T.len by omega]
      subst hvQ
      clear hQ hQN hQL hQS hje
      obtain ⟨c0, c1, c2, _, _, _⟩ := block_cells HC2.out
      obtain ⟨y0, y1, y2, f0, f1, f2⟩ := block_cells HZ1.out
      go_wp2_with fail
      obtain ⟨W', hW', z0, z1, z2, hB', hgr⟩ := fin3n (r := w.heap.size + 1) (by omega) HZ1.out HB.out (.int .i64 0) (.string T.nm) (.slice Q.a Q.len Q.cap)
      rw [hW']
      have hT' : TIn W' Q := HQ.out.1.grown hgr (fun k hk => by obtain rfl := Option.some.inj hk; exact HQ.out.2.1 _ (by omega) (HNY.out _ (by omega)))
      refine bodyPost_ret (v := Tm.val (.mk 0 T.nm Q.a Q.len Q.cap Q.f)) ?_ rfl ⟨.mk 0 T.nm Q.a Q.len Q.cap Q.f, rfl, hB', hT'.retop hnm, ?_, fun k hk hY => (HQ.out.2.1 k (by omega) hY).retop⟩
      · simp [results, Try.results69, go_sem, z0, z1, z2, Tm.val, Tm.v, Tm.nm, Tm.a, Tm.len, Tm.cap]
      · rw [HX.out]
        show Tm.mk 0 T.nm none Q.len 0 (fun i => if i < Q.len then can (Q.f i) else .nil) = _
        rw [HQ.out.2.2.1]
        congr 1
        funext i
        by_cases hi : i < T.len
        · rw [if_pos hi, if_pos hi]; exact HQ.out.2.2.2 i (by rw [HQ.out.2.2.1]; exact hi)
        · rw [if_neg hi, if_neg hi]
    have hr := HKid.out j hlt wr HB.out
    obtain ⟨bb, o, ha, c0, c1, c2⟩ := hr
    subst ha
    have hltI : (j : Int) < (T.len : Int) := by omega
    go_wp2_with fail
    obtain ⟨d0, d1, d2, k0, k1, k2⟩ := block_cells HC2.out
    have tok1 : True := trivial
    go_region_law (first
      | (have _t := tok1
         go_simp
         go_at_call 69
         refine (HC.out j hlt _ (by repeat (first | exact HB.out | refine Below.drew ?_))).mono ?_
         rintro e w5 ⟨X, rfl, hb5, hX5, hS5, hN5⟩
         have HB5 : Hid (Below wr.heap.size wr w5) := Below.trans (by repeat (first | exact Below.refl _ _ | refine Below.drew ?_)) (hb5.mono (Nat.le_refl _))
         have HX5 : Hid (TIn w5 X ∧ can X = ap (nmOf π) (T.f j) ∧ ∀ k, k < wr.heap.size → NB k (vT 0) → NB k X) := ⟨hX5, hS5, hN5⟩
         have g2 : w5.cell? ⟨w.heap.size + 2, 2, none⟩ = some v := (HB5.out.cell (p := ⟨w.heap.size + 2, 2, none⟩) (by show w.heap.size + 2 < wr.heap.size; omega)).trans d2
         have gf2 : w5.frozen? ⟨w.heap.size + 2, 2, none⟩ = false := (HB5.out.frozen (p := ⟨w.heap.size + 2, 2, none⟩) (by show w.heap.size + 2 < wr.heap.size; omega)).trans k2
         have HL5 : Hid (LstQ (w.heap.size + 3) (vT 0) (w5.alloc (.cells #[.int .i64 X.v, .string X.nm, .slice X.a X.len X.cap] 24)) v ts ((List.range j).map fun i => ap (nmOf π) (T.f i))) := (HL.out.keep HB5.out).keep ((Below.refl _ _).alloc (Nat.le_refl _) _)
         rw [show X.val = .agg #[.int .i64 X.v, .string X.nm, .slice X.a X.len X.cap] from rfl]
         have g2b : (w5.alloc (.cells #[.int .i64 X.v, .string X.nm, .slice X.a X.len X.cap] 24)).cell? ⟨w.heap.size + 2, 2, none⟩ = some v := (((Below.refl _ w5).alloc (Nat.le_refl _) (.cells #[.int .i64 X.v, .string X.nm, .slice X.a X.len X.cap] 24)).cell (p := ⟨w.heap.size + 2, 2, none⟩) (lt_of_cell g2)).trans g2
         clear hb5 hX5 hS5 hN5 tok1)
      | (refine step_append_own_at rfl (.tmp 27) (.tmp 35) 22 rfl (w.heap.size + 3) 24 i0 (.agg #[.int .i64 0, .string ByteArray.empty, .slice none 0 0]) 3 48 Try.underlying22 hi hz0 hz1 hz2 rfl (by decide) v ts.length (flat ts) (by simp [Act.eval]) HL5.out.own ⟨w5.heap.size, 0, none⟩ 1 1 (flat [X]) (by simp [Act.eval]) rfl (news1 w5 X) (flat_one _) (by unfold maxLen; omega) (by omega) (by have := HB5.out.size; simp; omega) (by omega) ?_
         intro g cap' w6 hown6 hg6 hat6
         have HO6 : Hid (w6.ownsRow (w.heap.size + 3) 24 3 (.slice (some ⟨g, 0, none⟩) (ts.length + 1) cap') (ts.length + 1) (flat ts ++ flat [X])) := hown6
         have HG6 : Hid ((w5.alloc (.cells #[.int .i64 X.v, .string X.nm, .slice X.a X.len X.cap] 24)).grownBy w6 v.ownBlock) := hg6
         have HA6 : Hid (some g = v.ownBlock ∨ g = (w5.alloc (.cells #[.int .i64 X.v, .string X.nm, .slice X.a X.len X.cap] 24)).heap.size) := hat6
         have hne6 : some (w.heap.size + 2) ≠ v.ownBlock := fun e => by have := (HL.out.own.lt _ e.symm).1; omega
         have q2 : w6.cell? ⟨w.heap.size + 2, 2, none⟩ = some v := hg6.cell ((((Below.refl _ w5).alloc (Nat.le_refl _) (.cells #[.int .i64 X.v, .string X.nm, .slice X.a X.len X.cap] 24)).cell (p := ⟨w.heap.size + 2, 2, none⟩) (lt_of_cell g2)).trans g2) hne6
         have qf2 : w6.frozen? ⟨w.heap.size + 2, 2, none⟩ = false := (World.frozen?_of_block (hg6.block _ (by have := lt_of_cell g2; simp; have h : w.heap.size + 2 < w5.heap.size := this; omega) hne6)).trans ((((Below.refl _ w5).alloc (Nat.le_refl _) (.cells #[.int .i64 X.v, .string X.nm, .slice X.a X.len X.cap] 24)).frozen (p := ⟨w.heap.size + 2, 2, none⟩) (lt_of_cell g2)).trans gf2)
         clear hown6 hg6 hat6))
    all_goals
      have hgs := grown_set (W := w6) (w.heap.size + 2) 2 (.slice (some ⟨g, 0, none⟩) (ts.length + 1) cap')
      have hwr5 : Below wr.heap.size wr w5 := HB5.out
      have hB6 : Below w.heap.size w w6 := ((HB.out.trans (hwr5.mono HB.out.size)).alloc (by have := hwr5.size; omega) _).grown HG6.out (by have := hwr5.size; simp; omega) (fun q hq => by have := (HL.out.own.lt q hq).1; omega)
      have HBF : Hid (Below w.heap.size w (w6.setCell ⟨w.heap.size + 2, 2, none⟩ (.slice (some ⟨g, 0, none⟩) (ts.length + 1) cap'))) := hB6.grown hgs (by have := hwr5.size; have := HG6.out.size; simp at this; omega) (fun q hq => by have := Option.some.inj hq; omega)
      have hL6 : LstQ (w.heap.size + 3) (vT 0) w6 (.slice (some ⟨g, 0, none⟩) (ts.length + 1) cap') (ts ++ [X]) (((List.range j).map fun i => ap (nmOf π) (T.f i)) ++ [ap (nmOf π) (T.f j)]) := HL5.out.more (HX5.out.1.below ((Below.refl _ _).alloc (Nat.le_refl _) _)) (fun k hk hY => HX5.out.2.2 k (by omega) hY) (fun q hq => HX5.out.2.2 q (HL.out.own.lt q hq).2 (HNY.out q (by have := (HL.out.own.lt q hq).1; omega))) HX5.out.2.1 HO6.out HG6.out (by
        rcases HA6.out with e | e
        · exact .inl e
        · exact .inr (by rw [e]; rfl))
      have HLF : Hid (LstQ (w.heap.size + 3) (vT 0) (w6.setCell ⟨w.heap.size + 2, 2, none⟩ (.slice (some ⟨g, 0, none⟩) (ts.length + 1) cap')) (.slice (some ⟨g, 0, none⟩) (ts.length + 1) cap') (ts ++ [X]) ((List.range (j + 1)).map fun i => ap (nmOf π) (T.f i))) := by
        rw [Hid, List.range_succ, List.map_append]
        refine ⟨hL6.own.kept hgs (.inr (fun e => by have h1 := (hL6.own.lt g rfl).1; have h2 : g = w.heap.size + 2 := Option.some.inj e; omega)), fun U hU => ?_, hL6.len, hL6.sim⟩
        obtain ⟨h1, h2, h3⟩ := hL6.all U hU
        exact ⟨h1.grown hgs (fun q hq => by obtain rfl := Option.some.inj hq; exact h2 _ (by omega) (HNY.out _ (by omega))), h2, h3⟩
      have hneA : ∀ q, q < w.heap.size + 3 → some q ≠ v.ownBlock := fun q hq e => by have := (HL.out.own.lt _ e.symm).1; omega
      have h56 : ∀ q, q < wr.heap.size → some q ≠ v.ownBlock → w6.heap[q]? = wr.heap[q]? := fun q hq hn => (HG6.out.block q (by have := hwr5.size; simp; omega) hn).trans ((heapOld _ _ (by have := hwr5.size; omega)).trans (hwr5.block q hq))
      have hs6 : wr.heap.size ≤ w6.heap.size := by have := hwr5.size; have := HG6.out.size; simp at this; omega
      have HCF : Hid ((w6.setCell ⟨w.heap.size + 2, 2, none⟩ (.slice (some ⟨g, 0, none⟩) (ts.length + 1) cap')).heap[w.heap.size + 2]? = some (.cells #[.int .i64 0, .string T.nm, (.slice (some ⟨g, 0, none⟩) (ts.length + 1) cap')] 24)) := setL ((h56 _ (by omega) (hneA _ (by omega))).trans HC2.out)
      have HZF : Hid ((w6.setCell ⟨w.heap.size + 2, 2, none⟩ (.slice (some ⟨g, 0, none⟩) (ts.length + 1) cap')).heap[w.heap.size + 1]? = some (.cells #[.int .i64 0, .string ⟨#[]⟩, .slice none 0 0] 24)) := (hgs.block _ (by omega) (by simp)).trans ((h56 _ (by omega) (hneA _ (by omega))).trans HZ1.out)
      have HTF : Hid ((w6.setCell ⟨w.heap.size + 2, 2, none⟩ (.slice (some ⟨g, 0, none⟩) (ts.length + 1) cap')).heap[w.heap.size]? = some (.cells #[.int .i64 T.v, .string T.nm, .slice (some ⟨bb, o, none⟩) T.len T.cap] 24)) := (hgs.block _ (by omega) (by simp)).trans ((h56 _ (by omega) (hneA _ (by omega))).trans HT0.out)
      have hszF : w.heap.size + 3 ≤ (w6.setCell ⟨w.heap.size + 2, 2, none⟩ (.slice (some ⟨g, 0, none⟩) (ts.length + 1) cap')).heap.size := by have := hgs.size; omega
      clear hgs hwr5 hB6 hL6 hneA h56 hs6
      go_wp2_with fail
      go_roundw
      case rel => exact ⟨j + 1, ts ++ [X], _, by omega, by go_num, HLF.out, HCF.out, HZF.out, HTF.out, hszF, HBF.out⟩
      case measure => simp [intOf]; omega
theorem named_all (N : Int) (T : Tm) : NC N T := by
  induction T with
  | nil => intro gn on ln cn π w _ _ _ hT; exact False.elim hT
  | mk v nm a len cap f ih =>
    by_cases hv : v = 0
    · exact named_fn hv (fun i _ => ih i)
    · exact named_var hv
end Go.Proofs.Ytmggaclaoefdaaa

namespace Go.Proofs.Ytmggaclaoefdaaa
open Go.RowKit

/-- Numbers of the reference's variables that are the program's. -/
def Ren (N : Int) (σ : Sg) (ρ : Int → Tm) (π : Int → Int) : Prop := ∀ T, Okv N T → (lk ρ T).v ≠ 0 → π (lk ρ T).v = (wha σ T).v
def T3 (X : Tm) (n : Int) (ok : Bool) : Ending := .returned (.tuple #[X.val, .int .i64 n, .bool ok])
def FP (N : Int) (σ : Sg) (ρ : Int → Tm) (most : Nat) (T : Tm) (w : World) (e : Ending) (w' : World) : Prop := Below w.heap.size w w' ∧ (
  (∃ (X : Tm) (n : Nat), e = T3 X n true ∧ 1 ≤ n ∧ n ≤ most ∧ TIn w' X ∧ Okv N X ∧ (∀ k, k < w.heap.size → NB k X) ∧ (∀ us, roomF σ most (T :: us) = roomF σ (most - n) us) ∧ ∀ π, Ren N σ ρ π → ∀ d, most ≤ d → ap (nmOf π) X = can (ex σ d T)) ∨
  (∃ n : Nat, e = T3 (vT 0) n false ∧ n ≤ most + 1 ∧ ∀ us, roomF σ most (T :: us) = none))
def FC (most : Nat) : Prop := ∀ (b ob g o cap : Nat) (N : Int) (len : Nat) (τ ρ : Int → Tm) (r : Int → Nat) (σ : Sg) (T : Tm) (w : World), ByIs w b ob g o cap N len τ → Chain N τ ρ r → (∀ v, 0 < v → v ≤ N → TIn w (τ v)) → Rel N σ ρ → (∀ v U, σ v = some U → Okv N U) → most ≤ 200 → Okv N T → TIn w T →
  Calls Try.prog 68 #[.pointer (some ⟨b, ob, none⟩), T.val, .int .i64 most] w (FP N σ ρ most T w)
theorem wha_okv {N : Int} {σ : Sg} (h : ∀ v U, σ v = some U → Okv N U) {T : Tm} (hT : Okv N T) : Okv N (wha σ T) := by
  rcases wh_from σ (T.v.toNat + 1) T with e | ⟨v, e⟩
  · unfold wha; rw [e]; exact hT
  · exact h v _ e
/-- The parts of what the reference has looked at are those of what the program sees. -/
theorem kids_lk {N : Int} {σ : Sg} {ρ : Int → Tm} (hR : Rel N σ ρ) (hO : ∀ v U, σ v = some U → Okv N U) {T Y : Tm} (hT : Okv N T) (hY : Lk N ρ T Y) : kidsL (wha σ T) = kidsL Y ∧ (wha σ T).len = Y.len := by
  by_cases h0 : Y.v = 0
  · have e : wha σ T = Y := by rw [hY.2.1 h0]; exact hR.fn T hT (by rw [← hY.1]; exact h0)
    rw [e]; exact ⟨rfl, rfl⟩
  · have h1 := hR.vr T hT (by rw [← hY.1]; exact h0)
    have h2 := ((wha_okv hO hT).top.2.2 h1).2
    have h3 := (hY.2.2.top.2.2 h0).2
    rw [kidsL_nil h2, kidsL_nil h3, h2, h3]
    exact ⟨rfl, rfl⟩
/-- What Full builds, through and through. -/
theorem full_ex {N : Int} {σ : Sg} {ρ : Int → Tm} (hR : Rel N σ ρ) {T Y Q : Tm} (hT : Okv N T) (hY : Lk N ρ T Y) (hl : Q.len = Y.len) {π : Int → Int} (hπ : Ren N σ ρ π) {d : Nat} (hk : ∀ i, i < Q.len → ap (nmOf π) (Q.f i) = can (ex σ d (Y.f i))) :
    ap (nmOf π) (.mk Y.v Y.nm Q.a Q.len Q.cap Q.f) = can (ex σ (d + 1) T) := by
  by_cases h0 : Y.v = 0
  · have e : wha σ T = Y := by rw [hY.2.1 h0]; exact hR.fn T hT (by rw [← hY.1]; exact h0)
    rw [ex, e, if_pos h0]
    show (if Y.v = 0 then Tm.mk 0 Y.nm none Q.len 0 (fun i => if i < Q.len then ap (nmOf π) (Q.f i) else .nil) else nmOf π Y.v) = Tm.mk 0 Y.nm none Y.len 0 (fun i => if i < Y.len then can (ex σ d (Y.f i)) else .nil)
    rw [if_pos h0, hl]
    congr 1
    funext i
    by_cases hi : i < Y.len
    · rw [if_pos hi, if_pos hi]; exact hk i (by omega)
    · rw [if_neg hi, if_neg hi]
  · have h1 := hR.vr T hT (by rw [← hY.1]; exact h0)
    rw [ex, if_neg h1]
    show (if Y.v = 0 then Tm.mk 0 Y.nm none Q.len 0 (fun i => if i < Q.len then ap (nmOf π) (Q.f i) else .nil) else nmOf π Y.v) = can (vT (wha σ T).v)
    rw [if_neg h0, ← hπ T hT (by rw [← hY.1]; exact h0), ← hY.1]
    rfl
theorem LstQ.exact {lo : Nat} {Y : Tm} {w : World} {v : Value} {ts us : List Tm} (h : LstQ lo Y w v ts us) :
    ∃ T : Tm, v = .slice T.a T.len T.cap ∧ TIn w T ∧ (∀ k, k < lo → NB k Y → NB k T) ∧ T.len = ts.length ∧ ∀ i, i < T.len → T.f i = ts.getD i .nil := by
  have hget : ∀ i (hi : i < ts.length), ts.getD i .nil = ts[i] := fun i hi => by simp [List.getD, List.getElem?_eq_getElem hi]
  rcases h.own.2 with ⟨rfl, h0⟩ | ⟨g, cap, cur, rfl, hlo, hgg, hnc, hcm, hsz, htk⟩
  · exact ⟨.mk 0 ⟨#[]⟩ none 0 0 (fun _ => .nil), rfl, ⟨Nat.zero_le _, Nat.zero_le _, fun i hi => absurd hi (Nat.not_lt_zero i)⟩, fun k _ _ => ⟨fun h => absurd h (Nat.lt_irrefl 0), fun i hi => absurd hi (Nat.not_lt_zero i)⟩, h0.symm, fun i hi => absurd hi (Nat.not_lt_zero i)⟩
  · refine ⟨.mk 0 ⟨#[]⟩ (some ⟨g, 0, none⟩) ts.length cap (fun i => ts.getD i .nil), rfl, ⟨Nat.zero_le _, (show ts.length ≤ maxLen from Nat.le_trans hnc hcm), fun i hi => ?_⟩, fun k hk hY => ⟨fun _ => ⟨g, 0, rfl, by omega⟩, fun i hi => ?_⟩, rfl, fun i hi => rfl⟩
    · obtain ⟨f0, f1, f2⟩ := flat_get ts i hi
      have hm := h.all _ (List.getElem_mem hi)
      show RowAt w _ i (ts.getD i .nil) ∧ TIn w (ts.getD i .nil)
      rw [hget i hi]
      refine ⟨⟨g, 0, rfl, ?_, ?_, ?_⟩, hm.1⟩
      · rw [Nat.zero_add]; exact (h.own.cellAt (i * 3) (by omega)).trans f0
      · rw [Nat.zero_add]; exact (h.own.cellAt (i * 3 + 1) (by omega)).trans f1
      · rw [Nat.zero_add]; exact (h.own.cellAt (i * 3 + 2) (by omega)).trans f2
    · show NB k (ts.getD i .nil)
      rw [hget i hi]; exact (h.all _ (List.getElem_mem hi)).2.1 k hk hY
end Go.Proofs.Ytmggaclaoefdaaa

namespace Go.Proofs.Ytmggaclaoefdaaa
open Go.RowKit

theorem wha_le {σ : Sg} (hd : Dec σ) : ∀ (k : Nat) (T : Tm), T.v.toNat = k → 0 ≤ T.v → 0 ≤ (wha σ T).v ∧ (wha σ T).v ≤ T.v := by
  intro k
  induction k using Nat.strongRecOn with
  | _ k ih =>
    intro T hk h0
    by_cases hv : T.v = 0
    · rw [wha_fn hv]; omega
    cases hs : σ T.v with
    | none => rw [wha_none hs]; omega
    | some U =>
      rw [wha_some hd h0 hv hs]
      rcases hd _ _ hs with h | ⟨h1, h2⟩
      · have := ih U.v.toNat (by omega) U rfl (by omega); omega
      · have := ih U.v.toNat (by omega) U rfl (by omega); omega
/-- The names after so many variables, the greatest first. -/
def nmD (ρ : Int → Tm) (N : Int) : Nat → Int → Int
  | 0 => fun _ => 0
  | k + 1 => fun u => if (ρ (N - k)).v ≠ 0 ∧ u = (ρ (N - k)).v then N - k else nmD ρ N k u
theorem nmD_at {ρ : Int → Tm} {N u r : Int} (hu : u ≠ 0) (hr : (ρ r).v = u) (hle : ∀ v, 0 < v → v ≤ N → (ρ v).v = u → r ≤ v) : ∀ k : Nat, (k : Int) ≤ N → N - k < r → r ≤ N → nmD ρ N k u = r := by
  intro k
  induction k with
  | zero => intro _ h1 h2; omega
  | succ k ih =>
    intro hk h1 h2
    show (if (ρ (N - k)).v ≠ 0 ∧ u = (ρ (N - k)).v then N - k else nmD ρ N k u) = r
    by_cases e : N - k = r
    · rw [e, if_pos ⟨by omega, hr.symm⟩]
    · have hlt : N - k < r := by omega
      rw [if_neg (fun h => by have := hle (N - k) (by omega) (by omega) h.2.symm; omega)]
      exact ih (by omega) hlt h2
theorem nmD_ren {N : Int} {σ : Sg} {ρ : Int → Tm} (hR : Rel N σ ρ) (hd : Dec σ) (hO : ∀ v U, σ v = some U → Okv N U) (hN : 0 ≤ N) : Ren N σ ρ (nmD ρ N N.toNat) := by
  intro T hT hv
  have hw := hR.vr T hT hv
  have hwo := wha_okv hO hT
  have h0 := hwo.top.1
  have h1 := hwo.top.2.1
  have hroot : σ (wha σ T).v = none := wh_root hd _ T hT.top.1 (by omega) hw
  have hlk : ∀ v : Int, v ≠ 0 → lk ρ (vT v) = ρ v := fun v h => by
    show (if v = 0 then vT v else ρ v) = _
    rw [if_neg h]
  have hself : wha σ (vT (wha σ T).v) = vT (wha σ T).v := wha_none hroot
  have hr : (ρ (wha σ T).v).v = (lk ρ T).v := by
    have := (hR.cls T (vT (wha σ T).v) hT (vT_ok h0 h1) hv).2 (by rw [hself]; rfl)
    rw [hlk _ hw] at this
    exact this.symm
  refine nmD_at hv hr (fun v v0 v1 hv' => ?_) _ (by omega) (by omega) h1
  have := (hR.cls T (vT v) hT (vT_ok (by omega) v1) hv).1 (by rw [hlk _ (by omega)]; exact hv'.symm)
  have hle := (wha_le hd _ (vT v) rfl (by show 0 ≤ v; omega)).2
  rw [this]
  exact hle
end Go.Proofs.Ytmggaclaoefdaaa

namespace Go.Proofs.Ytmggaclaoefdaaa
open Go.RowKit

theorem run_append_none (a : Addr) (n c c' : Nat) (w : World) (h : n ≤ c) : (Builtin.append_ #[22, 22] 22 #[.slice (some a) n c, .slice none 0 c']).run Try.prog w = .ok (.slice (some a) n c) w := by
  unfold Builtin.append_
  simp [go_sem]
  intro hlt
  omega
/-- A list with no terms, in memory of its own. -/
theorem owns_empty (w : World) (lo : Nat) (hlo : lo ≤ w.heap.size) : (w.alloc (.cells #[] 24)).ownsRow lo 24 3 (.slice (some ⟨w.heap.size, 0, none⟩) 0 0) 0 [] := by
  refine ⟨?_, .inr ⟨w.heap.size, 0, #[], rfl, hlo, heap_alloc_new w _, ?_, ?_, ?_, ?_⟩⟩ <;> simp
end Go.Proofs.Ytmggaclaoefdaaa

namespace Go.Proofs.Ytmggaclaoefdaaa
open Go.RowKit

theorem flat_set (X : Tm) : ∀ (ts : List Tm) (i : Nat), i < ts.length → (((flat ts).set (i * 3) (.int .i64 X.v)).set (i * 3 + 1) (.string X.nm)).set (i * 3 + 2) (.slice X.a X.len X.cap) = flat (ts.set i X) := by
  intro ts
  induction ts with
  | nil => intro i hi; exact absurd hi (Nat.not_lt_zero i)
  | cons T ts ih =>
    intro i hi
    have hc : ∀ U : Tm, ∀ us, flat (U :: us) = Value.int .i64 U.v :: Value.string U.nm :: Value.slice U.a U.len U.cap :: flat us := fun U us => by simp [flat, cells3]
    cases i with
    | zero => rw [hc]; show _ = flat (X :: ts); rw [hc]; rfl
    | succ i =>
      have h := ih i (by simp at hi; omega)
      rw [hc, show (i + 1) * 3 = i * 3 + 1 + 1 + 1 from by omega]
      show _ = flat (T :: ts.set i X)
      rw [hc, ← h]
      rfl
theorem owns_set {w : World} {lo g cap n : Nat} {ts : List Tm} (h : w.ownsRow lo 24 3 (.slice (some ⟨g, 0, none⟩) n cap) n (flat ts)) (hl : ts.length = n) {i : Nat} (hi : i < n) (X : Tm) :
    (((w.setCell ⟨g, i * 3, none⟩ (.int .i64 X.v)).setCell ⟨g, i * 3 + 1, none⟩ (.string X.nm)).setCell ⟨g, i * 3 + 2, none⟩ (.slice X.a X.len X.cap)).ownsRow lo 24 3 (.slice (some ⟨g, 0, none⟩) n cap) n (flat (ts.set i X)) := by
  obtain ⟨h1, h2⟩ := h
  rcases h2 with ⟨h2, _⟩ | ⟨g', cap', cur, hv, hlo, hg, hnc, hcm, hsz, htk⟩
  · cases h2
  cases hv
  refine ⟨?_, .inr ⟨g, cap, ((cur.setIfInBounds (i * 3) (.int .i64 X.v)).setIfInBounds (i * 3 + 1) (.string X.nm)).setIfInBounds (i * 3 + 2) (.slice X.a X.len X.cap), rfl, hlo, ?_, hnc, hcm, ?_, ?_⟩⟩
  · rw [← flat_set X ts i (by omega)]; simp [h1]
  · simp only [World.setCell, Array.getElem?_modify]
    simp [hg]
  · simp [hsz]
  · rw [← flat_set X ts i (by omega), ← htk]
    simp [List.take_set]
end Go.Proofs.Ytmggaclaoefdaaa
