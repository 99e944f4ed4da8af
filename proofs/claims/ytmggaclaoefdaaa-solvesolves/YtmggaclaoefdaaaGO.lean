/- The reference's Far: what it answers. The reference's fitting: what it answers. -/
import Derived.Test.YtmggaclaoefdaaaGH
import Derived.Test.YtmggaclaoefdaaaSr3
import Derived.Test.YtmggaclaoefdaaaGL
namespace Go.Proofs.Ytmggaclaoefdaaa
open Go.RowKit

def FrP (far : Int) (T : Tm) (w : World) (e : Ending) (w' : World) : Prop := ∃ X : Tm, e = .returned X.val ∧ Below w.heap.size w w' ∧ TIn w' X ∧ can X = ap (ownV far) T ∧ ∀ k, k < w.heap.size → NB k (vT 0) → NB k X
def FrC (T : Tm) : Prop := ∀ (far : Int) (w : World), 0 ≤ far ∧ far ≤ 1000000 → TIn w T → Okv 12 T → Calls Try.prog 129 #[T.val, .int .i64 far] w (FrP far T w)
set_option maxRecDepth 100000 in
set_option maxHeartbeats 2000000 in
theorem far_var {T : Tm} (hv : T.v ≠ 0) : FrC T := by
  intro far w hl hT hO
  have hp := hO.top
  have p0 := hp.1
  have p1 := hp.2.1
  have HE : Hid (can (vT (T.v + far)) = ap (ownV far) T) := by
    rw [Hid, ap_var _ hv, can_vT']
    show vT _ = vT (far + T.v)
    rw [Int.add_comm]
  have hvb : (T.v != 0) = true := bne_iff_ne.2 hv
  have hw : IntKind.i64.wrap (T.v + far) = T.v + far := by simp [IntKind.wrap, IntKind.bits, IntKind.signed]; omega
  clear hp hT hO
  show Calls Try.prog 129 #[.agg #[.int .i64 T.v, .string T.nm, .slice T.a T.len T.cap], .int .i64 far] w _
  go_enter Try.func129, Try.ntmps129
  go_wp2_with fail
  have HBa : Hid (Below w.heap.size w ((w.alloc (.cells #[.int .i64 T.v, .string T.nm, .slice T.a T.len T.cap] 24)).alloc (.cells #[.int .i64 (T.v + far), .string ⟨#[]⟩, .slice none 0 0] 24))) := ((Below.refl _ _).alloc (Nat.le_refl _) _).alloc (by simp) _
  refine bodyPost_ret (v := (vT (T.v + far)).val) ?_ rfl ⟨vT (T.v + far), rfl, HBa.out, vT_in _ _, HE.out, fun k _ _ => ⟨fun h => absurd h (Nat.lt_irrefl 0), fun i hi => absurd hi (Nat.not_lt_zero i)⟩⟩
  simp [results, Try.results129, go_sem, Tm.val, vT, Tm.v, Tm.nm, Tm.a, Tm.len, Tm.cap]

set_option maxRecDepth 100000 in
set_option maxHeartbeats 8000000 in
theorem far_fn {T : Tm} (hv : T.v = 0) (hk : ∀ i, i < T.len → FrC (T.f i)) : FrC T := by
  intro far w hl hT hO
  have HC : Hid (∀ i, i < T.len → ∀ W, Below w.heap.size w W → Calls Try.prog 129 #[.agg #[.int .i64 (T.f i).v, .string (T.f i).nm, .slice (T.f i).a (T.f i).len (T.f i).cap], .int .i64 far] W (FrP far (T.f i) W)) := fun i hi W hW => hk i hi far W hl ((hT.kid hi).below hW) (hO.kid hi)
  have HKid : Hid (∀ i, i < T.len → ∀ W, Below w.heap.size w W → RowAt W T.a i (T.f i)) := fun i hi W hW => (hT.row hi).below hW
  have HX : Hid (ap (ownV far) T = .mk 0 T.nm none T.len 0 (fun i => if i < T.len then ap (ownV far) (T.f i) else .nil)) := ap_fn _ hv
  have HNY : Hid (∀ k, w.heap.size ≤ k → NB k (vT 0)) := fun k _ => nb0 k
  have hlen : T.len ≤ 2 ^ 63 - 1 := hT.len
  have hlen4 : T.len ≤ 4 := hO.four
  have hnm := hT.name
  have hvb : (T.v != 0) = false := by rw [hv]; rfl
  obtain ⟨i0, hi, hz0, hz1, hz2⟩ := info_parts Try.info24
  clear hk hT hO hv hl
  generalize hua : T.a = ua at *
  show Calls Try.prog 129 #[.agg #[.int .i64 T.v, .string T.nm, .slice T.a T.len T.cap], .int .i64 far] w _
  rw [hua]
  go_enter Try.func129, Try.ntmps129
  go_wp2_with fail
  obtain ⟨a1, a2, aB⟩ := alloc3 w (.cells #[.int .i64 T.v, .string T.nm, .slice ua T.len T.cap] 24) (.cells #[.int .i64 0, .string ⟨#[]⟩, .slice none 0 0] 24) (.cells #[.int .i64 0, .string T.nm, .slice none 0 0] 24)
  have a0 := alloc3a w (.cells #[.int .i64 T.v, .string T.nm, .slice ua T.len T.cap] 24) (.cells #[.int .i64 0, .string ⟨#[]⟩, .slice none 0 0] 24) (.cells #[.int .i64 0, .string T.nm, .slice none 0 0] 24)
  go_loopw [6] (fun i wr => ∃ (j : Nat) (ts : List Tm) (v : Value), j ≤ T.len ∧ i = .int .i64 j ∧ LstQ (w.heap.size + 3) (vT 0) wr v ts ((List.range j).map fun i => ap (ownV far) (T.f i)) ∧ wr.heap[w.heap.size + 2]? = some (.cells #[.int .i64 0, .string T.nm, v] 24) ∧ wr.heap[w.heap.size + 1]? = some (.cells #[.int .i64 0, .string ⟨#[]⟩, .slice none 0 0] 24) ∧ wr.heap[w.heap.size]? = some (.cells #[.int .i64 T.v, .string T.nm, .slice ua T.len T.cap] 24) ∧ w.heap.size + 3 ≤ wr.heap.size ∧ Below w.heap.size w wr) (fun i _ => T.len - (intOf i).toNat)
  case atStart => exact ⟨0, [], _, Nat.zero_le _, rfl, ⟨World.ownsRow_nil _ _ _ _, fun c hc => absurd hc (by simp), rfl, fun i hi => absurd hi (Nat.not_lt_zero i)⟩, a2, a1, a0, by simp, aB⟩
  case round =>
    clear a0 a1 a2 aB
    obtain ⟨j, ts, v, hj, rfl, hL, hC2, hZ1, hT0, hsz, hB⟩ := hrel
    have HL : Hid (LstQ (w.heap.size + 3) (vT 0) wr v ts ((List.range j).map fun i => ap (ownV far) (T.f i))) := hL
    have HC2 : Hid (wr.heap[w.heap.size + 2]? = some (.cells #[.int .i64 0, .string T.nm, v] 24)) := hC2
    have HZ1 : Hid (wr.heap[w.heap.size + 1]? = some (.cells #[.int .i64 0, .string ⟨#[]⟩, .slice none 0 0] 24)) := hZ1
    have HT0 : Hid (wr.heap[w.heap.size]? = some (.cells #[.int .i64 T.v, .string T.nm, .slice ua T.len T.cap] 24)) := hT0
    have HB : Hid (Below w.heap.size w wr) := hB
    have HTL : Hid (ts.length = j) := by have := hL.len; rw [Hid]; simpa using this
    have hts4 : ts.length ≤ 4 := by have := HTL.out; omega
    clear hL hC2 hZ1 hT0 hB
    obtain ⟨b0, b1, b2, _, _, _⟩ := block_cells HT0.out
    by_cases hlt : j < T.len
    case neg =>
      have hje : j = T.len := by omega
      obtain ⟨Q, hvQ, hQ, hQN, hQL, hQS⟩ := HL.out.terms
      have HQ : Hid (TIn wr Q ∧ (∀ k, k < w.heap.size + 3 → NB k (vT 0) → NB k Q) ∧ Q.len = T.len ∧ ∀ i, i < Q.len → can (Q.f i) = ap (ownV far) (T.f i)) := by
        rw [hje] at hQL hQS
        have hl : Q.len = T.len := by simpa using hQL
        refine ⟨hQ, hQN, hl, fun i hi => ?_⟩
        rw [hQS i hi]
        simp [List.getD, show i < T.len by omega]
      subst hvQ
      clear hQ hQN hQL hQS hje
      obtain ⟨c0, c1, c2, _, _, _⟩ := block_cells HC2.out
      obtain ⟨y0, y1, y2, f0, f1, f2⟩ := block_cells HZ1.out
      go_wp2_with fail
      obtain ⟨W', hW', z0, z1, z2, hB', hgr⟩ := fin3n (r := w.heap.size + 1) (by omega) HZ1.out HB.out (.int .i64 0) (.string T.nm) (.slice Q.a Q.len Q.cap)
      rw [hW']
      have hT' : TIn W' Q := HQ.out.1.grown hgr (fun k hk => by obtain rfl := Option.some.inj hk; exact HQ.out.2.1 _ (by omega) (HNY.out _ (by omega)))
      refine bodyPost_ret (v := Tm.val (.mk 0 T.nm Q.a Q.len Q.cap Q.f)) ?_ rfl ⟨.mk 0 T.nm Q.a Q.len Q.cap Q.f, rfl, hB', hT'.retop hnm, ?_, fun k hk hY => (HQ.out.2.1 k (by omega) hY).retop⟩
      · simp [results, Try.results129, go_sem, z0, z1, z2, Tm.val, Tm.v, Tm.nm, Tm.a, Tm.len, Tm.cap]
      · rw [HX.out]
        show Tm.mk 0 T.nm none Q.len 0 (fun i => if i < Q.len then can (Q.f i) else .nil) = _
        rw [HQ.out.2.2.1]
        congr 1
        funext i
        by_cases hi : i < T.len
        · rw [if_pos hi, if_pos hi]; exact HQ.out.2.2.2 i (by rw [HQ.out.2.2.1]; exact hi)
        · rw [if_neg hi, if_neg hi]
    have hr := HKid.out j hlt wr HB.out
    obtain ⟨bb, o, ha, c0, c1, c2⟩ := hr
    subst ha
    have hltI : (j : Int) < (T.len : Int) := by omega
    go_wp2_with fail
    obtain ⟨d0, d1, d2, k0, k1, k2⟩ := block_cells HC2.out
    have tok1 : True := trivial
    go_region_law (first
      | (have _t := tok1
         go_simp
         go_at_call 129
         refine (HC.out j hlt _ (by repeat (first | exact HB.out | refine Below.drew ?_))).mono ?_
         rintro e w5 ⟨X, rfl, hb5, hX5, hS5, hN5⟩
         have HB5 : Hid (Below wr.heap.size wr w5) := Below.trans (by repeat (first | exact Below.refl _ _ | refine Below.drew ?_)) (hb5.mono (Nat.le_refl _))
         have HX5 : Hid (TIn w5 X ∧ can X = ap (ownV far) (T.f j) ∧ ∀ k, k < wr.heap.size → NB k (vT 0) → NB k X) := ⟨hX5, hS5, hN5⟩
         have g2 : w5.cell? ⟨w.heap.size + 2, 2, none⟩ = some v := (HB5.out.cell (p := ⟨w.heap.size + 2, 2, none⟩) (by show w.heap.size + 2 < wr.heap.size; omega)).trans d2
         have gf2 : w5.frozen? ⟨w.heap.size + 2, 2, none⟩ = false := (HB5.out.frozen (p := ⟨w.heap.size + 2, 2, none⟩) (by show w.heap.size + 2 < wr.heap.size; omega)).trans k2
         have HL5 : Hid (LstQ (w.heap.size + 3) (vT 0) (w5.alloc (.cells #[.int .i64 X.v, .string X.nm, .slice X.a X.len X.cap] 24)) v ts ((List.range j).map fun i => ap (ownV far) (T.f i))) := (HL.out.keep HB5.out).keep ((Below.refl _ _).alloc (Nat.le_refl _) _)
         rw [show X.val = .agg #[.int .i64 X.v, .string X.nm, .slice X.a X.len X.cap] from rfl]
         have g2b : (w5.alloc (.cells #[.int .i64 X.v, .string X.nm, .slice X.a X.len X.cap] 24)).cell? ⟨w.heap.size + 2, 2, none⟩ = some v := (((Below.refl _ w5).alloc (Nat.le_refl _) (.cells #[.int .i64 X.v, .string X.nm, .slice X.a X.len X.cap] 24)).cell (p := ⟨w.heap.size + 2, 2, none⟩) (lt_of_cell g2)).trans g2
         clear hb5 hX5 hS5 hN5 tok1)
      | (refine step_append_own_at rfl (.tmp 26) (.tmp 34) 22 rfl (w.heap.size + 3) 24 i0 (.agg #[.int .i64 0, .string ByteArray.empty, .slice none 0 0]) 3 48 Try.underlying22 hi hz0 hz1 hz2 rfl (by decide) v ts.length (flat ts) (by simp [Act.eval]) HL5.out.own ⟨w5.heap.size, 0, none⟩ 1 1 (flat [X]) (by simp [Act.eval]) rfl (news1 w5 X) (flat_one _) (by unfold maxLen; omega) (by omega) (by have := HB5.out.size; simp; omega) (by omega) ?_
         intro g cap' w6 hown6 hg6 hat6
         have HO6 : Hid (w6.ownsRow (w.heap.size + 3) 24 3 (.slice (some ⟨g, 0, none⟩) (ts.length + 1) cap') (ts.length + 1) (flat ts ++ flat [X])) := hown6
         have HG6 : Hid ((w5.alloc (.cells #[.int .i64 X.v, .string X.nm, .slice X.a X.len X.cap] 24)).grownBy w6 v.ownBlock) := hg6
         have HA6 : Hid (some g = v.ownBlock ∨ g = (w5.alloc (.cells #[.int .i64 X.v, .string X.nm, .slice X.a X.len X.cap] 24)).heap.size) := hat6
         have hne6 : some (w.heap.size + 2) ≠ v.ownBlock := fun e => by have := (HL.out.own.lt _ e.symm).1; omega
         have q2 : w6.cell? ⟨w.heap.size + 2, 2, none⟩ = some v := hg6.cell ((((Below.refl _ w5).alloc (Nat.le_refl _) (.cells #[.int .i64 X.v, .string X.nm, .slice X.a X.len X.cap] 24)).cell (p := ⟨w.heap.size + 2, 2, none⟩) (lt_of_cell g2)).trans g2) hne6
         have qf2 : w6.frozen? ⟨w.heap.size + 2, 2, none⟩ = false := (World.frozen?_of_block (hg6.block _ (by have := lt_of_cell g2; simp; have h : w.heap.size + 2 < w5.heap.size := this; omega) hne6)).trans ((((Below.refl _ w5).alloc (Nat.le_refl _) (.cells #[.int .i64 X.v, .string X.nm, .slice X.a X.len X.cap] 24)).frozen (p := ⟨w.heap.size + 2, 2, none⟩) (lt_of_cell g2)).trans gf2)
         clear hown6 hg6 hat6))
    all_goals
      have hgs := grown_set (W := w6) (w.heap.size + 2) 2 (.slice (some ⟨g, 0, none⟩) (ts.length + 1) cap')
      have hwr5 : Below wr.heap.size wr w5 := HB5.out
      have hB6 : Below w.heap.size w w6 := ((HB.out.trans (hwr5.mono HB.out.size)).alloc (by have := hwr5.size; omega) _).grown HG6.out (by have := hwr5.size; simp; omega) (fun q hq => by have := (HL.out.own.lt q hq).1; omega)
      have HBF : Hid (Below w.heap.size w (w6.setCell ⟨w.heap.size + 2, 2, none⟩ (.slice (some ⟨g, 0, none⟩) (ts.length + 1) cap'))) := hB6.grown hgs (by have := hwr5.size; have := HG6.out.size; simp at this; omega) (fun q hq => by have := Option.some.inj hq; omega)
      have hL6 : LstQ (w.heap.size + 3) (vT 0) w6 (.slice (some ⟨g, 0, none⟩) (ts.length + 1) cap') (ts ++ [X]) (((List.range j).map fun i => ap (ownV far) (T.f i)) ++ [ap (ownV far) (T.f j)]) := HL5.out.more (HX5.out.1.below ((Below.refl _ _).alloc (Nat.le_refl _) _)) (fun k hk hY => HX5.out.2.2 k (by omega) hY) (fun q hq => HX5.out.2.2 q (HL.out.own.lt q hq).2 (HNY.out q (by have := (HL.out.own.lt q hq).1; omega))) HX5.out.2.1 HO6.out HG6.out (by
        rcases HA6.out with e | e
        · exact .inl e
        · exact .inr (by rw [e]; rfl))
      have HLF : Hid (LstQ (w.heap.size + 3) (vT 0) (w6.setCell ⟨w.heap.size + 2, 2, none⟩ (.slice (some ⟨g, 0, none⟩) (ts.length + 1) cap')) (.slice (some ⟨g, 0, none⟩) (ts.length + 1) cap') (ts ++ [X]) ((List.range (j + 1)).map fun i => ap (ownV far) (T.f i))) := by
        rw [Hid, List.range_succ, List.map_append]
        refine ⟨hL6.own.kept hgs (.inr (fun e => by have h1 := (hL6.own.lt g rfl).1; have h2 : g = w.heap.size + 2 := Option.some.inj e; omega)), fun U hU => ?_, hL6.len, hL6.sim⟩
        obtain ⟨h1, h2, h3⟩ := hL6.all U hU
        exact ⟨h1.grown hgs (fun q hq => by obtain rfl := Option.some.inj hq; exact h2 _ (by omega) (HNY.out _ (by omega))), h2, h3⟩
      have hneA : ∀ q, q < w.heap.size + 3 → some q ≠ v.ownBlock := fun q hq e => by have := (HL.out.own.lt _ e.symm).1; omega
      have h56 : ∀ q, q < wr.heap.size → some q ≠ v.ownBlock → w6.heap[q]? = wr.heap[q]? := fun q hq hn => (HG6.out.block q (by have := hwr5.size; simp; omega) hn).trans ((heap_alloc_old _ _ (by have := hwr5.size; omega)).trans (hwr5.block q hq))
      have hs6 : wr.heap.size ≤ w6.heap.size := by have := hwr5.size; have := HG6.out.size; simp at this; omega
      have HCF : Hid ((w6.setCell ⟨w.heap.size + 2, 2, none⟩ (.slice (some ⟨g, 0, none⟩) (ts.length + 1) cap')).heap[w.heap.size + 2]? = some (.cells #[.int .i64 0, .string T.nm, (.slice (some ⟨g, 0, none⟩) (ts.length + 1) cap')] 24)) := setL ((h56 _ (by omega) (hneA _ (by omega))).trans HC2.out)
      have HZF : Hid ((w6.setCell ⟨w.heap.size + 2, 2, none⟩ (.slice (some ⟨g, 0, none⟩) (ts.length + 1) cap')).heap[w.heap.size + 1]? = some (.cells #[.int .i64 0, .string ⟨#[]⟩, .slice none 0 0] 24)) := (hgs.block _ (by omega) (by simp)).trans ((h56 _ (by omega) (hneA _ (by omega))).trans HZ1.out)
      have HTF : Hid ((w6.setCell ⟨w.heap.size + 2, 2, none⟩ (.slice (some ⟨g, 0, none⟩) (ts.length + 1) cap')).heap[w.heap.size]? = some (.cells #[.int .i64 T.v, .string T.nm, .slice (some ⟨bb, o, none⟩) T.len T.cap] 24)) := (hgs.block _ (by omega) (by simp)).trans ((h56 _ (by omega) (hneA _ (by omega))).trans HT0.out)
      have hszF : w.heap.size + 3 ≤ (w6.setCell ⟨w.heap.size + 2, 2, none⟩ (.slice (some ⟨g, 0, none⟩) (ts.length + 1) cap')).heap.size := by have := hgs.size; omega
      clear hgs hwr5 hB6 hL6 hneA h56 hs6
      go_wp2_with fail
      go_roundw
      case rel => exact ⟨j + 1, ts ++ [X], _, by omega, by go_num, HLF.out, HCF.out, HZF.out, HTF.out, hszF, HBF.out⟩
      case measure => simp [intOf]; omega
theorem far_all (T : Tm) : FrC T := by
  induction T with
  | nil => intro far w _ hT; exact False.elim hT
  | mk v nm a len cap f ih =>
    by_cases hv : v = 0
    · exact far_fn hv (fun i _ => ih i)
    · exact far_var hv
/-- A term of a clause, with variables of its own, in memory that is new. -/
theorem nb_above {lo : Nat} {X : Tm} {w : World} (hT : TIn w X) (h : ∀ k, k < lo → NB k X) : Above lo X := by
  induction X with
  | nil => trivial
  | mk v nm a len cap f ih =>
    refine ⟨fun h0 => ?_, fun i hi => ih i (hT.2.2 i hi).2 (fun k hk => (h k hk).2 i hi)⟩
    obtain ⟨b, o, e, _⟩ := (hT.2.2 0 h0).1
    refine ⟨b, o, e, ?_⟩
    rcases Nat.lt_or_ge b lo with h1 | h1
    · obtain ⟨b', o', e', hne⟩ := (h b h1).1 h0
      rw [e] at e'
      cases e'
      exact absurd rfl hne
    · exact h1
theorem far_any (T : Tm) (far : Int) (w : World) (hl : 0 ≤ far ∧ far ≤ 1000000) (hT : TIn w T) (hO : Okv 12 T) : Calls Try.prog 129 #[.agg #[.int .i64 T.v, .string T.nm, .slice T.a T.len T.cap], .int .i64 far] w fun e w' => ∃ X : Tm, e = .returned (.agg #[.int .i64 X.v, .string X.nm, .slice X.a X.len X.cap]) ∧ Below w.heap.size w w' ∧ TIn w' X ∧ can X = ap (ownV far) T ∧ Above w.heap.size X :=
  (far_all T far w hl hT hO).mono fun _ _ ⟨X, h1, h2, h3, h4, h5⟩ => ⟨X, h1, h2, h3, h4, nb_above h3 (fun k hk => h5 k hk (nb0 k))⟩
end Go.Proofs.Ytmggaclaoefdaaa

namespace Go.Proofs.Ytmggaclaoefdaaa
open Go.RowKit

def fitN (P : Pg) (o : Option Nat) : Nat := match o with
  | none => P.len
  | some j => j
theorem below_drewN' {B : Nat} {w w' : World} (h : Below B w w') (n : Nat) : Below B w (w'.drewN n) := below_drewN2 h n
set_option maxRecDepth 100000 in
set_option maxHeartbeats 4000000 in
theorem fitting_any (P : Pg) (T : Tm) (i : Nat) (w : World) (hP : PIn w P) (hT : T.len ≤ maxLen) (hi : i ≤ P.len) :
    Calls Try.prog 128 #[.slice P.a P.len P.cap, .agg #[.int .i64 T.v, .string T.nm, .slice T.a T.len T.cap], .int .i64 i] w fun e w' => e = .returned (.int .i64 (fitN P (fitP (cls P) T i) : Nat)) ∧ Below w.heap.size w w' := by
  have HP : Hid (PIn w P) := hP
  have hlen : P.len ≤ 2 ^ 63 - 1 := hP.1
  have hTl : T.len ≤ 2 ^ 63 - 1 := hT
  have HNo : Hid (∀ k, (∀ j, i ≤ j → j < P.len → isT (P.hd j) T.nm T.len = false) → k = P.len → fitP (cls P) T i = none) := fun k h _ => fit_none h
  have HYes : Hid (∀ j, i ≤ j → j < P.len → isT (P.hd j) T.nm T.len = true → (∀ k, i ≤ k → k < j → isT (P.hd k) T.nm T.len = false) → fitP (cls P) T i = some j) := fun j h1 h2 h3 h4 => fit_some h1 h2 h3 h4
  have HBx : Hid (Below w.heap.size w (w.alloc (.cells #[.int .i64 T.v, .string T.nm, .slice T.a T.len T.cap] 24))) := (Below.refl _ _).alloc (Nat.le_refl _) _
  have HX0 : Hid ((w.alloc (.cells #[.int .i64 T.v, .string T.nm, .slice T.a T.len T.cap] 24)).heap[w.heap.size]? = some (.cells #[.int .i64 T.v, .string T.nm, .slice T.a T.len T.cap] 24)) := heap_alloc_new w _
  have HRow : Hid (∀ k, k < P.len → ∀ wr, Below w.heap.size w wr → ClAt wr P.a k (P.hd k) (P.bd k) ∧ TIn wr (P.hd k)) := fun k hk wr hb => ⟨((HP.out.below hb).2 k hk).1, ((HP.out.below hb).2 k hk).2.1⟩
  clear hP hT HP
  generalize hpa : P.a = pa at *
  go_enter Try.func128, Try.ntmps128
  go_wp2_with fail
  generalize w.alloc (.cells #[.int .i64 T.v, .string T.nm, .slice T.a T.len T.cap] 24) = W at *
  have hW : w.heap.size < W.heap.size := (Array.getElem?_eq_some_iff.1 HX0.out).1
  go_loopw [2] (fun x wr => ∃ j : Nat, i ≤ j ∧ j ≤ P.len ∧ x = .int .i64 j ∧ (∀ k, i ≤ k → k < j → isT (P.hd k) T.nm T.len = false) ∧ Below W.heap.size W wr) (fun x _ => P.len - (intOf x).toNat)
  case atStart => exact ⟨i, Nat.le_refl _, hi, rfl, fun k h1 h2 => absurd h1 (by omega), Below.refl _ _⟩
  case round =>
    obtain ⟨j, hij, hj, rfl, hno, hB⟩ := hrel
    have HNj : Hid (∀ k, i ≤ k → k < j → isT (P.hd k) T.nm T.len = false) := hno
    have HB : Hid (Below W.heap.size W wr) := hB
    have HBw : Hid (Below w.heap.size w wr) := HBx.out.trans (hB.mono HBx.out.size)
    clear hno hB
    by_cases hlt : j < P.len
    case neg =>
      have hje : j = P.len := by omega
      have HE : Hid (fitP (cls P) T i = none) := HNo.out _ (fun k h1 h2 => HNj.out k h1 (by omega)) rfl
      have HJ : Hid (j = P.len) := hje
      clear hje
      go_wp2_with fail
      go_quiet (fail)
      go_wp2_with fail
      go_ret
      exact ⟨by rw [HE.out]; show _ = Ending.returned (.int .i64 (P.len : Int)); rw [← HJ.out]; rfl, below_drewN' HBw.out _⟩
    obtain ⟨⟨b, o, ha, c0, c1, c2, c3⟩, hHT⟩ := HRow.out j hlt wr HBw.out
    have hltI : (j : Int) < (P.len : Int) := by omega
    have HXr : Hid (wr.heap[w.heap.size]? = some (.cells #[.int .i64 T.v, .string T.nm, .slice T.a T.len T.cap] 24)) := (HB.out.block _ hW).trans HX0.out
    obtain ⟨x0, x1, x2, _, _, _⟩ := block_cells HXr.out
    have hHl : (P.hd j).len ≤ 2 ^ 63 - 1 := hHT.len
    clear hHT
    have HM : Hid (isT (P.hd j) T.nm T.len = true → fitP (cls P) T i = some j) := fun h => HYes.out j hij hlt h (fun k h1 h2 => HNj.out k h1 h2)
    have HNx : Hid (isT (P.hd j) T.nm T.len = false → ∀ k, i ≤ k → k < j + 1 → isT (P.hd k) T.nm T.len = false) := fun h k h1 h2 => by
      by_cases e : k = j
      · rw [e]; exact h
      · exact HNj.out k h1 (by omega)
    generalize hH : P.hd j = H at *
    generalize hBd : P.bd j = Bd at *
    clear hH hBd
    subst ha
    by_cases hn : H.nm.toList = T.nm.toList
    case neg =>
      have hnb : (H.nm.toList == T.nm.toList) = false := beq_eq_false_iff_ne.2 hn
      have hnb2 : (H.nm.toList != T.nm.toList) = true := bne_iff_ne.2 hn
      have HF : Hid (∀ k, i ≤ k → k < j + 1 → isT (P.hd k) T.nm T.len = false) := HNx.out (by unfold isT; rw [hnb, Bool.false_and])
      clear hn
      go_wp2_with fail
      go_quiet (fail)
      go_wp2_with fail
      go_roundw
      case rel => exact ⟨j + 1, by omega, by omega, by go_num, HF.out, below_drewN' HB.out _⟩
      case measure => simp [intOf]; omega
    have hnb : (H.nm.toList == T.nm.toList) = true := beq_iff_eq.2 hn
    have hnb2 : (H.nm.toList != T.nm.toList) = false := by rw [hn]; simp
    by_cases hl : H.len = T.len
    case neg =>
      have hlb : ((H.len : Int) != (T.len : Int)) = true := bne_iff_ne.2 (by omega)
      have HF : Hid (∀ k, i ≤ k → k < j + 1 → isT (P.hd k) T.nm T.len = false) := HNx.out (by unfold isT; rw [decide_eq_false hl, Bool.and_false])
      clear hn hl
      go_wp2_with fail
      go_quiet (fail)
      go_wp2_with fail
      go_roundw
      case rel => exact ⟨j + 1, by omega, by omega, by go_num, HF.out, below_drewN' HB.out _⟩
      case measure => simp [intOf]; omega
    have hlb : ((H.len : Int) != (T.len : Int)) = false := by rw [hl]; simp
    have HE : Hid (fitP (cls P) T i = some j) := HM.out (by unfold isT; rw [hnb, decide_eq_true hl]; rfl)
    clear hn hl
    go_wp2_with fail
    go_quiet (fail)
    go_wp2_with fail
    go_ret
    exact ⟨by rw [HE.out]; rfl, below_drewN' HBw.out _⟩
end Go.Proofs.Ytmggaclaoefdaaa
