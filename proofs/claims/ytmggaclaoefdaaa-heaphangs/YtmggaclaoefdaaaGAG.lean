/- What variables are, in a map: the state, and What. What, look: what they answer. -/
import Derived.Test.YtmggaclaoefdaaaMem
namespace Go.Proofs.Ytmggaclaoefdaaa
open Go.RowKit

/-- What variables are. -/
abbrev Sg := Int → Option Tm
def heldR (v : Value) : Option (DataW Value × List MemPlace) := some (.held v, [])
theorem keyed3 : Maps.Keyed Try.prog 3 := Maps.int_keyed Try.underlying3
theorem key3 {i : Int} (h0 : 0 ≤ i) (h1 : i ≤ 1000000) : keyOf Try.prog 3 (.int .i64 i) = some (.int .i64 i) :=
  Maps.keyOf_int_mk Try.underlying3 (by
    have a : IntKind.i64.min ≤ i := Int.le_trans (by decide) h0
    have b : i ≤ IntKind.i64.max := Int.le_trans h1 (by decide)
    rw [Lit.wf, Bool.and_eq_true, decide_eq_true_eq, decide_eq_true_eq]
    exact ⟨a, b⟩)
theorem zero24 (w : World) : (zeroValue 24).run Try.prog w = .ok (.agg #[.int .i64 0, .string ⟨#[]⟩, .slice none 0 0]) w := by kernel_rfl
/-- Block m is a map that says what variables are. -/
def MapIs (w : World) (m n : Nat) (σ : Sg) : Prop := ∃ D : DataW Value, w.ownsMap Try.prog 3 heldR m n D ∧ Maps.IsMap D ∧
  ∀ i : Int, 0 ≤ i → i ≤ 1000000 → Maps.has D (.int .i64 i) = (σ i).isSome ∧ ∀ T, σ i = some T → ∀ z, D.atKey (.int .i64 i) z = .held T.val
theorem MapIs.kept {w w' : World} {m n : Nat} {σ : Sg} {row : Option Nat} (h : MapIs w m n σ) (hg : w.grownBy w' row) (hne : some m ≠ row) : MapIs w' m n σ := by
  obtain ⟨D, h1, h2⟩ := h
  exact ⟨D, h1.kept hg hne, h2⟩
theorem MapIs.lt {w : World} {m n : Nat} {σ : Sg} (h : MapIs w m n σ) : m < w.heap.size := by
  obtain ⟨D, h1, _⟩ := h
  exact h1.lt
theorem MapIs.look {w : World} {m n : Nat} {σ : Sg} (h : MapIs w m n σ) {i : Int} (h0 : 0 ≤ i) (h1 : i ≤ 1000000) :
    (∀ T, σ i = some T → (Instr.lookup 140 (.map (some m)) (.int .i64 i) true).run Try.prog w = .ok (.tuple #[.agg #[.int .i64 T.v, .string T.nm, .slice T.a T.len T.cap], .bool true]) w) ∧
    (σ i = none → (Instr.lookup 140 (.map (some m)) (.int .i64 i) true).run Try.prog w = .ok (.tuple #[.agg #[.int .i64 0, .string ⟨#[]⟩, .slice none 0 0], .bool false]) w) := by
  obtain ⟨D, hD, hm, hs⟩ := h
  obtain ⟨hs1, hs2⟩ := hs i h0 h1
  obtain ⟨v, ps, hrun, hv⟩ := hD.look_ok (t := 140) (e := 24) keyed3 Try.underlying140 (zero24 w) (zd := .held (.agg #[.int .i64 0, .string ⟨#[]⟩, .slice none 0 0])) (zp := []) rfl (key3 h0 h1)
  have hv' : DataW.held v = D.atKey (.int .i64 i) (.held (.agg #[.int .i64 0, .string ⟨#[]⟩, .slice none 0 0])) := congrArg Prod.fst (Option.some.inj hv)
  constructor
  · intro T hT
    rw [hs2 T hT] at hv'
    rw [hs1, hT] at hrun
    obtain rfl := DataW.held.inj hv'
    exact hrun
  · intro hn
    rw [hn] at hs1
    rw [Maps.atKey_of_not_has hs1] at hv'
    obtain rfl := DataW.held.inj hv'
    rw [hs1] at hrun
    exact hrun
/-- .. in whatever world in which the map's block stands. -/
theorem MapIs.looks {w : World} {m n : Nat} {σ : Sg} (h : MapIs w m n σ) : ∃ o : Obj, w.heap[m]? = some o ∧ ∀ W : World, W.heap[m]? = some o → MapIs W m n σ := by
  obtain ⟨D, ⟨es, clock, h1, h2⟩, h3⟩ := h
  exact ⟨_, h1, fun W hW => ⟨D, ⟨es, clock, hW, h2⟩, h3⟩⟩
def upd (σ : Sg) (i : Int) (T : Tm) : Sg := fun j => if j = i then some T else σ j
theorem MapIs.store {w : World} {m n : Nat} {σ : Sg} (h : MapIs w m n σ) {i : Int} (h0 : 0 ≤ i) (h1 : i ≤ 1000000) (hn : n < 100000000000) (T : Tm) :
    ∃ w', (Instr.mapUpdate 140 (.map (some m)) (.int .i64 i) (.agg #[.int .i64 T.v, .string T.nm, .slice T.a T.len T.cap])).run Try.prog w = .ok () w' ∧ MapIs w' m (n + 1) (upd σ i T) ∧ w.grownBy w' (some m) := by
  obtain ⟨D, hD, hm, hs⟩ := h
  obtain ⟨w', hrun, ho, hg⟩ := hD.update (t := 140) (e := 24) keyed3 Try.underlying140 (by unfold maxLen; omega) (key3 h0 h1) (val := .agg #[.int .i64 T.v, .string T.nm, .slice T.a T.len T.cap]) (d := .held T.val) (ps := []) rfl
  refine ⟨w', hrun, ⟨_, ho, hm.put _ _, fun j j0 j1 => ?_⟩, hg⟩
  by_cases e : j = i
  · subst e
    refine ⟨by rw [Maps.has_put_same hm (keyed3.key (key3 h0 h1))]; simp [upd], fun T' hT' z => ?_⟩
    rw [Maps.atKey_put_same hm (keyed3.key (key3 h0 h1))]
    simp [upd] at hT'
    rw [hT']
  · have hne : (Lit.int .i64 j) ≠ .int .i64 i := fun h => e (by injection h)
    obtain ⟨g1, g2⟩ := hs j j0 j1
    refine ⟨by rw [Maps.has_put_other hne, g1, upd, if_neg e], fun T' hT' z => ?_⟩
    rw [Maps.atKey_put_other hne]
    rw [upd, if_neg e] at hT'
    exact g2 T' hT' z

/-- All variables of a term are from 1 to N, and nothing else. -/
def Okv (N : Int) : Tm → Prop
  | .nil => False
  | .mk v nm _ len _ f => 0 ≤ v ∧ v ≤ N ∧ (v ≠ 0 → nm = ⟨#[]⟩ ∧ len = 0) ∧ len ≤ 4 ∧ ∀ i, i < len → Okv N (f i)
theorem Okv.top {N : Int} {T : Tm} (h : Okv N T) : 0 ≤ T.v ∧ T.v ≤ N ∧ (T.v ≠ 0 → T.nm = ⟨#[]⟩ ∧ T.len = 0) := by
  cases T with
  | nil => exact False.elim h
  | mk => exact ⟨h.1, h.2.1, h.2.2.1⟩
theorem Okv.kid {N : Int} {T : Tm} (h : Okv N T) {i : Nat} (hi : i < T.len) : Okv N (T.f i) := by
  cases T with
  | nil => exact False.elim h
  | mk => exact h.2.2.2.2 i hi
theorem Okv.four {N : Int} {T : Tm} (h : Okv N T) : T.len ≤ 4 := by
  cases T with
  | nil => exact False.elim h
  | mk => exact h.2.2.2.1

/-- What a term is. -/
def wh (σ : Sg) : Nat → Tm → Tm
  | 0, T => T
  | k + 1, T => if T.v = 0 then T else match σ T.v with
    | none => T
    | some U => wh σ k U
def wha (σ : Sg) (T : Tm) : Tm := wh σ (T.v.toNat + 1) T
def Dec (σ : Sg) : Prop := ∀ v U, σ v = some U → U.v = 0 ∨ (0 < U.v ∧ U.v < v)
theorem wh_enough {σ : Sg} (hd : Dec σ) : ∀ (k : Nat) (T : Tm), 0 ≤ T.v → T.v.toNat < k → wh σ k T = wha σ T := by
  intro k
  induction k with
  | zero => intro T _ h; omega
  | succ k ih =>
    intro T h0 hk
    unfold wha
    rw [wh, wh]
    by_cases hv : T.v = 0
    · rw [if_pos hv, if_pos hv]
    · rw [if_neg hv, if_neg hv]
      cases hs : σ T.v with
      | none => rfl
      | some U =>
        simp only
        rcases hd _ _ hs with h1 | ⟨h1, h2⟩
        · rw [ih U (by omega) (by omega)]
          by_cases hT : T.v.toNat = 0
          · omega
          · obtain ⟨j, hj⟩ : ∃ j, T.v.toNat = j + 1 := ⟨T.v.toNat - 1, by omega⟩
            rw [hj]
            unfold wha
            rw [wh, wh, if_pos h1, if_pos h1]
        · rw [ih U (by omega) (by omega), ih' hd U T.v.toNat (by omega) (by omega)]
where
  ih' {σ : Sg} (hd : Dec σ) (U : Tm) (k : Nat) (h0 : 0 ≤ U.v) (hk : U.v.toNat < k) : wh σ k U = wha σ U := by
    have : ∀ (j k : Nat) (U : Tm), 0 ≤ U.v → U.v.toNat < j → U.v.toNat < k → wh σ j U = wh σ k U := by
      intro j
      induction j with
      | zero => intro k U _ h; omega
      | succ j ih =>
        intro k U h0 hj hk
        obtain ⟨k, rfl⟩ : ∃ k', k = k' + 1 := ⟨k - 1, by omega⟩
        rw [wh, wh]
        by_cases hv : U.v = 0
        · rw [if_pos hv, if_pos hv]
        · rw [if_neg hv, if_neg hv]
          cases hs : σ U.v with
          | none => rfl
          | some V =>
            simp only
            rcases hd _ _ hs with h1 | ⟨h1, h2⟩
            · exact ih k V (by omega) (by omega) (by omega)
            · exact ih k V (by omega) (by omega) (by omega)
    exact this k (U.v.toNat + 1) U h0 hk (by omega)
theorem wha_fn {σ : Sg} {T : Tm} (h : T.v = 0) : wha σ T = T := by unfold wha; rw [wh, if_pos h]
theorem wha_none {σ : Sg} {T : Tm} (h : σ T.v = none) : wha σ T = T := by
  unfold wha
  rw [wh]
  by_cases hv : T.v = 0
  · rw [if_pos hv]
  · rw [if_neg hv, h]
theorem wha_some {σ : Sg} (hd : Dec σ) {T U : Tm} (h0 : 0 ≤ T.v) (hv : T.v ≠ 0) (h : σ T.v = some U) : wha σ T = wha σ U := by
  have e : wha σ T = wh σ T.v.toNat U := by unfold wha; rw [wh, if_neg hv, h]
  rw [e]
  rcases hd _ _ h with h1 | ⟨h1, h2⟩
  · exact wh_enough hd _ _ (by omega) (by omega)
  · exact wh_enough hd _ _ (by omega) (by omega)

theorem wh_root {σ : Sg} (hd : Dec σ) : ∀ (k : Nat) (T : Tm), 0 ≤ T.v → T.v.toNat < k → (wh σ k T).v ≠ 0 → σ (wh σ k T).v = none := by
  intro k
  induction k with
  | zero => intro T _ h; omega
  | succ k ih =>
    intro T h0 hk hv
    rw [wh] at hv ⊢
    by_cases hT : T.v = 0
    · rw [if_pos hT] at hv; exact absurd hT hv
    · rw [if_neg hT] at hv ⊢
      cases hs : σ T.v with
      | none => simp only; exact hs
      | some U =>
        rw [hs] at hv
        simp only at hv ⊢
        rcases hd _ _ hs with h | ⟨h1, h2⟩
        · exact ih U (by omega) (by omega) hv
        · exact ih U (by omega) (by omega) hv

/-- Where the variables' state lies: the struct in b, the map in m, the trail in its own memory. -/
structure VS (w : World) (b m : Nat) (tv : Value) (N : Int) (lo n : Nat) (σ : Sg) (L : Int) : Prop where
  blk : w.heap[b]? = some (.cells #[.map (some m), tv, .int .i64 L] 142)
  map : MapIs w m n σ
  own : ∃ tr : List Int, w.ownsRow lo 3 1 tv tr.length (tr.map (Value.int .i64)) ∧ tr.length ≤ n
  ne : b ≠ m
  tb : ∀ g, tv.ownBlock = some g → g ≠ b ∧ g ≠ m
  lob : lo ≤ b ∧ lo ≤ m
  trm : ∀ v T, σ v = some T → TIn w T ∧ Okv N T ∧ NB b T ∧ NB m T ∧ ∀ g, tv.ownBlock = some g → NB g T
  dec : Dec σ
  big : N ≤ 1000000
theorem VS.lt {w : World} {b m : Nat} {tv : Value} {N : Int} {lo n : Nat} {σ : Sg} {L : Int} (h : VS w b m tv N lo n σ L) : b < w.heap.size := (Array.getElem?_eq_some_iff.1 h.blk).1
theorem VS.below {w w' : World} {b m : Nat} {tv : Value} {N : Int} {lo n : Nat} {σ : Sg} {L : Int} (h : VS w b m tv N lo n σ L) (hb : Below w.heap.size w w') : VS w' b m tv N lo n σ L := by
  refine ⟨(hb.block b h.lt).trans h.blk, h.map.kept (grown_of_below hb none) (by simp), ?_, h.ne, h.tb, h.lob, fun v T hv => ⟨(h.trm v T hv).1.below hb, (h.trm v T hv).2⟩, h.dec, h.big⟩
  obtain ⟨tr, h1, h2⟩ := h.own
  refine ⟨tr, h1.kept (grown_of_below hb none) ?_, h2⟩
  cases tv.ownBlock with
  | none => exact .inl rfl
  | some g => exact .inr (by simp)
end Go.Proofs.Ytmggaclaoefdaaa

namespace Go.Proofs.Ytmggaclaoefdaaa
open Go.RowKit

set_option maxRecDepth 100000 in
set_option maxHeartbeats 4000000 in
theorem what_any {b m : Nat} {tv : Value} {N : Int} {lo n : Nat} {σ : Sg} {L : Int} (T : Tm) (w : World) (hS : VS w b m tv N lo n σ L) (hT : Okv N T) :
    Calls Try.prog 93 #[.pointer (some ⟨b, 0, none⟩), T.val] w fun e w' => e = .returned (wha σ T).val ∧ Below w.heap.size w w' ∧ Okv N (wha σ T) := by
  have HS : Hid (VS w b m tv N lo n σ L) := hS
  have HT : Hid (Okv N T) := hT
  have hbl := hS.lt
  clear hS hT
  show Calls Try.prog 93 #[.pointer (some ⟨b, 0, none⟩), .agg #[.int .i64 T.v, .string T.nm, .slice T.a T.len T.cap]] w _
  go_enter Try.func93, Try.ntmps93
  go_wp2_with fail
  go_loopg [] T.v.toNat (fun fu wr => ∃ U : Tm, wr.heap[w.heap.size]? = some (.cells #[.int .i64 U.v, .string U.nm, .slice U.a U.len U.cap] 24) ∧ wr.heap[w.heap.size + 1]? = some (.cells #[.int .i64 0, .string ⟨#[]⟩, .slice none 0 0] 24) ∧ Below w.heap.size w wr ∧ wha σ T = wha σ U ∧ Okv N U ∧ U.v.toNat ≤ fu)
  case atStart =>
    refine ⟨T, ?_, ?_, ((Below.refl _ _).alloc (Nat.le_refl _) _).alloc (by simp) _, rfl, HT.out, Nat.le_refl _⟩
    · rw [heapOld _ _ (by simp)]; exact heap_alloc_new w _
    · have := heap_alloc_new (w.alloc (.cells #[.int .i64 T.v, .string T.nm, .slice T.a T.len T.cap] 24)) (.cells #[.int .i64 0, .string ⟨#[]⟩, .slice none 0 0] 24)
      rwa [show (w.alloc (.cells #[.int .i64 T.v, .string T.nm, .slice T.a T.len T.cap] 24)).heap.size = w.heap.size + 1 from by simp] at this
  case round =>
    obtain ⟨U, hX, hY, hB, he, hU, hfu⟩ := hrel
    have HX : Hid (wr.heap[w.heap.size]? = some (.cells #[.int .i64 U.v, .string U.nm, .slice U.a U.len U.cap] 24)) := hX
    have HY : Hid (wr.heap[w.heap.size + 1]? = some (.cells #[.int .i64 0, .string ⟨#[]⟩, .slice none 0 0] 24)) := hY
    have HB : Hid (Below w.heap.size w wr) := hB
    have HE : Hid (wha σ T = wha σ U) := he
    have HU : Hid (Okv N U) := hU
    have HSr : Hid (VS wr b m tv N lo n σ L) := HS.out.below hB
    obtain ⟨x0, x1, x2, f0, f1, f2⟩ := block_cells hX
    obtain ⟨y0, y1, y2, g0, g1, g2⟩ := block_cells hY
    obtain ⟨u0, u1, _⟩ := hU.top
    have hN := HS.out.big
    obtain ⟨v0, v1, v2, k0, k1, k2⟩ := block_cells HSr.out.blk
    clear hX hY hB he hU
    by_cases hv : U.v = 0
    · have hvb : (U.v != 0) = false := by rw [hv]; rfl
      have HW : Hid (wha σ T = U) := by rw [Hid, HE.out, wha_fn hv]
      clear hv
      go_wp2_with fail
      obtain ⟨W', hW, z0, z1, z2, hB', _⟩ := fin3n (r := w.heap.size + 1) (by omega) HY.out HB.out (.int .i64 U.v) (.string U.nm) (.slice U.a U.len U.cap)
      rw [hW]
      refine bodyPost_ret (v := U.val) ?_ rfl ⟨by rw [HW.out], hB', by rw [HW.out]; exact HU.out⟩
      simp [results, Try.results93, go_sem, z0, z1, z2, Tm.val]
    · have hvb : (U.v != 0) = true := bne_iff_ne.2 hv
      obtain ⟨o, ho, hW⟩ := HSr.out.map.looks
      have hm : m < wr.heap.size := HSr.out.map.lt
      cases hs : σ U.v with
      | none =>
        have HW : Hid (wha σ T = U) := by rw [Hid, HE.out, wha_none hs]
        have hl : ∀ W : World, W.heap[m]? = some o → (Instr.lookup 140 (.map (some m)) (.int .i64 U.v) true).run Try.prog W = .ok (.tuple #[.agg #[.int .i64 0, .string ⟨#[]⟩, .slice none 0 0], .bool false]) W := fun W h => ((hW W h).look u0 (Int.le_trans u1 hN)).2 hs
        clear hW hs hv
        go_wp2_with fail
        have HKp : Hid (∀ W, Below wr.heap.size wr W → W.cell? ⟨b, 0, none⟩ = some (.map (some m)) ∧ W.cell? ⟨w.heap.size, 0, none⟩ = some (.int .i64 U.v) ∧ W.heap[m]? = some o) := fun W hB => ⟨(hB.cell (p := ⟨b, 0, none⟩) HSr.out.lt).trans v0, (hB.cell (p := ⟨w.heap.size, 0, none⟩) (lt_of_cell x0)).trans x0, (hB.block m hm).trans ho⟩
        go_region_held3 (fun w' => w'.cell? ⟨b, 0, none⟩ = some (.map (some m)) ∧ w'.cell? ⟨w.heap.size, 0, none⟩ = some (.int .i64 U.v) ∧ w'.heap[m]? = some o) ((refine HKp.out _ ?_; repeat (first | exact Below.refl _ _ | refine Below.drew ?_ | refine Below.alloc ?_ (by first | exact Nat.le_refl _ | simp) _ | refine Below.setCell ?_ (by first | exact Nat.le_refl _ | simp) _))) (fail)
        all_goals
          have HBn : Hid (Below wr.heap.size wr (wr.alloc (.cells #[.int .i64 0, .string ⟨#[]⟩, .slice none 0 0] 24)).drew) := ((Below.refl _ _).alloc (Nat.le_refl _) _).drew
          have HY2 : Hid ((wr.alloc (.cells #[.int .i64 0, .string ⟨#[]⟩, .slice none 0 0] 24)).drew.heap[w.heap.size + 1]? = some (.cells #[.int .i64 0, .string ⟨#[]⟩, .slice none 0 0] 24)) := (HBn.out.block _ (lt_of_cell y0)).trans HY.out
          have HX2 : Hid ((wr.alloc (.cells #[.int .i64 0, .string ⟨#[]⟩, .slice none 0 0] 24)).drew.heap[w.heap.size]? = some (.cells #[.int .i64 U.v, .string U.nm, .slice U.a U.len U.cap] 24)) := (HBn.out.block _ (lt_of_cell x0)).trans HX.out
          have HB2 : Hid (Below w.heap.size w (wr.alloc (.cells #[.int .i64 0, .string ⟨#[]⟩, .slice none 0 0] 24)).drew) := HB.out.trans (HBn.out.mono HB.out.size)
          generalize (wr.alloc (.cells #[.int .i64 0, .string ⟨#[]⟩, .slice none 0 0] 24)).drew = w2 at *
          clear x0 x1 x2 f0 f1 f2 y0 y1 y2 g0 g1 g2
          obtain ⟨x0, x1, x2, f0, f1, f2⟩ := block_cells HX2.out
          obtain ⟨y0, y1, y2, g0, g1, g2⟩ := block_cells HY2.out
          go_wp2_with fail
          obtain ⟨W', hW, z0, z1, z2, hB', _⟩ := fin3n (r := w.heap.size + 1) (by omega) HY2.out HB2.out (.int .i64 U.v) (.string U.nm) (.slice U.a U.len U.cap)
          rw [hW]
          refine bodyPost_ret (v := U.val) ?_ rfl ⟨by rw [HW.out], hB', by rw [HW.out]; exact HU.out⟩
          simp [results, Try.results93, go_sem, z0, z1, z2, Tm.val]
      | some V =>
        have HW : Hid (wha σ T = wha σ V) := by rw [Hid, HE.out, wha_some HS.out.dec u0 hv hs]
        have HV : Hid (Okv N V) := (HS.out.trm _ _ hs).2.1
        have hdec : V.v.toNat < U.v.toNat := by
          rcases HS.out.dec _ _ hs with h | ⟨h1, h2⟩ <;> omega
        have hl : ∀ W : World, W.heap[m]? = some o → (Instr.lookup 140 (.map (some m)) (.int .i64 U.v) true).run Try.prog W = .ok (.tuple #[.agg #[.int .i64 V.v, .string V.nm, .slice V.a V.len V.cap], .bool true]) W := fun W h => ((hW W h).look u0 (Int.le_trans u1 hN)).1 V hs
        clear hW hs hv
        go_wp2_with fail
        have HKp : Hid (∀ W, Below wr.heap.size wr W → W.cell? ⟨b, 0, none⟩ = some (.map (some m)) ∧ W.cell? ⟨w.heap.size, 0, none⟩ = some (.int .i64 U.v) ∧ W.heap[m]? = some o) := fun W hB => ⟨(hB.cell (p := ⟨b, 0, none⟩) HSr.out.lt).trans v0, (hB.cell (p := ⟨w.heap.size, 0, none⟩) (lt_of_cell x0)).trans x0, (hB.block m hm).trans ho⟩
        go_region_held3 (fun w' => w'.cell? ⟨b, 0, none⟩ = some (.map (some m)) ∧ w'.cell? ⟨w.heap.size, 0, none⟩ = some (.int .i64 U.v) ∧ w'.heap[m]? = some o) ((refine HKp.out _ ?_; repeat (first | exact Below.refl _ _ | refine Below.drew ?_ | refine Below.alloc ?_ (by first | exact Nat.le_refl _ | simp) _ | refine Below.setCell ?_ (by first | exact Nat.le_refl _ | simp) _))) (fail)
        all_goals
          have HBn : Hid (Below wr.heap.size wr (wr.alloc (.cells #[.int .i64 V.v, .string V.nm, .slice V.a V.len V.cap] 24)).drew) := ((Below.refl _ _).alloc (Nat.le_refl _) _).drew
          have HY2 : Hid ((wr.alloc (.cells #[.int .i64 V.v, .string V.nm, .slice V.a V.len V.cap] 24)).drew.heap[w.heap.size + 1]? = some (.cells #[.int .i64 0, .string ⟨#[]⟩, .slice none 0 0] 24)) := (HBn.out.block _ (lt_of_cell y0)).trans HY.out
          have HX2 : Hid ((wr.alloc (.cells #[.int .i64 V.v, .string V.nm, .slice V.a V.len V.cap] 24)).drew.heap[w.heap.size]? = some (.cells #[.int .i64 U.v, .string U.nm, .slice U.a U.len U.cap] 24)) := (HBn.out.block _ (lt_of_cell x0)).trans HX.out
          have HN2 : Hid ((wr.alloc (.cells #[.int .i64 V.v, .string V.nm, .slice V.a V.len V.cap] 24)).drew.heap[wr.heap.size]? = some (.cells #[.int .i64 V.v, .string V.nm, .slice V.a V.len V.cap] 24)) := heap_alloc_new wr _
          have HB2 : Hid (Below w.heap.size w (wr.alloc (.cells #[.int .i64 V.v, .string V.nm, .slice V.a V.len V.cap] 24)).drew) := HB.out.trans (HBn.out.mono HB.out.size)
          have hlt0 : w.heap.size + 1 < wr.heap.size := lt_of_cell y0
          generalize (wr.alloc (.cells #[.int .i64 V.v, .string V.nm, .slice V.a V.len V.cap] 24)).drew = w2 at *
          clear x0 x1 x2 f0 f1 f2 y0 y1 y2 g0 g1 g2
          obtain ⟨x0, x1, x2, f0, f1, f2⟩ := block_cells HX2.out
          obtain ⟨n0, n1, n2, _, _, _⟩ := block_cells HN2.out
          go_wp2_with fail
          obtain ⟨W', hW, z0, z1, z2, hB', hgr⟩ := fin3n (r := w.heap.size) (Nat.le_refl _) HX2.out HB2.out (.int .i64 V.v) (.string V.nm) (.slice V.a V.len V.cap)
          have hX3 := set3 (a := .int .i64 V.v) (b := .string V.nm) (c := .slice V.a V.len V.cap) HX2.out
          rw [hW] at hX3 ⊢
          go_roundg V.v.toNat
          case measure => omega
          case rel => exact ⟨V, hX3, (hgr.block _ (lt_of_cell (block_cells HY2.out).1) (by simp)).trans HY2.out, hB', HW.out, HV.out, Nat.le_refl _⟩

/-- The struct's block alone has turned. -/
theorem VS.atB {w w' : World} {b m : Nat} {tv : Value} {N : Int} {lo n : Nat} {σ : Sg} {L L' : Int} (h : VS w b m tv N lo n σ L) (hg : w.grownBy w' (some b)) (hb : w'.heap[b]? = some (.cells #[.map (some m), tv, .int .i64 L'] 142)) : VS w' b m tv N lo n σ L' := by
  refine ⟨hb, h.map.kept hg (fun e => h.ne (Option.some.inj e).symm), ?_, h.ne, h.tb, h.lob, fun v T hv => ?_, h.dec, h.big⟩
  · obtain ⟨tr, h1, h2⟩ := h.own
    refine ⟨tr, h1.kept hg ?_, h2⟩
    cases hv : tv.ownBlock with
    | none => exact .inl rfl
    | some g => exact .inr (by simpa using (h.tb g hv).1)
  · obtain ⟨h1, h2, h3, h4⟩ := h.trm v T hv
    exact ⟨h1.grown hg (fun k hk => by obtain rfl := Option.some.inj hk; exact h3), h2, h3, h4⟩
/-- Another block, which nothing of it touches, has turned. -/
theorem VS.atK {w w' : World} {b m : Nat} {tv : Value} {N : Int} {lo n : Nat} {σ : Sg} {L : Int} {k : Nat} (h : VS w b m tv N lo n σ L) (hg : w.grownBy w' (some k)) (h1 : k ≠ b) (h2 : k ≠ m) (h3 : ∀ g, tv.ownBlock = some g → g ≠ k) (h4 : ∀ v T, σ v = some T → NB k T) : VS w' b m tv N lo n σ L := by
  refine ⟨(hg.block b h.lt (by simp; omega)).trans h.blk, h.map.kept hg (fun e => h2 (Option.some.inj e).symm), ?_, h.ne, h.tb, h.lob, fun v T hv => ?_, h.dec, h.big⟩
  · obtain ⟨tr, g1, g2⟩ := h.own
    refine ⟨tr, g1.kept hg ?_, g2⟩
    cases hv : tv.ownBlock with
    | none => exact .inl rfl
    | some g => exact .inr (by simpa using h3 g hv)
  · obtain ⟨g1, g2⟩ := h.trm v T hv
    exact ⟨g1.grown hg (fun j hj => by obtain rfl := Option.some.inj hj; exact h4 v T hv), g2⟩
theorem setL {w : World} {b : Nat} {x y z c : Value} {t : TypeId} (h : w.heap[b]? = some (.cells #[x, y, z] t)) : (w.setCell ⟨b, 2, none⟩ c).heap[b]? = some (.cells #[x, y, c] t) := by
  simp only [World.setCell, Array.getElem?_modify]
  simp [h]

set_option maxRecDepth 100000 in
theorem look_any {b m : Nat} {tv : Value} {N : Int} {lo n : Nat} {σ : Sg} {L : Nat} (w : World) (hS : VS w b m tv N lo n σ L) (hL : L ≤ 4000) :
    Calls Try.prog 94 #[.pointer (some ⟨b, 0, none⟩)] w fun e w' => e = .returned (.bool (decide (1 ≤ (L : Int)))) ∧ VS w' b m tv N lo n σ ((L : Int) - 1) ∧ G b w w' := by
  have HS : Hid (VS w b m tv N lo n σ L) := hS
  obtain ⟨v0, v1, v2, k0, k1, k2⟩ := block_cells hS.blk
  have h2 := setL (c := .int .i64 ((L : Int) - 1)) hS.blk
  have HX : Hid ((w.setCell ⟨b, 2, none⟩ (.int .i64 ((L : Int) - 1))).heap[b]? = some (.cells #[.map (some m), tv, .int .i64 ((L : Int) - 1)] 142)) := h2
  have hc : (w.setCell ⟨b, 2, none⟩ (.int .i64 ((L : Int) - 1))).cell? ⟨b, 2, none⟩ = some (.int .i64 ((L : Int) - 1)) := by simp [World.cell?, h2]
  have HG : Hid (G b w (w.setCell ⟨b, 2, none⟩ (.int .i64 ((L : Int) - 1)))) := G.set b w 2 _
  clear hS h2
  go_enter Try.func94, Try.ntmps94
  go_wp2_with fail
  go_ret
  exact ⟨rfl, HS.out.atB HG.out HX.out, HG.out⟩

/-- What a term is, is itself, or what a variable is. -/
theorem wh_from (σ : Sg) : ∀ (k : Nat) (T : Tm), wh σ k T = T ∨ ∃ v, σ v = some (wh σ k T) := by
  intro k
  induction k with
  | zero => intro T; exact .inl rfl
  | succ k ih =>
    intro T
    rw [wh]
    by_cases hv : T.v = 0
    · rw [if_pos hv]; exact .inl rfl
    · rw [if_neg hv]
      cases hs : σ T.v with
      | none => exact .inl rfl
      | some U =>
        simp only
        rcases ih U with e | h
        · rw [e]; exact .inr ⟨_, hs⟩
        · exact .inr h
theorem VS.what {w : World} {b m : Nat} {tv : Value} {N : Int} {lo n : Nat} {σ : Sg} {L : Int} (h : VS w b m tv N lo n σ L) {T : Tm} (hT : TIn w T) (hb : NB b T) (hm : NB m T) (ht : ∀ g, tv.ownBlock = some g → NB g T) : TIn w (wha σ T) ∧ NB b (wha σ T) ∧ NB m (wha σ T) ∧ ∀ g, tv.ownBlock = some g → NB g (wha σ T) := by
  rcases wh_from σ (T.v.toNat + 1) T with e | ⟨v, e⟩
  · unfold wha; rw [e]; exact ⟨hT, hb, hm, ht⟩
  · obtain ⟨h1, _, h3, h4, h5⟩ := h.trm v _ e
    exact ⟨h1, h3, h4, h5⟩
end Go.Proofs.Ytmggaclaoefdaaa
