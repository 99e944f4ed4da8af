/- What variables are, in a map: the state, and What. -/
import Derived.Test.YtmggaclaoefdaaaMem
namespace Go.Proofs.Ytmggaclaoefdaaa
open Go.RowKit

/-- What variables are. -/
abbrev Sg := Int → Option Tm
def heldR (v : Value) : Option (DataW Value × List MemPlace) := some (.held v, [])
theorem keyed3 : Maps.Keyed Try.prog 3 := Maps.int_keyed Try.underlying3
theorem key3 {i : Int} (h0 : 0 ≤ i) (h1 : i ≤ 1000000) : keyOf Try.prog 3 (.int .i64 i) = some (.int .i64 i) :=
  Maps.keyOf_int_mk Try.underlying3 (by
    have a : IntKind.i64.min ≤ i := Int.le_trans (by decide) h0
    have b : i ≤ IntKind.i64.max := Int.le_trans h1 (by decide)
    rw [Lit.wf, Bool.and_eq_true, decide_eq_true_eq, decide_eq_true_eq]
    exact ⟨a, b⟩)
theorem zero24 (w : World) : (zeroValue 24).run Try.prog w = .ok (.agg #[.int .i64 0, .string ⟨#[]⟩, .slice none 0 0]) w := by kernel_rfl
/-- Block m is a map that says what variables are. -/
def MapIs (w : World) (m n : Nat) (σ : Sg) : Prop := ∃ D : DataW Value, w.ownsMap Try.prog 3 heldR m n D ∧ Maps.IsMap D ∧
  ∀ i : Int, 0 ≤ i → i ≤ 1000000 → Maps.has D (.int .i64 i) = (σ i).isSome ∧ ∀ T, σ i = some T → ∀ z, D.atKey (.int .i64 i) z = .held T.val
theorem MapIs.kept {w w' : World} {m n : Nat} {σ : Sg} {row : Option Nat} (h : MapIs w m n σ) (hg : w.grownBy w' row) (hne : some m ≠ row) : MapIs w' m n σ := by
  obtain ⟨D, h1, h2⟩ := h
  exact ⟨D, h1.kept hg hne, h2⟩
theorem MapIs.lt {w : World} {m n : Nat} {σ : Sg} (h : MapIs w m n σ) : m < w.heap.size := by
  obtain ⟨D, h1, _⟩ := h
  exact h1.lt
theorem MapIs.look {w : World} {m n : Nat} {σ : Sg} (h : MapIs w m n σ) {i : Int} (h0 : 0 ≤ i) (h1 : i ≤ 1000000) :
    (∀ T, σ i = some T → (Instr.lookup 140 (.map (some m)) (.int .i64 i) true).run Try.prog w = .ok (.tuple #[.agg #[.int .i64 T.v, .string T.nm, .slice T.a T.len T.cap], .bool true]) w) ∧
    (σ i = none → (Instr.lookup 140 (.map (some m)) (.int .i64 i) true).run Try.prog w = .ok (.tuple #[.agg #[.int .i64 0, .string ⟨#[]⟩, .slice none 0 0], .bool false]) w) := by
  obtain ⟨D, hD, hm, hs⟩ := h
  obtain ⟨hs1, hs2⟩ := hs i h0 h1
  obtain ⟨v, ps, hrun, hv⟩ := hD.look_ok (t := 140) (e := 24) keyed3 Try.underlying140 (zero24 w) (zd := .held (.agg #[.int .i64 0, .string ⟨#[]⟩, .slice none 0 0])) (zp := []) rfl (key3 h0 h1)
  have hv' : DataW.held v = D.atKey (.int .i64 i) (.held (.agg #[.int .i64 0, .string ⟨#[]⟩, .slice none 0 0])) := congrArg Prod.fst (Option.some.inj hv)
  constructor
  · intro T hT
    rw [hs2 T hT] at hv'
    rw [hs1, hT] at hrun
    obtain rfl := DataW.held.inj hv'
    exact hrun
  · intro hn
    rw [hn] at hs1
    rw [Maps.atKey_of_not_has hs1] at hv'
    obtain rfl := DataW.held.inj hv'
    rw [hs1] at hrun
    exact hrun
/-- .. in whatever world in which the map's block stands. -/
theorem MapIs.looks {w : World} {m n : Nat} {σ : Sg} (h : MapIs w m n σ) : ∃ o : Obj, w.heap[m]? = some o ∧ ∀ W : World, W.heap[m]? = some o → MapIs W m n σ := by
  obtain ⟨D, ⟨es, clock, h1, h2⟩, h3⟩ := h
  exact ⟨_, h1, fun W hW => ⟨D, ⟨es, clock, hW, h2⟩, h3⟩⟩
def upd (σ : Sg) (i : Int) (T : Tm) : Sg := fun j => if j = i then some T else σ j
theorem MapIs.store {w : World} {m n : Nat} {σ : Sg} (h : MapIs w m n σ) {i : Int} (h0 : 0 ≤ i) (h1 : i ≤ 1000000) (hn : n < 100000000000) (T : Tm) :
    ∃ w', (Instr.mapUpdate 140 (.map (some m)) (.int .i64 i) (.agg #[.int .i64 T.v, .string T.nm, .slice T.a T.len T.cap])).run Try.prog w = .ok () w' ∧ MapIs w' m (n + 1) (upd σ i T) ∧ w.grownBy w' (some m) := by
  obtain ⟨D, hD, hm, hs⟩ := h
  obtain ⟨w', hrun, ho, hg⟩ := hD.update (t := 140) (e := 24) keyed3 Try.underlying140 (by unfold maxLen; omega) (key3 h0 h1) (val := .agg #[.int .i64 T.v, .string T.nm, .slice T.a T.len T.cap]) (d := .held T.val) (ps := []) rfl
  refine ⟨w', hrun, ⟨_, ho, hm.put _ _, fun j j0 j1 => ?_⟩, hg⟩
  by_cases e : j = i
  · subst e
    refine ⟨by rw [Maps.has_put_same hm (keyed3.key (key3 h0 h1))]; simp [upd], fun T' hT' z => ?_⟩
    rw [Maps.atKey_put_same hm (keyed3.key (key3 h0 h1))]
    simp [upd] at hT'
    rw [hT']
  · have hne : (Lit.int .i64 j) ≠ .int .i64 i := fun h => e (by injection h)
    obtain ⟨g1, g2⟩ := hs j j0 j1
    refine ⟨by rw [Maps.has_put_other hne, g1, upd, if_neg e], fun T' hT' z => ?_⟩
    rw [Maps.atKey_put_other hne]
    rw [upd, if_neg e] at hT'
    exact g2 T' hT' z

/-- All variables of a term are from 1 to N, and nothing else. -/
def Okv (N : Int) : Tm → Prop
  | .nil => False
  | .mk v nm _ len _ f => 0 ≤ v ∧ v ≤ N ∧ (v ≠ 0 → nm = ⟨#[]⟩ ∧ len = 0) ∧ len ≤ 4 ∧ ∀ i, i < len → Okv N (f i)
theorem Okv.top {N : Int} {T : Tm} (h : Okv N T) : 0 ≤ T.v ∧ T.v ≤ N ∧ (T.v ≠ 0 → T.nm = ⟨#[]⟩ ∧ T.len = 0) := by
  cases T with
  | nil => exact False.elim h
  | mk => exact ⟨h.1, h.2.1, h.2.2.1⟩
theorem Okv.kid {N : Int} {T : Tm} (h : Okv N T) {i : Nat} (hi : i < T.len) : Okv N (T.f i) := by
  cases T with
  | nil => exact False.elim h
  | mk => exact h.2.2.2.2 i hi
theorem Okv.four {N : Int} {T : Tm} (h : Okv N T) : T.len ≤ 4 := by
  cases T with
  | nil => exact False.elim h
  | mk => exact h.2.2.2.1

/-- What a term is. -/
def wh (σ : Sg) : Nat → Tm → Tm
  | 0, T => T
  | k + 1, T => if T.v = 0 then T else match σ T.v with
    | none => T
    | some U => wh σ k U
def wha (σ : Sg) (T : Tm) : Tm := wh σ (T.v.toNat + 1) T
def Dec (σ : Sg) : Prop := ∀ v U, σ v = some U → U.v = 0 ∨ (0 < U.v ∧ U.v < v)
theorem wh_enough {σ : Sg} (hd : Dec σ) : ∀ (k : Nat) (T : Tm), 0 ≤ T.v → T.v.toNat < k → wh σ k T = wha σ T := by
  intro k
  induction k with
  | zero => intro T _ h; omega
  | succ k ih =>
    intro T h0 hk
    unfold wha
    rw [wh, wh]
    by_cases hv : T.v = 0
    · rw [if_pos hv, if_pos hv]
    · rw [if_neg hv, if_neg hv]
      cases hs : σ T.v with
      | none => rfl
      | some U =>
        simp only
        rcases hd _ _ hs with h1 | ⟨h1, h2⟩
        · rw [ih U (by omega) (by omega)]
          by_cases hT : T.v.toNat = 0
          · omega
          · obtain ⟨j, hj⟩ : ∃ j, T.v.toNat = j + 1 := ⟨T.v.toNat - 1, by omega⟩
            rw [hj]
            unfold wha
            rw [wh, wh, if_pos h1, if_pos h1]
        · rw [ih U (by omega) (by omega), ih' hd U T.v.toNat (by omega) (by omega)]
where
  ih' {σ : Sg} (hd : Dec σ) (U : Tm) (k : Nat) (h0 : 0 ≤ U.v) (hk : U.v.toNat < k) : wh σ k U = wha σ U := by
    have : ∀ (j k : Nat) (U : Tm), 0 ≤ U.v → U.v.toNat < j → U.v.toNat < k → wh σ j U = wh σ k U := by
      intro j
      induction j with
      | zero => intro k U _ h; omega
      | succ j ih =>
        intro k U h0 hj hk
        obtain ⟨k, rfl⟩ : ∃ k', k = k' + 1 := ⟨k - 1, by omega⟩
        rw [wh, wh]
        by_cases hv : U.v = 0
        · rw [if_pos hv, if_pos hv]
        · rw [if_neg hv, if_neg hv]
          cases hs : σ U.v with
          | none => rfl
          | some V =>
            simp only
            rcases hd _ _ hs with h1 | ⟨h1, h2⟩
            · exact ih k V (by omega) (by omega) (by omega)
            · exact ih k V (by omega) (by omega) (by omega)
    exact this k (U.v.toNat + 1) U h0 hk (by omega)
theorem wha_fn {σ : Sg} {T : Tm} (h : T.v = 0) : wha σ T = T := by unfold wha; rw [wh, if_pos h]
theorem wha_none {σ : Sg} {T : Tm} (h : σ T.v = none) : wha σ T = T := by
  unfold wha
  rw [wh]
  by_cases hv : T.v = 0
  · rw [if_pos hv]
  · rw [if_neg hv, h]
theorem wha_some {σ : Sg} (hd : Dec σ) {T U : Tm} (h0 : 0 ≤ T.v) (hv : T.v ≠ 0) (h : σ T.v = some U) : wha σ T = wha σ U := by
  have e : wha σ T = wh σ T.v.toNat U := by unfold wha; rw [wh, if_neg hv, h]
  rw [e]
  rcases hd _ _ h with h1 | ⟨h1, h2⟩
  · exact wh_enough hd _ _ (by omega) (by omega)
  · exact wh_enough hd _ _ (by omega) (by omega)

theorem wh_root {σ : Sg} (hd : Dec σ) : ∀ (k : Nat) (T : Tm), 0 ≤ T.v → T.v.toNat < k → (wh σ k T).v ≠ 0 → σ (wh σ k T).v = none := by
  intro k
  induction k with
  | zero => intro T _ h; omega
  | succ k ih =>
    intro T h0 hk hv
    rw [wh] at hv ⊢
    by_cases hT : T.v = 0
    · rw [if_pos hT] at hv; exact absurd hT hv
    · rw [if_neg hT] at hv ⊢
      cases hs : σ T.v with
      | none => simp only; exact hs
      | some U =>
        rw [hs] at hv
        simp only at hv ⊢
        rcases hd _ _ hs with h | ⟨h1, h2⟩
        · exact ih U (by omega) (by omega) hv
        · exact ih U (by omega) (by omega) hv

/-- Where the variables' state lies: the struct in b, the map in m, the trail in its own memory. -/
structure VS (w : World) (b m : Nat) (tv : Value) (N : Int) (lo n : Nat) (σ : Sg) (L : Int) : Prop where
  blk : w.heap[b]? = some (.cells #[.map (some m), tv, .int .i64 L] 142)
  map : MapIs w m n σ
  own : ∃ tr : List Int, w.ownsRow lo 3 1 tv tr.length (tr.map (Value.int .i64)) ∧ tr.length ≤ n
  ne : b ≠ m
  tb : ∀ g, tv.ownBlock = some g → g ≠ b ∧ g ≠ m
  lob : lo ≤ b ∧ lo ≤ m
  trm : ∀ v T, σ v = some T → TIn w T ∧ Okv N T ∧ NB b T ∧ NB m T ∧ ∀ g, tv.ownBlock = some g → NB g T
  dec : Dec σ
  big : N ≤ 1000000
theorem VS.lt {w : World} {b m : Nat} {tv : Value} {N : Int} {lo n : Nat} {σ : Sg} {L : Int} (h : VS w b m tv N lo n σ L) : b < w.heap.size := (Array.getElem?_eq_some_iff.1 h.blk).1
theorem VS.below {w w' : World} {b m : Nat} {tv : Value} {N : Int} {lo n : Nat} {σ : Sg} {L : Int} (h : VS w b m tv N lo n σ L) (hb : Below w.heap.size w w') : VS w' b m tv N lo n σ L := by
  refine ⟨(hb.block b h.lt).trans h.blk, h.map.kept (grown_of_below hb none) (by simp), ?_, h.ne, h.tb, h.lob, fun v T hv => ⟨(h.trm v T hv).1.below hb, (h.trm v T hv).2⟩, h.dec, h.big⟩
  obtain ⟨tr, h1, h2⟩ := h.own
  refine ⟨tr, h1.kept (grown_of_below hb none) ?_, h2⟩
  cases tv.ownBlock with
  | none => exact .inl rfl
  | some g => exact .inr (by simp)
end Go.Proofs.Ytmggaclaoefdaaa
