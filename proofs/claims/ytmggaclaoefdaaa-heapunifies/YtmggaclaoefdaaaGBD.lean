/- Terms without their places: making them the same, and what they are, does not hang on the places. A search, over terms alone. Each, with whatever function tells what variables are. -/
import Derived.Test.YtmggaclaoefdaaaUni4
import Derived.Test.YtmggaclaoefdaaaGAT
namespace Go.Proofs.Ytmggaclaoefdaaa
open Go.RowKit

theorem can_v (T : Tm) : (can T).v = T.v := by rw [can_eq]; rfl
theorem can_nm (T : Tm) : (can T).nm = T.nm := by rw [can_eq]; rfl
theorem can_len (T : Tm) : (can T).len = T.len := by rw [can_eq]; rfl
theorem can_f (T : Tm) {i : Nat} (h : i < T.len) : (can T).f i = can (T.f i) := by
  rw [can_eq]; show (if i < T.len then can (T.f i) else .nil) = _; rw [if_pos h]
/-- What variables are, without places. -/
def cs (σ : Sg) : Sg := fun v => (σ v).map can
theorem wh_cs (σ : Sg) : ∀ (k : Nat) (T : Tm), wh (cs σ) k (can T) = can (wh σ k T) := by
  intro k
  induction k with
  | zero => intro T; rfl
  | succ k ih =>
    intro T
    rw [wh, wh, can_v]
    by_cases hv : T.v = 0
    · rw [if_pos hv, if_pos hv]
    · rw [if_neg hv, if_neg hv]
      unfold cs
      cases hs : σ T.v with
      | none => rfl
      | some U => exact ih U
theorem wha_cs (σ : Sg) (T : Tm) : wha (cs σ) (can T) = can (wha σ T) := by
  unfold wha; rw [can_v]; exact wh_cs σ _ T
theorem kidsL_can (T : Tm) : kidsL (can T) = (kidsL T).map can := by
  unfold kidsL
  rw [can_len, List.map_map]
  apply List.map_congr_left
  intro i hi
  exact can_f T (List.mem_range.1 hi)
theorem within_cs (σ : Sg) (x : Int) : ∀ (L : Nat) (ts : List Tm), within (cs σ) x L (ts.map can) = within σ x L ts := by
  intro L
  induction L with
  | zero => intro ts; cases ts <;> rfl
  | succ L ih =>
    intro ts
    cases ts with
    | nil => rfl
    | cons t ts =>
      rw [List.map_cons, within_succ, within_succ, wha_cs, can_v, kidsL_can, ← List.map_append, ih]
theorem put_cs (σ : Sg) (X T : Tm) : put (cs σ) (can X) (can T) = cs (put σ X T) := by
  unfold put
  rw [can_v, can_v]
  have e : ∀ (i : Int) (U : Tm), upd (cs σ) i (can U) = cs (upd σ i U) := fun i U => by
    funext j
    show (if j = i then some (can U) else (σ j).map can) = (if j = i then some U else σ j).map can
    split <;> rfl
  split
  · exact e _ _
  · exact e _ _
def can2 (p : Tm × Tm) : Tm × Tm := (can p.1, can p.2)
theorem zipK_can {S T : Tm} (h : S.len = T.len) : zipK (can S) (can T) = (zipK S T).map can2 := by
  unfold zipK
  rw [can_len, List.map_map]
  apply List.map_congr_left
  intro i hi
  have hi := List.mem_range.1 hi
  show ((can S).f i, (can T).f i) = (can (S.f i), can (T.f i))
  rw [can_f S hi, can_f T (h ▸ hi)]
def csO : MO → MO
  | .over => .over
  | .no k => .no k
  | .yes k σ => .yes k (cs σ)
theorem meetF_cs : ∀ (F : Nat) (σ : Sg) (L : Nat) (ps : List (Tm × Tm)), meetF F (cs σ) L (ps.map can2) = csO (meetF F σ L ps) := by
  intro F
  induction F with
  | zero => intro σ L ps; rfl
  | succ F ih =>
    intro σ L ps
    cases ps with
    | nil => cases L <;> rfl
    | cons p ps =>
      obtain ⟨x, y⟩ := p
      cases L with
      | zero => rfl
      | succ L =>
        show meetF (F + 1) (cs σ) (L + 1) ((can x, can y) :: ps.map can2) = _
        have w1 : ∀ (a : Int) (t : Tm), within (cs σ) a L [can t] = within σ a L [t] := fun a t => within_cs σ a L [t]
        rw [meetF, meetF, wha_cs, wha_cs, can_v, can_v, can_nm, can_nm, can_len, can_len, w1, w1]
        by_cases h1 : (wha σ x).v ≠ 0
        · rw [if_pos h1, if_pos h1]
          by_cases h2 : (wha σ x).v = (wha σ y).v
          · rw [if_pos h2, if_pos h2]; exact ih σ L ps
          · rw [if_neg h2, if_neg h2]
            cases within σ (wha σ x).v L [wha σ y] with
            | over => rfl
            | found k => rfl
            | free k => show meetF F (put (cs σ) (can (wha σ x)) (can (wha σ y))) k (ps.map can2) = csO (meetF F (put σ (wha σ x) (wha σ y)) k ps); rw [put_cs]; exact ih _ _ _
        · rw [if_neg h1, if_neg h1]
          by_cases h2 : (wha σ y).v ≠ 0
          · rw [if_pos h2, if_pos h2]
            cases within σ (wha σ y).v L [wha σ x] with
            | over => rfl
            | found k => rfl
            | free k => show meetF F (put (cs σ) (can (wha σ y)) (can (wha σ x))) k (ps.map can2) = csO (meetF F (put σ (wha σ y) (wha σ x)) k ps); rw [put_cs]; exact ih _ _ _
          · rw [if_neg h2, if_neg h2]
            by_cases h3 : (wha σ x).nm.toList = (wha σ y).nm.toList ∧ (wha σ x).len = (wha σ y).len
            · rw [if_pos h3, if_pos h3, zipK_can h3.2, ← List.map_append]; exact ih _ _ _
            · rw [if_neg h3, if_neg h3]; rfl
theorem roomF_cs (σ : Sg) : ∀ (n : Nat) (ts : List Tm), roomF (cs σ) n (ts.map can) = roomF σ n ts := by
  intro n
  induction n with
  | zero => intro ts; cases ts <;> rfl
  | succ n ih =>
    intro ts
    cases ts with
    | nil => rfl
    | cons t ts =>
      show roomF (cs σ) n (kidsL (wha (cs σ) (can t)) ++ ts.map can) = roomF σ n (kidsL (wha σ t) ++ ts)
      rw [wha_cs, kidsL_can, ← List.map_append, ih]
theorem ex_cs (σ : Sg) : ∀ (d : Nat) (T : Tm), can (ex (cs σ) d (can T)) = can (ex σ d T) := by
  intro d
  induction d with
  | zero => intro T; rfl
  | succ d ih =>
    intro T
    rw [ex, ex, wha_cs, can_v, can_nm, can_len]
    by_cases h : (wha σ T).v = 0
    · rw [if_pos h, if_pos h]
      refine can_ext rfl rfl rfl (fun i hi => ?_)
      have hi : i < (wha σ T).len := hi
      show can (ex (cs σ) d ((can (wha σ T)).f i)) = can (ex σ d ((wha σ T).f i))
      rw [can_f _ hi]; exact ih _
    · rw [if_neg h, if_neg h]
/-- The variables of a term, as they come. -/
def vsT : Tm → List Int
  | .nil => []
  | .mk v _ _ len _ f => if v = 0 then ((List.range len).map fun i => vsT (f i)).flatten else [v]
theorem vsT_can (T : Tm) : vsT (can T) = vsT T := by
  induction T with
  | nil => rfl
  | mk v nm a len cap f ih =>
    show (if v = 0 then ((List.range len).map fun i => vsT (if i < len then can (f i) else .nil)).flatten else [v]) = (if v = 0 then ((List.range len).map fun i => vsT (f i)).flatten else [v])
    have e : ((List.range len).map fun i => vsT (if i < len then can (f i) else .nil)) = (List.range len).map fun i => vsT (f i) := by
      apply List.map_congr_left
      intro i hi
      rw [if_pos (List.mem_range.1 hi)]; exact ih i
    rw [e]
/-- Numbers as they first come. -/
def addV (s : List Int) (l : List Int) : List Int := l.foldl (fun s v => if v ∈ s then s else s ++ [v]) s
theorem addV_nil (s : List Int) : addV s [] = s := rfl
theorem addV_append (s l m : List Int) : addV s (l ++ m) = addV (addV s l) m := by unfold addV; rw [List.foldl_append]
theorem addV_one (s : List Int) (v : Int) : addV s [v] = if v ∈ s then s else s ++ [v] := rfl
/-- The number of a variable: its place, from 1 on. -/
def num (s : List Int) (v : Int) : Int := (s.idxOf v : Int) + 1
theorem addV_pre (l : List Int) : ∀ s : List Int, s <+: addV s l := by
  induction l with
  | nil => intro s; exact List.prefix_refl s
  | cons v l ih =>
    intro s
    show s <+: addV (if v ∈ s then s else s ++ [v]) l
    refine List.IsPrefix.trans ?_ (ih _)
    split
    · exact List.prefix_refl s
    · exact List.prefix_append s [v]
theorem addV_mem (l : List Int) : ∀ (s : List Int) (v : Int), v ∈ l → v ∈ addV s l := by
  induction l with
  | nil => intro s v h; simp at h
  | cons x l ih =>
    intro s v h
    rcases List.mem_cons.1 h with rfl | h
    · show v ∈ addV (if v ∈ s then s else s ++ [v]) l
      refine (addV_pre l _).subset ?_
      split
      · assumption
      · exact List.mem_append.2 (.inr (by simp))
    · exact ih _ v h
theorem num_pre {s s' : List Int} (h : s <+: s') {v : Int} (hv : v ∈ s) : num s' v = num s v := by
  obtain ⟨t, rfl⟩ := h
  unfold num
  rw [List.idxOf_append, if_pos hv]
end Go.Proofs.Ytmggaclaoefdaaa

namespace Go.Proofs.Ytmggaclaoefdaaa
open Go.RowKit

/-- A goal, and how many choices there were when its clause was called. -/
abbrev Gl := Tm × Nat
structure Chc where
  gl : List Gl
  k : Nat
  σ : Sg
structure PS where
  gl : List Gl
  ch : List Chc
  σ : Sg
  last : Int
  ans : List (List Tm)
  fin : Nat
  st : Nat
/-- Clauses: heads and bodies. -/
abbrev Cls := List (Tm × List Tm)
/-- Is it a term of that name, with so many arguments? -/
def isT (t : Tm) (nm : ByteArray) (n : Nat) : Bool := (t.nm.toList == nm.toList) && decide (t.len = n)
/-- The first clause from one on whose head has the name of a goal and as many arguments. -/
def fitP (P : Cls) (t : Tm) (i : Nat) : Option Nat := (List.range P.length).find? fun j => decide (i ≤ j) && isT (P.getD j (.nil, [])).1 t.nm t.len
/-- Variables of a clause's own. -/
def ownV (last : Int) : Int → Tm := fun v => vT (last + v)
def tryP (P : Cls) (gs : List Gl) (t : Tm) : Nat → Nat → PS → Nat → PS × Bool
  | 0, _, X, _ => (X, false)
  | f + 1, i, X, L => match fitP P t i with
    | none => (X, false)
    | some j => match meetF (L + 1) X.σ L [(ap (ownV X.last) (P.getD j (.nil, [])).1, t)] with
      | .over => ({ X with last := X.last + 12, fin := 3 }, false)
      | .no L' => tryP P gs t f (j + 1) { X with last := X.last + 12 } L'
      | .yes _ σ' => ({ X with last := X.last + 12, σ := σ', gl := ((P.getD j (.nil, [])).2.map fun b => (ap (ownV X.last) b, X.ch.length)) ++ gs.tail, ch := match fitP P t (j + 1) with
          | none => X.ch
          | some k => X.ch ++ [⟨gs, k, X.σ⟩] }, true)
/-- The term of the first goal, as it is. -/
def hdT (σ : Sg) (gs : List Gl) : Tm := wha σ (gs.headD (.nil, 0)).1
def backP (P : Cls) : Nat → PS → PS
  | 0, X => X
  | f + 1, X => if X.fin ≠ 0 then X else match X.ch.getLast? with
    | none => { X with fin := 1 }
    | some c => match tryP P c.gl (hdT c.σ c.gl) (P.length + 1) c.k { X with ch := X.ch.dropLast, σ := c.σ } 4000 with
      | (Y, true) => Y
      | (Y, false) => backP P f Y
def bk (P : Cls) (X : PS) : PS := backP P (X.ch.length + 1) X
def nCut : ByteArray := ⟨#[33]⟩
def nTrue : ByteArray := ⟨#[116, 114, 117, 101]⟩
def nFail : ByteArray := ⟨#[102, 97, 105, 108]⟩
def nEq : ByteArray := ⟨#[101, 113]⟩
/-- The first goal is taken. -/
def stepP (P : Cls) (X : PS) : PS :=
  let t := hdT X.σ X.gl
  let Y : PS := { X with gl := X.gl.tail }
  if t.v ≠ 0 then { Y with fin := 4 }
  else if isT t nCut 0 then { Y with ch := X.ch.take (X.gl.headD (.nil, 0)).2 }
  else if isT t nTrue 0 then Y
  else if isT t nFail 0 then bk P Y
  else if isT t nEq 2 then match meetF 4001 X.σ 4000 [(t.f 0, t.f 1)] with
    | .over => { Y with fin := 3 }
    | .no _ => bk P Y
    | .yes _ σ' => { Y with σ := σ' }
  else match tryP P X.gl t (P.length + 1) 0 Y 4000 with
    | (Z, true) => Z
    | (Z, false) => bk P Z
/-- What the variables of the query are. -/
def foundP (σ : Sg) (n : Nat) : List Tm :=
  let l := (List.range n).map fun i : Nat => ex σ 200 (vT ((i : Int) + 1))
  l.map fun T => can (ap (nmOf (num (addV [] (l.map vsT).flatten))) T)
def varsN (n : Nat) : List Tm := (List.range n).map fun i : Nat => vT ((i : Int) + 1)
/-- No goals are left. -/
def answerP (P : Cls) (n : Nat) (X : PS) : PS := match roomF X.σ 200 (varsN n) with
  | none => { X with fin := 3 }
  | some _ => if X.ans.length + 1 = 40 then { X with ans := X.ans ++ [foundP X.σ n], fin := 1 } else bk P { X with ans := X.ans ++ [foundP X.σ n] }
def runP (P : Cls) (n limit : Nat) : Nat → PS → PS
  | 0, X => X
  | f + 1, X => if X.fin ≠ 0 then X else match X.gl with
    | [] => runP P n limit f (answerP P n X)
    | _ :: _ => if X.st = limit then { X with fin := 2 } else runP P n limit f (stepP P { X with st := X.st + 1 })
end Go.Proofs.Ytmggaclaoefdaaa

namespace Go.Proofs.Ytmggaclaoefdaaa
open Go.RowKit

/-- All blocks below B stand, but those of M. -/
structure Bw (M : Nat → Prop) (B : Nat) (w w' : World) : Prop where
  os : w'.os = w.os
  tape : w'.tape = w.tape
  output : w'.output = w.output
  size : w.heap.size ≤ w'.heap.size
  block : ∀ k, k < B → ¬ M k → w'.heap[k]? = w.heap[k]?
theorem Bw.ofBelow {M : Nat → Prop} {B : Nat} {w w' : World} (h : Below B w w') : Bw M B w w' := ⟨h.os, h.tape, h.output, h.size, fun k hk _ => h.block k hk⟩
theorem Bw.refl (M : Nat → Prop) (B : Nat) (w : World) : Bw M B w w := Bw.ofBelow (Below.refl _ _)
theorem Bw.trans {M : Nat → Prop} {B : Nat} {a b c : World} (h : Bw M B a b) (k : Bw M B b c) : Bw M B a c :=
  ⟨k.os.trans h.os, k.tape.trans h.tape, k.output.trans h.output, Nat.le_trans h.size k.size, fun i hi hm => (k.block i hi hm).trans (h.block i hi hm)⟩
theorem Bw.mono {M : Nat → Prop} {B B' : Nat} {w w' : World} (h : Bw M B w w') (hB : B' ≤ B) : Bw M B' w w' := ⟨h.os, h.tape, h.output, h.size, fun k hk hm => h.block k (Nat.lt_of_lt_of_le hk hB) hm⟩
theorem Bw.drew {M : Nat → Prop} {B : Nat} {a w : World} (h : Bw M B a w) : Bw M B a w.drew := ⟨h.os, h.tape, h.output, h.size, h.block⟩
theorem Bw.wide {M M' : Nat → Prop} {B : Nat} {w w' : World} (h : Bw M B w w') (hM : ∀ k, k < B → M k → M' k) : Bw M' B w w' := ⟨h.os, h.tape, h.output, h.size, fun k hk hm => h.block k hk (fun e => hm (hM k hk e))⟩
theorem Bw.cell {M : Nat → Prop} {B : Nat} {w w' : World} (h : Bw M B w w') {p : Addr} (hp : p.block < B) (hm : ¬ M p.block) : w'.cell? p = w.cell? p := World.cell?_of_block (w := w) (h.block p.block hp hm)
theorem Bw.frozen {M : Nat → Prop} {B : Nat} {w w' : World} (h : Bw M B w w') {p : Addr} (hp : p.block < B) (hm : ¬ M p.block) : w'.frozen? p = w.frozen? p := World.frozen?_of_block (w := w) (h.block p.block hp hm)
theorem Bw.grown {M : Nat → Prop} {B : Nat} {a w w' : World} {row : Option Nat} (h : Bw M B a w) (hg : w.grownBy w' row) (hB : B ≤ w.heap.size) (hr : ∀ k, row = some k → B ≤ k ∨ M k) : Bw M B a w' :=
  ⟨hg.os.trans h.os, hg.tape.trans h.tape, hg.output.trans h.output, Nat.le_trans h.size hg.size, fun k hk hm => (hg.block k (by omega) (fun e => by rcases hr k e.symm with h | h; (· omega); (· exact hm h))).trans (h.block k hk hm)⟩
/-- None of its arguments lies in a block of M. -/
def NM (M : Nat → Prop) : Tm → Prop
  | .nil => True
  | .mk _ _ a len _ f => (0 < len → ∃ b o, a = some ⟨b, o, none⟩ ∧ ¬ M b) ∧ ∀ i, i < len → NM M (f i)
theorem NM.kid {M : Nat → Prop} {T : Tm} (h : NM M T) {i : Nat} (hi : i < T.len) : NM M (T.f i) := by
  cases T with
  | nil => exact absurd hi (Nat.not_lt_zero i)
  | mk => exact h.2 i hi
theorem NM.root {M : Nat → Prop} {T : Tm} (h : NM M T) (h0 : 0 < T.len) : ∃ b o, T.a = some ⟨b, o, none⟩ ∧ ¬ M b := by
  cases T with
  | nil => exact absurd h0 (Nat.lt_irrefl 0)
  | mk => exact h.1 h0
theorem NM.nb {M : Nat → Prop} {T : Tm} (h : NM M T) {k : Nat} (hk : M k) : NB k T := by
  induction T with
  | nil => trivial
  | mk v nm a len cap f ih => exact ⟨fun h0 => let ⟨b, o, e, hb⟩ := h.1 h0; ⟨b, o, e, fun e => hb (e ▸ hk)⟩, fun i hi => ih i (h.2 i hi)⟩
theorem NM.anti {M M' : Nat → Prop} {w : World} {T : Tm} (h : NM M T) (hT : TIn w T) (hM : ∀ k, k < w.heap.size → M' k → M k) : NM M' T := by
  induction T with
  | nil => trivial
  | mk v nm a len cap f ih =>
    refine ⟨fun h0 => ?_, fun i hi => ih i (h.2 i hi) (hT.2.2 i hi).2⟩
    obtain ⟨b, o, e, hb⟩ := h.1 h0
    refine ⟨b, o, e, fun e' => hb (hM b ?_ e')⟩
    obtain ⟨b', o', e1, c0, _⟩ := (hT.2.2 0 h0).1
    rw [e] at e1
    cases e1
    exact lt_of_cell c0
theorem NM.old {M : Nat → Prop} {w : World} {T : Tm} (hT : TIn w T) (hM : ∀ k, M k → w.heap.size ≤ k) : NM M T := by
  induction T with
  | nil => trivial
  | mk v nm a len cap f ih =>
    refine ⟨fun h0 => ?_, fun i hi => ih i (hT.2.2 i hi).2⟩
    obtain ⟨b', o', e1, c0, _⟩ := (hT.2.2 0 h0).1
    exact ⟨b', o', e1, fun h => by have h1 : b' < w.heap.size := lt_of_cell c0; have := hM b' h; omega⟩
theorem Above.nm {M : Nat → Prop} {lo : Nat} {T : Tm} (h : Above lo T) (hM : ∀ k, M k → k < lo) : NM M T := by
  induction T with
  | nil => trivial
  | mk v nm a len cap f ih => exact ⟨fun h0 => let ⟨b, o, e, hb⟩ := h.1 h0; ⟨b, o, e, fun e' => by have := hM b e'; omega⟩, fun i hi => ih i (h.2 i hi)⟩
theorem TIn.bw {M : Nat → Prop} {B : Nat} {w w' : World} {T : Tm} (h : TIn w T) (hb : Bw M B w w') (hB : w.heap.size ≤ B) (hm : NM M T) : TIn w' T := by
  induction T with
  | nil => exact h
  | mk v nm a len cap f ih =>
    refine ⟨h.1, h.2.1, fun i hi => ⟨?_, ih i (h.2.2 i hi).2 (hm.2 i hi)⟩⟩
    obtain ⟨b, o, e, c0, c1, c2⟩ := (h.2.2 i hi).1
    obtain ⟨b', o', e', hb'⟩ := hm.1 (by omega)
    rw [e] at e'
    cases e'
    have hl : b < w.heap.size := lt_of_cell c0
    have hx : w'.heap[b]? = w.heap[b]? := hb.block b (by omega) hb'
    exact ⟨b, o, e, (World.cell?_of_block hx).trans c0, (World.cell?_of_block hx).trans c1, (World.cell?_of_block hx).trans c2⟩
theorem fin3b {M : Nat → Prop} {w W : World} {r : Nat} {x y z : Value} (hr : w.heap.size ≤ r) (hX : W.heap[r]? = some (.cells #[x, y, z] 24)) (hB : Bw M w.heap.size w W) (a c d : Value) :
    ∃ W', ((W.setCell ⟨r, 0, none⟩ a).setCell ⟨r, 1, none⟩ c).setCell ⟨r, 2, none⟩ d = W' ∧ W'.cell? ⟨r, 0, none⟩ = some a ∧ W'.cell? ⟨r, 1, none⟩ = some c ∧ W'.cell? ⟨r, 2, none⟩ = some d ∧ Bw M w.heap.size w W' ∧ W.grownBy W' (some r) := by
  have h3 : W.grownBy (((W.setCell ⟨r, 0, none⟩ a).setCell ⟨r, 1, none⟩ c).setCell ⟨r, 2, none⟩ d) (some r) := G.trans (G.trans (grown_set r 0 a) (grown_set r 1 c)) (grown_set r 2 d)
  have hc := set3 (a := a) (b := c) (c := d) hX
  exact ⟨_, rfl, by simp [World.cell?, hc], by simp [World.cell?, hc], by simp [World.cell?, hc], hB.grown h3 hB.size (fun k hk => by have := Option.some.inj hk; exact .inl (by omega)), h3⟩

theorem Sim.refl (T : Tm) : Sim T T := by
  induction T with
  | nil => exact ⟨rfl, rfl, rfl⟩
  | mk v nm a len cap f ih => exact ⟨rfl, rfl, rfl, fun i _ => ih i⟩
/-- A function that tells what variables are: what it keeps, how that goes on, what it says. -/
structure Tell where
  S : Type
  I : S → World → Prop
  nx : S → Int → S
  le : S → S → Prop
  O : S → Int → Tm
  M : Nat → Prop
  B : Nat
structure TellOk (t : Tell) : Prop where
  refl : ∀ s, t.le s s
  trans : ∀ s s' s'', t.le s s' → t.le s' s'' → t.le s s''
  nx : ∀ s v, t.le s (t.nx s v)
  keep : ∀ s w w', t.I s w → Below t.B w w' → t.I s w'
  lt : ∀ k, t.M k → k < t.B
def tl (t : Tell) (s : t.S) (l : List Int) : t.S := l.foldl t.nx s
theorem tl_le {t : Tell} (h : TellOk t) (l : List Int) : ∀ s, t.le s (tl t s l) := by
  induction l with
  | nil => intro s; exact h.refl s
  | cons v l ih => intro s; exact h.trans _ _ _ (h.nx s v) (ih _)
theorem tl_append (t : Tell) (s : t.S) (l m : List Int) : tl t s (l ++ m) = tl t (tl t s l) m := by unfold tl; rw [List.foldl_append]
def XP (t : Tell) (w : World) (s' : t.S) (Q : t.S → Tm) (e : Ending) (w' : World) : Prop := ∃ X : Tm, e = .returned X.val ∧ Bw t.M w.heap.size w w' ∧ t.I s' w' ∧ TIn w' X ∧ Above w.heap.size X ∧ ∀ s'', t.le s' s'' → can X = Q s''
def TC (t : Tell) (g : Nat) (caps : Array Value) (v : Int) : Prop := ∀ (s : t.S) (w : World), t.B ≤ w.heap.size → t.I s w → Calls Try.prog g (#[.int .i64 v] ++ caps) w (XP t w (t.nx s v) (fun s' => t.O s' v))
def EG (t : Tell) (g : Nat) (caps : Array Value) (T : Tm) : Prop := ∀ (s : t.S) (w : World), t.B ≤ w.heap.size → t.I s w → TIn w T → NM t.M T → Calls Try.prog 120 #[T.val, .func (.func g) #[] caps] w (XP t w (tl t s (vsT T)) (fun s' => ap (t.O s') T))
theorem XP.rebase {t : Tell} {w W : World} {s' : t.S} {Q : t.S → Tm} {e : Ending} {w' : World} (hW : Below w.heap.size w W) (h : XP t W s' Q e w') : XP t w s' Q e w' := by
  obtain ⟨X, h1, h2, h3, h4, h5, h6⟩ := h
  exact ⟨X, h1, (Bw.ofBelow hW).trans (h2.mono hW.size), h3, h4, h5.mono hW.size, h6⟩

/-- A function that is entered where it is called. -/
def Ent (g : Nat) : Prop := ∀ (args : Array Value) (w : World), (callFunc g args).run Try.prog w = .ok (.enter g args) w
theorem ent_of {g : Nat} {fn : Func} {c : Code} (hf : Try.prog.funcs[g]? = some fn) (hname : (fn.name == "runtime.NumGoroutine") = false) (hb : fn.body = some c) : Ent g := fun args w => by
  have h1 : fn.name ≠ "runtime.NumGoroutine" := by simpa using hname
  simp [callFunc, hf, h1, hb]

set_option maxRecDepth 100000 in
set_option maxHeartbeats 2000000 in
theorem each_tell {t : Tell} (ht : TellOk t) {g : Nat} (hE : Ent g) {caps : Array Value} {T : Tm} (hv : T.v ≠ 0) (hC : TC t g caps T.v) : EG t g caps T := by
  intro s w hB hI hT hM
  have HO : Hid (TellOk t) := ht
  have HC : Hid (∀ W, Below w.heap.size w W → Calls Try.prog g (#[.int .i64 T.v] ++ caps) W (XP t W (t.nx s T.v) (fun s' => t.O s' T.v))) := fun W hW => hC s W (Nat.le_trans hB hW.size) (ht.keep _ _ _ hI (hW.mono hB))
  have HV : Hid (tl t s (vsT T) = t.nx s T.v) := by
    cases T with
    | nil => exact absurd rfl hv
    | mk v nm a len cap f =>
      have hv : ¬ v = 0 := hv
      rw [Hid, vsT, if_neg hv]; rfl
  have HAp : Hid (∀ s', ap (t.O s') T = t.O s' T.v) := fun s' => ap_var _ hv
  have hvb : (T.v != 0) = true := bne_iff_ne.2 hv
  clear hv hC hI hT hM
  show Calls Try.prog 120 #[.agg #[.int .i64 T.v, .string T.nm, .slice T.a T.len T.cap], .func (.func g) #[] caps] w _
  go_enter Try.func120, Try.ntmps120
  go_wp2_with fail
  rw [hE]
  show Calls Try.prog g _ _ _
  refine (HC.out _ (((Below.refl _ _).alloc (Nat.le_refl _) _).alloc (by simp) _)).mono ?_
  rintro e w1 ⟨X, rfl, hb1, hI1, hX1, hA1, hS1⟩
  have HBA : Hid (Below w.heap.size w ((w.alloc (.cells #[.int .i64 T.v, .string T.nm, .slice T.a T.len T.cap] 24)).alloc (.cells #[.int .i64 0, .string ⟨#[]⟩, .slice none 0 0] 24))) := ((Below.refl _ _).alloc (Nat.le_refl _) _).alloc (by simp) _
  have hsz : w.heap.size + 1 < ((w.alloc (.cells #[.int .i64 T.v, .string T.nm, .slice T.a T.len T.cap] 24)).alloc (.cells #[.int .i64 0, .string ⟨#[]⟩, .slice none 0 0] 24)).heap.size := by simp
  have HX3 : Hid (w1.heap[w.heap.size + 1]? = some (.cells #[.int .i64 0, .string ⟨#[]⟩, .slice none 0 0] 24)) := by
    refine (hb1.block _ hsz (fun e => by have := HO.out.lt _ e; omega)).trans ?_
    have := heap_alloc_new (w.alloc (.cells #[.int .i64 T.v, .string T.nm, .slice T.a T.len T.cap] 24)) (.cells #[.int .i64 0, .string ⟨#[]⟩, .slice none 0 0] 24)
    rwa [show (w.alloc (.cells #[.int .i64 T.v, .string T.nm, .slice T.a T.len T.cap] 24)).heap.size = w.heap.size + 1 from by simp] at this
  have HB1 : Hid (Bw t.M w.heap.size w w1) := (Bw.ofBelow HBA.out).trans (hb1.mono HBA.out.size)
  have HXX : Hid (TIn w1 X ∧ NB (w.heap.size + 1) X ∧ Above w.heap.size X ∧ t.I (t.nx s T.v) w1 ∧ ∀ s'', t.le (t.nx s T.v) s'' → can X = t.O s'' T.v) := ⟨hX1, hA1.nb hsz, hA1.mono HBA.out.size, hI1, hS1⟩
  clear hb1 hX1 hA1 hS1 hI1
  obtain ⟨x0, x1, x2, f0, f1, f2⟩ := block_cells HX3.out
  rw [show X.val = .agg #[.int .i64 X.v, .string X.nm, .slice X.a X.len X.cap] from rfl]
  go_wp2_with fail
  obtain ⟨W', hW', z0, z1, z2, hB', hgr⟩ := fin3b (r := w.heap.size + 1) (by omega) HX3.out HB1.out (.int .i64 X.v) (.string X.nm) (.slice X.a X.len X.cap)
  rw [hW']
  have hT' : TIn W' X := HXX.out.1.grown hgr (fun k hk => by obtain rfl := Option.some.inj hk; exact HXX.out.2.1)
  have hBB : Below t.B w1 W' := (Below.refl _ _).grown hgr (by have := HB1.out.size; omega) (fun k hk => by have := Option.some.inj hk; omega)
  refine bodyPost_ret (v := X.val) ?_ rfl ⟨X, rfl, hB', by rw [HV.out]; exact HO.out.keep _ _ _ HXX.out.2.2.2.1 hBB, hT', HXX.out.2.2.1, fun s'' h => by show can X = ap (t.O s'') T; rw [HAp.out]; exact HXX.out.2.2.2.2 s'' (by rw [← HV.out]; exact h)⟩
  simp [results, Try.results120, go_sem, z0, z1, z2, Tm.val]
end Go.Proofs.Ytmggaclaoefdaaa
