/- Terms without their places: making them the same, and what they are, does not hang on the places. A search, over terms alone. -/
import Derived.Test.YtmggaclaoefdaaaGF
import Derived.Test.YtmggaclaoefdaaaGH
namespace Go.Proofs.Ytmggaclaoefdaaa
open Go.RowKit

theorem can_v (T : Tm) : (can T).v = T.v := by rw [can_eq]; rfl
theorem can_nm (T : Tm) : (can T).nm = T.nm := by rw [can_eq]; rfl
theorem can_len (T : Tm) : (can T).len = T.len := by rw [can_eq]; rfl
theorem can_f (T : Tm) {i : Nat} (h : i < T.len) : (can T).f i = can (T.f i) := by
  rw [can_eq]; show (if i < T.len then can (T.f i) else .nil) = _; rw [if_pos h]
/-- What variables are, without places. -/
def cs (σ : Sg) : Sg := fun v => (σ v).map can
theorem wh_cs (σ : Sg) : ∀ (k : Nat) (T : Tm), wh (cs σ) k (can T) = can (wh σ k T) := by
  intro k
  induction k with
  | zero => intro T; rfl
  | succ k ih =>
    intro T
    rw [wh, wh, can_v]
    by_cases hv : T.v = 0
    · rw [if_pos hv, if_pos hv]
    · rw [if_neg hv, if_neg hv]
      unfold cs
      cases hs : σ T.v with
      | none => rfl
      | some U => exact ih U
theorem wha_cs (σ : Sg) (T : Tm) : wha (cs σ) (can T) = can (wha σ T) := by
  unfold wha; rw [can_v]; exact wh_cs σ _ T
theorem kidsL_can (T : Tm) : kidsL (can T) = (kidsL T).map can := by
  unfold kidsL
  rw [can_len, List.map_map]
  apply List.map_congr_left
  intro i hi
  exact can_f T (List.mem_range.1 hi)
theorem within_cs (σ : Sg) (x : Int) : ∀ (L : Nat) (ts : List Tm), within (cs σ) x L (ts.map can) = within σ x L ts := by
  intro L
  induction L with
  | zero => intro ts; cases ts <;> rfl
  | succ L ih =>
    intro ts
    cases ts with
    | nil => rfl
    | cons t ts =>
      rw [List.map_cons, within_succ, within_succ, wha_cs, can_v, kidsL_can, ← List.map_append, ih]
theorem put_cs (σ : Sg) (X T : Tm) : put (cs σ) (can X) (can T) = cs (put σ X T) := by
  unfold put
  rw [can_v, can_v]
  have e : ∀ (i : Int) (U : Tm), upd (cs σ) i (can U) = cs (upd σ i U) := fun i U => by
    funext j
    show (if j = i then some (can U) else (σ j).map can) = (if j = i then some U else σ j).map can
    split <;> rfl
  split
  · exact e _ _
  · exact e _ _
def can2 (p : Tm × Tm) : Tm × Tm := (can p.1, can p.2)
theorem zipK_can {S T : Tm} (h : S.len = T.len) : zipK (can S) (can T) = (zipK S T).map can2 := by
  unfold zipK
  rw [can_len, List.map_map]
  apply List.map_congr_left
  intro i hi
  have hi := List.mem_range.1 hi
  show ((can S).f i, (can T).f i) = (can (S.f i), can (T.f i))
  rw [can_f S hi, can_f T (h ▸ hi)]
def csO : MO → MO
  | .over => .over
  | .no k => .no k
  | .yes k σ => .yes k (cs σ)
theorem meetF_cs : ∀ (F : Nat) (σ : Sg) (L : Nat) (ps : List (Tm × Tm)), meetF F (cs σ) L (ps.map can2) = csO (meetF F σ L ps) := by
  intro F
  induction F with
  | zero => intro σ L ps; rfl
  | succ F ih =>
    intro σ L ps
    cases ps with
    | nil => cases L <;> rfl
    | cons p ps =>
      obtain ⟨x, y⟩ := p
      cases L with
      | zero => rfl
      | succ L =>
        show meetF (F + 1) (cs σ) (L + 1) ((can x, can y) :: ps.map can2) = _
        have w1 : ∀ (a : Int) (t : Tm), within (cs σ) a L [can t] = within σ a L [t] := fun a t => within_cs σ a L [t]
        rw [meetF, meetF, wha_cs, wha_cs, can_v, can_v, can_nm, can_nm, can_len, can_len, w1, w1]
        by_cases h1 : (wha σ x).v ≠ 0
        · rw [if_pos h1, if_pos h1]
          by_cases h2 : (wha σ x).v = (wha σ y).v
          · rw [if_pos h2, if_pos h2]; exact ih σ L ps
          · rw [if_neg h2, if_neg h2]
            cases within σ (wha σ x).v L [wha σ y] with
            | over => rfl
            | found k => rfl
            | free k => show meetF F (put (cs σ) (can (wha σ x)) (can (wha σ y))) k (ps.map can2) = csO (meetF F (put σ (wha σ x) (wha σ y)) k ps); rw [put_cs]; exact ih _ _ _
        · rw [if_neg h1, if_neg h1]
          by_cases h2 : (wha σ y).v ≠ 0
          · rw [if_pos h2, if_pos h2]
            cases within σ (wha σ y).v L [wha σ x] with
            | over => rfl
            | found k => rfl
            | free k => show meetF F (put (cs σ) (can (wha σ y)) (can (wha σ x))) k (ps.map can2) = csO (meetF F (put σ (wha σ y) (wha σ x)) k ps); rw [put_cs]; exact ih _ _ _
          · rw [if_neg h2, if_neg h2]
            by_cases h3 : (wha σ x).nm.toList = (wha σ y).nm.toList ∧ (wha σ x).len = (wha σ y).len
            · rw [if_pos h3, if_pos h3, zipK_can h3.2, ← List.map_append]; exact ih _ _ _
            · rw [if_neg h3, if_neg h3]; rfl
theorem roomF_cs (σ : Sg) : ∀ (n : Nat) (ts : List Tm), roomF (cs σ) n (ts.map can) = roomF σ n ts := by
  intro n
  induction n with
  | zero => intro ts; cases ts <;> rfl
  | succ n ih =>
    intro ts
    cases ts with
    | nil => rfl
    | cons t ts =>
      show roomF (cs σ) n (kidsL (wha (cs σ) (can t)) ++ ts.map can) = roomF σ n (kidsL (wha σ t) ++ ts)
      rw [wha_cs, kidsL_can, ← List.map_append, ih]
theorem ex_cs (σ : Sg) : ∀ (d : Nat) (T : Tm), can (ex (cs σ) d (can T)) = can (ex σ d T) := by
  intro d
  induction d with
  | zero => intro T; rfl
  | succ d ih =>
    intro T
    rw [ex, ex, wha_cs, can_v, can_nm, can_len]
    by_cases h : (wha σ T).v = 0
    · rw [if_pos h, if_pos h]
      refine can_ext rfl rfl rfl (fun i hi => ?_)
      have hi : i < (wha σ T).len := hi
      show can (ex (cs σ) d ((can (wha σ T)).f i)) = can (ex σ d ((wha σ T).f i))
      rw [can_f _ hi]; exact ih _
    · rw [if_neg h, if_neg h]
/-- The variables of a term, as they come. -/
def vsT : Tm → List Int
  | .nil => []
  | .mk v _ _ len _ f => if v = 0 then ((List.range len).map fun i => vsT (f i)).flatten else [v]
theorem vsT_can (T : Tm) : vsT (can T) = vsT T := by
  induction T with
  | nil => rfl
  | mk v nm a len cap f ih =>
    show (if v = 0 then ((List.range len).map fun i => vsT (if i < len then can (f i) else .nil)).flatten else [v]) = (if v = 0 then ((List.range len).map fun i => vsT (f i)).flatten else [v])
    have e : ((List.range len).map fun i => vsT (if i < len then can (f i) else .nil)) = (List.range len).map fun i => vsT (f i) := by
      apply List.map_congr_left
      intro i hi
      rw [if_pos (List.mem_range.1 hi)]; exact ih i
    rw [e]
/-- Numbers as they first come. -/
def addV (s : List Int) (l : List Int) : List Int := l.foldl (fun s v => if v ∈ s then s else s ++ [v]) s
theorem addV_nil (s : List Int) : addV s [] = s := rfl
theorem addV_append (s l m : List Int) : addV s (l ++ m) = addV (addV s l) m := by unfold addV; rw [List.foldl_append]
theorem addV_one (s : List Int) (v : Int) : addV s [v] = if v ∈ s then s else s ++ [v] := rfl
/-- The number of a variable: its place, from 1 on. -/
def num (s : List Int) (v : Int) : Int := (s.idxOf v : Int) + 1
theorem addV_pre (l : List Int) : ∀ s : List Int, s <+: addV s l := by
  induction l with
  | nil => intro s; exact List.prefix_refl s
  | cons v l ih =>
    intro s
    show s <+: addV (if v ∈ s then s else s ++ [v]) l
    refine List.IsPrefix.trans ?_ (ih _)
    split
    · exact List.prefix_refl s
    · exact List.prefix_append s [v]
theorem addV_mem (l : List Int) : ∀ (s : List Int) (v : Int), v ∈ l → v ∈ addV s l := by
  induction l with
  | nil => intro s v h; simp at h
  | cons x l ih =>
    intro s v h
    rcases List.mem_cons.1 h with rfl | h
    · show v ∈ addV (if v ∈ s then s else s ++ [v]) l
      refine (addV_pre l _).subset ?_
      split
      · assumption
      · exact List.mem_append.2 (.inr (by simp))
    · exact ih _ v h
theorem num_pre {s s' : List Int} (h : s <+: s') {v : Int} (hv : v ∈ s) : num s' v = num s v := by
  obtain ⟨t, rfl⟩ := h
  unfold num
  rw [List.idxOf_append, if_pos hv]
end Go.Proofs.Ytmggaclaoefdaaa

namespace Go.Proofs.Ytmggaclaoefdaaa
open Go.RowKit

/-- A goal, and how many choices there were when its clause was called. -/
abbrev Gl := Tm × Nat
structure Chc where
  gl : List Gl
  k : Nat
  σ : Sg
structure PS where
  gl : List Gl
  ch : List Chc
  σ : Sg
  last : Int
  ans : List (List Tm)
  fin : Nat
  st : Nat
/-- Clauses: heads and bodies. -/
abbrev Cls := List (Tm × List Tm)
/-- Is it a term of that name, with so many arguments? -/
def isT (t : Tm) (nm : ByteArray) (n : Nat) : Bool := (t.nm.toList == nm.toList) && decide (t.len = n)
/-- The first clause from one on whose head has the name of a goal and as many arguments. -/
def fitP (P : Cls) (t : Tm) (i : Nat) : Option Nat := (List.range P.length).find? fun j => decide (i ≤ j) && isT (P.getD j (.nil, [])).1 t.nm t.len
/-- Variables of a clause's own. -/
def ownV (last : Int) : Int → Tm := fun v => vT (last + v)
def tryP (P : Cls) (gs : List Gl) (t : Tm) : Nat → Nat → PS → Nat → PS × Bool
  | 0, _, X, _ => (X, false)
  | f + 1, i, X, L => match fitP P t i with
    | none => (X, false)
    | some j => match meetF (L + 1) X.σ L [(ap (ownV X.last) (P.getD j (.nil, [])).1, t)] with
      | .over => ({ X with last := X.last + 12, fin := 3 }, false)
      | .no L' => tryP P gs t f (j + 1) { X with last := X.last + 12 } L'
      | .yes _ σ' => ({ X with last := X.last + 12, σ := σ', gl := ((P.getD j (.nil, [])).2.map fun b => (ap (ownV X.last) b, X.ch.length)) ++ gs.tail, ch := match fitP P t (j + 1) with
          | none => X.ch
          | some k => X.ch ++ [⟨gs, k, X.σ⟩] }, true)
/-- The term of the first goal, as it is. -/
def hdT (σ : Sg) (gs : List Gl) : Tm := wha σ (gs.headD (.nil, 0)).1
def backP (P : Cls) : Nat → PS → PS
  | 0, X => X
  | f + 1, X => if X.fin ≠ 0 then X else match X.ch.getLast? with
    | none => { X with fin := 1 }
    | some c => match tryP P c.gl (hdT c.σ c.gl) (P.length + 1) c.k { X with ch := X.ch.dropLast, σ := c.σ } 4000 with
      | (Y, true) => Y
      | (Y, false) => backP P f Y
def bk (P : Cls) (X : PS) : PS := backP P (X.ch.length + 1) X
def nCut : ByteArray := ⟨#[33]⟩
def nTrue : ByteArray := ⟨#[116, 114, 117, 101]⟩
def nFail : ByteArray := ⟨#[102, 97, 105, 108]⟩
def nEq : ByteArray := ⟨#[101, 113]⟩
/-- The first goal is taken. -/
def stepP (P : Cls) (X : PS) : PS :=
  let t := hdT X.σ X.gl
  let Y : PS := { X with gl := X.gl.tail }
  if t.v ≠ 0 then { Y with fin := 4 }
  else if isT t nCut 0 then { Y with ch := X.ch.take (X.gl.headD (.nil, 0)).2 }
  else if isT t nTrue 0 then Y
  else if isT t nFail 0 then bk P Y
  else if isT t nEq 2 then match meetF 4001 X.σ 4000 [(t.f 0, t.f 1)] with
    | .over => { Y with fin := 3 }
    | .no _ => bk P Y
    | .yes _ σ' => { Y with σ := σ' }
  else match tryP P X.gl t (P.length + 1) 0 Y 4000 with
    | (Z, true) => Z
    | (Z, false) => bk P Z
/-- What the variables of the query are. -/
def foundP (σ : Sg) (n : Nat) : List Tm :=
  let l := (List.range n).map fun i : Nat => ex σ 200 (vT ((i : Int) + 1))
  l.map fun T => can (ap (nmOf (num (addV [] (l.map vsT).flatten))) T)
def varsN (n : Nat) : List Tm := (List.range n).map fun i : Nat => vT ((i : Int) + 1)
/-- No goals are left. -/
def answerP (P : Cls) (n : Nat) (X : PS) : PS := match roomF X.σ 200 (varsN n) with
  | none => { X with fin := 3 }
  | some _ => if X.ans.length + 1 = 40 then { X with ans := X.ans ++ [foundP X.σ n], fin := 1 } else bk P { X with ans := X.ans ++ [foundP X.σ n] }
def runP (P : Cls) (n limit : Nat) : Nat → PS → PS
  | 0, X => X
  | f + 1, X => if X.fin ≠ 0 then X else match X.gl with
    | [] => runP P n limit f (answerP P n X)
    | _ :: _ => if X.st = limit then { X with fin := 2 } else runP P n limit f (stepP P { X with st := X.st + 1 })
end Go.Proofs.Ytmggaclaoefdaaa
