/- A search, over terms alone. -/
import Derived.Test.YtmggaclaoefdaaaSv1
import Derived.Test.YtmggaclaoefdaaaRf3
namespace Go.Proofs.Ytmggaclaoefdaaa
open Go.RowKit

/-- A goal, and how many choices there were when its clause was called. -/
abbrev Gl := Tm × Nat
structure Chc where
  gl : List Gl
  k : Nat
  σ : Sg
structure PS where
  gl : List Gl
  ch : List Chc
  σ : Sg
  last : Int
  ans : List (List Tm)
  fin : Nat
  st : Nat
/-- Clauses: heads and bodies. -/
abbrev Cls := List (Tm × List Tm)
/-- Is it a term of that name, with so many arguments? -/
def isT (t : Tm) (nm : ByteArray) (n : Nat) : Bool := (t.nm.toList == nm.toList) && decide (t.len = n)
/-- The first clause from one on whose head has the name of a goal and as many arguments. -/
def fitP (P : Cls) (t : Tm) (i : Nat) : Option Nat := (List.range P.length).find? fun j => decide (i ≤ j) && isT (P.getD j (.nil, [])).1 t.nm t.len
/-- Variables of a clause's own. -/
def ownV (last : Int) : Int → Tm := fun v => vT (last + v)
def tryP (P : Cls) (gs : List Gl) (t : Tm) : Nat → Nat → PS → Nat → PS × Bool
  | 0, _, X, _ => (X, false)
  | f + 1, i, X, L => match fitP P t i with
    | none => (X, false)
    | some j => match meetF (L + 1) X.σ L [(ap (ownV X.last) (P.getD j (.nil, [])).1, t)] with
      | .over => ({ X with last := X.last + 12, fin := 3 }, false)
      | .no L' => tryP P gs t f (j + 1) { X with last := X.last + 12 } L'
      | .yes _ σ' => ({ X with last := X.last + 12, σ := σ', gl := ((P.getD j (.nil, [])).2.map fun b => (ap (ownV X.last) b, X.ch.length)) ++ gs.tail, ch := match fitP P t (j + 1) with
          | none => X.ch
          | some k => X.ch ++ [⟨gs, k, X.σ⟩] }, true)
/-- The term of the first goal, as it is. -/
def hdT (σ : Sg) (gs : List Gl) : Tm := wha σ (gs.headD (.nil, 0)).1
def backP (P : Cls) : Nat → PS → PS
  | 0, X => X
  | f + 1, X => if X.fin ≠ 0 then X else match X.ch.getLast? with
    | none => { X with fin := 1 }
    | some c => match tryP P c.gl (hdT c.σ c.gl) (P.length + 1) c.k { X with ch := X.ch.dropLast, σ := c.σ } 4000 with
      | (Y, true) => Y
      | (Y, false) => backP P f Y
def bk (P : Cls) (X : PS) : PS := backP P (X.ch.length + 1) X
def nCut : ByteArray := ⟨#[33]⟩
def nTrue : ByteArray := ⟨#[116, 114, 117, 101]⟩
def nFail : ByteArray := ⟨#[102, 97, 105, 108]⟩
def nEq : ByteArray := ⟨#[101, 113]⟩
/-- The first goal is taken. -/
def stepP (P : Cls) (X : PS) : PS :=
  let t := hdT X.σ X.gl
  let Y : PS := { X with gl := X.gl.tail }
  if t.v ≠ 0 then { Y with fin := 4 }
  else if isT t nCut 0 then { Y with ch := X.ch.take (X.gl.headD (.nil, 0)).2 }
  else if isT t nTrue 0 then Y
  else if isT t nFail 0 then bk P Y
  else if isT t nEq 2 then match meetF 4001 X.σ 4000 [(t.f 0, t.f 1)] with
    | .over => { Y with fin := 3 }
    | .no _ => bk P Y
    | .yes _ σ' => { Y with σ := σ' }
  else match tryP P X.gl t (P.length + 1) 0 Y 4000 with
    | (Z, true) => Z
    | (Z, false) => bk P Z
/-- What the variables of the query are. -/
def foundP (σ : Sg) (n : Nat) : List Tm :=
  let l := (List.range n).map fun i : Nat => ex σ 200 (vT ((i : Int) + 1))
  l.map fun T => can (ap (nmOf (num (addV [] (l.map vsT).flatten))) T)
def varsN (n : Nat) : List Tm := (List.range n).map fun i : Nat => vT ((i : Int) + 1)
/-- No goals are left. -/
def answerP (P : Cls) (n : Nat) (X : PS) : PS := match roomF X.σ 200 (varsN n) with
  | none => { X with fin := 3 }
  | some _ => if X.ans.length + 1 = 40 then { X with ans := X.ans ++ [foundP X.σ n], fin := 1 } else bk P { X with ans := X.ans ++ [foundP X.σ n] }
def runP (P : Cls) (n limit : Nat) : Nat → PS → PS
  | 0, X => X
  | f + 1, X => if X.fin ≠ 0 then X else match X.gl with
    | [] => runP P n limit f (answerP P n X)
    | _ :: _ => if X.st = limit then { X with fin := 2 } else runP P n limit f (stepP P { X with st := X.st + 1 })
end Go.Proofs.Ytmggaclaoefdaaa
