/- Short words. -/
import Derived.Below
namespace Go.RowKit
theorem Hid.o {p : Prop} (h : Hid p) : p := h
end Go.RowKit
namespace Go.Proofs.YtmggaclaoefdaabGreat
open Go.RowKit
theorem hid {p : Prop} (h : p) : RowKit.Hid p := h
abbrev iV (n : Int) : Value := .int .i64 n
abbrev dZ (b o : Nat) : Addr := ⟨b, o, none⟩
abbrev pZ (b : Nat) : Value := .pointer (some ⟨b, 0, none⟩)
abbrev sZ (b n c : Nat) : Value := .slice (some ⟨b, 0, none⟩) n c
abbrev nZ : Value := .slice none 0 0
theorem lZ {n : Nat} : n ≤ n := Nat.le_refl n
theorem oj {α : Type _} {a b : α} (h : some a = some b) : a = b := Option.some.inj h
theorem aZ {α : Type _} {xs : Array α} {i : Nat} {b : α} (h : xs[i]? = some b) : i < xs.size := (Array.getElem?_eq_some_iff.1 h).1
theorem bR {B : Nat} {w : World} : Below B w w := Below.refl B w
theorem bA {w : World} {o : Obj} : Below w.heap.size w (w.alloc o) := (Below.refl _ _).alloc (Nat.le_refl _) o
theorem rZ {a b c : Prop} (h : c) : a ∨ b ∨ c := .inr (.inr h)
theorem eZ {α : Type _} (l : List α) (i : Nat) (a : α) : l.toArray.setIfInBounds i a = (l.set i a).toArray := List.setIfInBounds_toArray l i a
theorem fZ {α : Type _} (a b : α) (l : List α) : (a :: l).set 0 b = b :: l := List.set_cons_zero
theorem gZ {α : Type _} (a b : α) (l : List α) (n : Nat) : (a :: l).set (n + 1) b = a :: l.set n b := List.set_cons_succ
theorem oZ {n : Nat} : 0 ≤ n := Nat.zero_le n
theorem lT {a b c : Nat} (h : a ≤ b) (g : b ≤ c) : a ≤ c := Nat.le_trans h g
theorem lL {a b c : Nat} (h : a < b) (g : b ≤ c) : a < c := Nat.lt_of_lt_of_le h g
theorem nL (n : Nat) : ¬n < 0 := Nat.not_lt_zero n
theorem bF {α : Type _} [BEq α] [LawfulBEq α] {a b : α} (h : a ≠ b) : (a == b) = false := beq_eq_false_iff_ne.2 h
theorem hZ (w : World) (o : Obj) : (w.alloc o).heap[w.heap.size]? = some o := heap_alloc_new w o
theorem cB {w w' : World} {a : Addr} (h : w'.heap[a.block]? = w.heap[a.block]?) : w'.cell? a = w.cell? a := World.cell?_of_block h
theorem gE {α : Type _} {l : List α} {i : Nat} (h : i < l.length) : l[i]? = some l[i] := List.getElem?_eq_getElem h
end Go.Proofs.YtmggaclaoefdaabGreat
