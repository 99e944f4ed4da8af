/- The reader's small steps. -/
import Derived.Test.YtmggaclaoefdaaaDoorPrint
import Derived.Deep.QuietTactic
import Derived.BigQuiet
namespace Go.Proofs.YtmggaclaoefdaaaDoor
open Go.RowKit

/-- The reader in block b: its text, and where it is. -/
def RS (b : Nat) (s : ByteArray) (p : Nat) (w : World) : Prop := w.heap[b]? = some (.cells #[.string s, .int .i64 p] 84)
theorem RS.c0 {b : Nat} {s : ByteArray} {p : Nat} {w : World} (h : RS b s p w) : w.cell? ⟨b, 0, none⟩ = some (.string s) := by unfold RS at h; simp [World.cell?, h]
theorem RS.c1 {b : Nat} {s : ByteArray} {p : Nat} {w : World} (h : RS b s p w) : w.cell? ⟨b, 1, none⟩ = some (.int .i64 p) := by unfold RS at h; simp [World.cell?, h]
theorem RS.lt {b : Nat} {s : ByteArray} {p : Nat} {w : World} (h : RS b s p w) : b < w.heap.size := (Array.getElem?_eq_some_iff.1 h).1
theorem RS.fz {b : Nat} {s : ByteArray} {p : Nat} {w : World} (h : RS b s p w) (i : Nat) : w.frozen? ⟨b, i, none⟩ = false := by unfold RS at h; simp [World.frozen?, h]
theorem RS.set {b : Nat} {s : ByteArray} {p : Nat} {w : World} (h : RS b s p w) (q : Nat) : RS b s q (w.setCell ⟨b, 1, none⟩ (.int .i64 q)) := by
  unfold RS at h ⊢
  have hlt := (Array.getElem?_eq_some_iff.1 h).1
  simp only [World.setCell, Array.getElem?_modify]
  simp [h]

theorem RS.drew {b : Nat} {s : ByteArray} {p : Nat} {w : World} (h : RS b s p w) (n : Nat) : RS b s p (w.drewN n) := by
  unfold RS at h ⊢
  rw [← h]
  exact congrArg (fun h : Array Obj => h[b]?) (by induction n with | zero => rfl | succ n ih => exact ih)

/-- All blocks but b stand. -/
abbrev G (b : Nat) (w w' : World) : Prop := w.grownBy w' (some b)
theorem G.refl (b : Nat) (w : World) : G b w w := ⟨rfl, rfl, rfl, Nat.le_refl _, fun _ _ _ => rfl⟩
theorem G.trans {b : Nat} {u v w : World} (h : G b u v) (k : G b v w) : G b u w :=
  ⟨k.os.trans h.os, k.tape.trans h.tape, k.output.trans h.output, Nat.le_trans h.size k.size, fun i hi hb => (k.block i (Nat.lt_of_lt_of_le hi h.size) hb).trans (h.block i hi hb)⟩
theorem G.alloc (b : Nat) (w : World) (o : Obj) : G b w (w.alloc o) := World.grownBy_alloc w o _
theorem G.set (b : Nat) (w : World) (i : Nat) (v : Value) : G b w (w.setCell ⟨b, i, none⟩ v) :=
  ⟨rfl, rfl, rfl, by simp [World.setCell], fun k _ hb => Below.heap_setCell _ _ _ _ (fun e => hb (by rw [e]))⟩
theorem G.below {b : Nat} {w w' : World} (h : Below w.heap.size w w') : G b w w' := ⟨h.os, h.tape, h.output, h.size, fun k hk _ => h.block k hk⟩
theorem drewN_heap (w : World) (n : Nat) : (w.drewN n).heap = w.heap := by induction n with | zero => rfl | succ n ih => exact ih
theorem G.drewN (b : Nat) (w : World) (n : Nat) : G b w (w.drewN n) := by
  induction n with
  | zero => exact G.refl _ _
  | succ n ih => exact ⟨ih.os, ih.tape, ih.output, ih.size, ih.block⟩
theorem RS.keep {b : Nat} {s : ByteArray} {p : Nat} {w w' : World} (h : RS b s p w) (hb : Below w.heap.size w w') : RS b s p w' := (hb.block b h.lt).trans h

/-- What is thrown: a place. -/
def pent (p : Nat) : PanicEntry := { v := .iface 92 (.int .i64 p), recovered := false }

set_option maxHeartbeats 400000 in
theorem dig_any (n : Int) (w : World) :
    Calls Tryd.prog 76 #[.int .u8 n] w fun e w' => e = .returned (.bool (btw n 48 57)) ∧ w' = w := by
  by_cases h1 : 48 ≤ n <;> by_cases h2 : n ≤ 57
  all_goals
    have H : Hid (btw n 48 57 = (decide (48 ≤ n) && decide (n ≤ 57))) := rfl
    go_enter Tryd.func76, Tryd.ntmps76
    go_wp2
    go_ret
    exact ⟨by rw [H.out]; simp [*], rfl⟩
set_option maxHeartbeats 400000 in
theorem let_any (n : Int) (w : World) :
    Calls Tryd.prog 79 #[.int .u8 n] w fun e w' => e = .returned (.bool (btw n 97 122)) ∧ w' = w := by
  by_cases h1 : 97 ≤ n <;> by_cases h2 : n ≤ 122
  all_goals
    have H : Hid (btw n 97 122 = (decide (97 ≤ n) && decide (n ≤ 122))) := rfl
    go_enter Tryd.func79, Tryd.ntmps79
    go_wp2
    go_ret
    exact ⟨by rw [H.out]; simp [*], rfl⟩
def dig0 (n : Int) : Bool := btw n 48 57 && (n != 48)
set_option maxHeartbeats 400000 in
theorem dig0_any (n : Int) (d : Nat) (w : World) (hc : w.cell? ⟨d, 0, none⟩ = some (.func (.func 76) #[] #[])) :
    Calls Tryd.prog 77 #[.int .u8 n, .pointer (some ⟨d, 0, none⟩)] w fun e w' => e = .returned (.bool (dig0 n)) ∧ w' = w := by
  cases h1 : btw n 48 57
  all_goals
    have H : Hid (dig0 n = (btw n 48 57 && (n != 48))) := rfl
    go_enter Tryd.func77, Tryd.ntmps77
    go_wp2_with (go_at_call 76; refine (dig_any _ _).mono ?_; rintro e w' ⟨rfl, rfl⟩)
    go_ret
    exact ⟨by rw [H.out, h1]; rfl, rfl⟩
set_option maxHeartbeats 400000 in
theorem inner_any (n : Int) (d : Nat) (w : World) (hc : w.cell? ⟨d, 0, none⟩ = some (.func (.func 79) #[] #[])) :
    Calls Tryd.prog 81 #[.int .u8 n, .pointer (some ⟨d, 0, none⟩)] w fun e w' => e = .returned (.bool (innerI n)) ∧ w' = w := by
  have H : Hid (innerI n = (btw n 97 122 || btw n 48 57 || (n == 95))) := rfl
  have HB : Hid (btw n 48 57 = (decide (48 ≤ n) && decide (n ≤ 57))) := rfl
  cases h1 : btw n 97 122
  case true =>
    go_enter Tryd.func81, Tryd.ntmps81
    go_wp2_with (go_at_call 79; refine (let_any _ _).mono ?_; rintro e w' ⟨rfl, rfl⟩)
    go_ret
    exact ⟨by rw [H.out, h1]; rfl, rfl⟩
  by_cases h2 : 48 ≤ n
  · by_cases h3 : n ≤ 57
    · go_enter Tryd.func81, Tryd.ntmps81
      go_wp2_with (go_at_call 79; refine (let_any _ _).mono ?_; rintro e w' ⟨rfl, rfl⟩)
      go_ret
      exact ⟨by rw [H.out, HB.out, h1]; simp [h2, h3], rfl⟩
    · have HB3 : Hid (btw n 48 57 = false) := by rw [Hid, HB.out, decide_eq_true h2, decide_eq_false h3]; rfl
      have h3d : decide (n ≤ 57) = false := decide_eq_false h3
      clear h3
      go_enter Tryd.func81, Tryd.ntmps81
      go_wp2_with (go_at_call 79; refine (let_any _ _).mono ?_; rintro e w' ⟨rfl, rfl⟩)
      go_ret
      exact ⟨by rw [H.out, HB3.out, h1]; rfl, rfl⟩
  · have HB3 : Hid (btw n 48 57 = false) := by rw [Hid, HB.out, decide_eq_false h2]; rfl
    go_enter Tryd.func81, Tryd.ntmps81
    go_wp2_with (go_at_call 79; refine (let_any _ _).mono ?_; rintro e w' ⟨rfl, rfl⟩)
    go_ret
    exact ⟨by rw [H.out, HB3.out, h1]; rfl, rfl⟩
set_option maxHeartbeats 400000 in
theorem is_any (n : Int) (d e : Nat) (x : ByteArray) (i : Nat) (hi : i < x.size) (w : World) (hc : w.cell? ⟨d, 0, none⟩ = some (.string x)) (he : w.cell? ⟨e, 0, none⟩ = some (.int .i64 i)) :
    Calls Tryd.prog 69 #[.int .u8 n, .pointer (some ⟨d, 0, none⟩), .pointer (some ⟨e, 0, none⟩)] w fun e w' => e = .returned (.bool (n == (x[i].toNat : Int))) ∧ w' = w := by
  have hi' : (i : Int) < (x.size : Int) := by omega
  go_enter Tryd.func69, Tryd.ntmps69
  go_wp2_with fail
  go_ret
  exact ⟨rfl, rfl⟩
end Go.Proofs.YtmggaclaoefdaaaDoor
