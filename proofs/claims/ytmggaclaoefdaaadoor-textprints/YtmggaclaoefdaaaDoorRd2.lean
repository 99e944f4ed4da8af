/- The reader's small steps: sees, giveUp, one. -/
import Derived.Test.YtmggaclaoefdaaaDoorRd1
namespace Go.Proofs.YtmggaclaoefdaaaDoor
open Go.RowKit

set_option maxRecDepth 100000 in
set_option maxHeartbeats 1000000 in
theorem giveUp_any (b : Nat) (s : ByteArray) (p : Nat) (w : World) (hr : RS b s p w) :
    Calls Tryd.prog 52 #[.pointer (some ⟨b, 0, none⟩)] w fun e w' => e = .panicked [pent p] ∧ w' = w := by
  have c0 := hr.c0
  have c1 := hr.c1
  clear hr
  go_enter Tryd.func52, Tryd.ntmps52
  go_wp2_with fail
  exact ⟨rfl, rfl, rfl⟩

set_option maxRecDepth 100000 in
set_option maxHeartbeats 1000000 in
theorem sees76_in (b : Nat) (s : ByteArray) (p : Nat) (w : World) (hr : RS b s p w) (hlt : p < s.size) :
    Calls Tryd.prog 78 #[.pointer (some ⟨b, 0, none⟩), .func (.func 76) #[] #[]] w fun e w' => e = .returned (.bool (btw (s[p].toNat : Int) 48 57)) ∧ ∃ n, w' = w.drewN n := by
  have c0 := hr.c0
  have c1 := hr.c1
  have hlt' : (p : Int) < (s.size : Int) := by omega
  have hd : decide ((p : Int) < (s.size : Int)) = true := by simpa using hlt
  clear hr
  go_enter Tryd.func78, Tryd.ntmps78
  go_wp2_with fail
  go_quiet ((go_at_call 76; exact Calls.quiet_of_same (dig_any _ _)))
  go_wp2_with fail
  go_ret
  exact ⟨rfl, _, rfl⟩
set_option maxRecDepth 100000 in
set_option maxHeartbeats 1000000 in
theorem sees76_out (b : Nat) (s : ByteArray) (p : Nat) (w : World) (hr : RS b s p w) (hlt : ¬ p < s.size) :
    Calls Tryd.prog 78 #[.pointer (some ⟨b, 0, none⟩), .func (.func 76) #[] #[]] w fun e w' => e = .returned (.bool false) ∧ ∃ n, w' = w.drewN n := by
  have c0 := hr.c0
  have c1 := hr.c1
  have hd : decide ((p : Int) < (s.size : Int)) = false := by simpa using hlt
  clear hr
  go_enter Tryd.func78, Tryd.ntmps78
  go_wp2_with fail
  go_quiet (fail)
  go_wp2_with fail
  go_ret
  exact ⟨rfl, _, rfl⟩

set_option maxRecDepth 100000 in
set_option maxHeartbeats 1000000 in
theorem sees79_in (b : Nat) (s : ByteArray) (p : Nat) (w : World) (hr : RS b s p w) (hlt : p < s.size) :
    Calls Tryd.prog 78 #[.pointer (some ⟨b, 0, none⟩), .func (.func 79) #[] #[]] w fun e w' => e = .returned (.bool (btw (s[p].toNat : Int) 97 122)) ∧ ∃ n, w' = w.drewN n := by
  have c0 := hr.c0
  have c1 := hr.c1
  have hlt' : (p : Int) < (s.size : Int) := by omega
  have hd : decide ((p : Int) < (s.size : Int)) = true := by simpa using hlt
  clear hr
  go_enter Tryd.func78, Tryd.ntmps78
  go_wp2_with fail
  go_quiet ((go_at_call 79; exact Calls.quiet_of_same (let_any _ _)))
  go_wp2_with fail
  go_ret
  exact ⟨rfl, _, rfl⟩
set_option maxRecDepth 100000 in
set_option maxHeartbeats 1000000 in
theorem sees79_out (b : Nat) (s : ByteArray) (p : Nat) (w : World) (hr : RS b s p w) (hlt : ¬ p < s.size) :
    Calls Tryd.prog 78 #[.pointer (some ⟨b, 0, none⟩), .func (.func 79) #[] #[]] w fun e w' => e = .returned (.bool false) ∧ ∃ n, w' = w.drewN n := by
  have c0 := hr.c0
  have c1 := hr.c1
  have hd : decide ((p : Int) < (s.size : Int)) = false := by simpa using hlt
  clear hr
  go_enter Tryd.func78, Tryd.ntmps78
  go_wp2_with fail
  go_quiet (fail)
  go_wp2_with fail
  go_ret
  exact ⟨rfl, _, rfl⟩

set_option maxRecDepth 100000 in
set_option maxHeartbeats 1000000 in
theorem sees77_in (b : Nat) (s : ByteArray) (p : Nat) (d : Nat) (w : World) (hc : w.cell? ⟨d, 0, none⟩ = some (.func (.func 76) #[] #[])) (hr : RS b s p w) (hlt : p < s.size) :
    Calls Tryd.prog 78 #[.pointer (some ⟨b, 0, none⟩), .func (.func 77) #[] #[.pointer (some ⟨d, 0, none⟩)]] w fun e w' => e = .returned (.bool (dig0 (s[p].toNat : Int))) ∧ ∃ n, w' = w.drewN n := by
  have c0 := hr.c0
  have c1 := hr.c1
  have hlt' : (p : Int) < (s.size : Int) := by omega
  have hd : decide ((p : Int) < (s.size : Int)) = true := by simpa using hlt
  clear hr
  go_enter Tryd.func78, Tryd.ntmps78
  go_wp2_with fail
  go_quiet ((go_at_call 77; exact Calls.quiet_of_same (dig0_any _ _ _ (by simp [hc]))))
  go_wp2_with fail
  go_ret
  exact ⟨rfl, _, rfl⟩
set_option maxRecDepth 100000 in
set_option maxHeartbeats 1000000 in
theorem sees77_out (b : Nat) (s : ByteArray) (p : Nat) (d : Nat) (w : World) (hr : RS b s p w) (hlt : ¬ p < s.size) :
    Calls Tryd.prog 78 #[.pointer (some ⟨b, 0, none⟩), .func (.func 77) #[] #[.pointer (some ⟨d, 0, none⟩)]] w fun e w' => e = .returned (.bool false) ∧ ∃ n, w' = w.drewN n := by
  have c0 := hr.c0
  have c1 := hr.c1
  have hd : decide ((p : Int) < (s.size : Int)) = false := by simpa using hlt
  clear hr
  go_enter Tryd.func78, Tryd.ntmps78
  go_wp2_with fail
  go_quiet (fail)
  go_wp2_with fail
  go_ret
  exact ⟨rfl, _, rfl⟩

set_option maxRecDepth 100000 in
set_option maxHeartbeats 1000000 in
theorem sees81_in (b : Nat) (s : ByteArray) (p : Nat) (d : Nat) (w : World) (hc : w.cell? ⟨d, 0, none⟩ = some (.func (.func 79) #[] #[])) (hr : RS b s p w) (hlt : p < s.size) :
    Calls Tryd.prog 78 #[.pointer (some ⟨b, 0, none⟩), .func (.func 81) #[] #[.pointer (some ⟨d, 0, none⟩)]] w fun e w' => e = .returned (.bool (innerI (s[p].toNat : Int))) ∧ ∃ n, w' = w.drewN n := by
  have c0 := hr.c0
  have c1 := hr.c1
  have hlt' : (p : Int) < (s.size : Int) := by omega
  have hd : decide ((p : Int) < (s.size : Int)) = true := by simpa using hlt
  clear hr
  go_enter Tryd.func78, Tryd.ntmps78
  go_wp2_with fail
  go_quiet ((go_at_call 81; exact Calls.quiet_of_same (inner_any _ _ _ (by simp [hc]))))
  go_wp2_with fail
  go_ret
  exact ⟨rfl, _, rfl⟩
set_option maxRecDepth 100000 in
set_option maxHeartbeats 1000000 in
theorem sees81_out (b : Nat) (s : ByteArray) (p : Nat) (d : Nat) (w : World) (hr : RS b s p w) (hlt : ¬ p < s.size) :
    Calls Tryd.prog 78 #[.pointer (some ⟨b, 0, none⟩), .func (.func 81) #[] #[.pointer (some ⟨d, 0, none⟩)]] w fun e w' => e = .returned (.bool false) ∧ ∃ n, w' = w.drewN n := by
  have c0 := hr.c0
  have c1 := hr.c1
  have hd : decide ((p : Int) < (s.size : Int)) = false := by simpa using hlt
  clear hr
  go_enter Tryd.func78, Tryd.ntmps78
  go_wp2_with fail
  go_quiet (fail)
  go_wp2_with fail
  go_ret
  exact ⟨rfl, _, rfl⟩

set_option maxRecDepth 100000 in
set_option maxHeartbeats 1000000 in
theorem sees69_in (b : Nat) (s : ByteArray) (p : Nat) (d e : Nat) (x : ByteArray) (i : Nat) (hi : i < x.size) (w : World) (hc : w.cell? ⟨d, 0, none⟩ = some (.string x)) (he : w.cell? ⟨e, 0, none⟩ = some (.int .i64 i)) (hr : RS b s p w) (hlt : p < s.size) :
    Calls Tryd.prog 78 #[.pointer (some ⟨b, 0, none⟩), .func (.func 69) #[] #[.pointer (some ⟨d, 0, none⟩), .pointer (some ⟨e, 0, none⟩)]] w fun e w' => e = .returned (.bool (((s[p].toNat : Int) == (x[i].toNat : Int)))) ∧ ∃ n, w' = w.drewN n := by
  have c0 := hr.c0
  have c1 := hr.c1
  have hlt' : (p : Int) < (s.size : Int) := by omega
  have hd : decide ((p : Int) < (s.size : Int)) = true := by simpa using hlt
  clear hr
  go_enter Tryd.func78, Tryd.ntmps78
  go_wp2_with fail
  go_quiet ((go_at_call 69; exact Calls.quiet_of_same (is_any _ _ _ _ _ hi _ (by simp [hc]) (by simp [he]))))
  go_wp2_with fail
  go_ret
  exact ⟨rfl, _, rfl⟩
set_option maxRecDepth 100000 in
set_option maxHeartbeats 1000000 in
theorem sees69_out (b : Nat) (s : ByteArray) (p : Nat) (d e : Nat) (w : World) (hr : RS b s p w) (hlt : ¬ p < s.size) :
    Calls Tryd.prog 78 #[.pointer (some ⟨b, 0, none⟩), .func (.func 69) #[] #[.pointer (some ⟨d, 0, none⟩), .pointer (some ⟨e, 0, none⟩)]] w fun e w' => e = .returned (.bool false) ∧ ∃ n, w' = w.drewN n := by
  have c0 := hr.c0
  have c1 := hr.c1
  have hd : decide ((p : Int) < (s.size : Int)) = false := by simpa using hlt
  clear hr
  go_enter Tryd.func78, Tryd.ntmps78
  go_wp2_with fail
  go_quiet (fail)
  go_wp2_with fail
  go_ret
  exact ⟨rfl, _, rfl⟩
end Go.Proofs.YtmggaclaoefdaaaDoor
