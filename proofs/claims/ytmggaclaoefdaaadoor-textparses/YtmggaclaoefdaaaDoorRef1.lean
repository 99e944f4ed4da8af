/- The reference's reader: signAt. -/
import Derived.Test.YtmggaclaoefdaaaDoorSim
namespace Go.Proofs.YtmggaclaoefdaaaDoor
open Go.RowKit

/-- The byte at a place; 0: the text ends there. -/
def sgn (s : ByteArray) (p : Nat) : Int := if h : p < s.size then (s[p].toNat : Int) else 0

set_option maxRecDepth 100000 in
set_option maxHeartbeats 1000000 in
theorem signAt_any (s : ByteArray) (p : Nat) (w : World) :
    Calls Tryd.prog 33 #[.string s, .int .i64 p] w fun e w' => e = .returned (.int .u8 (sgn s p)) ∧ w' = w := by
  by_cases hlt : p < s.size
  · have HR : Hid (sgn s p = (s[p].toNat : Int)) := by rw [Hid, sgn, dif_pos hlt]
    have hlt' : (p : Int) < (s.size : Int) := by omega
    have hd : decide ((p : Int) < (s.size : Int)) = true := decide_eq_true hlt'
    go_enter Tryd.func33, Tryd.ntmps33
    go_wp2_with fail
    go_ret
    exact ⟨by rw [HR.out]; rfl, rfl⟩
  · have HR : Hid (sgn s p = 0) := by rw [Hid, sgn, dif_neg hlt]
    have hd : decide ((p : Int) < (s.size : Int)) = false := decide_eq_false (by omega)
    go_enter Tryd.func33, Tryd.ntmps33
    go_wp2_with fail
    go_ret
    exact ⟨by rw [HR.out]; rfl, rfl⟩
end Go.Proofs.YtmggaclaoefdaaaDoor
