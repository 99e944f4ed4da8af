/- Texts of terms: what Digits and TermText answer. -/
import Derived.Test.YtmggaclaoefdaaaDoorParts
namespace Go.Proofs.YtmggaclaoefdaaaDoor
open Go.RowKit

theorem conv1 (n : Int) (w : World) : (convert 44 9 (.slice (some ⟨w.heap.size, 0, none⟩) 1 1)).run Tryd.prog (w.alloc (.cells #[.int .u8 n] 5)) = .ok (.string ⟨#[UInt8.ofNat n.toNat]⟩) (w.alloc (.cells #[.int .u8 n] 5)) := by
  rw [run_convert_bytes_string _ 44 9 5 _ _ _ Tryd.underlying44 Tryd.underlying5 Tryd.underlying9, run_bytesToString (ns := [n]) _ _ _ _ (by go_simp)]; rfl

def dig1 (v : Nat) : UInt8 := UInt8.ofNat (48 + v)
def digs (v : Nat) : List UInt8 := if v < 10 then [dig1 v] else [dig1 (v / 10), dig1 (v % 10)]

set_option maxRecDepth 100000 in
set_option maxHeartbeats 400000 in
theorem digits1 (n : Nat) (h : n < 10) (w : World) :
    Calls Tryd.prog 45 #[.int .i64 n] w fun e w' => e = .returned (.string ⟨#[dig1 n]⟩) ∧ Below w.heap.size w w' := by
  have hc : ∀ (n : Int) (w : World), (convert 44 9 (.slice (some ⟨w.heap.size, 0, none⟩) 1 1)).run Tryd.prog (w.alloc (.cells #[.int .u8 n] 5)) = .ok (.string ⟨#[UInt8.ofNat n.toNat]⟩) (w.alloc (.cells #[.int .u8 n] 5)) := conv1
  have hlt : (n : Int) < 10 := by omega
  have hge : (0 : Int) ≤ n := by omega
  go_enter Tryd.func45, Tryd.ntmps45
  go_wp2_with fail
  trace_state
  go_ret
  exact ⟨rfl, (Below.refl _ _).alloc (Nat.le_refl _) _⟩
end Go.Proofs.YtmggaclaoefdaaaDoor
