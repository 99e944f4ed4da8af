/- Appending nothing. -/
import Derived.Test.YtmggaclaoefdaaaRf4
namespace Go.Proofs.Ytmggaclaoefdaaa
open Go.RowKit

theorem run_append_none (a : Addr) (n c c' : Nat) (w : World) (h : n ≤ c) : (Builtin.append_ #[22, 22] 22 #[.slice (some a) n c, .slice none 0 c']).run Try.prog w = .ok (.slice (some a) n c) w := by
  unfold Builtin.append_
  simp [go_sem]
  intro hlt
  omega
/-- A list with no terms, in memory of its own. -/
theorem owns_empty (w : World) (lo : Nat) (hlo : lo ≤ w.heap.size) : (w.alloc (.cells #[] 24)).ownsRow lo 24 3 (.slice (some ⟨w.heap.size, 0, none⟩) 0 0) 0 [] := by
  refine ⟨?_, .inr ⟨w.heap.size, 0, #[], rfl, hlo, heap_alloc_new w _, ?_, ?_, ?_, ?_⟩⟩ <;> simp
end Go.Proofs.Ytmggaclaoefdaaa
