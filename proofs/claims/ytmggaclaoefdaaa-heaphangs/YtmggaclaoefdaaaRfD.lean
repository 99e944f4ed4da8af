/- The reference's Meet, walked. -/
import Derived.Test.YtmggaclaoefdaaaGAQ
import Derived.Test.YtmggaclaoefdaaaGAN
namespace Go.Proofs.Ytmggaclaoefdaaa
open Go.RowKit

theorem below_alloc {w w' : World} (h : Below w.heap.size w w') (o : Obj) : Below w.heap.size w (w'.alloc o) := h.alloc h.size o
theorem below_after {W Wx w1 : World} (h : Below W.heap.size W Wx) (h1 : Below Wx.heap.size Wx w1) : Below W.heap.size W w1 := h.trans (h1.mono h.size)
theorem alloc2 (W : World) (o p : Obj) : ((W.alloc o).alloc p).heap[W.heap.size]? = some o ∧ ((W.alloc o).alloc p).heap[W.heap.size + 1]? = some p := by
  constructor
  · rw [heapOld _ _ (by simp)]; exact heap_alloc_new W _
  · have := heap_alloc_new (W.alloc o) p
    rwa [show (W.alloc o).heap.size = W.heap.size + 1 from by simp] at this
end Go.Proofs.Ytmggaclaoefdaaa
