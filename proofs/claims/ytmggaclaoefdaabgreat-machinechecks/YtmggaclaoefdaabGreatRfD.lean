/- Part of the proof. -/
import Derived.Test.YtmggaclaoefdaabGreatSq0
import Derived.Test.YtmggaclaoefdaabGreatGAK
import Derived.Test.YtmggaclaoefdaabGreatGAI
namespace Go.Proofs.YtmggaclaoefdaabGreat
open Go.RowKit
theorem below_alloc {w w':World} (h:Below w.heap.size w w') (o:Obj):Below w.heap.size w (w'.alloc o):=h.alloc h.size o
theorem below_after {W Wx w1:World} (h:Below W.heap.size W Wx) (h1:Below Wx.heap.size Wx w1):Below W.heap.size W w1:=h.trans (h1.mono h.size)
theorem alloc2 (W:World) (o p:Obj):((W.alloc o).alloc p).heap[W.heap.size]?=some o∧((W.alloc o).alloc p).heap[W.heap.size+1]?=some p:=by
 constructor
 ·rw[heapOld _ _ (by simp)];exact heap_alloc_new W _
 ·have:=heap_alloc_new (W.alloc o) p
  rwa [show (W.alloc o).heap.size=W.heap.size+1 from by simp]at this
theorem below_set {w w':World} {k i:Nat} {v:Value} (h:Below w.heap.size w w') (hk:w.heap.size≤k):Below w.heap.size w (w'.setCell ⟨k,i,none⟩ v):=h.grown (grown_set k i v) h.size (fun j hj=>by have:=Option.some.inj hj;omega)
end Go.Proofs.YtmggaclaoefdaabGreat
