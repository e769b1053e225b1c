/- Chains of calls that only make new blocks. -/
import Derived.Test.YtjcclobnpbgmcaaDoorBase
namespace Go.Proofs.Tryd
open Go.RowKit
theorem chain {a b c : World} (h : Below a.heap.size a b) (k : Below b.heap.size b c) : Below a.heap.size a c := h.trans (k.mono h.size)
theorem chain1 {a b : World} (h : Below a.heap.size a b) (o : Obj) : Below a.heap.size a (b.alloc o) := h.alloc h.size o
theorem chain2 {a b c : World} {o : Obj} (h : Below a.heap.size a b) (k : Below (b.alloc o).heap.size (b.alloc o) c) : Below a.heap.size a c := chain (chain1 h o) k
theorem start {a b : World} (k : Below a.heap.size a b) : Below a.heap.size a b := k
end Go.Proofs.Tryd
