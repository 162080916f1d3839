/- Worlds chained, one behind the other. -/
import Derived.Below
import Derived.Test.YtnnjfiknfmjliaaProg
namespace Go.Proofs.Ytnnjfiknfmjliaa
open Go.RowKit

theorem Below.onto {w w1 w2 : World} (h : Below w.heap.size w w1) (h2 : Below w1.heap.size w1 w2) : Below w.heap.size w w2 := h.trans (h2.mono h.size)
/-- A new block between. -/
theorem Below.onto1 {w w1 w2 : World} {o : Obj} (h : Below w.heap.size w w1) (h2 : Below (w1.alloc o).heap.size (w1.alloc o) w2) : Below w.heap.size w w2 := (h.alloc h.size o).trans (h2.mono (by have := h.size; simp; omega))
end Go.Proofs.Ytnnjfiknfmjliaa
