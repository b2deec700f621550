/- Memory that only grows. -/
import Derived.Test.YtcpkngkeechjeaaRows
import Derived.WalkKit
import Derived.WalkSmall
namespace Go.Proofs.Ytcpkngkeechjeaa.Nib
set_option maxRecDepth 100000
open Go.RowKit
theorem below_next {W w w' : World} (h : Below W.heap.size W w) (h' : Below w.heap.size w w') : Below W.heap.size W w' := h.trans (h'.mono h.size)
theorem below_drew {W w : World} (h : Below W.heap.size W w) (q : Nat) : Below W.heap.size W (w.drewN q) := below_drewN h q
end Go.Proofs.Ytcpkngkeechjeaa.Nib
