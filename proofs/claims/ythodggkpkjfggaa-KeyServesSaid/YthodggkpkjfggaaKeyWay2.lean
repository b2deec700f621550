/- rising at a table: what a client holds, where it waits. -/
import Derived.Test.YthodggkpkjfggaaKeyWay
namespace Go.Proofs.Ythodggkpkjfggaa.Key
set_option maxRecDepth 100000
open Go.RowKit
open Go.Proofs.Ythodggkpkjfggaa.Mem
open Go.Maps
theorem heldB_some {S : KS} {c k x : Int} {l : Lk} (hl : S.L x c = some l) : heldB S c k x = decide (k ≤ l.has) := by unfold heldB; rw [hl]
theorem heldB_none {S : KS} {c k x : Int} (hl : S.L x c = none) : heldB S c k x = false := by unfold heldB; rw [hl]
end Go.Proofs.Ythodggkpkjfggaa.Key
