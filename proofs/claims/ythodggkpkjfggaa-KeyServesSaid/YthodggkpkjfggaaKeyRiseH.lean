/- rising over a map, its predicate a closure. -/
import Derived.Test.YthodggkpkjfggaaKeyMem
import Derived.Test.YthodggkpkjfggaaKeyRise0
import Derived.Sort.OwnSortedInts
import Derived.Test.YthodggkpkjfggaaShelf
namespace Go.Proofs.Ythodggkpkjfggaa.Key
set_option maxRecDepth 100000
open Go.RowKit
open Go.Proofs.Ythodggkpkjfggaa.Mem
open Go.Maps
end Go.Proofs.Ythodggkpkjfggaa.Key
