/- Gone, Of. -/
import Derived.Test.YthodggkpkjfggaaKeyLeave
namespace Go.Proofs.Ythodggkpkjfggaa.Key
set_option maxRecDepth 100000
open Go.RowKit
open Go.Proofs.Ythodggkpkjfggaa.Mem
open Go.Maps
end Go.Proofs.Ythodggkpkjfggaa.Key
