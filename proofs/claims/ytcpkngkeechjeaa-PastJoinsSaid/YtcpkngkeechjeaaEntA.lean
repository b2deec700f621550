/- An entry's cells as one array. -/
import Derived.Test.YtcpkngkeechjeaaEntMath
import Derived.Test.YtcpkngkeechjeaaRows
namespace Go.Proofs.Ytcpkngkeechjeaa.Ent
set_option maxRecDepth 100000
def entA (x : Ent) : Array Value := #[.int .i64 x.kind, .int .i64 x.cl, .int .i64 x.ep, .int .i64 x.n, .int .i64 x.lsn, .int .i64 x.prev, .int .i64 x.page, .int .i64 x.slot, .bool x.wu, .string x.wd, .bool x.iu, .string x.id, .int .i64 x.next]
end Go.Proofs.Ytcpkngkeechjeaa.Ent
