/- The document's own writing of an image, walked. -/
import Derived.Test.YtjffjmffoffblaaQSlabBookA
import Derived.Test.YtjffjmffoffblaaQSlabBookC
import Derived.Test.YtjffjmffoffblaaQSlabBookB
namespace Go.Proofs.Ytjffjmffoffblaa.Slab
set_option maxRecDepth 100000
open Go.RowKit Go.Sort

def lenOf : Value → Nat
  | .slice _ n _ => n
  | _ => 0
end Go.Proofs.Ytjffjmffoffblaa.Slab
