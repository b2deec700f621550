/- Take of the document's own end, whole. -/
import Derived.Test.YtbbikibkijncgaaCordRef7
namespace Go.Proofs.Ytbbikibkijncgaa.Cord
set_option maxRecDepth 100000
open Go.RowKit
open Go.Proofs.Ytbbikibkijncgaa.Mem
theorem utake_any (u m : Nat) (F : Nat → Prop) (e : CE) (g : Gm) (w : World) (h : UQ w u m F e) (hm : m ≤ 900) :
    Calls Try.prog 18 #[.pointer (some ⟨u, 0, none⟩), .agg (gmV g)] w (UTakeRes u m F e g w) := by
  by_cases hx : checkX e g = 0
  · by_cases h0 : g.sq = 0
    · exact utake_zero u m F e g w h hm hx h0
    · exact utake_some u m F e g w h hm hx h0
  · exact utake_err u m F e g w h (by omega) hx
end Go.Proofs.Ytbbikibkijncgaa.Cord
