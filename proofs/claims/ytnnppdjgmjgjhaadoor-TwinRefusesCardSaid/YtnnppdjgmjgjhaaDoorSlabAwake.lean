/- The walk of the statements' own beginning. -/
import Derived.Test.YtnnppdjgmjgjhaaDoorSlabEnc
namespace Go.Proofs.YtnnppdjgmjgjhaaDoor.Slab
set_option maxRecDepth 100000
open Go.RowKit Go.Sort
def AB : Slot := ⟨true, ⟨#[97, 98]⟩⟩
theorem enc_ab : (encS' 0 [nos, AB]).size = 240 ∧ (encS' 0 [nos, AB]).extract 8 13 = ⟨#[2, 255, 2, 97, 98]⟩ ∧ encCode 0 [nos, AB] = 0 := by decide +kernel
theorem vac_ab : vacV 0 [nos, AB] 5 = 0 ∧ vacCode 0 [nos, AB] 5 = 0 := by decide +kernel
theorem good_ab : sizeV 0 [nos, AB] = 13 ∧ goodB 0 [] = true := by decide +kernel

end Go.Proofs.YtnnppdjgmjgjhaaDoor.Slab
