/- The walk of the document's own Vacant. -/
import Derived.Test.YtmmeemffiibndaaSlabRPut
import Derived.Test.YtmmeemffiibndaaSlabVacantMath
import Derived.Test.YtmmeemffiibndaaSlabKeepsWalk
import Derived.Test.YtmmeemffiibndaaSlabFitsBox
namespace Go.Proofs.Ytmmeemffiibndaa.Slab
open Go.RowKit Go.Sort
theorem vac_put {lsn : Int} {l : List Slot} {m : Nat} (hg : goodB lsn l = true) (hm : m ≤ 200) (hv : vacS l < 32) : putCode lsn l (vacS l : Int) ⟨true, zstr m⟩ = vacCode lsn l (m : Int) := by
  by_cases hc : vacCode lsn l (m : Int) = 0
  · rw [hc]; exact (vac_room hg hm hc).2.2.2.2
  · obtain ⟨h1, h2⟩ := vac_full hg hm hc
    rw [h1]
    refine h2 _ hv ?_
    rw [atL_getD hg]
    by_cases h : vacS l < l.length
    · exact vac_at h
    · rw [getD_out (by omega)]; rfl
theorem vac_codes {lsn : Int} {l : List Slot} {m : Nat} (hg : goodB lsn l = true) (hm : m ≤ 200) : vacCode lsn l (m : Int) = 22 ∨ vacCode lsn l (m : Int) = 0 := by
  rw [vac_code hg hm]; split
  · exact .inl rfl
  · exact .inr rfl
end Go.Proofs.Ytmmeemffiibndaa.Slab
