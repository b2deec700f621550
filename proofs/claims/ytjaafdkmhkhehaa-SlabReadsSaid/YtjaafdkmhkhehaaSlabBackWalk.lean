/- The walk of the statement SlabBack. -/
import Derived.Test.YtjaafdkmhkhehaaSlabBackMath
import Derived.Test.YtjaafdkmhkhehaaSlabDecode
import Derived.Test.YtjaafdkmhkhehaaSlabAwake
import Derived.Test.YtjaafdkmhkhehaaSlabKeepsWalk
namespace Go.Proofs.Ytjaafdkmhkhehaa.Slab
open Go.RowKit Go.Sort

theorem dec_back {lsn : Int} {z : List Slot} (hg : goodB lsn z = true) : decR (encS' lsn z).data.toList = (lsn, z, 0) := by
  unfold encS'
  rw [if_pos hg]
  obtain ⟨L, rfl⟩ := Int.eq_ofNat_of_zero_le (good_parts hg).1
  rw [Int.toNat_natCast]
  exact dec_enc hg
theorem enc_back {s : ByteArray} {L : Nat} {z : List Slot} (hg : goodB (L : Int) z = true) (h : encB L z = s.data.toList) : encS' L z = s := by
  unfold encS'
  rw [if_pos hg, Int.toNat_natCast, h]

theorem decode_to {s : ByteArray} {l c : Int} {z : List Slot} (h : decR s.data.toList = (l, z, c)) (w : World) : Calls Try.prog 13 #[.string s] w (PageRes l z c w) := by
  have := decode_any s w
  rw [h] at this
  exact this

end Go.Proofs.Ytjaafdkmhkhehaa.Slab
