/- The document's own part, Encode, Cost of an entry. -/
import Derived.Test.YtjffjmffoffblaaQEntRef
import Derived.Test.YtjffjmffoffblaaQEntEnc
import Derived.Test.YtjffjmffoffblaaQNibBook
import Derived.Lib.QuietBelow
namespace Go.Proofs.Ytjffjmffoffblaa.Ent
set_option maxRecDepth 100000
open Go.RowKit Go.Sort
open Go.Proofs.Ytjffjmffoffblaa.Slab (Blk page_cells ret_bool' ret_int')
open Go.Proofs.Ytjffjmffoffblaa.Nib (below_next below_drew enc encStr Fits)

theorem arr_eq {a : ByteArray} {l : List UInt8} (h : a.data.toList = l) : a = arr l := by rw [← h]; exact (list_arr a).symm
def CRow (w : World) (b : Nat) (vs : List Value) : Prop := ∀ i v, vs[i]? = some v → w.cell? ⟨b, i, none⟩ = some v
theorem CRow.next {w w' : World} {b : Nat} {vs : List Value} (h : CRow w b vs) (hb : Below w.heap.size w w') : CRow w' b vs := fun i v hv =>
  (hb.cell (p := ⟨b, i, none⟩) (World.block_lt_of_cell? _ _ (h i v hv))).trans (h i v hv)
theorem infoI : (Try.prog.info? 3).map (fun i => (i.zero, i.size, i.bytes)) = some (some (.int .i64 0), 1, 8) := by kernel_rfl
theorem bytes_cat (l m : List UInt8) (s : ByteArray) (h : s.data.toList = m) : arr l ++ s = arr (l ++ m) := arr_eq (by rw [app_list, arr_list, h])

end Go.Proofs.Ytjffjmffoffblaa.Ent
