/- The walks of note.flag and note.check; three cells held. -/
import Derived.Test.YtjffjmffoffblaaQNoteBase
import Derived.Test.YtjffjmffoffblaaQEntEnc
import Derived.Test.YtjffjmffoffblaaQSumBook
import Derived.Test.YtjffjmffoffblaaQNibBook
namespace Go.Proofs.Ytjffjmffoffblaa.Note
set_option maxRecDepth 100000
open Go.RowKit
open Go.Proofs.Ytjffjmffoffblaa.Nib (enc below_next below_drew Fits)
open Go.Proofs.Ytjffjmffoffblaa.Slab (Slot Slots Blk ret_bool' ret_int')
open Go.Proofs.Ytjffjmffoffblaa.Ent (Ent Ents EntAt SmallE withinB knownB noE entA below_box alloc_lt arr arr_list list_arr arr_size)

theorem flag_fits (b : Bool) : Fits (b1 b) := (b1_within b).2.2
set_option maxRecDepth 100000 in
theorem flag_any (b : Bool) (w : World) :
    Calls Try.prog 37 #[.bool b] w fun e w' => e = .returned (.string (Nib.encB (b1 b))) ∧ Below w.heap.size w w' := by
  have HT := Lib.hid (fun w => Nib.intB 1 w (flag_fits true))
  have HF := Lib.hid (fun w => Nib.intB 0 w (flag_fits false))
  cases b with
  | true =>
    go_enter Try.func37, Try.ntmps37
    go_wp2_with fail
    refine (HT.out _).mono ?_
    rintro e w1 ⟨rfl, b1⟩
    go_wp2
    go_ret
    exact ⟨rfl, b1⟩
  | false =>
    go_enter Try.func37, Try.ntmps37
    go_wp2_with fail
    refine (HF.out _).mono ?_
    rintro e w1 ⟨rfl, b1⟩
    go_wp2
    go_ret
    exact ⟨rfl, b1⟩
theorem quadH_int (c : BitVec 32) : (strOfNums [(c.toNat : Int) / 16777216, (c.toNat : Int) / 65536 % 256, (c.toNat : Int) / 256 % 256, (c.toNat : Int) % 256]).data.toList = quadH c := by
  have hc := c.isLt
  rw [strOfNums_data]
  unfold quadH
  have e0 : ((c.toNat : Int) % 256).toNat = c.toNat % 256 := by omega
  have e1 : ((c.toNat : Int) / 256 % 256).toNat = c.toNat / 256 % 256 := by omega
  have e2 : ((c.toNat : Int) / 65536 % 256).toNat = c.toNat / 65536 % 256 := by omega
  have e3 : ((c.toNat : Int) / 16777216).toNat = c.toNat / 16777216 % 256 := by omega
  simp only [List.map_cons, List.map_nil, e0, e1, e2, e3]
/-- the check of a body, as a text -/
def chkB (s : List UInt8) : ByteArray := arr (quadH (Sum.check s))
theorem chkB_size (s : List UInt8) : (chkB s).size = 4 := rfl
theorem quadH_str (c : BitVec 32) : strOfNums [(c.toNat : Int) / 16777216, (c.toNat : Int) / 65536 % 256, (c.toNat : Int) / 256 % 256, (c.toNat : Int) % 256] = arr (quadH c) := by
  rw [← quadH_int, list_arr]
set_option maxRecDepth 100000 in
set_option maxHeartbeats 400000 in
theorem check_any (s : ByteArray) (w : World) (hs : s.size ≤ 140737488351232) :
    Calls Try.prog 10 #[.string s] w fun e w' => e = .returned (.string (chkB s.data.toList)) ∧ Below w.heap.size w w' := by
  have hc := (Sum.check s.data.toList).isLt
  have HQ := Lib.hid (quadH_str (Sum.check s.data.toList))
  go_enter Try.func10, Try.ntmps10
  go_wp2_with fail
  refine (Sum.of_new _ _ _ [s] _ _ ((Sum.check s.data.toList).toNat : Int) rfl rfl (by simp) (by simp; omega) (by simp [Sum.flat])).mono ?_
  rintro e w2 ⟨rfl, b2⟩
  have hconv := Sum.conv4
  go_wp2
  clear hconv
  go_ret
  exact ⟨by rw [HQ.out]; rfl, below_next b2 (below_box _ _)⟩
theorem cells3 {w w' : World} {g o : Nat} {x y z : Value} {B : Nat} (h : w.cell? ⟨g, o, none⟩ = some x ∧ w.cell? ⟨g, o + 1, none⟩ = some y ∧ w.cell? ⟨g, o + 2, none⟩ = some z) (hb : Below B w w') (hg : g < B) :
    w'.cell? ⟨g, o, none⟩ = some x ∧ w'.cell? ⟨g, o + 1, none⟩ = some y ∧ w'.cell? ⟨g, o + 2, none⟩ = some z :=
  ⟨(hb.cell (p := ⟨g, o, none⟩) hg).trans h.1, (hb.cell (p := ⟨g, o + 1, none⟩) hg).trans h.2.1, (hb.cell (p := ⟨g, o + 2, none⟩) hg).trans h.2.2⟩
theorem nextW {W w w' : World} (h : Below W.heap.size W w) (h' : Below w.heap.size w w') : Below W.heap.size W w' := below_next h h'
end Go.Proofs.Ytjffjmffoffblaa.Note
