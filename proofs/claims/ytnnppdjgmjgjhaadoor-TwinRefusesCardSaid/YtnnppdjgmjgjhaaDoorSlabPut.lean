/- The walk of slab.Put, where a slot is put. -/
import Derived.Test.YtnnppdjgmjgjhaaDoorSlabPutErr
namespace Go.Proofs.YtnnppdjgmjgjhaaDoor.Slab
set_option maxRecDepth 100000
open Go.RowKit Go.Sort
theorem info_slot : (Tryd.prog.info? 81).map (fun i => (i.zero, i.size, i.bytes)) = some (some (.agg #[.bool false, .string ⟨#[]⟩]), 2, 24) := by kernel_rfl
theorem sizes_of_good {lsn : Int} {l : List Slot} (h : goodB lsn l = true) : ∀ x ∈ l, x.d.size ≤ 200 := by
  intro x hx
  have h1 : l.any wrongB = false := by simp [goodB] at h; simpa using h.1.2
  have := List.any_eq_false.1 h1 x hx
  simp [wrongB] at this; omega
theorem copy_two : (Tryd.prog.info? 81).map (·.size) = some 2 := by kernel_rfl
theorem ok_res {w w' : World} {lsn slot : Int} {l z : List Slot} {x : Slot} {n c bl : Nat} (h : putCode lsn l slot x = 0) (hz : putL l slot.toNat x = z) (hs : Slots w' (some ⟨bl, 0, none⟩) n z) (hb : Below w.heap.size w w') (hf : w.heap.size ≤ bl) :
    PageRes (putN lsn l slot x) (putZ lsn l slot x) (putCode lsn l slot x) w (.returned (.tuple #[.agg #[.int .i64 lsn, .slice (some ⟨bl, 0, none⟩) n c], .int .i64 0])) w' := by
  unfold putN putZ
  rw [if_pos h, if_pos h, h, hz]
  exact ⟨_, n, c, rfl, hs, hb, fun _ _ _ e => by cases e; exact hf⟩
/-- what the code does to the slots -/
def putG (l : List Slot) (k m : Nat) (x : Slot) : List Slot := (padL l m).set k x
theorem put_steps (l : List Slot) (k m : Nat) (x : Slot) (hm : max l.length (k + 1) = m) (hs : ∀ y ∈ l, y.d.size ≤ 200) (hx : x.d.size ≤ 200) :
    (putG l k m x).length = m ∧ (∀ y ∈ putG l k m x, y.d.size ≤ 200) ∧ putL l k x = (putG l k m x).take (usedN (putG l k m x)) ∧ usedN (putG l k m x) ≤ m := by
  subst hm
  have h1 : (putG l k (max l.length (k + 1)) x).length = max l.length (k + 1) := by unfold putG; rw [List.length_set, padL_length _ _ (by omega)]
  refine ⟨h1, set_sizes (padL_sizes hs) hx, rfl, ?_⟩
  have := usedN_le (putG l k (max l.length (k + 1)) x)
  omega
theorem blk_made {w : World} {g m base : Nat} (h : w.ownsRow base 81 2 (.slice (some ⟨g, 0, none⟩) m m) m (madeCells #[.bool false, .string ⟨#[]⟩] (m * 2)).toList) : Blk w g 81 (cellsOf (List.replicate m nos)).toArray := by
  rcases h.2 with ⟨h1, _⟩ | ⟨g', cap, cur, h1, _, hg, h2, _, hs, ht⟩
  · cases h1
  · cases h1
    rw [List.take_of_length_le (by simp [hs])] at ht
    have : cur = (cellsOf (List.replicate m nos)).toArray := by rw [← zero_cells]; exact Array.toList_inj.1 ht
    rw [this] at hg
    exact hg
theorem below_grown {w w' : World} (h : w.grownBy w' none) : Below w.heap.size w w' := ⟨h.os, h.tape, h.output, h.size, fun k hk => h.block k hk (by simp)⟩

end Go.Proofs.YtnnppdjgmjgjhaaDoor.Slab
