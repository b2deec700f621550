/- The walks of slab.At and of the document's own At. -/
import Derived.Test.YtcpkngkeechjeaaSlabRefGood
namespace Go.Proofs.Ytcpkngkeechjeaa.Slab
set_option maxRecDepth 100000
open Go.RowKit Go.Sort

/-- a block that is known whole -/
def Blk (w : World) (g : Nat) (t : TypeId) (cs : Array Value) : Prop := w.heap[g]? = some (.cells cs t (0, 0))
section
variable {w w' : World} {g : Nat} {t : TypeId} {cs : Array Value}
theorem Blk.lt (h : Blk w g t cs) : g < w.heap.size := (Array.getElem?_eq_some_iff.1 h).1
theorem Blk.cell (h : Blk w g t cs) (i : Nat) : w.cell? ⟨g, i, none⟩ = cs[i]? := by unfold Blk at h; simp [World.cell?, h]
theorem Blk.frozen (h : Blk w g t cs) (i : Nat) : w.frozen? ⟨g, i, none⟩ = false := by unfold Blk at h; simp [World.frozen?, h]
theorem Blk.new (w : World) (t : TypeId) (cs : Array Value) : Blk (w.alloc (.cells cs t)) w.heap.size t cs := World.alloc_heap_new w _
theorem Blk.alloc (h : Blk w g t cs) (o : Obj) : Blk (w.alloc o) g t cs := (Below.heap_alloc w o g h.lt).trans h
theorem Blk.below {B : Nat} (h : Blk w g t cs) (hb : Below B w w') (hg : g < B) : Blk w' g t cs := (hb.block g hg).trans h
end
def slotV (x : Slot) : Value := .agg #[.bool x.u, .string x.d]
def atL (lsn : Int) (l : List Slot) (slot : Int) : Slot := if goodB lsn l then (if 0 ≤ slot ∧ slot < l.length then l.getD slot.toNat nos else nos) else nos
theorem atL_bad {lsn slot : Int} {l : List Slot} (h : goodB lsn l = false) : atL lsn l slot = nos := by unfold atL; rw [h]; rfl
theorem atL_out {lsn slot : Int} {l : List Slot} (h : slot < 0 ∨ (l.length : Int) ≤ slot) : atL lsn l slot = nos := by
  unfold atL; split
  · rw [if_neg (by omega)]
  · rfl
theorem atL_in {lsn : Int} {l : List Slot} {k : Nat} {x : Slot} (h : goodB lsn l = true) (hx : l[k]? = some x) : atL lsn l (k : Int) = x := by
  obtain ⟨hk, rfl⟩ := List.getElem?_eq_some_iff.1 hx
  unfold atL
  rw [h, if_pos rfl, if_pos (by omega)]
  simp [List.getD, hk]

end Go.Proofs.Ytcpkngkeechjeaa.Slab
