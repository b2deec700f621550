/- The walk of the statement SlabKeeps. -/
import Derived.Test.YtmmeemffiibndaaSlabLaws
import Derived.Test.YtmmeemffiibndaaHold
import Derived.RegionCalls
import Derived.Deep.RegionWith
import Derived.Deep.RegionHeld3
namespace Go.Proofs.Ytmmeemffiibndaa.Slab
open Go.RowKit Go.Sort

theorem held4 {w0 w w' : World} {p0 p1 p2 p3 : Addr} {v0 v1 v2 v3 : Value} (h : w.cell? p0 = some v0 ∧ w.cell? p1 = some v1 ∧ w.cell? p2 = some v2 ∧ w.cell? p3 = some v3 ∧ Below w0.heap.size w0 w) (hb : Below w.heap.size w w') :
    w'.cell? p0 = some v0 ∧ w'.cell? p1 = some v1 ∧ w'.cell? p2 = some v2 ∧ w'.cell? p3 = some v3 ∧ Below w0.heap.size w0 w' :=
  ⟨(hb.cell (World.block_lt_of_cell? _ _ h.1)).trans h.1, (hb.cell (World.block_lt_of_cell? _ _ h.2.1)).trans h.2.1, (hb.cell (World.block_lt_of_cell? _ _ h.2.2.1)).trans h.2.2.1, (hb.cell (World.block_lt_of_cell? _ _ h.2.2.2.1)).trans h.2.2.2.1, h.2.2.2.2.trans (hb.mono h.2.2.2.2.size)⟩
theorem held4_set {w0 w : World} {p0 p1 p2 p3 : Addr} {v0 v1 v2 v3 : Value} (h : w.cell? p0 = some v0 ∧ w.cell? p1 = some v1 ∧ w.cell? p2 = some v2 ∧ w.cell? p3 = some v3 ∧ Below w0.heap.size w0 w)
    (h0 : p0.block < w0.heap.size) (h1 : p1.block < w0.heap.size) (h2 : p2.block < w0.heap.size) (h3 : p3.block < w0.heap.size) {g : Nat} (hg : w0.heap.size ≤ g) (i : Nat) (x : Value) :
    (w.setCell ⟨g, i, none⟩ x).cell? p0 = some v0 ∧ (w.setCell ⟨g, i, none⟩ x).cell? p1 = some v1 ∧ (w.setCell ⟨g, i, none⟩ x).cell? p2 = some v2 ∧ (w.setCell ⟨g, i, none⟩ x).cell? p3 = some v3 ∧ Below w0.heap.size w0 (w.setCell ⟨g, i, none⟩ x) := by
  have ne : ∀ p : Addr, p.block < w0.heap.size → (⟨g, i, none⟩ : Addr) ≠ p := fun p hp e => by rw [← e] at hp; simp at hp; omega
  exact ⟨by rw [World.cell?_setCell_other _ _ _ _ (ne _ h0)]; exact h.1, by rw [World.cell?_setCell_other _ _ _ _ (ne _ h1)]; exact h.2.1, by rw [World.cell?_setCell_other _ _ _ _ (ne _ h2)]; exact h.2.2.1, by rw [World.cell?_setCell_other _ _ _ _ (ne _ h3)]; exact h.2.2.2.1, h.2.2.2.2.setCell (p := ⟨g, i, none⟩) hg x⟩
/-- a new box over a call -/
theorem box_kept {X w' : World} {x y : Value} {T : TypeId} (hb : Below (X.alloc (.cells #[x, y] T)).heap.size (X.alloc (.cells #[x, y] T)) w') :
    w'.cell? ⟨X.heap.size, 0, none⟩ = some x ∧ w'.cell? ⟨X.heap.size, 1, none⟩ = some y ∧ w'.frozen? ⟨X.heap.size, 0, none⟩ = false ∧ w'.frozen? ⟨X.heap.size, 1, none⟩ = false := by
  have hB := (Blk.new X T #[x, y]).below hb (by simp)
  exact ⟨hB.cell 0, hB.cell 1, hB.frozen 0, hB.frozen 1⟩
theorem box_elim {Gl : Prop} {X w' : World} {x y : Value} {T : TypeId} (hb : Below (X.alloc (.cells #[x, y] T)).heap.size (X.alloc (.cells #[x, y] T)) w')
    (k : (w'.cell? ⟨X.heap.size, 0, none⟩ = some x ∧ w'.cell? ⟨X.heap.size, 1, none⟩ = some y ∧ w'.frozen? ⟨X.heap.size, 0, none⟩ = false ∧ w'.frozen? ⟨X.heap.size, 1, none⟩ = false) → Gl) : Gl := k (box_kept hb)
theorem box_elim_d {Gl : Prop} {X w' : World} {x y : Value} {T : TypeId} (hb : Below (X.alloc (.cells #[x, y] T)).drew.heap.size (X.alloc (.cells #[x, y] T)).drew w')
    (k : (w'.cell? ⟨X.heap.size, 0, none⟩ = some x ∧ w'.cell? ⟨X.heap.size, 1, none⟩ = some y ∧ w'.frozen? ⟨X.heap.size, 0, none⟩ = false ∧ w'.frozen? ⟨X.heap.size, 1, none⟩ = false) → Gl) : Gl := k (box_kept (⟨hb.os, hb.tape, hb.output, hb.size, hb.block⟩ : Below (X.alloc (.cells #[x, y] T)).heap.size (X.alloc (.cells #[x, y] T)) w'))
theorem box_next {w w' : World} {g : Nat} {x y : Value} (h : w.cell? ⟨g, 0, none⟩ = some x ∧ w.cell? ⟨g, 1, none⟩ = some y ∧ w.frozen? ⟨g, 0, none⟩ = false ∧ w.frozen? ⟨g, 1, none⟩ = false) (hb : Below w.heap.size w w') :
    w'.cell? ⟨g, 0, none⟩ = some x ∧ w'.cell? ⟨g, 1, none⟩ = some y ∧ w'.frozen? ⟨g, 0, none⟩ = false ∧ w'.frozen? ⟨g, 1, none⟩ = false := by
  have hg := World.block_lt_of_cell? _ _ h.1
  exact ⟨(hb.cell hg).trans h.1, (hb.cell (p := ⟨g, 1, none⟩) hg).trans h.2.1, (hb.frozen (p := ⟨g, 0, none⟩) hg).trans h.2.2.1, (hb.frozen (p := ⟨g, 1, none⟩) hg).trans h.2.2.2⟩
theorem next_elim {Gl : Prop} {w w' : World} {g : Nat} {x y : Value} (h : w.cell? ⟨g, 0, none⟩ = some x ∧ w.cell? ⟨g, 1, none⟩ = some y ∧ w.frozen? ⟨g, 0, none⟩ = false ∧ w.frozen? ⟨g, 1, none⟩ = false) (hb : Below w.heap.size w w')
    (k : (w'.cell? ⟨g, 0, none⟩ = some x ∧ w'.cell? ⟨g, 1, none⟩ = some y ∧ w'.frozen? ⟨g, 0, none⟩ = false ∧ w'.frozen? ⟨g, 1, none⟩ = false) → Gl) : Gl := k (box_next h hb)
theorem held4_b {w0 w : World} {p0 p1 p2 p3 : Addr} {v0 v1 v2 v3 : Value} (h : w.cell? p0 = some v0 ∧ w.cell? p1 = some v1 ∧ w.cell? p2 = some v2 ∧ w.cell? p3 = some v3 ∧ Below w0.heap.size w0 w) : Below w0.heap.size w0 w := h.2.2.2.2

theorem box_written {w : World} {g : Nat} {u v x y : Value} (e0 : w.cell? ⟨g, 0, none⟩ = some u) (e1 : w.cell? ⟨g, 1, none⟩ = some v) :
    ((w.setCell ⟨g, 0, none⟩ x).setCell ⟨g, 1, none⟩ y).cell? ⟨g, 0, none⟩ = some x ∧ ((w.setCell ⟨g, 0, none⟩ x).setCell ⟨g, 1, none⟩ y).cell? ⟨g, 1, none⟩ = some y := by
  have h1 : (w.setCell ⟨g, 0, none⟩ x).cell? ⟨g, 1, none⟩ = some v := by rw [World.cell?_setCell_other _ _ _ _ (by simp)]; exact e1
  refine ⟨?_, World.cell?_setCell_same _ _ _ h1⟩
  rw [World.cell?_setCell_other _ _ _ _ (by simp)]
  exact World.cell?_setCell_same _ _ _ e0
theorem box_fresh {w : World} {x y : Value} {T : TypeId} : (w.alloc (.cells #[x, y] T)).cell? ⟨w.heap.size, 0, none⟩ = some x ∧ (w.alloc (.cells #[x, y] T)).cell? ⟨w.heap.size, 1, none⟩ = some y :=
  ⟨by rw [World.cell?_alloc_new]; rfl, by rw [World.cell?_alloc_new]; rfl⟩

end Go.Proofs.Ytmmeemffiibndaa.Slab
