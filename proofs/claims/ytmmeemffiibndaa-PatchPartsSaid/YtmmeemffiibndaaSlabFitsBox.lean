/- Boxes over calls, kept. -/
import Derived.Test.YtmmeemffiibndaaSlabKeepsWalk
namespace Go.Proofs.Ytmmeemffiibndaa.Slab
open Go.RowKit Go.Sort
theorem held2 {w0 w w' : World} {p0 p1 : Addr} {v0 v1 : Value} (h : w.cell? p0 = some v0 ∧ w.cell? p1 = some v1 ∧ Below w0.heap.size w0 w) (hb : Below w.heap.size w w') :
    w'.cell? p0 = some v0 ∧ w'.cell? p1 = some v1 ∧ Below w0.heap.size w0 w' :=
  ⟨(hb.cell (World.block_lt_of_cell? _ _ h.1)).trans h.1, (hb.cell (World.block_lt_of_cell? _ _ h.2.1)).trans h.2.1, h.2.2.trans (hb.mono h.2.2.size)⟩
theorem held2_set {w0 w : World} {p0 p1 : Addr} {v0 v1 : Value} (h : w.cell? p0 = some v0 ∧ w.cell? p1 = some v1 ∧ Below w0.heap.size w0 w)
    (h0 : p0.block < w0.heap.size) (h1 : p1.block < w0.heap.size) {g : Nat} (hg : w0.heap.size ≤ g) (i : Nat) (x : Value) :
    (w.setCell ⟨g, i, none⟩ x).cell? p0 = some v0 ∧ (w.setCell ⟨g, i, none⟩ x).cell? p1 = some v1 ∧ Below w0.heap.size w0 (w.setCell ⟨g, i, none⟩ x) := by
  have ne : ∀ p : Addr, p.block < w0.heap.size → (⟨g, i, none⟩ : Addr) ≠ p := fun p hp e => by rw [← e] at hp; simp at hp; omega
  exact ⟨by rw [World.cell?_setCell_other _ _ _ _ (ne _ h0)]; exact h.1, by rw [World.cell?_setCell_other _ _ _ _ (ne _ h1)]; exact h.2.1, h.2.2.setCell (p := ⟨g, i, none⟩) hg x⟩
theorem held2_b {w0 w : World} {p0 p1 : Addr} {v0 v1 : Value} (h : w.cell? p0 = some v0 ∧ w.cell? p1 = some v1 ∧ Below w0.heap.size w0 w) : Below w0.heap.size w0 w := h.2.2

theorem box_elim2_d {Gl : Prop} {X w' : World} {x y : Value} {T : TypeId} {o : Obj} (hb : Below ((X.alloc (.cells #[x, y] T)).alloc o).drew.heap.size ((X.alloc (.cells #[x, y] T)).alloc o).drew w')
    (k : (w'.cell? ⟨X.heap.size, 0, none⟩ = some x ∧ w'.cell? ⟨X.heap.size, 1, none⟩ = some y ∧ w'.frozen? ⟨X.heap.size, 0, none⟩ = false ∧ w'.frozen? ⟨X.heap.size, 1, none⟩ = false) → Gl) : Gl :=
  k (box_next (box_kept (Below.refl (X.alloc (.cells #[x, y] T)).heap.size _)) (below_next' ((Below.refl _ _).alloc (Nat.le_refl _) o) (⟨hb.os, hb.tape, hb.output, hb.size, hb.block⟩ : Below ((X.alloc (.cells #[x, y] T)).alloc o).heap.size ((X.alloc (.cells #[x, y] T)).alloc o) w') (by simp)))
end Go.Proofs.Ytmmeemffiibndaa.Slab
