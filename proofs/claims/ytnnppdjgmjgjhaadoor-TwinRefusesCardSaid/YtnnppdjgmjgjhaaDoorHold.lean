/- Cells that a walk reads on, held over calls that only make memory. -/
import Derived.Test.YtnnppdjgmjgjhaaDoorRows
import Derived.Below
import Derived.WalkKit
import Derived.Deep.Draws
namespace Go.Proofs.YtnnppdjgmjgjhaaDoor
open Go.RowKit
/-- what lay in w lies as it lay, and these cells hold these values -/
def Hold (w W : World) (L : List (Addr × Value)) : Prop := Below w.heap.size w W ∧ ∀ x ∈ L, W.cell? x.1 = some x.2
section
variable {w W W' : World} {L : List (Addr × Value)}
theorem Hold.b (h : Hold w W L) : Below w.heap.size w W := h.1
theorem Hold.next (h : Hold w W L) (hb : Below W.heap.size W W') : Hold w W' L :=
  ⟨h.1.trans (hb.mono h.1.size), fun x hx => (hb.cell (World.block_lt_of_cell? _ _ (h.2 x hx))).trans (h.2 x hx)⟩
theorem Hold.drew (h : Hold w W L) (q : Nat) : Hold w (W.drewN q) L := ⟨⟨h.1.os, h.1.tape, h.1.output, h.1.size, h.1.block⟩, h.2⟩
theorem Hold.alloc (h : Hold w W L) (o : Obj) : Hold w (W.alloc o) L := h.next ((Below.refl _ _).alloc (Nat.le_refl _) _)
theorem Hold.cons (h : Hold w W L) {p : Addr} {v : Value} (hc : W.cell? p = some v) : Hold w W ((p, v) :: L) :=
  ⟨h.1, fun x hx => by rcases List.mem_cons.1 hx with rfl | hx; exact hc; exact h.2 x hx⟩
theorem Hold.tail {x : Addr × Value} (h : Hold w W (x :: L)) : Hold w W L := ⟨h.1, fun y hy => h.2 y (List.mem_cons_of_mem _ hy)⟩
theorem Hold.nil (h : Below w.heap.size w W) : Hold w W [] := ⟨h, by simp⟩
theorem Hold.head {p : Addr} {v : Value} (h : Hold w W ((p, v) :: L)) : W.cell? p = some v := h.2 _ List.mem_cons_self
/-- a new box of one, of two cells -/
theorem Hold.box1 (h : Hold w W L) (x : Value) (T : TypeId) : Hold w (W.alloc (.cells #[x] T)) ((⟨W.heap.size, 0, none⟩, x) :: L) :=
  (h.alloc _).cons (by rw [World.cell?_alloc_new]; rfl)
theorem Hold.box2 (h : Hold w W L) (x y : Value) (T : TypeId) : Hold w (W.alloc (.cells #[x, y] T)) ((⟨W.heap.size, 0, none⟩, x) :: (⟨W.heap.size, 1, none⟩, y) :: L) :=
  ((h.alloc _).cons (by rw [World.cell?_alloc_new]; rfl)).cons (by rw [World.cell?_alloc_new]; rfl)
variable {p0 p1 p2 p3 p4 p5 p6 p7 p8 p9 : Addr} {v0 v1 v2 v3 v4 v5 v6 v7 v8 v9 : Value}
theorem Hold.get2 (h : Hold w W [(p0, v0), (p1, v1)]) : W.cell? p0 = some v0 ∧ W.cell? p1 = some v1 := ⟨h.head, h.tail.head⟩
theorem Hold.get3 (h : Hold w W [(p0, v0), (p1, v1), (p2, v2)]) : W.cell? p0 = some v0 ∧ W.cell? p1 = some v1 ∧ W.cell? p2 = some v2 := ⟨h.head, h.tail.head, h.tail.tail.head⟩
theorem Hold.get4 (h : Hold w W [(p0, v0), (p1, v1), (p2, v2), (p3, v3)]) : W.cell? p0 = some v0 ∧ W.cell? p1 = some v1 ∧ W.cell? p2 = some v2 ∧ W.cell? p3 = some v3 := ⟨h.head, h.tail.head, h.tail.tail.head, h.tail.tail.tail.head⟩
theorem Hold.get5 (h : Hold w W [(p0, v0), (p1, v1), (p2, v2), (p3, v3), (p4, v4)]) : W.cell? p0 = some v0 ∧ W.cell? p1 = some v1 ∧ W.cell? p2 = some v2 ∧ W.cell? p3 = some v3 ∧ W.cell? p4 = some v4 := ⟨h.head, h.tail.head, h.tail.tail.head, h.tail.tail.tail.head, h.tail.tail.tail.tail.head⟩
theorem Hold.get6 (h : Hold w W [(p0, v0), (p1, v1), (p2, v2), (p3, v3), (p4, v4), (p5, v5)]) : W.cell? p0 = some v0 ∧ W.cell? p1 = some v1 ∧ W.cell? p2 = some v2 ∧ W.cell? p3 = some v3 ∧ W.cell? p4 = some v4 ∧ W.cell? p5 = some v5 := ⟨h.head, h.tail.head, h.tail.tail.head, h.tail.tail.tail.head, h.tail.tail.tail.tail.head, h.tail.tail.tail.tail.tail.head⟩
theorem Hold.get7 (h : Hold w W [(p0, v0), (p1, v1), (p2, v2), (p3, v3), (p4, v4), (p5, v5), (p6, v6)]) : W.cell? p0 = some v0 ∧ W.cell? p1 = some v1 ∧ W.cell? p2 = some v2 ∧ W.cell? p3 = some v3 ∧ W.cell? p4 = some v4 ∧ W.cell? p5 = some v5 ∧ W.cell? p6 = some v6 := ⟨h.head, h.tail.head, h.tail.tail.head, h.tail.tail.tail.head, h.tail.tail.tail.tail.head, h.tail.tail.tail.tail.tail.head, h.tail.tail.tail.tail.tail.tail.head⟩
theorem Hold.get8 (h : Hold w W [(p0, v0), (p1, v1), (p2, v2), (p3, v3), (p4, v4), (p5, v5), (p6, v6), (p7, v7)]) : W.cell? p0 = some v0 ∧ W.cell? p1 = some v1 ∧ W.cell? p2 = some v2 ∧ W.cell? p3 = some v3 ∧ W.cell? p4 = some v4 ∧ W.cell? p5 = some v5 ∧ W.cell? p6 = some v6 ∧ W.cell? p7 = some v7 := ⟨h.head, h.tail.head, h.tail.tail.head, h.tail.tail.tail.head, h.tail.tail.tail.tail.head, h.tail.tail.tail.tail.tail.head, h.tail.tail.tail.tail.tail.tail.head, h.tail.tail.tail.tail.tail.tail.tail.head⟩
theorem Hold.get9 (h : Hold w W [(p0, v0), (p1, v1), (p2, v2), (p3, v3), (p4, v4), (p5, v5), (p6, v6), (p7, v7), (p8, v8)]) : W.cell? p0 = some v0 ∧ W.cell? p1 = some v1 ∧ W.cell? p2 = some v2 ∧ W.cell? p3 = some v3 ∧ W.cell? p4 = some v4 ∧ W.cell? p5 = some v5 ∧ W.cell? p6 = some v6 ∧ W.cell? p7 = some v7 ∧ W.cell? p8 = some v8 := ⟨h.head, h.tail.head, h.tail.tail.head, h.tail.tail.tail.head, h.tail.tail.tail.tail.head, h.tail.tail.tail.tail.tail.head, h.tail.tail.tail.tail.tail.tail.head, h.tail.tail.tail.tail.tail.tail.tail.head, h.tail.tail.tail.tail.tail.tail.tail.tail.head⟩
theorem Hold.get10 (h : Hold w W [(p0, v0), (p1, v1), (p2, v2), (p3, v3), (p4, v4), (p5, v5), (p6, v6), (p7, v7), (p8, v8), (p9, v9)]) : W.cell? p0 = some v0 ∧ W.cell? p1 = some v1 ∧ W.cell? p2 = some v2 ∧ W.cell? p3 = some v3 ∧ W.cell? p4 = some v4 ∧ W.cell? p5 = some v5 ∧ W.cell? p6 = some v6 ∧ W.cell? p7 = some v7 ∧ W.cell? p8 = some v8 ∧ W.cell? p9 = some v9 := ⟨h.head, h.tail.head, h.tail.tail.head, h.tail.tail.tail.head, h.tail.tail.tail.tail.head, h.tail.tail.tail.tail.tail.head, h.tail.tail.tail.tail.tail.tail.head, h.tail.tail.tail.tail.tail.tail.tail.head, h.tail.tail.tail.tail.tail.tail.tail.tail.head, h.tail.tail.tail.tail.tail.tail.tail.tail.tail.head⟩
end
end Go.Proofs.YtnnppdjgmjgjhaaDoor
