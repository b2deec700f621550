/- Go's == on slots, and the walk of Same. -/
import Derived.Test.YtcpkngkeechjeaaSlabAt
import Derived.Laws.StructEq
namespace Go.Proofs.Ytcpkngkeechjeaa.Slab
set_option maxRecDepth 100000
open Go.RowKit Go.Sort

def sameB (x y : Slot) : Bool := (x.u == y.u) && (x.d.toList == y.d.toList)
theorem str_inj {a b : ByteArray} (h : a.data.toList = b.data.toList) : a = b := ByteArray.ext (Array.toList_inj.1 h)
theorem list_inj {a b : ByteArray} (h : a.toList = b.toList) : a = b := by
  rw [ByteArray.toList_eq, ByteArray.toList_eq] at h; exact str_inj h
theorem sameB_iff (x y : Slot) : sameB x y = true ↔ x = y := by
  obtain ⟨u, d⟩ := x
  obtain ⟨v, e⟩ := y
  simp only [sameB, Bool.and_eq_true, beq_iff_eq, Slot.mk.injEq]
  exact ⟨fun ⟨h1, h2⟩ => ⟨h1, list_inj h2⟩, fun ⟨h1, h2⟩ => ⟨h1, by rw [h2]⟩⟩
theorem sameB_not {x y : Slot} (h : ¬ x = y) : sameB x y = false := by
  cases hs : sameB x y with
  | true => exact absurd ((sameB_iff x y).1 hs) h
  | false => rfl
theorem sameB_refl (x : Slot) : sameB x x = true := (sameB_iff x x).2 rfl
theorem run_eq_slot (u v : Bool) (d e : ByteArray) (w : World) : (binOp .eql 29 (.agg #[.bool u, .string d]) (.agg #[.bool v, .string e])).run Try.prog w = .ok (.bool (sameB ⟨u, d⟩ ⟨v, e⟩)) w := by
  have u3 := Try.underlying4
  have u9 := Try.underlying9
  have a3 := Try.isAgg4
  have z3 := Try.sizeOf4
  have a9 := Try.isAgg9
  have z9 := Try.sizeOf9
  have hS : Try.prog.underlying 29 = some (.struct (Try.prog.fieldsOf 29)) := by kernel_rfl
  have hp : Try.prog.stoodInHeld 29 = false := by kernel_rfl
  rw [run_eql_struct, show (10000 : Nat) = 9999 + 1 from rfl, run_equalIn_agg w 9999 29 _ _ hS hp]
  simp only [Program.fieldsOf, Try.underlying29]
  go_simp
  unfold sameB
  by_cases hde : d.toList = e.toList <;> cases u <;> cases v <;> simp [hde]
theorem run_ne_slot (u v : Bool) (d e : ByteArray) (w : World) : (binOp .neq 29 (.agg #[.bool u, .string d]) (.agg #[.bool v, .string e])).run Try.prog w = .ok (.bool (!sameB ⟨u, d⟩ ⟨v, e⟩)) w := by
  have h := run_eq_slot u v d e w
  simp only [binOp] at h ⊢
  simp only [Sem.run_bind] at h ⊢
  generalize (Op.equal 29 (.agg #[.bool u, .string d]) (.agg #[.bool v, .string e])).run Try.prog w = r at h ⊢
  cases r with
  | ok b w1 => simp at h ⊢; obtain ⟨rfl, rfl⟩ := h; exact ⟨rfl, rfl⟩
  | halt x w1 => simp at h
theorem run_guard_slot (op : BinOp) (A B : Operand) (xs ys : Array Value) (w : World) : (eqGuard op 29 A B (.agg xs) (.agg ys)).run Try.prog w = .ok () w := run_eqGuard_agg w op 29 A B xs ys (by kernel_rfl)

theorem two_cells (w : World) (x y x' y' : Value) (T T' : TypeId) :
    ((w.alloc (.cells #[x, y] T)).alloc (.cells #[x', y'] T')).cell? ⟨w.heap.size, 0, none⟩ = some x ∧ ((w.alloc (.cells #[x, y] T)).alloc (.cells #[x', y'] T')).cell? ⟨w.heap.size, 1, none⟩ = some y ∧
    ((w.alloc (.cells #[x, y] T)).alloc (.cells #[x', y'] T')).cell? ⟨w.heap.size + 1, 0, none⟩ = some x' ∧ ((w.alloc (.cells #[x, y] T)).alloc (.cells #[x', y'] T')).cell? ⟨w.heap.size + 1, 1, none⟩ = some y' := by
  have h1 := page_cells w x y T
  have h2 := page_cells (w.alloc (.cells #[x, y] T)) x' y' T'
  rw [World.size_alloc] at h2
  exact ⟨by rw [World.cell?_alloc_lt _ _ _ (by simp)]; exact h1.1, by rw [World.cell?_alloc_lt _ _ _ (by simp)]; exact h1.2, h2.1, h2.2⟩
end Go.Proofs.Ytcpkngkeechjeaa.Slab
