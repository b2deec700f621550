/- A new array of 32 slots: made, laid, stored, with no unrolling. -/
import Derived.Test.YtnhdeebhkiemgaaSlabPutMath
import Derived.Deep.WholeRow
import Derived.OwnWalk
namespace Go.Proofs.Ytnhdeebhkiemgaa.Slab
open Go.RowKit Go.Sort

@[irreducible] def zarr : Array Value := (cellsOf (List.replicate 32 nos)).toArray
theorem zarr_eq : zarr = (cellsOf (List.replicate 32 nos)).toArray := by unfold zarr; rfl
theorem zarr_size : zarr.size = 64 := by rw [zarr_eq]; rfl
theorem zarr_one : zarr.all (·.oneCell') = true := by
  rw [zarr_eq]
  exact Array.all_eq_true_iff_forall_mem.2 fun v hv => cellsOf_one _ v (by simpa using hv)
theorem info_arr0 : (Try.prog.info? 50).map (fun i => (i.zero, i.size)) = some (some (.agg (cellsOf (List.replicate 32 nos)).toArray), 64) := by kernel_rfl
theorem info_arr : (Try.prog.info? 50).map (fun i => (i.zero, i.size)) = some (some (.agg zarr), 64) := by rw [zarr_eq]; exact info_arr0
variable {ops : Array Oper} {rest : List Oper} {o : Oper} {a : Act} {w : World} {Q : Exit → Act → World → Prop}
theorem big_build (hg : o.guard = none) (ho : o.op = .build 50 #[]) (h : wpList Try.prog ops Q rest (a.put o.dst (.agg zarr)) w) : wpList Try.prog ops Q (o :: rest) a w :=
  wpList_plain hg fun _ hK => by
    unfold Oper.wp execOp
    have hz := (zero_of_info info_arr).1 w
    have hs : (sizeOf 36).run Try.prog w = .ok 2 w := Try.sizeOf36 w
    have hu := run_underlying Try.underlying50 w
    simp only [ho, Instr.build, Sem.run_bind, Sem.run_pure, hz, hu, hs, Result.andThen_ok, Array.map_empty, Instr.fill, Value.cells]
    exact hK _ _ h
theorem big_alloc (hg : o.guard = none) (ho : o.op = .alloc 50) (h : wpList Try.prog ops Q rest (a.put o.dst (.pointer (some ⟨w.heap.size, 0, none⟩))) (w.alloc (.cells zarr 50))) : wpList Try.prog ops Q (o :: rest) a w :=
  wpList_plain hg fun _ hK => by
    unfold Oper.wp execOp
    have hz := (zero_of_info info_arr).1 w
    simp only [ho, Instr.alloc, Sem.run_bind, Sem.run_pure, hz, Result.andThen_ok, newVar]
    exact hK _ _ h
theorem big_store (hg : o.guard = none) (x y : Operand) (ho : o.op = .store 50 x y) (W : World) (hw : w = W.alloc (.cells zarr 50)) (hx : a.eval x = .pointer (some ⟨W.heap.size, 0, none⟩)) (hy : a.eval y = .agg zarr)
    (h : wpList Try.prog ops Q rest (a.put o.dst undef) w) : wpList Try.prog ops Q (o :: rest) a w :=
  wpList_plain hg fun _ hK => by
    subst hw
    unfold Oper.wp execOp
    simp only [ho, hx, hy, run_storeAt_new W 50 zarr zarr (by rw [zarr_size]; exact (zero_of_info info_arr).2) rfl zarr_one, Sem.run_bind, Sem.run_pure, Result.andThen_ok]
    exact hK _ _ h
end Go.Proofs.Ytnhdeebhkiemgaa.Slab
