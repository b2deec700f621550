/- A pair of integers that came in. -/
import Derived.Test.YtjmjhjckdcniiaaInts
import Derived.Laws.IdiomArrays
import Derived.WideKeyArr2
import Derived.OpenShut
namespace Go.Proofs.Ytjmjhjckdcniiaa.Mem
open Go.RowKit
open Go.ChangeShapes Go.WideShapes
section
variable {H : Type} {enc : TypeId × Value → H} {P : Program} {w : World} {base : Nat} {spare : Nat → Bool} {held : Bool}
theorem open_two {r : Reach} {b0 : Nat} {t e : TypeId} {v : Value} {d : DataW H} {p : List MemPlace} (ht : P.underlying t = some (.array 2 e)) (he : P.underlying e = some (.int .i64)) (hC : P.cellsOf t = 2) (hc : P.cellsOf e = 1)
    (hv : Value.okWide P w r b0 t v) (h : DataW.Trod enc P w base spare held t v d p) :
    ∃ x0 x1 : Int, v = .agg #[.int .i64 x0, .int .i64 x1] := by
  have hv' := hv
  simp only [Value.okWide, ht] at hv'
  obtain ⟨cs, rfl, hsz, _⟩ := hv'
  rw [hC] at hsz
  obtain ⟨fuel, hf⟩ := h
  match cs, hsz with
  | ⟨[c0, c1]⟩, _ =>
    obtain ⟨xs, m, _, _, _, hxl, hi⟩ := DataW.trod_array ht hf
    match xs, hxl with
    | [y0, y1], _ =>
    have h0 : DataW.trod enc P w base spare held m e [c0] = some y0 := by have := hi 0 (by omega); rw [hc] at this; simpa [Value.cells] using this
    have h1 : DataW.trod enc P w base spare held m e [c1] = some y1 := by have := hi 1 (by omega); rw [hc] at this; simpa [Value.cells] using this
    obtain ⟨a0, e0, _, w0⟩ := DataW.trod_int he h0
    obtain ⟨a1, e1, _, w1⟩ := DataW.trod_int he h1
    simp only [List.cons.injEq, and_true] at e0 e1
    subst e0 e1
    exact ⟨a0, a1, rfl⟩
end
end Go.Proofs.Ytjmjhjckdcniiaa.Mem
