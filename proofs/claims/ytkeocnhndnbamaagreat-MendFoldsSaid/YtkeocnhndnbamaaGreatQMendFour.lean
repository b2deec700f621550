/- Four integers that came in. -/
import Derived.Test.YtkeocnhndnbamaaGreatRows
import Derived.Laws.IdiomArrays
import Derived.WideKeyArr2
import Derived.OpenShut
namespace Go.Proofs.YtkeocnhndnbamaaGreat.Mend
set_option maxRecDepth 100000
open Go.RowKit
open Go.ChangeShapes Go.WideShapes
section
variable {H : Type} {enc : TypeId × Value → H} {P : Program} {w : World} {base : Nat} {spare : Nat → Bool} {held : Bool}
theorem open_four {r : Reach} {b0 : Nat} {t e : TypeId} {v : Value} {d : DataW H} {p : List MemPlace} (ht : P.underlying t = some (.array 4 e)) (he : P.underlying e = some (.int .i64)) (hC : P.cellsOf t = 4) (hc : P.cellsOf e = 1)
    (hv : Value.okWide P w r b0 t v) (h : DataW.Trod enc P w base spare held t v d p) :
    ∃ x0 x1 x2 x3 : Int, v = .agg #[.int .i64 x0, .int .i64 x1, .int .i64 x2, .int .i64 x3] := by
  have hv' := hv
  simp only [Value.okWide, ht] at hv'
  obtain ⟨cs, rfl, hsz, _⟩ := hv'
  rw [hC] at hsz
  obtain ⟨fuel, hf⟩ := h
  match cs, hsz with
  | ⟨[c0, c1, c2, c3]⟩, _ =>
    obtain ⟨xs, m, _, _, _, hxl, hi⟩ := DataW.trod_array ht hf
    match xs, hxl with
    | [y0, y1, y2, y3], _ =>
    have h0 : DataW.trod enc P w base spare held m e [c0] = some y0 := by have := hi 0 (by omega); rw [hc] at this; simpa [Value.cells] using this
    have h1 : DataW.trod enc P w base spare held m e [c1] = some y1 := by have := hi 1 (by omega); rw [hc] at this; simpa [Value.cells] using this
    have h2 : DataW.trod enc P w base spare held m e [c2] = some y2 := by have := hi 2 (by omega); rw [hc] at this; simpa [Value.cells] using this
    have h3 : DataW.trod enc P w base spare held m e [c3] = some y3 := by have := hi 3 (by omega); rw [hc] at this; simpa [Value.cells] using this
    obtain ⟨a0, e0, _, _⟩ := DataW.trod_int he h0
    obtain ⟨a1, e1, _, _⟩ := DataW.trod_int he h1
    obtain ⟨a2, e2, _, _⟩ := DataW.trod_int he h2
    obtain ⟨a3, e3, _, _⟩ := DataW.trod_int he h3
    simp only [List.cons.injEq, and_true] at e0 e1 e2 e3
    subst e0 e1 e2 e3
    exact ⟨a0, a1, a2, a3, rfl⟩
end
end Go.Proofs.YtkeocnhndnbamaaGreat.Mend
