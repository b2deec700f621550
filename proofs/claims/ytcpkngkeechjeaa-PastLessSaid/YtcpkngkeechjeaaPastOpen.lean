/- A name that came in, opened. -/
import Derived.Test.YtcpkngkeechjeaaPastTxnRow
import Derived.Test.YtcpkngkeechjeaaPastMapT
namespace Go.Proofs.Ytcpkngkeechjeaa.Past
set_option maxRecDepth 100000
open Go.ChangeShapes Go.WideShapes
theorem open_name {H : Type} {enc : TypeId × Value → H} {w : World} {base : Nat} {spare : Nat → Bool} {held : Bool} {r : Reach} {b0 : Nat} {v : Value} {d : DataW H} {p : List MemPlace} (hv : Value.okWide Try.prog w r b0 24 v) (h : DataW.Trod enc Try.prog w base spare held 24 v d p) (hw : ∀ n ∈ d.weights Try.prog 24, n ≤ reachBytes) :
    ∃ x : T3, v = .agg #[.int .i64 x.cl, .int .i64 x.ep, .int .i64 x.n] ∧ SmT x := by
  obtain ⟨fuel, hf⟩ := h
  obtain ⟨cs, rfl, _⟩ := okWide_struct Try.underlying24 hv
  obtain ⟨e, he, hs⟩ := PTx.open_tn_cells (x := (d, p)) (by simpa [Value.cells] using hf) hw
  refine ⟨⟨e.cl, e.ep, e.n⟩, ?_, ?_⟩
  · have : cs = #[.int .i64 e.cl, .int .i64 e.ep, .int .i64 e.n] := Array.toList_inj.1 he
    rw [this]
  · obtain ⟨s1, s2, s3, s4, s5, s6⟩ := hs
    exact ⟨smI_of ⟨s1, s2⟩, smI_of ⟨s3, s4⟩, smI_of ⟨s5, s6⟩⟩
end Go.Proofs.Ytcpkngkeechjeaa.Past
