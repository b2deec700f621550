/- A view handed back. -/
import Derived.Test.YtcpkngkeechjeaaPastView
namespace Go.Proofs.Ytcpkngkeechjeaa.Past
set_option maxRecDepth 100000
open Go.RowKit
/-- a view handed back, its rows in new memory -/
def ViewRes (V : Vw) (w : World) (e : Ending) (w' : World) : Prop :=
  ∃ sl dn pg, e = .returned (.agg #[sl, dn, pg]) ∧ Rows3 w' w.heap.size sl dn pg V ∧ Below w.heap.size w w'
section
variable {wr : World} {B : Nat} {sl dn pg : Value} {V : Vw}
/-- a thing of each row -/
theorem Rows3.loser (h : Rows3 wr B sl dn pg V) {i : Nat} {y : T3 × Int} (hi : V.los[i]? = some y) :
    ∃ g c, sl = .slice (some ⟨g, 0, none⟩) V.los.length c ∧ g < wr.heap.size ∧ i < V.los.length ∧ wr.cell? ⟨g, i * 4, none⟩ = some (.int .i64 y.1.cl) ∧ wr.cell? ⟨g, i * 4 + 1, none⟩ = some (.int .i64 y.1.ep) ∧ wr.cell? ⟨g, i * 4 + 2, none⟩ = some (.int .i64 y.1.n) ∧ wr.cell? ⟨g, i * 4 + 3, none⟩ = some (.int .i64 y.2) := by
  obtain ⟨g, c, e, -, hg, hl, hc⟩ := own_at (f := loV) (m := 4) (fun _ => rfl) h.lo hi
  exact ⟨g, c, e, hg, hl, hc 0 _ (by decide) rfl, hc 1 _ (by decide) rfl, hc 2 _ (by decide) rfl, hc 3 _ (by decide) rfl⟩
theorem Rows3.done (h : Rows3 wr B sl dn pg V) {i : Nat} {y : T3} (hi : V.dn[i]? = some y) :
    ∃ g c, dn = .slice (some ⟨g, 0, none⟩) V.dn.length c ∧ g < wr.heap.size ∧ i < V.dn.length ∧ wr.cell? ⟨g, i * 3, none⟩ = some (.int .i64 y.cl) ∧ wr.cell? ⟨g, i * 3 + 1, none⟩ = some (.int .i64 y.ep) ∧ wr.cell? ⟨g, i * 3 + 2, none⟩ = some (.int .i64 y.n) := by
  obtain ⟨g, c, e, -, hg, hl, hc⟩ := own_at (f := txV) (m := 3) (fun _ => rfl) h.tx hi
  exact ⟨g, c, e, hg, hl, hc 0 _ (by decide) rfl, hc 1 _ (by decide) rfl, hc 2 _ (by decide) rfl⟩
theorem Rows3.page (h : Rows3 wr B sl dn pg V) {i : Nat} {y : Int × Int} (hi : V.pg[i]? = some y) :
    ∃ g c, pg = .slice (some ⟨g, 0, none⟩) V.pg.length c ∧ g < wr.heap.size ∧ i < V.pg.length ∧ wr.cell? ⟨g, i * 2, none⟩ = some (.int .i64 y.1) ∧ wr.cell? ⟨g, i * 2 + 1, none⟩ = some (.int .i64 y.2) := by
  obtain ⟨g, c, e, -, hg, hl, hc⟩ := own_at (f := fiV) (m := 2) (fun _ => rfl) h.fi hi
  exact ⟨g, c, e, hg, hl, hc 0 _ (by decide) rfl, hc 1 _ (by decide) rfl⟩
end
end Go.Proofs.Ytcpkngkeechjeaa.Past
