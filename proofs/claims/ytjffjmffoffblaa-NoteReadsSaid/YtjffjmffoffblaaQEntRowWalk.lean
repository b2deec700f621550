/- The walk of the statement EntryRow. -/
import Derived.Test.YtjffjmffoffblaaQEntLaws
import Derived.Test.YtjffjmffoffblaaQOpenBook
import Derived.Test.YtjffjmffoffblaaQSlabBookC
namespace Go.Proofs.Ytjffjmffoffblaa.Ent
set_option maxRecDepth 100000
open Go.RowKit Go.Joins Go.ChangeShapes Go.WideShapes Go.Deep Go.Sort
open Go.Proofs.Ytjffjmffoffblaa.Slab (Blk ret_int' ret_bool' weights_all_mem own_below)
open Go.Proofs.Ytjffjmffoffblaa.Nib (below_next below_drew)
theorem ents_of_own {w : World} {base : Nat} {t : TypeId} {v : Value} {z : List Ent} (h : w.ownsRow base t 13 v z.length (cellsE z)) :
    ∃ a c, v = .slice a z.length c ∧ (0 < z.length → ∃ g, a = some ⟨g, 0, none⟩ ∧ g < w.heap.size ∧ ∀ i x, z[i]? = some x → EntAt w g (i * 13) x) := by
  obtain ⟨hl, ⟨rfl, h0⟩ | ⟨g, cap, cur, rfl, hg, hb, hn, hc, hcs, ht⟩⟩ := h
  · exact ⟨none, 0, by rw [h0], fun h => absurd h (by omega)⟩
  · refine ⟨_, cap, rfl, fun _ => ⟨g, rfl, (Array.getElem?_eq_some_iff.1 hb).1, fun i x hx j v hv => ?_⟩⟩
    have h1 := cellsE_get hx j v hv
    have : w.cell? ⟨g, i * 13 + j, none⟩ = cur[i * 13 + j]? := by simp [World.cell?, hb]
    rw [this]
    rw [← ht] at h1
    have hlt := (List.getElem?_eq_some_iff.1 h1).1
    rw [List.length_take] at hlt
    rw [List.getElem?_take_of_lt (by omega)] at h1
    simpa using h1
theorem infoE : (Try.prog.info? 56).map (fun i => (i.zero, i.size, i.bytes)) = some (some (.agg #[.int .i64 0, .int .i64 0, .int .i64 0, .int .i64 0, .int .i64 0, .int .i64 0, .int .i64 0, .int .i64 0, .bool false, .string ⟨#[]⟩, .bool false, .string ⟨#[]⟩, .int .i64 0]), 13, 120) := by kernel_rfl

end Go.Proofs.Ytjffjmffoffblaa.Ent
