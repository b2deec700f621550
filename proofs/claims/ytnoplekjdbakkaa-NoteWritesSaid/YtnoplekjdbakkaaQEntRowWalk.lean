/- The walk of the statement EntryRow. -/
import Derived.Test.YtnoplekjdbakkaaQEntLaws
import Derived.Test.YtnoplekjdbakkaaQOpenBook
import Derived.Test.YtnoplekjdbakkaaQSlabBookC
namespace Go.Proofs.Ytnoplekjdbakkaa.Ent
set_option maxRecDepth 100000
open Go.RowKit Go.Joins Go.ChangeShapes Go.WideShapes Go.Deep Go.Sort
open Go.Proofs.Ytnoplekjdbakkaa.Slab (Blk ret_int' ret_bool' weights_all_mem own_below)
open Go.Proofs.Ytnoplekjdbakkaa.Nib (below_next below_drew)
theorem ents_of_own {w : World} {base : Nat} {t : TypeId} {v : Value} {z : List Ent} (h : w.ownsRow base t 13 v z.length (cellsE z)) :
    ∃ a c, v = .slice a z.length c ∧ (0 < z.length → ∃ g, a = some ⟨g, 0, none⟩ ∧ g < w.heap.size ∧ ∀ i x, z[i]? = some x → EntAt w g (i * 13) x) := by
  obtain ⟨hl, ⟨rfl, h0⟩ | ⟨g, cap, cur, rfl, hg, hb, hn, hc, hcs, ht⟩⟩ := h
  · exact ⟨none, 0, by rw [h0], fun h => absurd h (by omega)⟩
  · refine ⟨_, cap, rfl, fun _ => ⟨g, rfl, (Array.getElem?_eq_some_iff.1 hb).1, fun i x hx j v hv => ?_⟩⟩
    have h1 := cellsE_get hx j v hv
    have : w.cell? ⟨g, i * 13 + j, none⟩ = cur[i * 13 + j]? := by simp [World.cell?, hb]
    rw [this]
    rw [← ht] at h1
    have hlt := (List.getElem?_eq_some_iff.1 h1).1
    rw [List.length_take] at hlt
    rw [List.getElem?_take_of_lt (by omega)] at h1
    simpa using h1
/-- the bytes of good entries in a row -/
def rowL (l : List Ent) : List UInt8 := l.flatMap rawL
theorem rowL_snoc (z : List Ent) (x : Ent) : rowL z ++ rawL x = rowL (z ++ [x]) := by simp [rowL]
theorem rowL_len {l : List Ent} (h : ∀ x ∈ l, goodB x = true) : (rowL l).length ≤ 464 * l.length := by
  induction l with
  | nil => simp [rowL]
  | cons x r ih =>
    have h1 := (raw_len (h x List.mem_cons_self)).2
    have h2 := ih (fun y hy => h y (List.mem_cons_of_mem _ hy))
    simp only [rowL, List.flatMap_cons, List.length_append, List.length_cons] at h2 ⊢
    omega
theorem filt_next {zs : List Ent} {k : Nat} {x : Ent} (h : zs[k]? = some x) : (zs.take (k + 1)).filter goodB = (zs.take k).filter goodB ++ (if goodB x then [x] else []) := by
  obtain ⟨hl, rfl⟩ := List.getElem?_eq_some_iff.1 h
  rw [List.take_succ_eq_append_getElem hl, List.filter_append]
  congr 1
  cases hg : goodB zs[k] with
  | true => simp [hg]
  | false => simp [hg]
theorem filt_all {zs : List Ent} {G : List Ent} {k : Nat} (h : G = (zs.take k).filter goodB) : (∀ x ∈ G, goodB x = true) ∧ G.length ≤ k := by
  subst h
  refine ⟨fun x hx => (List.mem_filter.1 hx).2, ?_⟩
  exact Nat.le_trans (List.length_filter_le _ _) (List.length_take_le _ _)
theorem infoE : (Try.prog.info? 49).map (fun i => (i.zero, i.size, i.bytes)) = some (some (.agg #[.int .i64 0, .int .i64 0, .int .i64 0, .int .i64 0, .int .i64 0, .int .i64 0, .int .i64 0, .int .i64 0, .bool false, .string ⟨#[]⟩, .bool false, .string ⟨#[]⟩, .int .i64 0]), 13, 120) := by kernel_rfl

end Go.Proofs.Ytnoplekjdbakkaa.Ent
