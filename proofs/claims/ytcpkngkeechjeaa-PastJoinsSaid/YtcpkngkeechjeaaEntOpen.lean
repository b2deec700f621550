/- Entries that came in, opened. -/
import Derived.Test.YtcpkngkeechjeaaEntMath
import Derived.Test.YtcpkngkeechjeaaSlabOpen
namespace Go.Proofs.Ytcpkngkeechjeaa.Ent
set_option maxRecDepth 100000
open Go.RowKit Go.Joins Go.ChangeShapes Go.WideShapes Go.Deep
open Go.Proofs.Ytcpkngkeechjeaa.Slab (open_slot_cells weights_all_mem)
/-- slots as small as memory can hold -/
def SmallE (x : Ent) : Prop := x.wd.size ≤ 140737488351232 ∧ x.id.size ≤ 140737488351232
theorem list13 {α : Type} {l : List α} (h : l.length = 13) : ∃ a b c d e f g i j k m n o, l = [a, b, c, d, e, f, g, i, j, k, m, n, o] := by
  match l, h with
  | [a, b, c, d, e, f, g, i, j, k, m, n, o], _ => exact ⟨_, _, _, _, _, _, _, _, _, _, _, _, _, rfl⟩
theorem list9 {α : Type} {l : List α} (h : l.length = 9) : ∃ a b c d e f g i j, l = [a, b, c, d, e, f, g, i, j] := by
  match l, h with
  | [a, b, c, d, e, f, g, i, j], _ => exact ⟨_, _, _, _, _, _, _, _, _, rfl⟩
theorem list3 {α : Type} {l : List α} (h : l.length = 3) : ∃ a b c, l = [a, b, c] := by
  match l, h with
  | [a, b, c], _ => exact ⟨_, _, _, rfl⟩
section
variable {H : Type} {enc : TypeId × Value → H} {w : World} {base : Nat} {spare : Nat → Bool} {held : Bool}
set_option maxRecDepth 100000 in
theorem open_txn_cells {fuel : Nat} {cs : List Value} {x : DataW H × List MemPlace} (h : DataW.trod enc Try.prog w base spare held fuel 24 cs = some x) :
    ∃ a b c : Int, cs = [.int .i64 a, .int .i64 b, .int .i64 c] := by
  obtain ⟨xs, n, _, hx, hcl, hxl, hf⟩ := DataW.trod_struct Try.underlying24 h
  obtain ⟨c0, c1, c2, rfl⟩ := list3 (hcl.trans (by kernel_rfl))
  obtain ⟨y0, y1, y2, rfl⟩ := list3 hxl
  have h0 := hf 0 _ rfl
  have h1 := hf 1 _ rfl
  have h2 := hf 2 _ rfl
  have k0 : Try.prog.cellsOf 3 = 1 := by kernel_rfl
  simp only [List.getElem_toArray, List.getElem_cons_zero, List.getElem_cons_succ, k0, List.drop_zero, List.take_succ_cons, List.take_zero, List.drop_succ_cons] at h0 h1 h2
  obtain ⟨a, e0, _, _⟩ := DataW.trod_int Try.underlying3 h0
  obtain ⟨b, e1, _, _⟩ := DataW.trod_int Try.underlying3 h1
  obtain ⟨c, e2, _, _⟩ := DataW.trod_int Try.underlying3 h2
  simp only [List.cons.injEq, and_true] at e0 e1 e2
  exact ⟨a, b, c, by rw [e0, e1, e2]⟩
set_option maxRecDepth 100000 in
theorem open_ent_cells {fuel : Nat} {cs : List Value} {x : DataW H × List MemPlace} (h : DataW.trod enc Try.prog w base spare held fuel 31 cs = some x) (hw : ∀ n ∈ x.1.weights Try.prog 31, n ≤ reachBytes) :
    ∃ e : Ent, cs = (#[.int .i64 e.kind, .int .i64 e.cl, .int .i64 e.ep, .int .i64 e.n, .int .i64 e.lsn, .int .i64 e.prev, .int .i64 e.page, .int .i64 e.slot, .bool e.wu, .string e.wd, .bool e.iu, .string e.id, .int .i64 e.next]).toList ∧ SmallE e := by
  obtain ⟨xs, n, _, hx, hcl, hxl, hf⟩ := DataW.trod_struct Try.underlying31 h
  obtain ⟨c0, c1, c2, c3, c4, c5, c6, c7, c8, c9, c10, c11, c12, rfl⟩ := list13 (hcl.trans (by kernel_rfl))
  obtain ⟨y0, y1, y2, y3, y4, y5, y6, y7, y8, rfl⟩ := list9 hxl
  have h0 := hf 0 _ rfl
  have h1 := hf 1 _ rfl
  have h2 := hf 2 _ rfl
  have h3 := hf 3 _ rfl
  have h4 := hf 4 _ rfl
  have h5 := hf 5 _ rfl
  have h6 := hf 6 _ rfl
  have h7 := hf 7 _ rfl
  have h8 := hf 8 _ rfl
  have k0 : Try.prog.cellsOf 3 = 1 := by kernel_rfl
  have k1 : Try.prog.cellsOf 29 = 2 := by kernel_rfl
  have k2 : Try.prog.cellsOf 24 = 3 := by kernel_rfl
  simp only [List.getElem_toArray, List.getElem_cons_zero, List.getElem_cons_succ, k0, k1, k2, List.drop_zero, List.take_succ_cons, List.take_zero, List.drop_succ_cons] at h0 h1 h2 h3 h4 h5 h6 h7 h8
  obtain ⟨a0, e0, _, _⟩ := DataW.trod_int Try.underlying3 h0
  obtain ⟨t0, t1, t2, e1⟩ := open_txn_cells h1
  obtain ⟨a2, e2, _, _⟩ := DataW.trod_int Try.underlying3 h2
  obtain ⟨a3, e3, _, _⟩ := DataW.trod_int Try.underlying3 h3
  obtain ⟨a4, e4, _, _⟩ := DataW.trod_int Try.underlying3 h4
  obtain ⟨a5, e5, _, _⟩ := DataW.trod_int Try.underlying3 h5
  obtain ⟨a8, e8, _, _⟩ := DataW.trod_int Try.underlying3 h8
  obtain ⟨s6, e6, z6⟩ := open_slot_cells h6 (fun n hn => hw n (by
    rw [hx]
    simp only [DataW.weights, Try.underlying31]
    exact DataW.weights_mem_each (j := 6) (t := 29) (d := y6.1) rfl rfl n hn))
  obtain ⟨s7, e7, z7⟩ := open_slot_cells h7 (fun n hn => hw n (by
    rw [hx]
    simp only [DataW.weights, Try.underlying31]
    exact DataW.weights_mem_each (j := 7) (t := 29) (d := y7.1) rfl rfl n hn))
  simp only [List.cons.injEq, and_true] at e0 e1 e2 e3 e4 e5 e6 e7 e8
  obtain ⟨q0, q1, q2⟩ := e1
  obtain ⟨q3, q4⟩ := e6
  obtain ⟨q5, q6⟩ := e7
  refine ⟨⟨a0, t0, t1, t2, a2, a3, a4, a5, s6.u, s6.d, s7.u, s7.d, a8⟩, ?_, z6, z7⟩
  rw [e0, q0, q1, q2, e2, e3, e4, e5, q3, q4, q5, q6, e8]
set_option maxRecDepth 100000 in
theorem open_ent {r : Reach} {b0 : Nat} {v : Value} {d : DataW H} {p : List MemPlace} (hv : Value.okWide Try.prog w r b0 31 v) (h : DataW.Trod enc Try.prog w base spare held 31 v d p) (hw : ∀ n ∈ d.weights Try.prog 31, n ≤ reachBytes) :
    ∃ x : Ent, v = .agg #[.int .i64 x.kind, .int .i64 x.cl, .int .i64 x.ep, .int .i64 x.n, .int .i64 x.lsn, .int .i64 x.prev, .int .i64 x.page, .int .i64 x.slot, .bool x.wu, .string x.wd, .bool x.iu, .string x.id, .int .i64 x.next] ∧ SmallE x := by
  obtain ⟨fuel, hf⟩ := h
  obtain ⟨cs, rfl, _⟩ := okWide_struct Try.underlying31 hv
  obtain ⟨e, he, hs⟩ := open_ent_cells (x := (d, p)) (by simpa [Value.cells] using hf) hw
  refine ⟨e, ?_, hs⟩
  have : cs = #[.int .i64 e.kind, .int .i64 e.cl, .int .i64 e.ep, .int .i64 e.n, .int .i64 e.lsn, .int .i64 e.prev, .int .i64 e.page, .int .i64 e.slot, .bool e.wu, .string e.wd, .bool e.iu, .string e.id, .int .i64 e.next] := Array.toList_inj.1 he
  rw [this]
end
end Go.Proofs.Ytcpkngkeechjeaa.Ent
