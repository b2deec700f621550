/- Slots, pages and places that came in, opened. Entries that came in, opened. Entries in a row that came in, opened. -/
import Derived.Test.YtnoplekjdbakkaaQSlabBookA
import Derived.Lib.SmallJoins
import Derived.SizedLaws
import Derived.OpenShut
import Derived.Test.YtnoplekjdbakkaaQEntMath
import Derived.Test.YtnoplekjdbakkaaQEntA
namespace Go.Proofs.Ytnoplekjdbakkaa.Slab
set_option maxRecDepth 100000
open Go.RowKit Go.Joins Go.ChangeShapes Go.WideShapes Go.Deep
instance : Inhabited Slot := ⟨nos⟩
section
variable {H : Type} {enc : TypeId × Value → H} {w : World} {base : Nat} {spare : Nat → Bool} {held : Bool}
theorem weights_all_mem {P : Program} {e : TypeId} {d : DataW H} : ∀ {ds : List (DataW H)}, d ∈ ds → ∀ n ∈ d.weights P e, n ∈ DataW.weightsAll P e ds
  | x :: r, h, n, hn => by
    simp only [DataW.weightsAll, List.mem_append]
    rcases List.mem_cons.1 h with rfl | h
    · exact .inl hn
    · exact .inr (weights_all_mem h n hn)
/-- the cells of a slot, read -/
theorem open_slot_cells {fuel : Nat} {cs : List Value} {x : DataW H × List MemPlace} (h : DataW.trod enc Try.prog w base spare held fuel 47 cs = some x) (hw : ∀ n ∈ x.1.weights Try.prog 47, n ≤ reachBytes) :
    ∃ s : Slot, cs = [.bool s.u, .string s.d] ∧ s.d.size ≤ 140737488351232 := by
  obtain ⟨xs, n, _, hx, hcl, hxl, hf⟩ := DataW.trod_struct Try.underlying47 h
  have hl : cs.length = 2 := hcl.trans (by kernel_rfl)
  obtain ⟨c0, c1, rfl⟩ : ∃ c0 c1, cs = [c0, c1] := by
    rcases cs with _ | ⟨c0, _ | ⟨c1, _ | ⟨c2, r⟩⟩⟩ <;> simp at hl
    exact ⟨c0, c1, rfl⟩
  have h0 := hf 0 _ rfl
  have h1 := hf 1 _ rfl
  have k0 : Try.prog.cellsOf 4 = 1 := by kernel_rfl
  have k1 : Try.prog.cellsOf 9 = 1 := by kernel_rfl
  simp only [List.getElem_toArray, List.getElem_cons_zero, List.getElem_cons_succ, k0, k1, List.drop_zero, List.take_succ_cons, List.take_zero, List.drop_succ_cons] at h0 h1
  have hlen : xs.length = 2 := hxl
  obtain ⟨y0, y1, rfl⟩ : ∃ y0 y1, xs = [y0, y1] := by
    rcases xs with _ | ⟨c0, _ | ⟨c1, _ | ⟨c2, r⟩⟩⟩ <;> simp at hlen
    exact ⟨c0, c1, rfl⟩
  obtain ⟨b, e0, _⟩ := DataW.trod_bool Try.underlying4 h0
  obtain ⟨s, e1, e2, _⟩ := DataW.trod_string Try.underlying9 h1
  simp only [List.cons.injEq, and_true] at e0 e1
  subst e0 e1
  refine ⟨⟨b, s⟩, rfl, ?_⟩
  have := hw s.data.toList.length (by
    rw [hx]
    simp only [DataW.weights, Try.underlying47]
    refine DataW.weights_mem_each (j := 1) (t := 9) (d := y1.1) rfl rfl _ ?_
    rw [e2]; simp [DataW.weights])
  unfold reachBytes at this
  simpa using this
/-- a slice of slots that came in -/
theorem open_slots {fuel : Nat} {cs : List Value} {x : DataW H × List MemPlace} (h : DataW.trod enc Try.prog w base spare held fuel 24 cs = some x) (hw : ∀ n ∈ x.1.weights Try.prog 24, n ≤ reachBytes) :
    ∃ a n c zs, cs = [.slice a n c] ∧ Slots w a n zs := by
  rcases open_slice Try.underlying24 h with ⟨rfl, _⟩ | ⟨a, len, cap, m, n, D, Pl, hcs, hb, hl, hm, hmm, hx, hi⟩
  · exact ⟨none, 0, 0, [], rfl, Slots.nil _ _⟩
  · have hml : len ≤ m := by rw [hmm]; split <;> omega
    have hone : ∀ i, i < len → ∃ s : Slot, w.cells? base (a.add (i * 2)) 2 = some [.bool s.u, .string s.d] ∧ s.d.size ≤ 140737488351232 := by
      intro i hil
      obtain ⟨cs', hc, ht⟩ := hi i (by omega)
      have k2 : Try.prog.cellsOf 47 = 2 := by kernel_rfl
      rw [k2] at hc
      obtain ⟨s, rfl, hs⟩ := open_slot_cells ht (fun n hn => hw n (by
        rw [hx]
        simp only [DataW.weights, Try.underlying24]
        refine List.mem_cons_of_mem _ (List.mem_append.2 (.inl (weights_all_mem (d := D i) ?_ n hn)))
        exact List.mem_map.2 ⟨i, List.mem_range.2 hil, rfl⟩))
      exact ⟨s, hc, hs⟩
    obtain ⟨f, hf⟩ := choose_lt hone
    refine ⟨some a, len, cap, (List.range len).map f, hcs, by simp, ?_, fun hn => ?_⟩
    · intro y hy
      obtain ⟨i, hir, rfl⟩ := List.mem_map.1 hy
      exact (hf i (List.mem_range.1 hir)).2
    · obtain ⟨b, off, spot⟩ := a
      have hcell : ∀ i, i < len → w.cell? ((Addr.mk b off spot).add (i * 2)) = some (.bool (f i).u) ∧ w.cell? ((Addr.mk b off spot).add (i * 2 + 1)) = some (.string (f i).d) := by
        intro i hil
        obtain ⟨_, _, hat⟩ := World.cells?_some (hf i hil).1
        have h0 := hat 0 (by simp)
        have h1 := hat 1 (by simp)
        rw [add_add] at h0 h1
        exact ⟨by simpa using h0, by simpa using h1⟩
      have hc0 := (hcell 0 hn).1
      have hspot : spot = none := by
        have := World.cell?_spot hc0
        simpa [Addr.add] using this
      subst hspot
      refine ⟨b, off, rfl, ?_, fun i hil => ?_⟩
      · have := World.block_lt_of_cell? w _ hc0
        simpa [Addr.add] using this
      · have e : ((List.range len).map f).getD i nos = f i := by simp [List.getD, hil]
        rw [e]
        have ea : ∀ j, (Addr.mk b off none).add j = ⟨b, off + j, none⟩ := fun j => by unfold Addr.add; split <;> simp_all
        have := hcell i hil
        rw [ea, ea] at this
        exact this
set_option maxRecDepth 100000 in
theorem open_page {r : Reach} {b0 : Nat} {v : Value} {d : DataW H} {p : List MemPlace} (hv : Value.okWide Try.prog w r b0 26 v) (h : DataW.Trod enc Try.prog w base spare held 26 v d p) (hw : ∀ n ∈ d.weights Try.prog 26, n ≤ reachBytes) :
    ∃ lsn a n c zs, v = .agg #[.int .i64 lsn, .slice a n c] ∧ (Lit.int .i64 lsn).wf = true ∧ Slots w a n zs := by
  obtain ⟨v0, v1, y0, y1, m, rfl, rfl, _, h0, h1⟩ := open_agg2 Try.underlying26 (by kernel_rfl) (by kernel_rfl) hv h
  obtain ⟨lsn, e0, _, hwf⟩ := DataW.trod_int Try.underlying3 h0
  obtain ⟨a, n, c, zs, e1, hs⟩ := open_slots h1 (fun n hn => hw n (by
    simp only [DataW.weights, Try.underlying26]
    exact DataW.weights_mem_each (j := 1) (t := 24) (d := y1.1) rfl rfl n hn))
  simp only [List.cons.injEq, and_true] at e0 e1
  subst e0 e1
  exact ⟨lsn, a, n, c, zs, rfl, hwf, hs⟩
set_option maxRecDepth 100000 in
theorem open_slot {r : Reach} {b0 : Nat} {v : Value} {d : DataW H} {p : List MemPlace} (hv : Value.okWide Try.prog w r b0 47 v) (h : DataW.Trod enc Try.prog w base spare held 47 v d p) (hw : ∀ n ∈ d.weights Try.prog 47, n ≤ reachBytes) :
    ∃ u s, v = .agg #[.bool u, .string s] ∧ s.size ≤ 140737488351232 := by
  obtain ⟨fuel, hf⟩ := h
  obtain ⟨cs, rfl, _⟩ := okWide_struct Try.underlying47 hv
  obtain ⟨s, e, hs⟩ := open_slot_cells (x := (d, p)) (by simpa [Value.cells] using hf) hw
  refine ⟨s.u, s.d, ?_, hs⟩
  have : cs = #[.bool s.u, .string s.d] := by apply Array.toList_inj.1; simpa using e
  rw [this]
end
end Go.Proofs.Ytnoplekjdbakkaa.Slab
namespace Go.Proofs.Ytnoplekjdbakkaa.Ent
set_option maxRecDepth 100000
open Go.RowKit Go.Joins Go.ChangeShapes Go.WideShapes Go.Deep
open Go.Proofs.Ytnoplekjdbakkaa.Slab (open_slot_cells weights_all_mem)
/-- slots as small as memory can hold -/
def SmallE (x : Ent) : Prop := x.wd.size ≤ 140737488351232 ∧ x.id.size ≤ 140737488351232
theorem list13 {α : Type} {l : List α} (h : l.length = 13) : ∃ a b c d e f g i j k m n o, l = [a, b, c, d, e, f, g, i, j, k, m, n, o] := by
  match l, h with
  | [a, b, c, d, e, f, g, i, j, k, m, n, o], _ => exact ⟨_, _, _, _, _, _, _, _, _, _, _, _, _, rfl⟩
theorem list9 {α : Type} {l : List α} (h : l.length = 9) : ∃ a b c d e f g i j, l = [a, b, c, d, e, f, g, i, j] := by
  match l, h with
  | [a, b, c, d, e, f, g, i, j], _ => exact ⟨_, _, _, _, _, _, _, _, _, rfl⟩
theorem list3 {α : Type} {l : List α} (h : l.length = 3) : ∃ a b c, l = [a, b, c] := by
  match l, h with
  | [a, b, c], _ => exact ⟨_, _, _, rfl⟩
section
variable {H : Type} {enc : TypeId × Value → H} {w : World} {base : Nat} {spare : Nat → Bool} {held : Bool}
set_option maxRecDepth 100000 in
theorem open_txn_cells {fuel : Nat} {cs : List Value} {x : DataW H × List MemPlace} (h : DataW.trod enc Try.prog w base spare held fuel 23 cs = some x) :
    ∃ a b c : Int, cs = [.int .i64 a, .int .i64 b, .int .i64 c] := by
  obtain ⟨xs, n, _, hx, hcl, hxl, hf⟩ := DataW.trod_struct Try.underlying23 h
  obtain ⟨c0, c1, c2, rfl⟩ := list3 (hcl.trans (by kernel_rfl))
  obtain ⟨y0, y1, y2, rfl⟩ := list3 hxl
  have h0 := hf 0 _ rfl
  have h1 := hf 1 _ rfl
  have h2 := hf 2 _ rfl
  have k0 : Try.prog.cellsOf 3 = 1 := by kernel_rfl
  simp only [List.getElem_toArray, List.getElem_cons_zero, List.getElem_cons_succ, k0, List.drop_zero, List.take_succ_cons, List.take_zero, List.drop_succ_cons] at h0 h1 h2
  obtain ⟨a, e0, _, _⟩ := DataW.trod_int Try.underlying3 h0
  obtain ⟨b, e1, _, _⟩ := DataW.trod_int Try.underlying3 h1
  obtain ⟨c, e2, _, _⟩ := DataW.trod_int Try.underlying3 h2
  simp only [List.cons.injEq, and_true] at e0 e1 e2
  exact ⟨a, b, c, by rw [e0, e1, e2]⟩
set_option maxRecDepth 100000 in
theorem open_ent_cells {fuel : Nat} {cs : List Value} {x : DataW H × List MemPlace} (h : DataW.trod enc Try.prog w base spare held fuel 49 cs = some x) (hw : ∀ n ∈ x.1.weights Try.prog 49, n ≤ reachBytes) :
    ∃ e : Ent, cs = (#[.int .i64 e.kind, .int .i64 e.cl, .int .i64 e.ep, .int .i64 e.n, .int .i64 e.lsn, .int .i64 e.prev, .int .i64 e.page, .int .i64 e.slot, .bool e.wu, .string e.wd, .bool e.iu, .string e.id, .int .i64 e.next]).toList ∧ SmallE e := by
  obtain ⟨xs, n, _, hx, hcl, hxl, hf⟩ := DataW.trod_struct Try.underlying49 h
  obtain ⟨c0, c1, c2, c3, c4, c5, c6, c7, c8, c9, c10, c11, c12, rfl⟩ := list13 (hcl.trans (by kernel_rfl))
  obtain ⟨y0, y1, y2, y3, y4, y5, y6, y7, y8, rfl⟩ := list9 hxl
  have h0 := hf 0 _ rfl
  have h1 := hf 1 _ rfl
  have h2 := hf 2 _ rfl
  have h3 := hf 3 _ rfl
  have h4 := hf 4 _ rfl
  have h5 := hf 5 _ rfl
  have h6 := hf 6 _ rfl
  have h7 := hf 7 _ rfl
  have h8 := hf 8 _ rfl
  have k0 : Try.prog.cellsOf 3 = 1 := by kernel_rfl
  have k1 : Try.prog.cellsOf 47 = 2 := by kernel_rfl
  have k2 : Try.prog.cellsOf 23 = 3 := by kernel_rfl
  simp only [List.getElem_toArray, List.getElem_cons_zero, List.getElem_cons_succ, k0, k1, k2, List.drop_zero, List.take_succ_cons, List.take_zero, List.drop_succ_cons] at h0 h1 h2 h3 h4 h5 h6 h7 h8
  obtain ⟨a0, e0, _, _⟩ := DataW.trod_int Try.underlying3 h0
  obtain ⟨t0, t1, t2, e1⟩ := open_txn_cells h1
  obtain ⟨a2, e2, _, _⟩ := DataW.trod_int Try.underlying3 h2
  obtain ⟨a3, e3, _, _⟩ := DataW.trod_int Try.underlying3 h3
  obtain ⟨a4, e4, _, _⟩ := DataW.trod_int Try.underlying3 h4
  obtain ⟨a5, e5, _, _⟩ := DataW.trod_int Try.underlying3 h5
  obtain ⟨a8, e8, _, _⟩ := DataW.trod_int Try.underlying3 h8
  obtain ⟨s6, e6, z6⟩ := open_slot_cells h6 (fun n hn => hw n (by
    rw [hx]
    simp only [DataW.weights, Try.underlying49]
    exact DataW.weights_mem_each (j := 6) (t := 47) (d := y6.1) rfl rfl n hn))
  obtain ⟨s7, e7, z7⟩ := open_slot_cells h7 (fun n hn => hw n (by
    rw [hx]
    simp only [DataW.weights, Try.underlying49]
    exact DataW.weights_mem_each (j := 7) (t := 47) (d := y7.1) rfl rfl n hn))
  simp only [List.cons.injEq, and_true] at e0 e1 e2 e3 e4 e5 e6 e7 e8
  obtain ⟨q0, q1, q2⟩ := e1
  obtain ⟨q3, q4⟩ := e6
  obtain ⟨q5, q6⟩ := e7
  refine ⟨⟨a0, t0, t1, t2, a2, a3, a4, a5, s6.u, s6.d, s7.u, s7.d, a8⟩, ?_, z6, z7⟩
  rw [e0, q0, q1, q2, e2, e3, e4, e5, q3, q4, q5, q6, e8]
set_option maxRecDepth 100000 in
theorem open_ent {r : Reach} {b0 : Nat} {v : Value} {d : DataW H} {p : List MemPlace} (hv : Value.okWide Try.prog w r b0 49 v) (h : DataW.Trod enc Try.prog w base spare held 49 v d p) (hw : ∀ n ∈ d.weights Try.prog 49, n ≤ reachBytes) :
    ∃ x : Ent, v = .agg #[.int .i64 x.kind, .int .i64 x.cl, .int .i64 x.ep, .int .i64 x.n, .int .i64 x.lsn, .int .i64 x.prev, .int .i64 x.page, .int .i64 x.slot, .bool x.wu, .string x.wd, .bool x.iu, .string x.id, .int .i64 x.next] ∧ SmallE x := by
  obtain ⟨fuel, hf⟩ := h
  obtain ⟨cs, rfl, _⟩ := okWide_struct Try.underlying49 hv
  obtain ⟨e, he, hs⟩ := open_ent_cells (x := (d, p)) (by simpa [Value.cells] using hf) hw
  refine ⟨e, ?_, hs⟩
  have : cs = #[.int .i64 e.kind, .int .i64 e.cl, .int .i64 e.ep, .int .i64 e.n, .int .i64 e.lsn, .int .i64 e.prev, .int .i64 e.page, .int .i64 e.slot, .bool e.wu, .string e.wd, .bool e.iu, .string e.id, .int .i64 e.next] := Array.toList_inj.1 he
  rw [this]
end
end Go.Proofs.Ytnoplekjdbakkaa.Ent
namespace Go.Proofs.Ytnoplekjdbakkaa.Ent
set_option maxRecDepth 100000
open Go.RowKit Go.Joins Go.ChangeShapes Go.WideShapes Go.Deep Go.Sort
open Go.Proofs.Ytnoplekjdbakkaa.Slab (weights_all_mem)
instance : Inhabited Ent := ⟨noE⟩
/-- an entry's cells from o on -/
def EntAt (w : World) (b o : Nat) (x : Ent) : Prop := ∀ (j : Nat) (v : Value), (entA x)[j]? = some v → w.cell? ⟨b, o + j, none⟩ = some v
def Ents (w : World) (a : Option Addr) (n : Nat) (zs : List Ent) : Prop :=
  zs.length = n ∧ (∀ x ∈ zs, SmallE x) ∧ (0 < n → ∃ b off, a = some ⟨b, off, none⟩ ∧ b < w.heap.size ∧ ∀ i, i < n → EntAt w b (off + i * 13) (zs.getD i noE))
theorem EntAt.next {w w' : World} {b o B : Nat} {x : Ent} (h : EntAt w b o x) (hb : Below B w w') (hB : b < B) : EntAt w' b o x := fun j v hv =>
  (hb.cell (p := ⟨b, o + j, none⟩) hB).trans (h j v hv)
theorem EntAt.cells {w : World} {b o : Nat} {x : Ent} (h : EntAt w b o x) :
    w.cell? ⟨b, o, none⟩ = some (.int .i64 x.kind) ∧ w.cell? ⟨b, o + 1, none⟩ = some (.int .i64 x.cl) ∧ w.cell? ⟨b, o + 2, none⟩ = some (.int .i64 x.ep) ∧ w.cell? ⟨b, o + 3, none⟩ = some (.int .i64 x.n) ∧
    w.cell? ⟨b, o + 4, none⟩ = some (.int .i64 x.lsn) ∧ w.cell? ⟨b, o + 5, none⟩ = some (.int .i64 x.prev) ∧ w.cell? ⟨b, o + 6, none⟩ = some (.int .i64 x.page) ∧ w.cell? ⟨b, o + 7, none⟩ = some (.int .i64 x.slot) ∧
    w.cell? ⟨b, o + 8, none⟩ = some (.bool x.wu) ∧ w.cell? ⟨b, o + 9, none⟩ = some (.string x.wd) ∧ w.cell? ⟨b, o + 10, none⟩ = some (.bool x.iu) ∧ w.cell? ⟨b, o + 11, none⟩ = some (.string x.id) ∧ w.cell? ⟨b, o + 12, none⟩ = some (.int .i64 x.next) :=
  ⟨h 0 _ rfl, h 1 _ rfl, h 2 _ rfl, h 3 _ rfl, h 4 _ rfl, h 5 _ rfl, h 6 _ rfl, h 7 _ rfl, h 8 _ rfl, h 9 _ rfl, h 10 _ rfl, h 11 _ rfl, h 12 _ rfl⟩
section
variable {H : Type} {enc : TypeId × Value → H} {w : World} {base : Nat} {spare : Nat → Bool} {held : Bool}
theorem open_ents_cells {fuel : Nat} {cs : List Value} {x : DataW H × List MemPlace} (h : DataW.trod enc Try.prog w base spare held fuel 27 cs = some x) (hw : ∀ n ∈ x.1.weights Try.prog 27, n ≤ reachBytes) :
    ∃ a n c zs, cs = [.slice a n c] ∧ Ents w a n zs := by
  rcases open_slice Try.underlying27 h with ⟨rfl, _⟩ | ⟨a, len, cap, m, n, D, Pl, hcs, hb, hl, hm, hmm, hx, hi⟩
  · exact ⟨none, 0, 0, [], rfl, rfl, by simp, fun h => absurd h (Nat.lt_irrefl 0)⟩
  · have hml : len ≤ m := by rw [hmm]; split <;> omega
    have hone : ∀ i, i < len → ∃ e : Ent, w.cells? base (a.add (i * 13)) 13 = some (entA e).toList ∧ SmallE e := by
      intro i hil
      obtain ⟨cs', hc, ht⟩ := hi i (by omega)
      have k2 : Try.prog.cellsOf 49 = 13 := by kernel_rfl
      rw [k2] at hc
      obtain ⟨s, rfl, hs⟩ := open_ent_cells ht (fun n hn => hw n (by
        rw [hx]
        simp only [DataW.weights, Try.underlying27]
        refine List.mem_cons_of_mem _ (List.mem_append.2 (.inl (weights_all_mem (d := D i) ?_ n hn)))
        exact List.mem_map.2 ⟨i, List.mem_range.2 hil, rfl⟩))
      exact ⟨s, hc, hs⟩
    obtain ⟨f, hf⟩ := choose_lt hone
    refine ⟨some a, len, cap, (List.range len).map f, hcs, by simp, ?_, fun hn => ?_⟩
    · intro y hy
      obtain ⟨i, hir, rfl⟩ := List.mem_map.1 hy
      exact (hf i (List.mem_range.1 hir)).2
    · obtain ⟨b, off, spot⟩ := a
      have hcell : ∀ i, i < len → ∀ (j : Nat) (v : Value), (entA (f i))[j]? = some v → w.cell? ((Addr.mk b off spot).add (i * 13 + j)) = some v := by
        intro i hil j v hv
        obtain ⟨_, _, hat⟩ := World.cells?_some (hf i hil).1
        have hj : j < (entA (f i)).toList.length := by
          have := (Array.getElem?_eq_some_iff.1 hv).1
          simpa using this
        have h0 := hat j hj
        rw [add_add] at h0
        rw [h0]
        rw [← hv]
        simp
      have hc0 := hcell 0 hn 0 _ rfl
      have hspot : spot = none := by
        have := World.cell?_spot hc0
        simpa [Addr.add] using this
      subst hspot
      refine ⟨b, off, rfl, ?_, fun i hil => ?_⟩
      · have := World.block_lt_of_cell? w _ hc0
        simpa [Addr.add] using this
      · have e : ((List.range len).map f).getD i noE = f i := by simp [List.getD, hil]
        rw [e]
        have ea : ∀ j, (Addr.mk b off none).add j = ⟨b, off + j, none⟩ := fun j => by unfold Addr.add; split <;> simp_all
        intro j v hv
        have := hcell i hil j v hv
        rw [ea, ← Nat.add_assoc] at this
        exact this
set_option maxRecDepth 100000 in
theorem open_ents {r : Reach} {b0 : Nat} {v : Value} {d : DataW H} {p : List MemPlace} (_hv : Value.okWide Try.prog w r b0 27 v) (h : DataW.Trod enc Try.prog w base spare held 27 v d p) (hw : ∀ n ∈ d.weights Try.prog 27, n ≤ reachBytes) :
    ∃ a n c zs, v = .slice a n c ∧ Ents w a n zs := by
  obtain ⟨a0, n0, c0, hv0⟩ := okWide_slice Try.underlying27 _hv
  obtain ⟨fuel, hf⟩ := h
  subst hv0
  obtain ⟨a, n, c, zs, he, hz⟩ := open_ents_cells (x := (d, p)) (by simpa [Value.cells] using hf) hw
  simp only [List.cons.injEq, and_true] at he
  exact ⟨a, n, c, zs, he, hz⟩
end
def cellsE (l : List Ent) : List Value := l.flatMap fun x => (entA x).toList
theorem cellsE_snoc (z : List Ent) (x : Ent) : cellsE z ++ (entA x).toList = cellsE (z ++ [x]) := by simp [cellsE]
theorem cellsE_length (l : List Ent) : (cellsE l).length = l.length * 13 := by
  induction l with
  | nil => rfl
  | cons x r ih => simp only [cellsE, List.flatMap_cons, List.length_append] at ih ⊢; rw [ih]; simp [entA]; omega
theorem cellsE_get : ∀ {l : List Ent} {i : Nat} {x : Ent}, l[i]? = some x → ∀ (j : Nat) (v : Value), (entA x)[j]? = some v → (cellsE l)[i * 13 + j]? = some v
  | y :: r, 0, x, h, j, v, hv => by
    simp at h; subst h
    have hj := (Array.getElem?_eq_some_iff.1 hv).1
    simp only [cellsE, List.flatMap_cons, Nat.zero_mul, Nat.zero_add]
    rw [List.getElem?_append_left (by simpa using hj)]
    simpa using hv
  | y :: r, i + 1, x, h, j, v, hv => by
    have ih := cellsE_get (l := r) (i := i) (by simpa using h) j v hv
    simp only [cellsE, List.flatMap_cons] at ih ⊢
    rw [List.getElem?_append_right (by simp [entA]; omega)]
    have e : (i + 1) * 13 + j - (entA y).toList.length = i * 13 + j := by simp [entA]; omega
    rw [e]; exact ih
theorem Ents.next {w w' : World} {a : Option Addr} {n : Nat} {zs : List Ent} (h : Ents w a n zs) (hb : Below w.heap.size w w') : Ents w' a n zs := by
  obtain ⟨h1, h2, h3⟩ := h
  refine ⟨h1, h2, fun hn => ?_⟩
  obtain ⟨b, off, ha, hlt, hc⟩ := h3 hn
  exact ⟨b, off, ha, Nat.lt_of_lt_of_le hlt hb.size, fun i hi => (hc i hi).next hb hlt⟩
theorem Ents.take {w : World} {a : Option Addr} {n : Nat} {zs : List Ent} (h : Ents w a n zs) {k : Nat} (hk : k ≤ n) : Ents w a k (zs.take k) := by
  obtain ⟨h1, h2, h3⟩ := h
  refine ⟨by rw [List.length_take, h1]; omega, fun x hx => h2 x (List.mem_of_mem_take hx), fun hn => ?_⟩
  obtain ⟨b, off, ha, hlt, hc⟩ := h3 (by omega)
  refine ⟨b, off, ha, hlt, fun i hi => ?_⟩
  have e : (zs.take k).getD i noE = zs.getD i noE := by simp [List.getD, hi]
  rw [e]; exact hc i (by omega)
theorem Ents.drop {w : World} {b off n : Nat} {zs : List Ent} (h : Ents w (some ⟨b, off, none⟩) n zs) {k : Nat} (hk : k ≤ n) : Ents w (some ⟨b, off + k * 13, none⟩) (n - k) (zs.drop k) := by
  obtain ⟨h1, h2, h3⟩ := h
  refine ⟨by rw [List.length_drop, h1], fun x hx => h2 x (List.mem_of_mem_drop hx), fun hn => ?_⟩
  obtain ⟨b', off', ha, hlt, hc⟩ := h3 (by omega)
  cases ha
  refine ⟨b, off + k * 13, rfl, hlt, fun i hi => ?_⟩
  have e : (zs.drop k).getD i noE = zs.getD (k + i) noE := by simp [List.getD]
  rw [e]
  have := hc (k + i) (by omega)
  rw [show off + k * 13 + i * 13 = off + (k + i) * 13 by omega]; exact this
theorem ents_of_blk {w : World} {g : Nat} {t : TypeId} {zs : List Ent} (h : w.heap[g]? = some (.cells (cellsE zs).toArray t (0, 0))) (hs : ∀ x ∈ zs, SmallE x) : Ents w (some ⟨g, 0, none⟩) zs.length zs := by
  refine ⟨rfl, hs, fun _ => ⟨g, 0, rfl, (Array.getElem?_eq_some_iff.1 h).1, fun i hi j v hv => ?_⟩⟩
  have hx : zs[i]? = some (zs.getD i noE) := by simp [List.getD, hi]
  have h1 := cellsE_get hx j v hv
  have h2 : w.cell? ⟨g, 0 + i * 13 + j, none⟩ = (cellsE zs).toArray[0 + i * 13 + j]? := by simp [World.cell?, h]
  rw [h2, Nat.zero_add]
  simpa using h1
end Go.Proofs.Ytnoplekjdbakkaa.Ent
