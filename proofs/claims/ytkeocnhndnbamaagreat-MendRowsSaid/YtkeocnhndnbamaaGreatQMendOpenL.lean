/- Pages that came in, opened: for MendRows' frame, beside books that leave the elder text out. -/
import Derived.Test.YtkeocnhndnbamaaGreatQBook5
namespace Go.Proofs.YtkeocnhndnbamaaGreat.Slab
set_option maxRecDepth 100000
open Go.RowKit Go.Joins Go.ChangeShapes Go.WideShapes Go.Deep
section
variable {H : Type} {enc : TypeId × Value → H} {w : World} {base : Nat} {spare : Nat → Bool} {held : Bool}
theorem open_slotsR {fuel : Nat} {cs : List Value} {x : DataW H × List MemPlace} (h : DataW.trod enc Tryz.prog w base spare held fuel 50 cs = some x) (hw : ∀ n ∈ x.1.weights Tryz.prog 50, n ≤ reachBytes) :
    ∃ a n c zs, cs = [.slice a n c] ∧ Slots w a n zs := by
  rcases open_slice Tryz.underlying50 h with ⟨rfl, _⟩ | ⟨a, len, cap, m, n, D, Pl, hcs, hb, hl, hm, hmm, hx, hi⟩
  · exact ⟨none, 0, 0, [], rfl, Slots.nil _ _⟩
  · have hml : len ≤ m := by rw [hmm]; split <;> omega
    have hone : ∀ i, i < len → ∃ s : Slot, w.cells? base (a.add (i * 2)) 2 = some [.bool s.u, .string s.d] ∧ s.d.size ≤ 140737488351232 := by
      intro i hil
      obtain ⟨cs', hc, ht⟩ := hi i (by omega)
      have k2 : Tryz.prog.cellsOf 41 = 2 := by kernel_rfl
      rw [k2] at hc
      obtain ⟨s, rfl, hs⟩ := open_slot_cells ht (fun n hn => hw n (by
        rw [hx]
        simp only [DataW.weights, Tryz.underlying50]
        refine List.mem_cons_of_mem _ (List.mem_append.2 (.inl (weights_all_mem (d := D i) ?_ n hn)))
        exact List.mem_map.2 ⟨i, List.mem_range.2 hil, rfl⟩))
      exact ⟨s, hc, hs⟩
    obtain ⟨f, hf⟩ := choose_lt hone
    refine ⟨some a, len, cap, (List.range len).map f, hcs, by simp, ?_, fun hn => ?_⟩
    · intro y hy
      obtain ⟨i, hir, rfl⟩ := List.mem_map.1 hy
      exact (hf i (List.mem_range.1 hir)).2
    · obtain ⟨b, off, spot⟩ := a
      have hcell : ∀ i, i < len → w.cell? ((Addr.mk b off spot).add (i * 2)) = some (.bool (f i).u) ∧ w.cell? ((Addr.mk b off spot).add (i * 2 + 1)) = some (.string (f i).d) := by
        intro i hil
        obtain ⟨_, _, hat⟩ := World.cells?_some (hf i hil).1
        have h0 := hat 0 (by simp)
        have h1 := hat 1 (by simp)
        rw [add_add] at h0 h1
        exact ⟨by simpa using h0, by simpa using h1⟩
      have hc0 := (hcell 0 hn).1
      have hspot : spot = none := by
        have := World.cell?_spot hc0
        simpa [Addr.add] using this
      subst hspot
      refine ⟨b, off, rfl, ?_, fun i hil => ?_⟩
      · have := World.block_lt_of_cell? w _ hc0
        simpa [Addr.add] using this
      · have e : ((List.range len).map f).getD i nos = f i := by simp [List.getD, hil]
        rw [e]
        have ea : ∀ j, (Addr.mk b off none).add j = ⟨b, off + j, none⟩ := fun j => by unfold Addr.add; split <;> simp_all
        have := hcell i hil
        rw [ea, ea] at this
        exact this
end
end Go.Proofs.YtkeocnhndnbamaaGreat.Slab
namespace Go.Proofs.YtkeocnhndnbamaaGreat.Mend
set_option maxRecDepth 100000
open Go.RowKit Go.Sort Go.Joins Go.ChangeShapes Go.WideShapes Go.Deep
open Go.Proofs.YtkeocnhndnbamaaGreat.Mem
section
variable {H : Type} {enc : TypeId × Value → H} {w : World} {base : Nat} {spare : Nat → Bool} {held : Bool}
theorem open_slotsR' {fuel : Nat} {cs : List Value} {x : DataW H × List MemPlace} (h : DataW.trod enc Tryz.prog w base spare held fuel 50 cs = some x) (hw : ∀ n ∈ x.1.weights Tryz.prog 50, n ≤ reachBytes) :
    ∃ a n c zs, cs = [.slice a n c] ∧ Slab.Slots w a n zs ∧ n ≤ maxLen := by
  obtain ⟨a, n, c, zs, e, hs⟩ := Slab.open_slotsR h hw
  refine ⟨a, n, c, zs, e, hs, ?_⟩
  rcases open_slice Tryz.underlying50 h with ⟨rfl, _⟩ | ⟨a', len, cap, m, n', D, Pl, hcs, hb, hl, hm, hmm, hx, hi⟩
  · simp only [List.cons.injEq, Value.slice.injEq, and_true] at e
    obtain ⟨-, rfl, -⟩ := e
    exact Nat.zero_le _
  · rw [hcs] at e
    simp only [List.cons.injEq, Value.slice.injEq, and_true] at e
    obtain ⟨-, rfl, -⟩ := e
    omega
theorem open_leaf_cellsR {fuel : Nat} {cs : List Value} {x : DataW H × List MemPlace} (h : DataW.trod enc Tryz.prog w base spare held fuel 54 cs = some x) (hw : ∀ n ∈ x.1.weights Tryz.prog 54, n ≤ reachBytes) :
    ∃ (y : Lf) (a : Option Addr) (n c : Nat), cs = [.int .i64 y.n, .int .i64 y.l, .slice a n c] ∧ Slab.Slots w a n y.z ∧ n ≤ maxLen ∧ -9223372036854775808 ≤ y.n ∧ y.n ≤ 9223372036854775807 := by
  obtain ⟨xs, m, _, hx, hcl, hxl, hf⟩ := DataW.trod_struct Tryz.underlying54 h
  have hl : cs.length = 3 := hcl.trans (by kernel_rfl)
  obtain ⟨c0, c1, c2, rfl⟩ : ∃ c0 c1 c2, cs = [c0, c1, c2] := by
    rcases cs with _ | ⟨c0, _ | ⟨c1, _ | ⟨c2, _ | ⟨c3, r⟩⟩⟩⟩ <;> simp at hl
    exact ⟨c0, c1, c2, rfl⟩
  have h0 := hf 0 _ rfl
  have h1 := hf 1 _ rfl
  have k0 : Tryz.prog.cellsOf 3 = 1 := by kernel_rfl
  have k1 : Tryz.prog.cellsOf 52 = 2 := by kernel_rfl
  simp only [List.getElem_toArray, List.getElem_cons_zero, List.getElem_cons_succ, k0, k1, List.drop_zero, List.take_succ_cons, List.take_zero, List.drop_succ_cons] at h0 h1
  have hlen : xs.length = 2 := hxl
  obtain ⟨y0, y1, rfl⟩ : ∃ y0 y1, xs = [y0, y1] := by
    rcases xs with _ | ⟨c0, _ | ⟨c1, _ | ⟨c2, r⟩⟩⟩ <;> simp at hlen
    exact ⟨c0, c1, rfl⟩
  obtain ⟨yn, e0, _, w0⟩ := DataW.trod_int Tryz.underlying3 h0
  try simp only [List.getElem_cons_zero, List.getElem_cons_succ] at h1
  obtain ⟨ps, m2, _, hx2, hcl2, hxl2, hf2⟩ := DataW.trod_struct Tryz.underlying52 h1
  have g0 := hf2 0 _ rfl
  have g1 := hf2 1 _ rfl
  have q1 : Tryz.prog.cellsOf 50 = 1 := by kernel_rfl
  simp only [List.getElem_toArray, List.getElem_cons_zero, List.getElem_cons_succ, k0, q1, List.drop_zero, List.take_succ_cons, List.take_zero, List.drop_succ_cons] at g0 g1
  have hlen2 : ps.length = 2 := hxl2
  obtain ⟨z0, z1, rfl⟩ : ∃ z0 z1, ps = [z0, z1] := by
    rcases ps with _ | ⟨c0, _ | ⟨c1, _ | ⟨c2, r⟩⟩⟩ <;> simp at hlen2
    exact ⟨c0, c1, rfl⟩
  obtain ⟨yl, e1, _, w1⟩ := DataW.trod_int Tryz.underlying3 g0
  try simp only [List.getElem_cons_zero, List.getElem_cons_succ] at g1
  obtain ⟨a, n, c, zs, e2, hs, hm⟩ := open_slotsR' g1 (fun k hk => hw k (by
    rw [hx]
    simp only [DataW.weights, Tryz.underlying54]
    refine DataW.weights_mem_each (j := 1) (t := 52) (d := y1.1) rfl rfl k ?_
    rw [hx2]
    simp only [DataW.weights, Tryz.underlying52]
    exact DataW.weights_mem_each (j := 1) (t := 50) (d := z1.1) rfl rfl k hk))
  simp only [List.cons.injEq, and_true] at e0 e1 e2
  subst e0 e1 e2
  have := fits_i64 w0
  exact ⟨⟨yn, yl, zs⟩, a, n, c, rfl, hs, hm, this.1, this.2⟩
theorem open_leavesR {r : Reach} {b0 : Nat} {v : Value} {d : DataW H} {p : List MemPlace} (hv : Value.okWide Tryz.prog w r b0 30 v) (h : DataW.Trod enc Tryz.prog w base spare held 30 v d p) (hw : ∀ n ∈ d.weights Tryz.prog 30, n ≤ reachBytes) :
    ∃ a n c ls, v = .slice a n c ∧ LeavesI w a n ls ∧ n ≤ maxLen ∧ n ≤ c := by
  obtain ⟨a0, len0, cap0, rfl⟩ := okWide_slice Tryz.underlying30 hv
  obtain ⟨fuel, hf⟩ := h
  rcases open_slice Tryz.underlying30 hf with ⟨hcs, _⟩ | ⟨a, len, cap, m, n, D, Pl, hcs, hb, hl, hm, hmm, hx, hi⟩
  · simp [Value.cells] at hcs
    obtain ⟨rfl, rfl, rfl⟩ := hcs
    exact ⟨none, 0, 0, [], rfl, ⟨rfl, by simp, fun h => absurd h (Nat.lt_irrefl 0)⟩, Nat.zero_le _, Nat.le_refl _⟩
  · simp [Value.cells] at hcs
    obtain ⟨rfl, rfl, rfl⟩ := hcs
    have hml : len0 ≤ m := by rw [hmm]; split <;> omega
    have hone : ∀ i, i < len0 → ∃ y : Ro, w.cells? base (a.add (i * 3)) 3 = some [.int .i64 y.x.n, .int .i64 y.x.l, .slice y.a y.n y.c] ∧ Slab.Slots w y.a y.n y.x.z ∧ y.n ≤ maxLen ∧ -9223372036854775808 ≤ y.x.n ∧ y.x.n ≤ 9223372036854775807 := by
      intro i hil
      obtain ⟨cs', hc, ht⟩ := hi i (by omega)
      have k2 : Tryz.prog.cellsOf 54 = 3 := by kernel_rfl
      rw [k2] at hc
      obtain ⟨y, a', n', c', rfl, hs⟩ := open_leaf_cellsR ht (fun k hk => hw k (by
        rw [show d = _ from congrArg Prod.fst hx]
        simp only [DataW.weights, Tryz.underlying30]
        refine List.mem_cons_of_mem _ (List.mem_append.2 (.inl (Slab.weights_all_mem (d := D i) ?_ k hk)))
        exact List.mem_map.2 ⟨i, List.mem_range.2 hil, rfl⟩))
      exact ⟨⟨y, a', n', c'⟩, hc, hs⟩
    obtain ⟨f, hf2⟩ := choose_lt hone
    refine ⟨some a, len0, cap0, (List.range len0).map (fun i => (f i).x), rfl, ⟨by simp, ?_, fun hn => ?_⟩, by omega, by omega⟩
    · intro y hy
      obtain ⟨i, hir, rfl⟩ := List.mem_map.1 hy
      exact (hf2 i (List.mem_range.1 hir)).2.2.2
    · obtain ⟨b, off, spot⟩ := a
      have hcell : ∀ i, i < len0 → w.cell? ((Addr.mk b off spot).add (i * 3)) = some (.int .i64 (f i).x.n) ∧ w.cell? ((Addr.mk b off spot).add (i * 3 + 1)) = some (.int .i64 (f i).x.l) ∧ w.cell? ((Addr.mk b off spot).add (i * 3 + 2)) = some (.slice (f i).a (f i).n (f i).c) := by
        intro i hil
        obtain ⟨_, _, hat⟩ := World.cells?_some (hf2 i hil).1
        have h0 := hat 0 (by simp)
        have h1 := hat 1 (by simp)
        have h2 := hat 2 (by simp)
        rw [add_add] at h0 h1 h2
        exact ⟨by simpa using h0, by simpa using h1, by simpa using h2⟩
      have hc0 := (hcell 0 hn).1
      have hspot : spot = none := by
        have := World.cell?_spot hc0
        simpa [Addr.add] using this
      subst hspot
      refine ⟨b, off, rfl, ?_, fun i hil => ?_⟩
      · have := World.block_lt_of_cell? w _ hc0
        simpa [Addr.add] using this
      · have e : ((List.range len0).map (fun i => (f i).x)).getD i lf0 = (f i).x := by simp [List.getD, hil]
        rw [e]
        have ea : ∀ j, (Addr.mk b off none).add j = ⟨b, off + j, none⟩ := fun j => by unfold Addr.add; split <;> simp_all
        have := hcell i hil
        rw [ea, ea, ea] at this
        exact ⟨_, _, _, this.1, this.2.1, this.2.2, (hf2 i hil).2.1, (hf2 i hil).2.2.1⟩
end
end Go.Proofs.YtkeocnhndnbamaaGreat.Mend
