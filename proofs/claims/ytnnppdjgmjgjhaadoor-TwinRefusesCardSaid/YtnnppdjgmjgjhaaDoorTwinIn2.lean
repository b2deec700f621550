/- Pages that came in, opened. -/
import Derived.Test.YtnnppdjgmjgjhaaDoorTwinGreat
namespace Go.Proofs.YtnnppdjgmjgjhaaDoor.Twin
set_option maxRecDepth 100000
open Go.RowKit Go.Joins Go.ChangeShapes Go.WideShapes Go.Deep
open Go.Proofs.YtnnppdjgmjgjhaaDoor.Mem

instance : Inhabited Lf := ⟨lf0⟩
section
variable {H : Type} {enc : TypeId × Value → H} {w : World} {base : Nat} {spare : Nat → Bool} {held : Bool}
/-- slots that came in, and how many -/
theorem open_slots' {fuel : Nat} {cs : List Value} {x : DataW H × List MemPlace} (h : DataW.trod enc Tryd.prog w base spare held fuel 39 cs = some x) (hw : ∀ n ∈ x.1.weights Tryd.prog 39, n ≤ reachBytes) :
    ∃ a n c zs, cs = [.slice a n c] ∧ Slab.Slots w a n zs ∧ n ≤ maxLen := by
  obtain ⟨a, n, c, zs, e, hs⟩ := Slab.open_slots h hw
  refine ⟨a, n, c, zs, e, hs, ?_⟩
  rcases open_slice Tryd.underlying39 h with ⟨rfl, _⟩ | ⟨a', len, cap, m, n', D, Pl, hcs, hb, hl, hm, hmm, hx, hi⟩
  · simp only [List.cons.injEq, Value.slice.injEq, and_true] at e
    obtain ⟨-, rfl, -⟩ := e
    exact Nat.zero_le _
  · rw [hcs] at e
    simp only [List.cons.injEq, Value.slice.injEq, and_true] at e
    obtain ⟨-, rfl, -⟩ := e
    omega
theorem open_leaf_cells {fuel : Nat} {cs : List Value} {x : DataW H × List MemPlace} (h : DataW.trod enc Tryd.prog w base spare held fuel 43 cs = some x) (hw : ∀ n ∈ x.1.weights Tryd.prog 43, n ≤ reachBytes) :
    ∃ (y : Lf) (a : Option Addr) (n c : Nat), cs = [.int .i64 y.n, .int .i64 y.l, .slice a n c] ∧ Slab.Slots w a n y.z ∧ n ≤ maxLen ∧ -9223372036854775808 ≤ y.n ∧ y.n ≤ 9223372036854775807 := by
  obtain ⟨xs, m, _, hx, hcl, hxl, hf⟩ := DataW.trod_struct Tryd.underlying43 h
  have hl : cs.length = 3 := hcl.trans (by kernel_rfl)
  obtain ⟨c0, c1, c2, rfl⟩ : ∃ c0 c1 c2, cs = [c0, c1, c2] := by
    rcases cs with _ | ⟨c0, _ | ⟨c1, _ | ⟨c2, _ | ⟨c3, r⟩⟩⟩⟩ <;> simp at hl
    exact ⟨c0, c1, c2, rfl⟩
  have h0 := hf 0 _ rfl
  have h1 := hf 1 _ rfl
  have k0 : Tryd.prog.cellsOf 3 = 1 := by kernel_rfl
  have k1 : Tryd.prog.cellsOf 41 = 2 := by kernel_rfl
  simp only [List.getElem_toArray, List.getElem_cons_zero, List.getElem_cons_succ, k0, k1, List.drop_zero, List.take_succ_cons, List.take_zero, List.drop_succ_cons] at h0 h1
  have hlen : xs.length = 2 := hxl
  obtain ⟨y0, y1, rfl⟩ : ∃ y0 y1, xs = [y0, y1] := by
    rcases xs with _ | ⟨c0, _ | ⟨c1, _ | ⟨c2, r⟩⟩⟩ <;> simp at hlen
    exact ⟨c0, c1, rfl⟩
  obtain ⟨yn, e0, _, w0⟩ := DataW.trod_int Tryd.underlying3 h0
  try simp only [List.getElem_cons_zero, List.getElem_cons_succ] at h1
  obtain ⟨ps, m2, _, hx2, hcl2, hxl2, hf2⟩ := DataW.trod_struct Tryd.underlying41 h1
  have g0 := hf2 0 _ rfl
  have g1 := hf2 1 _ rfl
  have q1 : Tryd.prog.cellsOf 39 = 1 := by kernel_rfl
  simp only [List.getElem_toArray, List.getElem_cons_zero, List.getElem_cons_succ, k0, q1, List.drop_zero, List.take_succ_cons, List.take_zero, List.drop_succ_cons] at g0 g1
  have hlen2 : ps.length = 2 := hxl2
  obtain ⟨z0, z1, rfl⟩ : ∃ z0 z1, ps = [z0, z1] := by
    rcases ps with _ | ⟨c0, _ | ⟨c1, _ | ⟨c2, r⟩⟩⟩ <;> simp at hlen2
    exact ⟨c0, c1, rfl⟩
  obtain ⟨yl, e1, _, w1⟩ := DataW.trod_int Tryd.underlying3 g0
  try simp only [List.getElem_cons_zero, List.getElem_cons_succ] at g1
  obtain ⟨a, n, c, zs, e2, hs, hm⟩ := open_slots' g1 (fun k hk => hw k (by
    rw [hx]
    simp only [DataW.weights, Tryd.underlying43]
    refine DataW.weights_mem_each (j := 1) (t := 41) (d := y1.1) rfl rfl k ?_
    rw [hx2]
    simp only [DataW.weights, Tryd.underlying41]
    exact DataW.weights_mem_each (j := 1) (t := 39) (d := z1.1) rfl rfl k hk))
  simp only [List.cons.injEq, and_true] at e0 e1 e2
  subst e0 e1 e2
  have := fits_i64 w0
  exact ⟨⟨yn, yl, zs⟩, a, n, c, rfl, hs, hm, this.1, this.2⟩
theorem open_leaves {r : Reach} {b0 : Nat} {v : Value} {d : DataW H} {p : List MemPlace} (hv : Value.okWide Tryd.prog w r b0 35 v) (h : DataW.Trod enc Tryd.prog w base spare held 35 v d p) (hw : ∀ n ∈ d.weights Tryd.prog 35, n ≤ reachBytes) :
    ∃ a n c ls, v = .slice a n c ∧ LeavesI w a n ls ∧ n ≤ maxLen ∧ n ≤ c := by
  obtain ⟨a0, len0, cap0, rfl⟩ := okWide_slice Tryd.underlying35 hv
  obtain ⟨fuel, hf⟩ := h
  rcases open_slice Tryd.underlying35 hf with ⟨hcs, _⟩ | ⟨a, len, cap, m, n, D, Pl, hcs, hb, hl, hm, hmm, hx, hi⟩
  · simp [Value.cells] at hcs
    obtain ⟨rfl, rfl, rfl⟩ := hcs
    exact ⟨none, 0, 0, [], rfl, ⟨rfl, by simp, fun h => absurd h (Nat.lt_irrefl 0)⟩, Nat.zero_le _, Nat.le_refl _⟩
  · simp [Value.cells] at hcs
    obtain ⟨rfl, rfl, rfl⟩ := hcs
    have hml : len0 ≤ m := by rw [hmm]; split <;> omega
    have hone : ∀ i, i < len0 → ∃ y : Ro, w.cells? base (a.add (i * 3)) 3 = some [.int .i64 y.x.n, .int .i64 y.x.l, .slice y.a y.n y.c] ∧ Slab.Slots w y.a y.n y.x.z ∧ y.n ≤ maxLen ∧ -9223372036854775808 ≤ y.x.n ∧ y.x.n ≤ 9223372036854775807 := by
      intro i hil
      obtain ⟨cs', hc, ht⟩ := hi i (by omega)
      have k2 : Tryd.prog.cellsOf 43 = 3 := by kernel_rfl
      rw [k2] at hc
      obtain ⟨y, a', n', c', rfl, hs⟩ := open_leaf_cells ht (fun k hk => hw k (by
        rw [show d = _ from congrArg Prod.fst hx]
        simp only [DataW.weights, Tryd.underlying35]
        refine List.mem_cons_of_mem _ (List.mem_append.2 (.inl (Slab.weights_all_mem (d := D i) ?_ k hk)))
        exact List.mem_map.2 ⟨i, List.mem_range.2 hil, rfl⟩))
      exact ⟨⟨y, a', n', c'⟩, hc, hs⟩
    obtain ⟨f, hf2⟩ := choose_lt hone
    refine ⟨some a, len0, cap0, (List.range len0).map (fun i => (f i).x), rfl, ⟨by simp, ?_, fun hn => ?_⟩, by omega, by omega⟩
    · intro y hy
      obtain ⟨i, hir, rfl⟩ := List.mem_map.1 hy
      exact (hf2 i (List.mem_range.1 hir)).2.2.2
    · obtain ⟨b, off, spot⟩ := a
      have hcell : ∀ i, i < len0 → w.cell? ((Addr.mk b off spot).add (i * 3)) = some (.int .i64 (f i).x.n) ∧ w.cell? ((Addr.mk b off spot).add (i * 3 + 1)) = some (.int .i64 (f i).x.l) ∧ w.cell? ((Addr.mk b off spot).add (i * 3 + 2)) = some (.slice (f i).a (f i).n (f i).c) := by
        intro i hil
        obtain ⟨_, _, hat⟩ := World.cells?_some (hf2 i hil).1
        have h0 := hat 0 (by simp)
        have h1 := hat 1 (by simp)
        have h2 := hat 2 (by simp)
        rw [add_add] at h0 h1 h2
        exact ⟨by simpa using h0, by simpa using h1, by simpa using h2⟩
      have hc0 := (hcell 0 hn).1
      have hspot : spot = none := by
        have := World.cell?_spot hc0
        simpa [Addr.add] using this
      subst hspot
      refine ⟨b, off, rfl, ?_, fun i hil => ?_⟩
      · have := World.block_lt_of_cell? w _ hc0
        simpa [Addr.add] using this
      · have e : ((List.range len0).map (fun i => (f i).x)).getD i lf0 = (f i).x := by simp [List.getD, hil]
        rw [e]
        have ea : ∀ j, (Addr.mk b off none).add j = ⟨b, off + j, none⟩ := fun j => by unfold Addr.add; split <;> simp_all
        have := hcell i hil
        rw [ea, ea, ea] at this
        exact ⟨_, _, _, this.1, this.2.1, this.2.2, (hf2 i hil).2.1, (hf2 i hil).2.2.1⟩
theorem open_leaf {r : Reach} {b0 : Nat} {v : Value} {d : DataW H} {p : List MemPlace} (hv : Value.okWide Tryd.prog w r b0 43 v) (h : DataW.Trod enc Tryd.prog w base spare held 43 v d p) (hw : ∀ n ∈ d.weights Tryd.prog 43, n ≤ reachBytes) :
    ∃ y : Ro, v = .agg #[.int .i64 y.x.n, .int .i64 y.x.l, .slice y.a y.n y.c] ∧ Slab.Slots w y.a y.n y.x.z ∧ y.n ≤ maxLen ∧ -9223372036854775808 ≤ y.x.n ∧ y.x.n ≤ 9223372036854775807 := by
  obtain ⟨fuel, hf⟩ := h
  obtain ⟨cs, rfl, _⟩ := okWide_struct Tryd.underlying43 hv
  obtain ⟨y, a, n, c, e, hs⟩ := open_leaf_cells (x := (d, p)) (by simpa [Value.cells] using hf) hw
  refine ⟨⟨y, a, n, c⟩, ?_, hs⟩
  have : cs = #[.int .i64 y.n, .int .i64 y.l, .slice a n c] := by apply Array.toList_inj.1; simpa using e
  rw [this]
end
end Go.Proofs.YtnnppdjgmjgjhaaDoor.Twin
