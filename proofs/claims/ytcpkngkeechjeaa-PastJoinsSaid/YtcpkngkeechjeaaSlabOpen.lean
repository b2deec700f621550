/- Slots, pages and places that came in, opened. -/
import Derived.Test.YtcpkngkeechjeaaSlabSlots
import Derived.Lib.SmallJoins
import Derived.SizedLaws
import Derived.OpenShut
namespace Go.Proofs.Ytcpkngkeechjeaa.Slab
set_option maxRecDepth 100000
open Go.RowKit Go.Joins Go.ChangeShapes Go.WideShapes Go.Deep
instance : Inhabited Slot := ⟨nos⟩
section
variable {H : Type} {enc : TypeId × Value → H} {w : World} {base : Nat} {spare : Nat → Bool} {held : Bool}
theorem weights_all_mem {P : Program} {e : TypeId} {d : DataW H} : ∀ {ds : List (DataW H)}, d ∈ ds → ∀ n ∈ d.weights P e, n ∈ DataW.weightsAll P e ds
  | x :: r, h, n, hn => by
    simp only [DataW.weightsAll, List.mem_append]
    rcases List.mem_cons.1 h with rfl | h
    · exact .inl hn
    · exact .inr (weights_all_mem h n hn)
/-- the cells of a slot, read -/
theorem open_slot_cells {fuel : Nat} {cs : List Value} {x : DataW H × List MemPlace} (h : DataW.trod enc Try.prog w base spare held fuel 29 cs = some x) (hw : ∀ n ∈ x.1.weights Try.prog 29, n ≤ reachBytes) :
    ∃ s : Slot, cs = [.bool s.u, .string s.d] ∧ s.d.size ≤ 140737488351232 := by
  obtain ⟨xs, n, _, hx, hcl, hxl, hf⟩ := DataW.trod_struct Try.underlying29 h
  have hl : cs.length = 2 := hcl.trans (by kernel_rfl)
  obtain ⟨c0, c1, rfl⟩ : ∃ c0 c1, cs = [c0, c1] := by
    rcases cs with _ | ⟨c0, _ | ⟨c1, _ | ⟨c2, r⟩⟩⟩ <;> simp at hl
    exact ⟨c0, c1, rfl⟩
  have h0 := hf 0 _ rfl
  have h1 := hf 1 _ rfl
  have k0 : Try.prog.cellsOf 4 = 1 := by kernel_rfl
  have k1 : Try.prog.cellsOf 9 = 1 := by kernel_rfl
  simp only [List.getElem_toArray, List.getElem_cons_zero, List.getElem_cons_succ, k0, k1, List.drop_zero, List.take_succ_cons, List.take_zero, List.drop_succ_cons] at h0 h1
  have hlen : xs.length = 2 := hxl
  obtain ⟨y0, y1, rfl⟩ : ∃ y0 y1, xs = [y0, y1] := by
    rcases xs with _ | ⟨c0, _ | ⟨c1, _ | ⟨c2, r⟩⟩⟩ <;> simp at hlen
    exact ⟨c0, c1, rfl⟩
  obtain ⟨b, e0, _⟩ := DataW.trod_bool Try.underlying4 h0
  obtain ⟨s, e1, e2, _⟩ := DataW.trod_string Try.underlying9 h1
  simp only [List.cons.injEq, and_true] at e0 e1
  subst e0 e1
  refine ⟨⟨b, s⟩, rfl, ?_⟩
  have := hw s.data.toList.length (by
    rw [hx]
    simp only [DataW.weights, Try.underlying29]
    refine DataW.weights_mem_each (j := 1) (t := 9) (d := y1.1) rfl rfl _ ?_
    rw [e2]; simp [DataW.weights])
  unfold reachBytes at this
  simpa using this
/-- a slice of slots that came in -/
theorem open_slots {fuel : Nat} {cs : List Value} {x : DataW H × List MemPlace} (h : DataW.trod enc Try.prog w base spare held fuel 88 cs = some x) (hw : ∀ n ∈ x.1.weights Try.prog 88, n ≤ reachBytes) :
    ∃ a n c zs, cs = [.slice a n c] ∧ Slots w a n zs := by
  rcases open_slice Try.underlying88 h with ⟨rfl, _⟩ | ⟨a, len, cap, m, n, D, Pl, hcs, hb, hl, hm, hmm, hx, hi⟩
  · exact ⟨none, 0, 0, [], rfl, Slots.nil _ _⟩
  · have hml : len ≤ m := by rw [hmm]; split <;> omega
    have hone : ∀ i, i < len → ∃ s : Slot, w.cells? base (a.add (i * 2)) 2 = some [.bool s.u, .string s.d] ∧ s.d.size ≤ 140737488351232 := by
      intro i hil
      obtain ⟨cs', hc, ht⟩ := hi i (by omega)
      have k2 : Try.prog.cellsOf 29 = 2 := by kernel_rfl
      rw [k2] at hc
      obtain ⟨s, rfl, hs⟩ := open_slot_cells ht (fun n hn => hw n (by
        rw [hx]
        simp only [DataW.weights, Try.underlying88]
        refine List.mem_cons_of_mem _ (List.mem_append.2 (.inl (weights_all_mem (d := D i) ?_ n hn)))
        exact List.mem_map.2 ⟨i, List.mem_range.2 hil, rfl⟩))
      exact ⟨s, hc, hs⟩
    obtain ⟨f, hf⟩ := choose_lt hone
    refine ⟨some a, len, cap, (List.range len).map f, hcs, by simp, ?_, fun hn => ?_⟩
    · intro y hy
      obtain ⟨i, hir, rfl⟩ := List.mem_map.1 hy
      exact (hf i (List.mem_range.1 hir)).2
    · obtain ⟨b, off, spot⟩ := a
      have hcell : ∀ i, i < len → w.cell? ((Addr.mk b off spot).add (i * 2)) = some (.bool (f i).u) ∧ w.cell? ((Addr.mk b off spot).add (i * 2 + 1)) = some (.string (f i).d) := by
        intro i hil
        obtain ⟨_, _, hat⟩ := World.cells?_some (hf i hil).1
        have h0 := hat 0 (by simp)
        have h1 := hat 1 (by simp)
        rw [add_add] at h0 h1
        exact ⟨by simpa using h0, by simpa using h1⟩
      have hc0 := (hcell 0 hn).1
      have hspot : spot = none := by
        have := World.cell?_spot hc0
        simpa [Addr.add] using this
      subst hspot
      refine ⟨b, off, rfl, ?_, fun i hil => ?_⟩
      · have := World.block_lt_of_cell? w _ hc0
        simpa [Addr.add] using this
      · have e : ((List.range len).map f).getD i nos = f i := by simp [List.getD, hil]
        rw [e]
        have ea : ∀ j, (Addr.mk b off none).add j = ⟨b, off + j, none⟩ := fun j => by unfold Addr.add; split <;> simp_all
        have := hcell i hil
        rw [ea, ea] at this
        exact this
set_option maxRecDepth 100000 in
theorem open_page {r : Reach} {b0 : Nat} {v : Value} {d : DataW H} {p : List MemPlace} (hv : Value.okWide Try.prog w r b0 90 v) (h : DataW.Trod enc Try.prog w base spare held 90 v d p) (hw : ∀ n ∈ d.weights Try.prog 90, n ≤ reachBytes) :
    ∃ lsn a n c zs, v = .agg #[.int .i64 lsn, .slice a n c] ∧ (Lit.int .i64 lsn).wf = true ∧ Slots w a n zs := by
  obtain ⟨v0, v1, y0, y1, m, rfl, rfl, _, h0, h1⟩ := open_agg2 Try.underlying90 (by kernel_rfl) (by kernel_rfl) hv h
  obtain ⟨lsn, e0, _, hwf⟩ := DataW.trod_int Try.underlying3 h0
  obtain ⟨a, n, c, zs, e1, hs⟩ := open_slots h1 (fun n hn => hw n (by
    simp only [DataW.weights, Try.underlying90]
    exact DataW.weights_mem_each (j := 1) (t := 88) (d := y1.1) rfl rfl n hn))
  simp only [List.cons.injEq, and_true] at e0 e1
  subst e0 e1
  exact ⟨lsn, a, n, c, zs, rfl, hwf, hs⟩
set_option maxRecDepth 100000 in
theorem open_slot {r : Reach} {b0 : Nat} {v : Value} {d : DataW H} {p : List MemPlace} (hv : Value.okWide Try.prog w r b0 29 v) (h : DataW.Trod enc Try.prog w base spare held 29 v d p) (hw : ∀ n ∈ d.weights Try.prog 29, n ≤ reachBytes) :
    ∃ u s, v = .agg #[.bool u, .string s] ∧ s.size ≤ 140737488351232 := by
  obtain ⟨fuel, hf⟩ := h
  obtain ⟨cs, rfl, _⟩ := okWide_struct Try.underlying29 hv
  obtain ⟨s, e, hs⟩ := open_slot_cells (x := (d, p)) (by simpa [Value.cells] using hf) hw
  refine ⟨s.u, s.d, ?_, hs⟩
  have : cs = #[.bool s.u, .string s.d] := by apply Array.toList_inj.1; simpa using e
  rw [this]
end
end Go.Proofs.Ytcpkngkeechjeaa.Slab
