/- A row of places (a slot's number and what is put there), opened. -/
import Derived.Test.YtnhdeebhkiemgaaSlabOpen
namespace Go.Proofs.Ytnhdeebhkiemgaa.Slab
open Go.RowKit Go.Joins Go.ChangeShapes Go.WideShapes Go.Deep

structure Place where
  k : Int
  x : Slot
def nop : Place := ⟨0, nos⟩
instance : Inhabited Place := ⟨nop⟩
def Places (w : World) (a : Option Addr) (n : Nat) (ps : List Place) : Prop :=
  ps.length = n ∧ (∀ p ∈ ps, p.x.d.size ≤ 140737488351232) ∧ (0 < n → ∃ b off, a = some ⟨b, off, none⟩ ∧ b < w.heap.size ∧
    ∀ i, i < n → w.cell? ⟨b, off + i * 3, none⟩ = some (.int .i64 (ps.getD i nop).k) ∧ w.cell? ⟨b, off + i * 3 + 1, none⟩ = some (.bool (ps.getD i nop).x.u) ∧ w.cell? ⟨b, off + i * 3 + 1 + 1, none⟩ = some (.string (ps.getD i nop).x.d))
theorem Places.below {w w' : World} {a : Option Addr} {n : Nat} {ps : List Place} (h : Places w a n ps) (hb : Below w.heap.size w w') : Places w' a n ps := by
  obtain ⟨h1, h2, h3⟩ := h
  refine ⟨h1, h2, fun hn => ?_⟩
  obtain ⟨b, off, ha, hlt, hc⟩ := h3 hn
  refine ⟨b, off, ha, Nat.lt_of_lt_of_le hlt hb.size, fun i hi => ?_⟩
  obtain ⟨c0, c1, c2⟩ := hc i hi
  exact ⟨(hb.cell (p := ⟨b, off + i * 3, none⟩) hlt).trans c0, (hb.cell (p := ⟨b, off + i * 3 + 1, none⟩) hlt).trans c1, (hb.cell (p := ⟨b, off + i * 3 + 1 + 1, none⟩) hlt).trans c2⟩
theorem Places.at_ {w : World} {a : Option Addr} {n k : Nat} {ps : List Place} (h : Places w a n ps) (hk : k < n) :
    ∃ b off s u d, a = some ⟨b, off, none⟩ ∧ b < w.heap.size ∧ ps.getD k nop = ⟨s, ⟨u, d⟩⟩ ∧ w.cell? ⟨b, off + k * 3, none⟩ = some (.int .i64 s) ∧ w.cell? ⟨b, off + k * 3 + 1, none⟩ = some (.bool u) ∧ w.cell? ⟨b, off + k * 3 + 1 + 1, none⟩ = some (.string d) ∧ d.size ≤ 140737488351232 := by
  obtain ⟨h1, h2, h3⟩ := h
  obtain ⟨b, off, ha, hlt, hc⟩ := h3 (by omega)
  obtain ⟨c0, c1, c2⟩ := hc k hk
  have hl : k < ps.length := by omega
  have e : ps.getD k nop = ps[k] := by simp [List.getD, hl]
  refine ⟨b, off, _, _, _, ha, hlt, rfl, c0, c1, c2, ?_⟩
  show (ps.getD k nop).x.d.size ≤ _
  rw [e]
  exact h2 _ (List.getElem_mem hl)
section
variable {H : Type} {enc : TypeId × Value → H} {w : World} {base : Nat} {spare : Nat → Bool} {held : Bool}
theorem open_place_cells {fuel : Nat} {cs : List Value} {x : DataW H × List MemPlace} (h : DataW.trod enc Try.prog w base spare held fuel 52 cs = some x) (hw : ∀ n ∈ x.1.weights Try.prog 52, n ≤ reachBytes) :
    ∃ p : Place, cs = [.int .i64 p.k, .bool p.x.u, .string p.x.d] ∧ p.x.d.size ≤ 140737488351232 := by
  obtain ⟨xs, n, _, hx, hcl, hxl, hf⟩ := DataW.trod_struct Try.underlying52 h
  have hl : cs.length = 3 := hcl.trans (by kernel_rfl)
  obtain ⟨c0, c1, c2, rfl⟩ : ∃ c0 c1 c2, cs = [c0, c1, c2] := by
    rcases cs with _ | ⟨c0, _ | ⟨c1, _ | ⟨c2, _ | ⟨c3, r⟩⟩⟩⟩ <;> simp at hl
    exact ⟨c0, c1, c2, rfl⟩
  have h0 := hf 0 _ rfl
  have h1 := hf 1 _ rfl
  have k0 : Try.prog.cellsOf 3 = 1 := by kernel_rfl
  have k1 : Try.prog.cellsOf 36 = 2 := by kernel_rfl
  simp only [List.getElem_toArray, List.getElem_cons_zero, List.getElem_cons_succ, k0, k1, List.drop_zero, List.take_succ_cons, List.take_zero, List.drop_succ_cons] at h0 h1
  have hlen : xs.length = 2 := hxl
  obtain ⟨y0, y1, rfl⟩ : ∃ y0 y1, xs = [y0, y1] := by
    rcases xs with _ | ⟨c0, _ | ⟨c1, _ | ⟨c2, r⟩⟩⟩ <;> simp at hlen
    exact ⟨c0, c1, rfl⟩
  obtain ⟨k, e0, _, _⟩ := DataW.trod_int Try.underlying3 h0
  obtain ⟨s, e1, hs⟩ := open_slot_cells h1 (fun n hn => hw n (by
    rw [hx]
    simp only [DataW.weights, Try.underlying52]
    exact DataW.weights_mem_each (j := 1) (t := 36) (d := y1.1) rfl rfl n hn))
  simp only [List.cons.injEq, and_true] at e0 e1
  obtain ⟨rfl, rfl⟩ := e1
  subst e0
  exact ⟨⟨k, s⟩, rfl, hs⟩
theorem open_places_cells {fuel : Nat} {cs : List Value} {x : DataW H × List MemPlace} (h : DataW.trod enc Try.prog w base spare held fuel 49 cs = some x) (hw : ∀ n ∈ x.1.weights Try.prog 49, n ≤ reachBytes) :
    ∃ a n c ps, cs = [.slice a n c] ∧ Places w a n ps := by
  rcases open_slice Try.underlying49 h with ⟨rfl, _⟩ | ⟨a, len, cap, m, n, D, Pl, hcs, hb, hl, hm, hmm, hx, hi⟩
  · exact ⟨none, 0, 0, [], rfl, rfl, by simp, fun h => absurd h (Nat.lt_irrefl 0)⟩
  · have hml : len ≤ m := by rw [hmm]; split <;> omega
    have hone : ∀ i, i < len → ∃ p : Place, w.cells? base (a.add (i * 3)) 3 = some [.int .i64 p.k, .bool p.x.u, .string p.x.d] ∧ p.x.d.size ≤ 140737488351232 := by
      intro i hil
      obtain ⟨cs', hc, ht⟩ := hi i (by omega)
      have k2 : Try.prog.cellsOf 52 = 3 := by kernel_rfl
      rw [k2] at hc
      obtain ⟨s, rfl, hs⟩ := open_place_cells ht (fun n hn => hw n (by
        rw [hx]
        simp only [DataW.weights, Try.underlying49]
        refine List.mem_cons_of_mem _ (List.mem_append.2 (.inl (weights_all_mem (d := D i) ?_ n hn)))
        exact List.mem_map.2 ⟨i, List.mem_range.2 hil, rfl⟩))
      exact ⟨s, hc, hs⟩
    obtain ⟨f, hf⟩ := choose_lt hone
    refine ⟨some a, len, cap, (List.range len).map f, hcs, by simp, ?_, fun hn => ?_⟩
    · intro y hy
      obtain ⟨i, hir, rfl⟩ := List.mem_map.1 hy
      exact (hf i (List.mem_range.1 hir)).2
    · obtain ⟨b, off, spot⟩ := a
      have hcell : ∀ i, i < len → w.cell? ((Addr.mk b off spot).add (i * 3)) = some (.int .i64 (f i).k) ∧ w.cell? ((Addr.mk b off spot).add (i * 3 + 1)) = some (.bool (f i).x.u) ∧ w.cell? ((Addr.mk b off spot).add (i * 3 + 2)) = some (.string (f i).x.d) := by
        intro i hil
        obtain ⟨_, _, hat⟩ := World.cells?_some (hf i hil).1
        have h0 := hat 0 (by simp)
        have h1 := hat 1 (by simp)
        have h2 := hat 2 (by simp)
        rw [add_add] at h0 h1 h2
        exact ⟨by simpa using h0, by simpa using h1, by simpa using h2⟩
      have hc0 := (hcell 0 hn).1
      have hspot : spot = none := by
        have := World.cell?_spot hc0
        simpa [Addr.add] using this
      subst hspot
      refine ⟨b, off, rfl, ?_, fun i hil => ?_⟩
      · have := World.block_lt_of_cell? w _ hc0
        simpa [Addr.add] using this
      · have e : ((List.range len).map f).getD i nop = f i := by simp [List.getD, hil]
        rw [e]
        have ea : ∀ j, (Addr.mk b off none).add j = ⟨b, off + j, none⟩ := fun j => by unfold Addr.add; split <;> simp_all
        have := hcell i hil
        rw [ea, ea, ea] at this
        exact this
theorem open_places {r : Reach} {b0 : Nat} {v : Value} {d : DataW H} {p : List MemPlace} (hv : Value.okWide Try.prog w r b0 49 v) (h : DataW.Trod enc Try.prog w base spare held 49 v d p) (hw : ∀ n ∈ d.weights Try.prog 49, n ≤ reachBytes) :
    ∃ a n c ps, v = .slice a n c ∧ Places w a n ps := by
  obtain ⟨fuel, hf⟩ := h
  obtain ⟨a, len, cap, rfl⟩ := okWide_slice Try.underlying49 hv
  obtain ⟨a', n, c, ps, e, hp⟩ := open_places_cells (x := (d, p)) (by simpa [Value.cells] using hf) hw
  simp at e
  obtain ⟨rfl, rfl, rfl⟩ := e
  exact ⟨_, _, _, ps, rfl, hp⟩
end
end Go.Proofs.Ytnhdeebhkiemgaa.Slab
