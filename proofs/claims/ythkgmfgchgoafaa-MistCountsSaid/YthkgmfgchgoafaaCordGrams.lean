/- A row of api.Gram that came in, opened. -/
import Derived.Test.YthkgmfgchgoafaaInts
import Derived.Lib.SmallJoins
import Derived.SizedLaws
import Derived.OpenShut
namespace Go.Proofs.Ythkgmfgchgoafaa.CordG
set_option maxRecDepth 100000
open Go.RowKit Go.Joins Go.ChangeShapes Go.WideShapes Go.Deep
open Go.Proofs.Ythkgmfgchgoafaa.Mem
structure Gr where
  cl : Int
  up : Bool
  ep : Int
  sq : Int
  ak : Int
  bd : ByteArray
def noGr : Gr := ⟨0, false, 0, 0, 0, ⟨#[]⟩⟩
instance : Inhabited Gr := ⟨noGr⟩
def GrGood (x : Gr) : Prop := -9223372036854775808 ≤ x.cl ∧ x.cl ≤ 9223372036854775807 ∧ -9223372036854775808 ≤ x.ep ∧ x.ep ≤ 9223372036854775807 ∧ -9223372036854775808 ≤ x.sq ∧ x.sq ≤ 9223372036854775807 ∧ -9223372036854775808 ≤ x.ak ∧ x.ak ≤ 9223372036854775807 ∧ x.bd.size ≤ 140737488351232
/-- the cells of the i-th -/
def GrAt (w : World) (b off i : Nat) (x : Gr) : Prop := w.cell? ⟨b, off + i * 6, none⟩ = some (.int .i64 x.cl) ∧ w.cell? ⟨b, off + i * 6 + 1, none⟩ = some (.bool x.up) ∧ w.cell? ⟨b, off + i * 6 + 1 + 1, none⟩ = some (.int .i64 x.ep) ∧ w.cell? ⟨b, off + i * 6 + 1 + 1 + 1, none⟩ = some (.int .i64 x.sq) ∧ w.cell? ⟨b, off + i * 6 + 1 + 1 + 1 + 1, none⟩ = some (.int .i64 x.ak) ∧ w.cell? ⟨b, off + i * 6 + 1 + 1 + 1 + 1 + 1, none⟩ = some (.string x.bd)
def Grs (w : World) (a : Option Addr) (n : Nat) (xs : List Gr) : Prop :=
  xs.length = n ∧ (∀ x ∈ xs, GrGood x) ∧ (0 < n → ∃ b off, a = some ⟨b, off, none⟩ ∧ b < w.heap.size ∧ ∀ i, i < n → GrAt w b off i (xs.getD i noGr))
theorem Grs.below {w w' : World} {a : Option Addr} {n : Nat} {xs : List Gr} (h : Grs w a n xs) (hb : Below w.heap.size w w') : Grs w' a n xs := by
  obtain ⟨h1, h2, h3⟩ := h
  refine ⟨h1, h2, fun hn => ?_⟩
  obtain ⟨b, off, ha, hlt, hc⟩ := h3 hn
  refine ⟨b, off, ha, Nat.lt_of_lt_of_le hlt hb.size, fun i hi => ?_⟩
  obtain ⟨c0, c1, c2, c3, c4, c5⟩ := hc i hi
  exact ⟨(hb.cell (p := ⟨b, off + i * 6, none⟩) hlt).trans c0, (hb.cell (p := ⟨b, off + i * 6 + 1, none⟩) hlt).trans c1, (hb.cell (p := ⟨b, off + i * 6 + 1 + 1, none⟩) hlt).trans c2, (hb.cell (p := ⟨b, off + i * 6 + 1 + 1 + 1, none⟩) hlt).trans c3, (hb.cell (p := ⟨b, off + i * 6 + 1 + 1 + 1 + 1, none⟩) hlt).trans c4, (hb.cell (p := ⟨b, off + i * 6 + 1 + 1 + 1 + 1 + 1, none⟩) hlt).trans c5⟩
theorem Grs.at_ {w : World} {a : Option Addr} {n k : Nat} {xs : List Gr} (h : Grs w a n xs) (hk : k < n) :
    ∃ b off x, a = some ⟨b, off, none⟩ ∧ b < w.heap.size ∧ xs.getD k noGr = x ∧ GrAt w b off k x ∧ GrGood x := by
  obtain ⟨h1, h2, h3⟩ := h
  obtain ⟨b, off, ha, hlt, hc⟩ := h3 (by omega)
  have hl : k < xs.length := by omega
  have e : xs.getD k noGr = xs[k] := by simp [List.getD, hl]
  exact ⟨b, off, _, ha, hlt, rfl, hc k hk, by rw [e]; exact h2 _ (List.getElem_mem hl)⟩
section
variable {H : Type} {enc : TypeId × Value → H} {w : World} {base : Nat} {spare : Nat → Bool} {held : Bool}
theorem weights_all_in {P : Program} {e : TypeId} {d : DataW H} : ∀ {ds : List (DataW H)}, d ∈ ds → ∀ n ∈ d.weights P e, n ∈ DataW.weightsAll P e ds
  | x :: r, h, n, hn => by
    simp only [DataW.weightsAll, List.mem_append]
    rcases List.mem_cons.1 h with rfl | h
    · exact .inl hn
    · exact .inr (weights_all_in h n hn)
theorem open_gr_cells {fuel : Nat} {cs : List Value} {x : DataW H × List MemPlace} (h : DataW.trod enc Try.prog w base spare held fuel 29 cs = some x) (hw : ∀ n ∈ x.1.weights Try.prog 29, n ≤ reachBytes) :
    ∃ y : Gr, cs = [.int .i64 y.cl, .bool y.up, .int .i64 y.ep, .int .i64 y.sq, .int .i64 y.ak, .string y.bd] ∧ GrGood y := by
  obtain ⟨xs, n, _, hx, hcl, hxl, hf⟩ := DataW.trod_struct Try.underlying29 h
  have hl : cs.length = 6 := hcl.trans (by kernel_rfl)
  obtain ⟨c0, c1, c2, c3, c4, c5, rfl⟩ : ∃ c0 c1 c2 c3 c4 c5, cs = [c0, c1, c2, c3, c4, c5] := by
    rcases cs with _ | ⟨c0, _ | ⟨c1, _ | ⟨c2, _ | ⟨c3, _ | ⟨c4, _ | ⟨c5, _ | ⟨c6, r⟩⟩⟩⟩⟩⟩⟩ <;> simp at hl
    exact ⟨c0, c1, c2, c3, c4, c5, rfl⟩
  have h0 := hf 0 _ rfl
  have h1 := hf 1 _ rfl
  have h2 := hf 2 _ rfl
  have h3 := hf 3 _ rfl
  have h4 := hf 4 _ rfl
  have h5 := hf 5 _ rfl
  have k0 : Try.prog.cellsOf 3 = 1 := by kernel_rfl
  have k1 : Try.prog.cellsOf 4 = 1 := by kernel_rfl
  have k2 : Try.prog.cellsOf 3 = 1 := by kernel_rfl
  have k3 : Try.prog.cellsOf 3 = 1 := by kernel_rfl
  have k4 : Try.prog.cellsOf 3 = 1 := by kernel_rfl
  have k5 : Try.prog.cellsOf 9 = 1 := by kernel_rfl
  simp only [List.getElem_toArray, List.getElem_cons_zero, List.getElem_cons_succ, k0, k1, k5, List.drop_zero, List.take_succ_cons, List.take_zero, List.drop_succ_cons] at h0 h1 h2 h3 h4 h5
  have hlen : xs.length = 6 := hxl
  obtain ⟨y0, y1, y2, y3, y4, y5, rfl⟩ : ∃ y0 y1 y2 y3 y4 y5, xs = [y0, y1, y2, y3, y4, y5] := by
    rcases xs with _ | ⟨y0, _ | ⟨y1, _ | ⟨y2, _ | ⟨y3, _ | ⟨y4, _ | ⟨y5, _ | ⟨y6, r⟩⟩⟩⟩⟩⟩⟩ <;> simp at hlen
    exact ⟨y0, y1, y2, y3, y4, y5, rfl⟩
  obtain ⟨z0, e0, _, w0⟩ := DataW.trod_int Try.underlying3 h0
  obtain ⟨z1, e1, _⟩ := DataW.trod_bool Try.underlying4 h1
  obtain ⟨z2, e2, _, w2⟩ := DataW.trod_int Try.underlying3 h2
  obtain ⟨z3, e3, _, w3⟩ := DataW.trod_int Try.underlying3 h3
  obtain ⟨z4, e4, _, w4⟩ := DataW.trod_int Try.underlying3 h4
  obtain ⟨z5, e5, s5, _⟩ := DataW.trod_string Try.underlying9 h5
  simp only [List.cons.injEq, and_true] at e0 e1 e2 e3 e4 e5
  subst e0 e1 e2 e3 e4 e5
  have g0 := fits_i64 w0
  have g2 := fits_i64 w2
  have g3 := fits_i64 w3
  have g4 := fits_i64 w4
  have g5 : z5.size ≤ 140737488351232 := by
    have := hw z5.data.toList.length (by
      rw [hx]
      simp only [DataW.weights, Try.underlying29]
      refine DataW.weights_mem_each (j := 5) (t := 9) (d := y5.1) rfl rfl _ ?_
      rw [s5]; simp [DataW.weights])
    unfold reachBytes at this
    simpa using this
  exact ⟨⟨z0, z1, z2, z3, z4, z5⟩, rfl, ⟨g0.1, g0.2, g2.1, g2.2, g3.1, g3.2, g4.1, g4.2, g5⟩⟩
theorem open_grs_cells {fuel : Nat} {cs : List Value} {x : DataW H × List MemPlace} (h : DataW.trod enc Try.prog w base spare held fuel 67 cs = some x) (hw : ∀ n ∈ x.1.weights Try.prog 67, n ≤ reachBytes) :
    ∃ a n c ps, cs = [.slice a n c] ∧ Grs w a n ps := by
  rcases open_slice Try.underlying67 h with ⟨rfl, _⟩ | ⟨a, len, cap, m, n, D, Pl, hcs, hb, hl, hm, hmm, hx, hi⟩
  · exact ⟨none, 0, 0, [], rfl, rfl, by simp, fun h => absurd h (Nat.lt_irrefl 0)⟩
  · have hml : len ≤ m := by rw [hmm]; split <;> omega
    have hone : ∀ i, i < len → ∃ y : Gr, w.cells? base (a.add (i * 6)) 6 = some [.int .i64 y.cl, .bool y.up, .int .i64 y.ep, .int .i64 y.sq, .int .i64 y.ak, .string y.bd] ∧ GrGood y := by
      intro i hil
      obtain ⟨cs', hc, ht⟩ := hi i (by omega)
      have k2 : Try.prog.cellsOf 29 = 6 := by kernel_rfl
      rw [k2] at hc
      obtain ⟨s, rfl, hs⟩ := open_gr_cells ht (fun n hn => hw n (by
        rw [hx]
        simp only [DataW.weights, Try.underlying67]
        refine List.mem_cons_of_mem _ (List.mem_append.2 (.inl (weights_all_in (d := D i) ?_ n hn)))
        exact List.mem_map.2 ⟨i, List.mem_range.2 hil, rfl⟩))
      exact ⟨s, hc, hs⟩
    obtain ⟨f, hf⟩ := choose_lt hone
    refine ⟨some a, len, cap, (List.range len).map f, hcs, by simp, ?_, fun hn => ?_⟩
    · intro y hy
      obtain ⟨i, hir, rfl⟩ := List.mem_map.1 hy
      exact (hf i (List.mem_range.1 hir)).2
    · obtain ⟨b, off, spot⟩ := a
      have hcell : ∀ i, i < len → w.cell? ((Addr.mk b off spot).add (i * 6)) = some (.int .i64 (f i).cl) ∧ w.cell? ((Addr.mk b off spot).add (i * 6 + 1)) = some (.bool (f i).up) ∧ w.cell? ((Addr.mk b off spot).add (i * 6 + 2)) = some (.int .i64 (f i).ep) ∧ w.cell? ((Addr.mk b off spot).add (i * 6 + 3)) = some (.int .i64 (f i).sq) ∧ w.cell? ((Addr.mk b off spot).add (i * 6 + 4)) = some (.int .i64 (f i).ak) ∧ w.cell? ((Addr.mk b off spot).add (i * 6 + 5)) = some (.string (f i).bd) := by
        intro i hil
        obtain ⟨_, _, hat⟩ := World.cells?_some (hf i hil).1
        have h0 := hat 0 (by simp)
        have h1 := hat 1 (by simp)
        have h2 := hat 2 (by simp)
        have h3 := hat 3 (by simp)
        have h4 := hat 4 (by simp)
        have h5 := hat 5 (by simp)
        rw [add_add] at h0 h1 h2 h3 h4 h5
        exact ⟨by simpa using h0, by simpa using h1, by simpa using h2, by simpa using h3, by simpa using h4, by simpa using h5⟩
      have hc0 := (hcell 0 hn).1
      have hspot : spot = none := by
        have := World.cell?_spot hc0
        simpa [Addr.add] using this
      subst hspot
      refine ⟨b, off, rfl, ?_, fun i hil => ?_⟩
      · have := World.block_lt_of_cell? w _ hc0
        simpa [Addr.add] using this
      · have e : ((List.range len).map f).getD i noGr = f i := by simp [List.getD, hil]
        rw [e]
        have ea : ∀ j, (Addr.mk b off none).add j = ⟨b, off + j, none⟩ := fun j => by unfold Addr.add; split <;> simp_all
        have := hcell i hil
        rw [ea, ea, ea, ea, ea, ea] at this
        exact this
theorem open_grs {r : Reach} {b0 : Nat} {v : Value} {d : DataW H} {p : List MemPlace} (hv : Value.okWide Try.prog w r b0 67 v) (h : DataW.Trod enc Try.prog w base spare held 67 v d p) (hw : ∀ n ∈ d.weights Try.prog 67, n ≤ reachBytes) :
    ∃ a n c ps, v = .slice a n c ∧ Grs w a n ps := by
  obtain ⟨fuel, hf⟩ := h
  obtain ⟨a, len, cap, rfl⟩ := okWide_slice Try.underlying67 hv
  obtain ⟨a', n, c, ps, e, hp⟩ := open_grs_cells (x := (d, p)) (by simpa [Value.cells] using hf) hw
  simp at e
  obtain ⟨rfl, rfl, rfl⟩ := e
  exact ⟨_, _, _, ps, rfl, hp⟩
end
end Go.Proofs.Ythkgmfgchgoafaa.CordG
