/- A row of api.Txn that came in, opened. -/
import Derived.Test.YtcpkngkeechjeaaInts
import Derived.Lib.SmallJoins
import Derived.SizedLaws
import Derived.OpenShut
namespace Go.Proofs.Ytcpkngkeechjeaa.PTx
set_option maxRecDepth 100000
open Go.RowKit Go.Joins Go.ChangeShapes Go.WideShapes Go.Deep
open Go.Proofs.Ytcpkngkeechjeaa.Mem
structure Tn where
  cl : Int
  ep : Int
  n : Int
def noTn : Tn := ⟨0, 0, 0⟩
instance : Inhabited Tn := ⟨noTn⟩
def TnGood (x : Tn) : Prop := -9223372036854775808 ≤ x.cl ∧ x.cl ≤ 9223372036854775807 ∧ -9223372036854775808 ≤ x.ep ∧ x.ep ≤ 9223372036854775807 ∧ -9223372036854775808 ≤ x.n ∧ x.n ≤ 9223372036854775807
/-- the cells of the i-th -/
def TnAt (w : World) (b off i : Nat) (x : Tn) : Prop := w.cell? ⟨b, off + i * 3, none⟩ = some (.int .i64 x.cl) ∧ w.cell? ⟨b, off + i * 3 + 1, none⟩ = some (.int .i64 x.ep) ∧ w.cell? ⟨b, off + i * 3 + 1 + 1, none⟩ = some (.int .i64 x.n)
def Tns (w : World) (a : Option Addr) (n : Nat) (xs : List Tn) : Prop :=
  xs.length = n ∧ (∀ x ∈ xs, TnGood x) ∧ (0 < n → ∃ b off, a = some ⟨b, off, none⟩ ∧ b < w.heap.size ∧ ∀ i, i < n → TnAt w b off i (xs.getD i noTn))
theorem Tns.below {w w' : World} {a : Option Addr} {n : Nat} {xs : List Tn} (h : Tns w a n xs) (hb : Below w.heap.size w w') : Tns w' a n xs := by
  obtain ⟨h1, h2, h3⟩ := h
  refine ⟨h1, h2, fun hn => ?_⟩
  obtain ⟨b, off, ha, hlt, hc⟩ := h3 hn
  refine ⟨b, off, ha, Nat.lt_of_lt_of_le hlt hb.size, fun i hi => ?_⟩
  obtain ⟨c0, c1, c2⟩ := hc i hi
  exact ⟨(hb.cell (p := ⟨b, off + i * 3, none⟩) hlt).trans c0, (hb.cell (p := ⟨b, off + i * 3 + 1, none⟩) hlt).trans c1, (hb.cell (p := ⟨b, off + i * 3 + 1 + 1, none⟩) hlt).trans c2⟩
theorem Tns.at_ {w : World} {a : Option Addr} {n k : Nat} {xs : List Tn} (h : Tns w a n xs) (hk : k < n) :
    ∃ b off x, a = some ⟨b, off, none⟩ ∧ b < w.heap.size ∧ xs.getD k noTn = x ∧ TnAt w b off k x ∧ TnGood x := by
  obtain ⟨h1, h2, h3⟩ := h
  obtain ⟨b, off, ha, hlt, hc⟩ := h3 (by omega)
  have hl : k < xs.length := by omega
  have e : xs.getD k noTn = xs[k] := by simp [List.getD, hl]
  exact ⟨b, off, _, ha, hlt, rfl, hc k hk, by rw [e]; exact h2 _ (List.getElem_mem hl)⟩
section
variable {H : Type} {enc : TypeId × Value → H} {w : World} {base : Nat} {spare : Nat → Bool} {held : Bool}
theorem weights_all_in {P : Program} {e : TypeId} {d : DataW H} : ∀ {ds : List (DataW H)}, d ∈ ds → ∀ n ∈ d.weights P e, n ∈ DataW.weightsAll P e ds
  | x :: r, h, n, hn => by
    simp only [DataW.weightsAll, List.mem_append]
    rcases List.mem_cons.1 h with rfl | h
    · exact .inl hn
    · exact .inr (weights_all_in h n hn)
theorem open_tn_cells {fuel : Nat} {cs : List Value} {x : DataW H × List MemPlace} (h : DataW.trod enc Try.prog w base spare held fuel 24 cs = some x) (_hw : ∀ n ∈ x.1.weights Try.prog 24, n ≤ reachBytes) :
    ∃ y : Tn, cs = [.int .i64 y.cl, .int .i64 y.ep, .int .i64 y.n] ∧ TnGood y := by
  obtain ⟨xs, n, _, _, hcl, hxl, hf⟩ := DataW.trod_struct Try.underlying24 h
  have hl : cs.length = 3 := hcl.trans (by kernel_rfl)
  obtain ⟨c0, c1, c2, rfl⟩ : ∃ c0 c1 c2, cs = [c0, c1, c2] := by
    rcases cs with _ | ⟨c0, _ | ⟨c1, _ | ⟨c2, _ | ⟨c3, r⟩⟩⟩⟩ <;> simp at hl
    exact ⟨c0, c1, c2, rfl⟩
  have h0 := hf 0 _ rfl
  have h1 := hf 1 _ rfl
  have h2 := hf 2 _ rfl
  have k0 : Try.prog.cellsOf 3 = 1 := by kernel_rfl
  have k1 : Try.prog.cellsOf 3 = 1 := by kernel_rfl
  have k2 : Try.prog.cellsOf 3 = 1 := by kernel_rfl
  simp only [List.getElem_toArray, List.getElem_cons_zero, List.getElem_cons_succ, k0, List.drop_zero, List.take_succ_cons, List.take_zero, List.drop_succ_cons] at h0 h1 h2
  have hlen : xs.length = 3 := hxl
  obtain ⟨y0, y1, y2, rfl⟩ : ∃ y0 y1 y2, xs = [y0, y1, y2] := by
    rcases xs with _ | ⟨y0, _ | ⟨y1, _ | ⟨y2, _ | ⟨y3, r⟩⟩⟩⟩ <;> simp at hlen
    exact ⟨y0, y1, y2, rfl⟩
  obtain ⟨z0, e0, _, w0⟩ := DataW.trod_int Try.underlying3 h0
  obtain ⟨z1, e1, _, w1⟩ := DataW.trod_int Try.underlying3 h1
  obtain ⟨z2, e2, _, w2⟩ := DataW.trod_int Try.underlying3 h2
  simp only [List.cons.injEq, and_true] at e0 e1 e2
  subst e0 e1 e2
  have g0 := fits_i64 w0
  have g1 := fits_i64 w1
  have g2 := fits_i64 w2
  exact ⟨⟨z0, z1, z2⟩, rfl, ⟨g0.1, g0.2, g1.1, g1.2, g2.1, g2.2⟩⟩
theorem open_tns_cells {fuel : Nat} {cs : List Value} {x : DataW H × List MemPlace} (h : DataW.trod enc Try.prog w base spare held fuel 34 cs = some x) (hw : ∀ n ∈ x.1.weights Try.prog 34, n ≤ reachBytes) :
    ∃ a n c ps, cs = [.slice a n c] ∧ Tns w a n ps := by
  rcases open_slice Try.underlying34 h with ⟨rfl, _⟩ | ⟨a, len, cap, m, n, D, Pl, hcs, hb, hl, hm, hmm, hx, hi⟩
  · exact ⟨none, 0, 0, [], rfl, rfl, by simp, fun h => absurd h (Nat.lt_irrefl 0)⟩
  · have hml : len ≤ m := by rw [hmm]; split <;> omega
    have hone : ∀ i, i < len → ∃ y : Tn, w.cells? base (a.add (i * 3)) 3 = some [.int .i64 y.cl, .int .i64 y.ep, .int .i64 y.n] ∧ TnGood y := by
      intro i hil
      obtain ⟨cs', hc, ht⟩ := hi i (by omega)
      have k2 : Try.prog.cellsOf 24 = 3 := by kernel_rfl
      rw [k2] at hc
      obtain ⟨s, rfl, hs⟩ := open_tn_cells ht (fun n hn => hw n (by
        rw [hx]
        simp only [DataW.weights, Try.underlying34]
        refine List.mem_cons_of_mem _ (List.mem_append.2 (.inl (weights_all_in (d := D i) ?_ n hn)))
        exact List.mem_map.2 ⟨i, List.mem_range.2 hil, rfl⟩))
      exact ⟨s, hc, hs⟩
    obtain ⟨f, hf⟩ := choose_lt hone
    refine ⟨some a, len, cap, (List.range len).map f, hcs, by simp, ?_, fun hn => ?_⟩
    · intro y hy
      obtain ⟨i, hir, rfl⟩ := List.mem_map.1 hy
      exact (hf i (List.mem_range.1 hir)).2
    · obtain ⟨b, off, spot⟩ := a
      have hcell : ∀ i, i < len → w.cell? ((Addr.mk b off spot).add (i * 3)) = some (.int .i64 (f i).cl) ∧ w.cell? ((Addr.mk b off spot).add (i * 3 + 1)) = some (.int .i64 (f i).ep) ∧ w.cell? ((Addr.mk b off spot).add (i * 3 + 2)) = some (.int .i64 (f i).n) := by
        intro i hil
        obtain ⟨_, _, hat⟩ := World.cells?_some (hf i hil).1
        have h0 := hat 0 (by simp)
        have h1 := hat 1 (by simp)
        have h2 := hat 2 (by simp)
        rw [add_add] at h0 h1 h2
        exact ⟨by simpa using h0, by simpa using h1, by simpa using h2⟩
      have hc0 := (hcell 0 hn).1
      have hspot : spot = none := by
        have := World.cell?_spot hc0
        simpa [Addr.add] using this
      subst hspot
      refine ⟨b, off, rfl, ?_, fun i hil => ?_⟩
      · have := World.block_lt_of_cell? w _ hc0
        simpa [Addr.add] using this
      · have e : ((List.range len).map f).getD i noTn = f i := by simp [List.getD, hil]
        rw [e]
        have ea : ∀ j, (Addr.mk b off none).add j = ⟨b, off + j, none⟩ := fun j => by unfold Addr.add; split <;> simp_all
        have := hcell i hil
        rw [ea, ea, ea] at this
        exact this
theorem open_tns {r : Reach} {b0 : Nat} {v : Value} {d : DataW H} {p : List MemPlace} (hv : Value.okWide Try.prog w r b0 34 v) (h : DataW.Trod enc Try.prog w base spare held 34 v d p) (hw : ∀ n ∈ d.weights Try.prog 34, n ≤ reachBytes) :
    ∃ a n c ps, v = .slice a n c ∧ Tns w a n ps := by
  obtain ⟨fuel, hf⟩ := h
  obtain ⟨a, len, cap, rfl⟩ := okWide_slice Try.underlying34 hv
  obtain ⟨a', n, c, ps, e, hp⟩ := open_tns_cells (x := (d, p)) (by simpa [Value.cells] using hf) hw
  simp at e
  obtain ⟨rfl, rfl, rfl⟩ := e
  exact ⟨_, _, _, ps, rfl, hp⟩
end
end Go.Proofs.Ytcpkngkeechjeaa.PTx
