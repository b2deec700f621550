/- A row of pairs of numbers that came in, opened. -/
import Derived.Test.YthodggkpkjfggaaInts
import Derived.Test.YthodggkpkjfggaaKnotGraph
import Derived.Lib.SmallJoins
import Derived.SizedLaws
import Derived.OpenShut
import Derived.Laws.IdiomArrays
import Derived.WideKeyArr2
namespace Go.Proofs.Ythodggkpkjfggaa.Knot
set_option maxRecDepth 100000
open Go.RowKit Go.Joins Go.ChangeShapes Go.WideShapes Go.Deep
open Go.Proofs.Ythodggkpkjfggaa.Mem
def noEd : Ed := ⟨0, 0⟩
instance : Inhabited Ed := ⟨noEd⟩
def Prs (w : World) (a : Option Addr) (n : Nat) (xs : List Ed) : Prop :=
  xs.length = n ∧ (0 < n → ∃ b off, a = some ⟨b, off, none⟩ ∧ b < w.heap.size ∧ ∀ i e, xs[i]? = some e → w.cell? ⟨b, off + i * 2, none⟩ = some (.int .i64 e.f) ∧ w.cell? ⟨b, off + i * 2 + 1, none⟩ = some (.int .i64 e.t))
theorem Prs.below {w w' : World} {a : Option Addr} {n : Nat} {xs : List Ed} (h : Prs w a n xs) (hb : Below w.heap.size w w') : Prs w' a n xs := by
  obtain ⟨h1, h3⟩ := h
  refine ⟨h1, fun hn => ?_⟩
  obtain ⟨b, off, ha, hlt, hc⟩ := h3 hn
  exact ⟨b, off, ha, Nat.lt_of_lt_of_le hlt hb.size, fun i e hi => ⟨(hb.cell (p := ⟨b, off + i * 2, none⟩) hlt).trans (hc i e hi).1, (hb.cell (p := ⟨b, off + i * 2 + 1, none⟩) hlt).trans (hc i e hi).2⟩⟩
theorem Prs.at_ {w : World} {a : Option Addr} {n k : Nat} {xs : List Ed} {e : Ed} (h : Prs w a n xs) (hk : xs[k]? = some e) :
    ∃ b off, a = some ⟨b, off, none⟩ ∧ b < w.heap.size ∧ w.cell? ⟨b, off + k * 2, none⟩ = some (.int .i64 e.f) ∧ w.cell? ⟨b, off + k * 2 + 1, none⟩ = some (.int .i64 e.t) := by
  obtain ⟨h1, h3⟩ := h
  have hlt := (List.getElem?_eq_some_iff.1 hk).1
  obtain ⟨b, off, ha, hb, hc⟩ := h3 (by omega)
  exact ⟨b, off, ha, hb, hc k e hk⟩
section
variable {H : Type} {enc : TypeId × Value → H} {w : World} {base : Nat} {spare : Nat → Bool} {held : Bool}
theorem open_pair_cells {fuel : Nat} {cs : List Value} {x : DataW H × List MemPlace} (h : DataW.trod enc Try.prog w base spare held fuel 54 cs = some x) :
    ∃ y : Ed, cs = [.int .i64 y.f, .int .i64 y.t] := by
  obtain ⟨xs, m, _, _, hcl, hxl, hi⟩ := DataW.trod_array Try.underlying54 h
  have hc : Try.prog.cellsOf 3 = 1 := by kernel_rfl
  have hl : cs.length = 2 := by
    first
    | exact hcl.trans (by kernel_rfl)
    | (rw [hc] at hcl; simpa using hcl)
  match xs, hxl with
  | [y0, y1], _ =>
    have h0 := hi 0 (by omega)
    have h1 := hi 1 (by omega)
    rw [hc] at h0 h1
    match cs, hl with
    | [c0, c1], _ =>
      simp only [Nat.mul_one, List.drop_zero, List.drop_succ_cons, List.take_succ_cons, List.take_zero] at h0 h1
      obtain ⟨a0, e0, _, w0⟩ := DataW.trod_int Try.underlying3 (by simpa using h0)
      obtain ⟨a1, e1, _, w1⟩ := DataW.trod_int Try.underlying3 (by simpa using h1)
      simp only [List.cons.injEq, and_true] at e0 e1
      exact ⟨⟨a0, a1⟩, by rw [e0, e1]⟩
theorem open_pairs_cells {fuel : Nat} {cs : List Value} {x : DataW H × List MemPlace} (h : DataW.trod enc Try.prog w base spare held fuel 40 cs = some x) :
    ∃ a n c ps, cs = [.slice a n c] ∧ Prs w a n ps ∧ n ≤ c := by
  rcases open_slice Try.underlying40 h with ⟨rfl, _⟩ | ⟨a, len, cap, m, n, D, Pl, hcs, hb, hl, hm, hmm, hx, hi⟩
  · exact ⟨none, 0, 0, [], rfl, ⟨rfl, fun h => absurd h (Nat.lt_irrefl 0)⟩, Nat.le_refl _⟩
  · have hml : len ≤ m := by rw [hmm]; split <;> omega
    have hone : ∀ i, i < len → ∃ y : Ed, w.cells? base (a.add (i * 2)) 2 = some [.int .i64 y.f, .int .i64 y.t] := by
      intro i hil
      obtain ⟨cs', hc, ht⟩ := hi i (by omega)
      have k2 : Try.prog.cellsOf 54 = 2 := by kernel_rfl
      rw [k2] at hc
      obtain ⟨s, rfl⟩ := open_pair_cells ht
      exact ⟨s, hc⟩
    obtain ⟨f, hf⟩ := choose_lt (p := fun (i : Nat) (y : Ed) => w.cells? base (a.add (i * 2)) 2 = some [.int .i64 y.f, .int .i64 y.t]) hone
    refine ⟨some a, len, cap, (List.range len).map f, hcs, ⟨by simp, fun hn => ?_⟩, by omega⟩
    obtain ⟨b, off, spot⟩ := a
    have hcell : ∀ i, i < len → w.cell? ((Addr.mk b off spot).add (i * 2)) = some (.int .i64 (f i).f) ∧ w.cell? ((Addr.mk b off spot).add (i * 2 + 1)) = some (.int .i64 (f i).t) := by
      intro i hil
      obtain ⟨_, _, hat⟩ := World.cells?_some (hf i hil)
      have h0 := hat 0 (by simp)
      have h1 := hat 1 (by simp)
      rw [add_add] at h0 h1
      exact ⟨by simpa using h0, by simpa using h1⟩
    have hc0 := (hcell 0 hn).1
    have hspot : spot = none := by
      have := World.cell?_spot hc0
      simpa [Addr.add] using this
    subst hspot
    refine ⟨b, off, rfl, ?_, fun i e hie => ?_⟩
    · have := World.block_lt_of_cell? w _ hc0
      simpa [Addr.add] using this
    · have hil : i < len := by have := (List.getElem?_eq_some_iff.1 hie).1; simpa using this
      have e2 : ((List.range len).map f)[i]? = some (f i) := by simp [hil]
      rw [e2] at hie
      injection hie with hie
      subst hie
      have ea : ∀ j, (Addr.mk b off none).add j = ⟨b, off + j, none⟩ := fun j => by unfold Addr.add; split <;> simp_all
      have := hcell i hil
      rw [ea, ea] at this
      exact this
theorem open_pairs {r : Reach} {b0 : Nat} {v : Value} {d : DataW H} {p : List MemPlace} (hv : Value.okWide Try.prog w r b0 40 v) (h : DataW.Trod enc Try.prog w base spare held 40 v d p) (_hw : ∀ n ∈ d.weights Try.prog 40, n ≤ reachBytes) :
    ∃ a n c ps, v = .slice a n c ∧ Prs w a n ps := by
  obtain ⟨fuel, hf⟩ := h
  obtain ⟨a, len, cap, rfl⟩ := okWide_slice Try.underlying40 hv
  obtain ⟨a', n, c, ps, e, hp, _⟩ := open_pairs_cells (x := (d, p)) (by simpa [Value.cells] using hf)
  simp at e
  obtain ⟨rfl, rfl, rfl⟩ := e
  exact ⟨_, _, _, ps, rfl, hp⟩
end
end Go.Proofs.Ythodggkpkjfggaa.Knot
