/- A row of writes that came in. -/
import Derived.Test.YtjmjhjckdcniiaaInts
namespace Go.Proofs.Ytjmjhjckdcniiaa.Plate
open Go.RowKit Go.ChangeShapes Go.WideShapes Go.Deep
open Go.Proofs.Ytjmjhjckdcniiaa.Mem

structure In where
  n : Int
  b : UInt8
def noI : In := ⟨0, 0⟩
instance : Inhabited In := ⟨noI⟩
def Ins (w : World) (a : Option Addr) (n : Nat) (xs : List In) : Prop :=
  xs.length = n ∧ (0 < n → ∃ b off, a = some ⟨b, off, none⟩ ∧ b < w.heap.size ∧ ∀ i, i < n → w.cell? ⟨b, off + i * 2, none⟩ = some (.int .i64 (xs.getD i noI).n) ∧ w.cell? ⟨b, off + i * 2 + 1, none⟩ = some (.int .u8 ((xs.getD i noI).b.toNat : Int)))
theorem Ins.below {w w' : World} {a : Option Addr} {n : Nat} {xs : List In} (h : Ins w a n xs) (hb : Below w.heap.size w w') : Ins w' a n xs := by
  obtain ⟨h1, h3⟩ := h
  refine ⟨h1, fun hn => ?_⟩
  obtain ⟨b, off, ha, hlt, hc⟩ := h3 hn
  exact ⟨b, off, ha, Nat.lt_of_lt_of_le hlt hb.size, fun i hi => ⟨(hb.cell (p := ⟨b, off + i * 2, none⟩) hlt).trans (hc i hi).1, (hb.cell (p := ⟨b, off + i * 2 + 1, none⟩) hlt).trans (hc i hi).2⟩⟩
theorem Ins.at_ {w : World} {a : Option Addr} {n k : Nat} {xs : List In} (h : Ins w a n xs) (hk : k < n) :
    ∃ b off m d, a = some ⟨b, off, none⟩ ∧ b < w.heap.size ∧ xs.getD k noI = ⟨m, d⟩ ∧ w.cell? ⟨b, off + k * 2, none⟩ = some (.int .i64 m) ∧ w.cell? ⟨b, off + k * 2 + 1, none⟩ = some (.int .u8 (d.toNat : Int)) := by
  obtain ⟨h1, h3⟩ := h
  obtain ⟨b, off, ha, hlt, hc⟩ := h3 (by omega)
  exact ⟨b, off, _, _, ha, hlt, rfl, (hc k hk).1, (hc k hk).2⟩
section
variable {H : Type} {enc : TypeId × Value → H} {w : World} {base : Nat} {spare : Nat → Bool} {held : Bool}
theorem open_write_cells {fuel : Nat} {cs : List Value} {x : DataW H × List MemPlace} (h : DataW.trod enc Try.prog w base spare held fuel 33 cs = some x) :
    ∃ p : In, cs = [.int .i64 p.n, .int .u8 (p.b.toNat : Int)] := by
  obtain ⟨xs, n, _, hx, hcl, hxl, hf⟩ := DataW.trod_struct Try.underlying33 h
  have hl : cs.length = 2 := hcl.trans (by kernel_rfl)
  obtain ⟨c0, c1, rfl⟩ : ∃ c0 c1, cs = [c0, c1] := by
    rcases cs with _ | ⟨c0, _ | ⟨c1, _ | ⟨c2, r⟩⟩⟩ <;> simp at hl
    exact ⟨c0, c1, rfl⟩
  have h0 := hf 0 _ rfl
  have h1 := hf 1 _ rfl
  have k0 : Try.prog.cellsOf 3 = 1 := by kernel_rfl
  have k1 : Try.prog.cellsOf 5 = 1 := by kernel_rfl
  simp only [List.getElem_toArray, List.getElem_cons_zero, List.getElem_cons_succ, k0, k1, List.drop_zero, List.take_succ_cons, List.take_zero, List.drop_succ_cons] at h0 h1
  have hlen : xs.length = 2 := hxl
  obtain ⟨y0, y1, rfl⟩ : ∃ y0 y1, xs = [y0, y1] := by
    rcases xs with _ | ⟨c0, _ | ⟨c1, _ | ⟨c2, r⟩⟩⟩ <;> simp at hlen
    exact ⟨c0, c1, rfl⟩
  obtain ⟨k, e0, _, _⟩ := DataW.trod_int Try.underlying3 h0
  obtain ⟨k', e1, _, w1⟩ := DataW.trod_int Try.underlying5 h1
  simp only [List.cons.injEq, and_true] at e0 e1
  subst e0 e1
  obtain ⟨b, rfl⟩ := byte_of w1
  exact ⟨⟨k, b⟩, rfl⟩
theorem open_writes_cells {fuel : Nat} {cs : List Value} {x : DataW H × List MemPlace} (h : DataW.trod enc Try.prog w base spare held fuel 22 cs = some x) :
    ∃ a n c ps, cs = [.slice a n c] ∧ Ins w a n ps := by
  rcases open_slice Try.underlying22 h with ⟨rfl, _⟩ | ⟨a, len, cap, m, n, D, Pl, hcs, hb, hl, hm, hmm, hx, hi⟩
  · exact ⟨none, 0, 0, [], rfl, rfl, fun h => absurd h (Nat.lt_irrefl 0)⟩
  · have hml : len ≤ m := by rw [hmm]; split <;> omega
    have hone : ∀ i, i < len → ∃ p : In, w.cells? base (a.add (i * 2)) 2 = some [.int .i64 p.n, .int .u8 (p.b.toNat : Int)] := by
      intro i hil
      obtain ⟨cs', hc, ht⟩ := hi i (by omega)
      have k2 : Try.prog.cellsOf 33 = 2 := by kernel_rfl
      rw [k2] at hc
      obtain ⟨s, rfl⟩ := open_write_cells ht
      exact ⟨s, hc⟩
    obtain ⟨f, hf⟩ := choose_lt hone
    refine ⟨some a, len, cap, (List.range len).map f, hcs, by simp, fun hn => ?_⟩
    obtain ⟨b, off, spot⟩ := a
    have hcell : ∀ i, i < len → w.cell? ((Addr.mk b off spot).add (i * 2)) = some (.int .i64 (f i).n) ∧ w.cell? ((Addr.mk b off spot).add (i * 2 + 1)) = some (.int .u8 ((f i).b.toNat : Int)) := by
      intro i hil
      obtain ⟨_, _, hat⟩ := World.cells?_some (hf i hil)
      have h0 := hat 0 (by simp)
      have h1 := hat 1 (by simp)
      rw [add_add] at h0 h1
      exact ⟨by simpa using h0, by simpa using h1⟩
    have hc0 := (hcell 0 hn).1
    have hspot : spot = none := by
      have := World.cell?_spot hc0
      simpa [Addr.add] using this
    subst hspot
    refine ⟨b, off, rfl, ?_, fun i hil => ?_⟩
    · have := World.block_lt_of_cell? w _ hc0
      simpa [Addr.add] using this
    · have e : ((List.range len).map f).getD i noI = f i := by simp [List.getD, hil]
      rw [e]
      have ea : ∀ j, (Addr.mk b off none).add j = ⟨b, off + j, none⟩ := fun j => by unfold Addr.add; split <;> simp_all
      have := hcell i hil
      rw [ea, ea] at this
      exact this
theorem open_writes {r : Reach} {b0 : Nat} {v : Value} {d : DataW H} {p : List MemPlace} (hv : Value.okWide Try.prog w r b0 22 v) (h : DataW.Trod enc Try.prog w base spare held 22 v d p) :
    ∃ a n c ps, v = .slice a n c ∧ Ins w a n ps := by
  obtain ⟨fuel, hf⟩ := h
  obtain ⟨a, len, cap, rfl⟩ := okWide_slice Try.underlying22 hv
  obtain ⟨a', n, c, ps, e, hp⟩ := open_writes_cells (x := (d, p)) (by simpa [Value.cells] using hf)
  simp at e
  obtain ⟨rfl, rfl, rfl⟩ := e
  exact ⟨_, _, _, ps, rfl, hp⟩
end
end Go.Proofs.Ytjmjhjckdcniiaa.Plate
