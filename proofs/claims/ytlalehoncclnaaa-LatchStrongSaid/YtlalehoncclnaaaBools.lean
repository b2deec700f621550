/- A row of bools that came in. -/
import Derived.Test.YtlalehoncclnaaaMem
import Derived.Deep.Slices
import Derived.ChangeShapes
import Derived.Lib.SmallJoins
import Derived.SizedLaws
import Derived.OpenShut
namespace Go.Proofs.Ytlalehoncclnaaa.Mem
set_option maxRecDepth 100000
open Go.RowKit Go.Joins Go.ChangeShapes Go.WideShapes Go.Deep
/-- zs, a row of bools in memory -/
def Bools (w : World) (a : Option Addr) (n : Nat) (zs : List Bool) : Prop :=
  zs.length = n ∧ (0 < n → ∃ b off, a = some ⟨b, off, none⟩ ∧ b < w.heap.size ∧ ∀ i, i < n → w.cell? ⟨b, off + i, none⟩ = some (.bool (zs.getD i false)))
section
variable {w w' : World} {a : Option Addr} {n : Nat} {zs : List Bool}
theorem Bools.below (h : Bools w a n zs) (hb : Below w.heap.size w w') : Bools w' a n zs := by
  obtain ⟨h1, h3⟩ := h
  refine ⟨h1, fun hn => ?_⟩
  obtain ⟨b, off, ha, hlt, hc⟩ := h3 hn
  exact ⟨b, off, ha, Nat.lt_of_lt_of_le hlt hb.size, fun i hi => (hb.cell (p := ⟨b, off + i, none⟩) hlt).trans (hc i hi)⟩
theorem Bools.at_ (h : Bools w a n zs) {k : Nat} (hk : k < n) : ∃ b off, a = some ⟨b, off, none⟩ ∧ b < w.heap.size ∧ w.cell? ⟨b, off + k, none⟩ = some (.bool (zs.getD k false)) := by
  obtain ⟨h1, h3⟩ := h
  obtain ⟨b, off, ha, hlt, hc⟩ := h3 (by omega)
  exact ⟨b, off, ha, hlt, hc k hk⟩
variable {H : Type} {enc : TypeId × Value → H} {base : Nat} {spare : Nat → Bool} {held : Bool}
theorem open_boolrow {r : Reach} {b0 : Nat} {v : Value} {d : DataW H} {p : List MemPlace} (hv : Value.okWide Try.prog w r b0 51 v) (h : DataW.Trod enc Try.prog w base spare held 51 v d p) :
    ∃ a n c zs, v = .slice a n c ∧ Bools w a n zs := by
  obtain ⟨fuel, hf⟩ := h
  obtain ⟨a0, len0, cap0, rfl⟩ := okWide_slice Try.underlying51 hv
  rcases open_slice Try.underlying51 hf with ⟨hcs, _⟩ | ⟨a, len, cap, m, n, D, Pl, hcs, hb, hl, hm, hmm, hx, hi⟩
  · simp [Value.cells] at hcs
    obtain ⟨rfl, rfl, rfl⟩ := hcs
    exact ⟨none, 0, 0, [], rfl, rfl, fun h => absurd h (Nat.lt_irrefl 0)⟩
  · simp [Value.cells] at hcs
    obtain ⟨rfl, rfl, rfl⟩ := hcs
    have hml : len0 ≤ m := by rw [hmm]; split <;> omega
    have hone : ∀ i, i < len0 → ∃ y : Bool, w.cells? base (a.add (i * 1)) 1 = some [.bool y] := by
      intro i hil
      obtain ⟨cs', hc, ht⟩ := hi i (by omega)
      have k2 : Try.prog.cellsOf 4 = 1 := by kernel_rfl
      rw [k2] at hc
      obtain ⟨z, e, _⟩ := DataW.trod_bool Try.underlying4 ht
      subst e
      exact ⟨z, hc⟩
    obtain ⟨f, hf⟩ := choose_lt hone
    refine ⟨some a, len0, cap0, (List.range len0).map f, rfl, by simp, fun hn => ?_⟩
    obtain ⟨b, off, spot⟩ := a
    have hcell : ∀ i, i < len0 → w.cell? ((Addr.mk b off spot).add (i * 1)) = some (.bool (f i)) := by
      intro i hil
      obtain ⟨_, _, hat⟩ := World.cells?_some (hf i hil)
      have h0 := hat 0 (by simp)
      rw [add_add] at h0
      simpa using h0
    have hc0 := hcell 0 hn
    have hspot : spot = none := by
      have := World.cell?_spot hc0
      simpa [Addr.add] using this
    subst hspot
    refine ⟨b, off, rfl, ?_, fun i hil => ?_⟩
    · have := World.block_lt_of_cell? w _ hc0
      simpa [Addr.add] using this
    · have e : ((List.range len0).map f).getD i false = f i := by simp [List.getD, hil]
      rw [e]
      have ea : ∀ j, (Addr.mk b off none).add j = ⟨b, off + j, none⟩ := fun j => by unfold Addr.add; split <;> simp_all
      have := hcell i hil
      rw [ea, Nat.mul_one] at this
      exact this
end
end Go.Proofs.Ytlalehoncclnaaa.Mem
