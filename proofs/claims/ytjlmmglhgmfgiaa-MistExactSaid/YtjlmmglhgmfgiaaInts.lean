/- A row of integers that came in. -/
import Derived.Test.YtjlmmglhgmfgiaaMem
import Derived.Deep.Slices
import Derived.ChangeShapes
namespace Go.Proofs.Ytjlmmglhgmfgiaa.Mem
set_option maxRecDepth 100000
open Go.RowKit Go.ChangeShapes Go.WideShapes Go.Deep

/-- zs, a row of integers in memory -/
def Ints (w : World) (a : Option Addr) (n : Nat) (zs : List Int) : Prop :=
  zs.length = n ∧ (∀ z ∈ zs, -9223372036854775808 ≤ z ∧ z ≤ 9223372036854775807) ∧ (0 < n → ∃ b off, a = some ⟨b, off, none⟩ ∧ b < w.heap.size ∧ ∀ i, i < n → w.cell? ⟨b, off + i, none⟩ = some (.int .i64 (zs.getD i 0)))
section
variable {w w' : World} {a : Option Addr} {n : Nat} {zs : List Int}
theorem Ints.nil (w : World) (a : Option Addr) : Ints w a 0 [] := ⟨rfl, by simp, fun h => absurd h (Nat.lt_irrefl 0)⟩
theorem Ints.below (h : Ints w a n zs) (hb : Below w.heap.size w w') : Ints w' a n zs := by
  obtain ⟨h1, h2, h3⟩ := h
  refine ⟨h1, h2, fun hn => ?_⟩
  obtain ⟨b, off, ha, hlt, hc⟩ := h3 hn
  exact ⟨b, off, ha, Nat.lt_of_lt_of_le hlt hb.size, fun i hi => (hb.cell (p := ⟨b, off + i, none⟩) hlt).trans (hc i hi)⟩
theorem Ints.drewN (h : Ints w a n zs) (q : Nat) : Ints (w.drewN q) a n zs := h
theorem Ints.at_ (h : Ints w a n zs) {k : Nat} (hk : k < n) : ∃ b off z, a = some ⟨b, off, none⟩ ∧ b < w.heap.size ∧ zs.getD k 0 = z ∧ w.cell? ⟨b, off + k, none⟩ = some (.int .i64 z) ∧ -9223372036854775808 ≤ z ∧ z ≤ 9223372036854775807 := by
  obtain ⟨h1, h2, h3⟩ := h
  obtain ⟨b, off, ha, hlt, hc⟩ := h3 (by omega)
  have hl : k < zs.length := by omega
  have e : zs.getD k 0 = zs[k] := by simp [List.getD, hl]
  have := h2 (zs.getD k 0) (by rw [e]; exact List.getElem_mem hl)
  exact ⟨b, off, _, ha, hlt, rfl, hc k hk, this.1, this.2⟩
theorem fits_i64 {a : Int} (h : (Lit.int .i64 a).wf = true) : -9223372036854775808 ≤ a ∧ a ≤ 9223372036854775807 := by
  unfold Lit.wf at h; simp [IntKind.min, IntKind.max, IntKind.signed, IntKind.bits] at h; omega
theorem byte_of {a : Int} (h : (Lit.int .u8 a).wf = true) : ∃ b : UInt8, a = (b.toNat : Int) := by
  have : 0 ≤ a ∧ a ≤ 255 := by unfold Lit.wf at h; simp [IntKind.min, IntKind.max, IntKind.signed, IntKind.bits] at h; omega
  exact ⟨UInt8.ofNat a.toNat, by simp; omega⟩
variable {H : Type} {enc : TypeId × Value → H} {base : Nat} {spare : Nat → Bool} {held : Bool}
end
end Go.Proofs.Ytjlmmglhgmfgiaa.Mem
