/- A list of entries, cut. -/
import Derived.Test.YtmmeemffiibndaaPatchAll
import Derived.Test.YtmmeemffiibndaaSlabFitsMath
import Derived.Test.YtmmeemffiibndaaSlabFitsBox
namespace Go.Proofs.Ytmmeemffiibndaa.Patch
open Go.RowKit Go.Joins Go.ChangeShapes Go.WideShapes Go.Deep Go.Sort
open Go.Proofs.Ytmmeemffiibndaa.Ent (Ent Ents)
section
variable {H : Type} {enc : TypeId × Value → H} {w : World} {base : Nat} {spare : Nat → Bool} {held : Bool}
theorem ents_cap {a : Option Addr} {n c : Nat} {d : DataW H} {p : List MemPlace} (h : DataW.Trod enc Try.prog w base spare held 48 (.slice a n c) d p) : n ≤ c := by
  obtain ⟨fuel, hf⟩ := h
  rcases open_slice Try.underlying48 (x := (d, p)) (by simpa [Value.cells] using hf) with ⟨e, _⟩ | ⟨a', len, cap, m, n', D, Pl, hcs, hb, hl, hm, hmm, hx, hi⟩
  · simp at e; omega
  · simp at hcs; obtain ⟨_, rfl, rfl⟩ := hcs; exact hl
end
/-- where a list's rest, a list's head lies -/
def tailA (a : Option Addr) (c k : Nat) : Option Addr := if c = k then a else a.map (·.add (k * 13))
def headA (a : Option Addr) (c : Nat) : Option Addr := if c = 0 then a else a.map (·.add (0 * 13))
theorem size_ent (w : World) : (sizeOf 45).run Try.prog w = .ok 13 w := by have := Try.sizeOf45; exact this w
theorem run_tail (a : Option Addr) (n c k : Nat) (hk : k ≤ n) (W : World) : (Instr.slice 48 (.slice a n c) (some (.int .i64 (k : Int))) none none).run Try.prog W = .ok (.slice (tailA a c k) (n - k) (c - k)) W := by
  rw [run_slice_l (P := Try.prog) W 48 a n c (by kernel_rfl) .i64 (k : Int) (by omega) (by omega)]
  rw [show Try.prog.elem 48 = 45 by kernel_rfl, size_ent]
  simp [Result.andThen, sliced, tailA]
theorem run_head (a : Option Addr) (n c k : Nat) (hk : k ≤ c) (W : World) : (Instr.slice 48 (.slice a n c) none (some (.int .i64 (k : Int))) none).run Try.prog W = .ok (.slice (headA a c) k c) W := by
  rw [run_slice_h (P := Try.prog) W 48 a n c (by kernel_rfl) .i64 (k : Int) (by omega) (by omega)]
  rw [show Try.prog.elem 48 = 45 by kernel_rfl, size_ent]
  simp [Result.andThen, sliced, headA]
theorem ents_nothing {w : World} {a b : Option Addr} {n m : Nat} {xs : List Ent} (h : Ents w a n xs) (hn : n = 0) (hm : m = 0) : Ents w b m [] ∧ xs = [] := by
  subst hn hm
  have : xs = [] := List.eq_nil_of_length_eq_zero h.1
  exact ⟨⟨rfl, by simp, fun h => absurd h (Nat.lt_irrefl 0)⟩, this⟩
theorem ents_tail {w : World} {a : Option Addr} {n c k : Nat} {xs : List Ent} (h : Ents w a n xs) (hk : k ≤ n) (hc : n ≤ c) : Ents w (tailA a c k) (n - k) (xs.drop k) := by
  by_cases h0 : n - k = 0
  · have : xs.drop k = [] := List.drop_eq_nil_of_le (by rw [h.1]; omega)
    rw [this, h0]
    exact ⟨rfl, by simp, fun h => absurd h (Nat.lt_irrefl 0)⟩
  · obtain ⟨b, off, rfl, _, _⟩ := h.2.2 (by omega)
    have e : tailA (some ⟨b, off, none⟩) c k = some ⟨b, off + k * 13, none⟩ := by
      unfold tailA
      rw [if_neg (by omega)]
      simp only [Option.map_some, Option.some.injEq]
      unfold Addr.add; split <;> simp_all
    rw [e]
    exact h.drop hk
theorem ents_head {w : World} {a : Option Addr} {n c k : Nat} {xs : List Ent} (h : Ents w a n xs) (hk : k ≤ n) : Ents w (headA a c) k (xs.take k) := by
  by_cases h0 : k = 0
  · subst h0
    exact ⟨by simp, by simp, fun h => absurd h (Nat.lt_irrefl 0)⟩
  · obtain ⟨b, off, rfl, _, _⟩ := h.2.2 (by omega)
    have e : headA (some ⟨b, off, none⟩) c = some ⟨b, off, none⟩ := by
      unfold headA
      split
      · rfl
      · simp only [Option.map_some, Option.some.injEq]
        unfold Addr.add; simp
    rw [e]
    exact h.take hk
end Go.Proofs.Ytmmeemffiibndaa.Patch
