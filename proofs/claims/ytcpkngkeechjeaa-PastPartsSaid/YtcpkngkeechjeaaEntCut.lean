/- A list of entries that came in, cut ahead of one of them (as XPatchCut has it, without what a seat of past lacks). -/
import Derived.Test.YtcpkngkeechjeaaEntRows
import Derived.Test.YtcpkngkeechjeaaEntA
namespace Go.Proofs.Ytcpkngkeechjeaa.Patch
set_option maxRecDepth 100000
open Go.RowKit Go.Joins Go.ChangeShapes Go.WideShapes Go.Deep Go.Sort
open Go.Proofs.Ytcpkngkeechjeaa.Ent (Ent Ents EntAt noE)
section
variable {H : Type} {enc : TypeId × Value → H} {w : World} {base : Nat} {spare : Nat → Bool} {held : Bool}
theorem ents_cap {a : Option Addr} {n c : Nat} {d : DataW H} {p : List MemPlace} (h : DataW.Trod enc Try.prog w base spare held 22 (.slice a n c) d p) : n ≤ c := by
  obtain ⟨fuel, hf⟩ := h
  rcases open_slice Try.underlying22 (x := (d, p)) (by simpa [Value.cells] using hf) with ⟨e, _⟩ | ⟨a', len, cap, m, n', D, Pl, hcs, hb, hl, hm, hmm, hx, hi⟩
  · simp at e; omega
  · simp at hcs; obtain ⟨_, rfl, rfl⟩ := hcs; exact hl
end
/-- where a list's rest lies -/
def tailA (a : Option Addr) (c k : Nat) : Option Addr := if c = k then a else a.map (·.add (k * 13))
theorem size_ent (w : World) : (sizeOf 31).run Try.prog w = .ok 13 w := by have := Try.sizeOf31; exact this w
theorem run_tail (a : Option Addr) (n c k : Nat) (hk : k ≤ n) (W : World) : (Instr.slice 22 (.slice a n c) (some (.int .i64 (k : Int))) none none).run Try.prog W = .ok (.slice (tailA a c k) (n - k) (c - k)) W := by
  rw [run_slice_l (P := Try.prog) W 22 a n c (by kernel_rfl) .i64 (k : Int) (by omega) (by omega)]
  rw [show Try.prog.elem 22 = 31 by kernel_rfl, size_ent]
  simp [Result.andThen, sliced, tailA]
theorem ents_drop {w : World} {b off n : Nat} {xs : List Ent} (h : Ents w (some ⟨b, off, none⟩) n xs) {k : Nat} (hk : k ≤ n) : Ents w (some ⟨b, off + k * 13, none⟩) (n - k) (xs.drop k) := by
  obtain ⟨h1, h2, h3⟩ := h
  refine ⟨by rw [List.length_drop, h1], fun x hx => h2 x (List.mem_of_mem_drop hx), fun h0 => ?_⟩
  obtain ⟨b', off', e, hb, hc⟩ := h3 (by omega)
  injection e with e
  injection e with e1 e2
  subst e1 e2
  refine ⟨b, off + k * 13, rfl, hb, fun i hi => ?_⟩
  have := hc (k + i) (by omega)
  have e4 : (xs.drop k).getD i noE = xs.getD (k + i) noE := by simp [List.getD, List.getElem?_drop]
  rw [e4, show off + k * 13 + i * 13 = off + (k + i) * 13 by omega]
  exact this
theorem ents_tail {w : World} {a : Option Addr} {n c k : Nat} {xs : List Ent} (h : Ents w a n xs) (hk : k ≤ n) (hc : n ≤ c) : Ents w (tailA a c k) (n - k) (xs.drop k) := by
  by_cases h0 : n - k = 0
  · have : xs.drop k = [] := List.drop_eq_nil_of_le (by rw [h.1]; omega)
    rw [this, h0]
    exact ⟨rfl, by simp, fun h => absurd h (Nat.lt_irrefl 0)⟩
  · obtain ⟨b, off, rfl, _, _⟩ := h.2.2 (by omega)
    have e : tailA (some ⟨b, off, none⟩) c k = some ⟨b, off + k * 13, none⟩ := by
      unfold tailA
      rw [if_neg (by omega)]
      simp only [Option.map_some, Option.some.injEq]
      unfold Addr.add; split <;> simp_all
    rw [e]
    exact ents_drop h hk
end Go.Proofs.Ytcpkngkeechjeaa.Patch
