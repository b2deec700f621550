/- The walks of great, of the document's own size and Good, and of both Sizes. -/
import Derived.Test.YtcpkngkeechjeaaSlabGood
namespace Go.Proofs.Ytcpkngkeechjeaa.Slab
set_option maxRecDepth 100000
open Go.RowKit Go.Sort

def bigB (x : Slot) : Bool := decide (4096 < x.d.size)
def greatB (l : List Slot) : Bool := decide (100 < l.length) || l.any bigB
theorem any_mem_hit {p : Slot → Bool} {l : List Slot} {k : Nat} {x : Slot} (h : l[k]? = some x) (hp : p x = true) : l.any p = true := by
  obtain ⟨hl, rfl⟩ := List.getElem?_eq_some_iff.1 h
  exact List.any_eq_true.2 ⟨_, List.getElem_mem hl, hp⟩
/-- the document's own size: at most 33 slots, at most 1000 bytes of each -/
def rsz : List Slot → Nat
  | [] => 0
  | x :: r => 1 + min x.d.size 1000 + rsz r
theorem rsz_append (l m : List Slot) : rsz (l ++ m) = rsz l + rsz m := by
  induction l with
  | nil => simp [rsz]
  | cons x r ih => simp only [List.cons_append, rsz, ih]; omega
theorem rsz_next {l : List Slot} {k : Nat} {x : Slot} (h : l[k]? = some x) : rsz (l.take (k + 1)) = rsz (l.take k) + (1 + min x.d.size 1000) := by
  rw [take_next h, rsz_append]; simp [rsz]
theorem rsz_le (l : List Slot) : rsz l ≤ 1001 * l.length := by
  induction l with
  | nil => simp [rsz]
  | cons x r ih => simp only [rsz, List.length_cons]; omega
theorem rsz_eq {l : List Slot} (h : l.any wrongB = false) : rsz l = sz l := by
  induction l with
  | nil => rfl
  | cons x r ih =>
    simp only [List.any_cons, Bool.or_eq_false_iff] at h
    have h2 : x.d.size ≤ 200 := by have := h.1; simp [wrongB] at this; omega
    simp only [rsz, sz, ih h.2]; omega
end Go.Proofs.Ytcpkngkeechjeaa.Slab
