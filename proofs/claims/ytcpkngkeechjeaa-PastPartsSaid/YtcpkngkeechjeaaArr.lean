/- A row of n cells in a block, as a function; make of one. -/
import Derived.Test.YtcpkngkeechjeaaMem
import Derived.Laws.MakeOwn
namespace Go.Proofs.Ytcpkngkeechjeaa.Mem
set_option maxRecDepth 100000
open Go.RowKit
/-- a row of n in a block -/
def Arr (w : World) (g : Nat) (T : TypeId) (n : Nat) (e : Nat → Value) : Prop := ∃ cs, Blk w g T cs ∧ cs.size = n ∧ ∀ k, k < n → cs[k]? = some (e k)
section
variable {w w' : World} {g n : Nat} {T : TypeId} {e : Nat → Value}
theorem Arr.lt (h : Arr w g T n e) : g < w.heap.size := by obtain ⟨cs, h1, -⟩ := h; exact h1.lt
theorem Arr.at_ (h : Arr w g T n e) {k : Nat} (hk : k < n) : w.cell? ⟨g, k, none⟩ = some (e k) ∧ w.frozen? ⟨g, k, none⟩ = false := by
  obtain ⟨cs, h1, -, h3⟩ := h
  exact ⟨(h1.cell k).trans (h3 k hk), h1.frozen k⟩
theorem Arr.of_block (h : Arr w g T n e) (hb : w'.heap[g]? = w.heap[g]?) : Arr w' g T n e := by
  obtain ⟨cs, h1, h2⟩ := h
  exact ⟨cs, hb.trans h1, h2⟩
theorem Arr.keep {M : Nat → Prop} (h : Arr w g T n e) (hk : Keep M w w') (hm : M g) : Arr w' g T n e := h.of_block (hk.block g hm)
theorem Arr.below (h : Arr w g T n e) (hb : Below w.heap.size w w') : Arr w' g T n e := h.of_block (hb.block g h.lt)
theorem Arr.alloc (h : Arr w g T n e) (o : Obj) : Arr (w.alloc o) g T n e := h.of_block (Below.heap_alloc w o g h.lt)
theorem Arr.far (h : Arr w g T n e) {p : Addr} (hp : g ≠ p.block) (u : Value) : Arr (w.setCell p u) g T n e := h.of_block (Below.heap_setCell w p u g hp)
theorem Arr.set_ (h : Arr w g T n e) {k : Nat} (hk : k < n) (e' : Nat → Value) (he : ∀ j, e' j = if j = k then e' k else e j) : Arr (w.setCell ⟨g, k, none⟩ (e' k)) g T n e' := by
  obtain ⟨cs, h1, h2, h3⟩ := h
  refine ⟨_, h1.set_ k (e' k), by simpa using h2, fun j hj => ?_⟩
  by_cases e1 : j = k
  · subst e1
    rw [Array.getElem?_setIfInBounds, if_pos rfl, if_pos (by omega)]
  · rw [Array.getElem?_setIfInBounds, if_neg (fun h => e1 h.symm), he j, if_neg e1]
    exact h3 j hj
theorem Arr.made (w : World) (T : TypeId) (n : Nat) (z : Value) : Arr (w.alloc (.cells (madeCells #[z] n) T)) w.heap.size T n (fun _ => z) := by
  refine ⟨_, Blk.new w _ _, by simp [madeCells], fun k hk => ?_⟩
  simp [madeCells, hk, Nat.mod_one]
end
theorem cut_of (x : Int) (n : Int) (hn : 1 ≤ n) (hm : n ≤ 9223372036854775807) : ∃ K : Nat, wrap64 ((IntKind.u64.wrap x).tmod n) = (K : Int) ∧ (K : Int) < n := by
  have h0 : 0 ≤ IntKind.u64.wrap x := by rw [IntKind.wrap_u64]; omega
  rw [Int.tmod_eq_emod_of_nonneg h0]
  have h1 := Int.emod_nonneg (IntKind.u64.wrap x) (b := n) (by omega)
  have h2 := Int.emod_lt_of_pos (IntKind.u64.wrap x) (b := n) (by omega)
  generalize IntKind.u64.wrap x % n = z at h1 h2 ⊢
  exact ⟨z.toNat, by unfold wrap64; omega, by omega⟩
end Go.Proofs.Ytcpkngkeechjeaa.Mem
