/- Rows that the document's own locks build, as plain data and in memory. -/
import Derived.Test.YtlalehoncclnaaaLatchRef0
namespace Go.Proofs.Ytlalehoncclnaaa.LRef
set_option maxRecDepth 100000
open Go.RowKit
open Go.Proofs.Ytlalehoncclnaaa.Mem
open Go.Proofs.Ytlalehoncclnaaa.Latch
/-! ### drop -/
def dropK (p : Int) (L : LS) : LS := L.filter fun k => decide (k.pg ≠ p)
theorem drop_next (p : Int) {L : LS} {j : Nat} {x : Lk} (h : L[j]? = some x) : dropK p (L.take (j + 1)) = if x.pg = p then dropK p (L.take j) else dropK p (L.take j) ++ [x] := by
  unfold dropK
  rw [List.take_add_one, h, List.filter_append]
  by_cases e : x.pg = p <;> simp [e]
theorem drop_len (p : Int) (L : LS) (j : Nat) : (dropK p (L.take j)).length ≤ L.length := by
  unfold dropK
  refine Nat.le_trans (List.length_filter_le _ _) ?_
  rw [List.length_take]
  exact Nat.min_le_right _ _
/-! ### Grant of a page of which there is no lock -/
def stG (n : Lk) (s : LS × Bool) (x : Lk) : LS × Bool := if s.2 = false ∧ n.pg < x.pg then (s.1 ++ [n] ++ [x], true) else (s.1 ++ [x], s.2)
def runG (n : Lk) (L : LS) (s : LS × Bool) : LS × Bool := L.foldl (stG n) s
def endG (n : Lk) (s : LS × Bool) : LS := if s.2 = true then s.1 else s.1 ++ [n]
theorem run_true (n : Lk) : ∀ (L out : LS), runG n L (out, true) = (out ++ L, true)
  | [], out => by simp [runG]
  | x :: r, out => by
    show runG n r (stG n (out, true) x) = _
    have : stG n (out, true) x = (out ++ [x], true) := by simp [stG]
    rw [this, run_true n r]; simp
theorem run_false (n : Lk) : ∀ (L out : LS), endG n (runG n L (out, false)) = out ++ insL n L
  | [], out => by simp [runG, endG, insL]
  | x :: r, out => by
    show endG n (runG n r (stG n (out, false) x)) = _
    by_cases h : n.pg < x.pg
    · have : stG n (out, false) x = (out ++ [n] ++ [x], true) := by simp [stG, h]
      rw [this, run_true]
      simp [endG, insL, h]
    · have : stG n (out, false) x = (out ++ [x], false) := by simp [stG, h]
      rw [this, run_false n r]
      simp [insL, h]
theorem run_take (n : Lk) (L : LS) (s : LS × Bool) (i : Nat) (x : Lk) (h : L[i]? = some x) : runG n (L.take (i + 1)) s = stG n (runG n (L.take i) s) x := by
  unfold runG
  rw [List.take_add_one, h, List.foldl_append]; rfl
theorem run_len (n : Lk) : ∀ (L : LS) (s : LS × Bool), (runG n L s).1.length ≤ s.1.length + 2 * L.length
  | [], s => by simp [runG]
  | x :: r, s => by
    have h1 := run_len n r (stG n s x)
    have h2 : (stG n s x).1.length ≤ s.1.length + 2 := by
      unfold stG
      split <;> simp
    show (runG n r (stG n s x)).1.length ≤ _
    simp only [List.length_cons]; omega
theorem stG_1 {n x : Lk} {out : LS} : stG n (out, true) x = (out ++ [x], true) := by simp [stG]
theorem stG_2 {n x : Lk} {out : LS} (h : n.pg < x.pg) : stG n (out, false) x = (out ++ [n] ++ [x], true) := by simp [stG, h]
theorem stG_3 {n x : Lk} {out : LS} (h : ¬ n.pg < x.pg) : stG n (out, false) x = (out ++ [x], false) := by simp [stG, h]
/-! ### End -/
def restK (L : LS) (j : Nat) : LS := (L.take j).filterMap endF
def outK (L : LS) (j : Nat) : List (Int × Bool) := (L.take j).filterMap letF
theorem fm_next {α : Type} {g : Lk → Option α} {L : LS} {j : Nat} {x : Lk} (h : L[j]? = some x) : (L.take (j + 1)).filterMap g = (L.take j).filterMap g ++ (g x).toList := by
  rw [List.take_add_one, h, List.filterMap_append]
  have e : (some x).toList.filterMap g = (g x).toList := by cases h : g x <;> simp [h]
  rw [e]
theorem fm_take_len {α : Type} (g : Lk → Option α) (L : LS) (j : Nat) : ((L.take j).filterMap g).length ≤ L.length := by
  refine Nat.le_trans (List.length_filterMap_le _ _) ?_
  rw [List.length_take]
  exact Nat.min_le_right _ _
/-! ### In memory -/
theorem own_new (w : World) (t : TypeId) (size : Nat) : (w.alloc (.cells #[] t)).ownsRow w.heap.size t size (.slice (some ⟨w.heap.size, 0, none⟩) 0 0) 0 [] := by
  refine ⟨by simp, .inr ⟨w.heap.size, 0, #[], rfl, Nat.le_refl _, Blk.new w t #[], Nat.le_refl _, Nat.zero_le _, by simp, by simp⟩⟩
structure Mid (W wr : World) (vo : Value) (L : LS) : Prop where
  own : wr.ownsRow W.heap.size 44 4 vo L.length (cellsK L)
  bel : Below W.heap.size W wr
theorem Mid.app {W wr w2 : World} {vo v2 : Value} {L L2 : LS} {m : Nat} {cs : Array Value} {t : TypeId} (h : Mid W wr vo L) (ho : w2.ownsRow W.heap.size 44 4 v2 m (cellsK L2)) (hg : (wr.alloc (.cells cs t)).grownBy w2 vo.ownBlock) (hm : m = L2.length := by simp) : Mid W w2 v2 L2 :=
  ⟨by rw [← hm]; exact ho, (h.bel.alloc h.bel.size _).grown hg (by have := h.bel.size; simp; omega) fun j hj => own_ge h.own j hj⟩
end Go.Proofs.Ytlalehoncclnaaa.LRef
