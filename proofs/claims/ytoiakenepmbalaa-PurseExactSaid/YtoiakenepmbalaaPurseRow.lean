/- A row of dues of the purse's own: its cells. -/
import Derived.Test.YtoiakenepmbalaaPurseMath
import Derived.Test.YtoiakenepmbalaaMem
import Derived.Laws.CopyOwn
import Derived.Laws.AppendOwn
namespace Go.Proofs.Ytoiakenepmbalaa.Purse
set_option maxRecDepth 100000
open Go.RowKit
open Go.Proofs.Ytoiakenepmbalaa.Mem
def cellsP (L : List Due) : List Value := L.flatMap fun x => [.int .i64 x.1, .int .i64 x.2]
theorem cells_nil : cellsP [] = [] := rfl
theorem cells_cons (x : Due) (r : List Due) : cellsP (x :: r) = .int .i64 x.1 :: .int .i64 x.2 :: cellsP r := rfl
theorem cells_app (a b : List Due) : cellsP (a ++ b) = cellsP a ++ cellsP b := by simp [cellsP]
theorem cells_len : ∀ (L : List Due), (cellsP L).length = L.length * 2
  | [] => rfl
  | x :: r => by rw [cells_cons]; simp only [List.length_cons]; rw [cells_len r]; omega
theorem cells_at : ∀ (L : List Due) (i : Nat) (x : Due), L[i]? = some x → (cellsP L)[i * 2]? = some (.int .i64 x.1) ∧ (cellsP L)[i * 2 + 1]? = some (.int .i64 x.2)
  | [], i, x, h => by simp at h
  | y :: r, 0, x, h => by have : y = x := by simpa using h
                          subst this; exact ⟨rfl, rfl⟩
  | y :: r, i + 1, x, h => by
    have := cells_at r i x (by simpa using h)
    rw [cells_cons, show (i + 1) * 2 = i * 2 + 1 + 1 by omega]
    exact this
theorem cells_one : ∀ (L : List Due), ∀ v ∈ cellsP L, v.oneCell' = true
  | [], v, h => by cases h
  | x :: r, v, h => by
    rw [cells_cons] at h
    rcases List.mem_cons.1 h with rfl | h
    · rfl
    · rcases List.mem_cons.1 h with rfl | h
      · rfl
      · exact cells_one r v h
theorem cells_take (L : List Due) (i : Nat) : (cellsP L).take (i * 2) = cellsP (L.take i) := by
  by_cases hi : i ≤ L.length
  · have h := cells_app (L.take i) (L.drop i)
    rw [List.take_append_drop] at h
    have hl : (cellsP (L.take i)).length = i * 2 := by rw [cells_len, List.length_take]; omega
    rw [h, List.take_append_of_le_length (by omega), List.take_of_length_le (by omega)]
  · rw [List.take_of_length_le (by rw [cells_len]; omega), List.take_of_length_le (by omega)]
theorem cells_drop (L : List Due) (i : Nat) : (cellsP L).drop (i * 2) = cellsP (L.drop i) := by
  by_cases hi : i ≤ L.length
  · have h := cells_app (L.take i) (L.drop i)
    rw [List.take_append_drop] at h
    have hl : (cellsP (L.take i)).length = i * 2 := by rw [cells_len, List.length_take]; omega
    rw [h, ← hl, List.drop_left]
  · rw [List.drop_of_length_le (by rw [cells_len]; omega), List.drop_of_length_le (by omega)]; rfl
theorem cells_set : ∀ (L : List Due) (i : Nat) (x : Due) (n : Int), L[i]? = some x → (cellsP L).set (i * 2 + 1) (.int .i64 n) = cellsP (L.set i (x.1, n))
  | [], i, x, n, h => by simp at h
  | y :: r, 0, x, n, h => by have : y = x := by simpa using h
                             subst this; rfl
  | y :: r, i + 1, x, n, h => by
    have := cells_set r i x n (by simpa using h)
    rw [cells_cons, show (i + 1) * 2 + 1 = i * 2 + 1 + 1 + 1 by omega, List.set_cons_succ, List.set_cons_succ, this]; rfl
/-- what the row holds when one was put between -/
theorem splice_ins (cur : List Value) (L : List Due) (i c : Nat) (x : Due) (hi : i ≤ L.length) (hc : L.length + 1 ≤ c) (hl : cur.length = c * 2) (ht : cur.take (L.length * 2) = cellsP L) :
    (splice (splice cur ((i + 1) * 2) (cellsP (L.drop i))) (i * 2) [.int .i64 x.1, .int .i64 x.2]).take ((L.length + 1) * 2) = cellsP (L.take i ++ [x] ++ L.drop i) := by
  have hA : cur.take (i * 2) = cellsP (L.take i) := by rw [← cells_take, ← ht, List.take_take]; congr 1; omega
  have hAl : (cellsP (L.take i)).length = i * 2 := by rw [cells_len, List.length_take]; omega
  have hBl : (cellsP (L.drop i)).length = (L.length - i) * 2 := by rw [cells_len, List.length_drop]
  have e1 : (splice cur ((i + 1) * 2) (cellsP (L.drop i))).take (i * 2) = cellsP (L.take i) := by
    unfold splice
    rw [List.take_append_of_le_length (by rw [List.length_take]; omega), List.take_take, ← hA]; congr 1; omega
  have e2 : (splice cur ((i + 1) * 2) (cellsP (L.drop i))).drop (i * 2 + 2) = cellsP (L.drop i) ++ cur.drop ((i + 1) * 2 + (cellsP (L.drop i)).length) := by
    unfold splice
    rw [List.drop_append_of_le_length (by rw [List.length_take]; omega), List.drop_of_length_le (by rw [List.length_take]; omega)]; rfl
  generalize splice cur ((i + 1) * 2) (cellsP (L.drop i)) = c1 at e1 e2
  unfold splice
  rw [e1]
  show List.take _ (cellsP (L.take i) ++ ([.int .i64 x.1, .int .i64 x.2] ++ c1.drop (i * 2 + 2))) = _
  rw [e2, cells_app, cells_app, List.append_assoc, ← List.append_assoc [_, _], ← List.append_assoc (cellsP (L.take i))]
  rw [List.take_append_of_le_length (by simp only [List.length_append, List.length_cons, List.length_nil]; omega), List.take_of_length_le (by simp only [List.length_append, List.length_cons, List.length_nil]; omega)]
  rfl
/-- .. laid in a new row -/
theorem splice_new (cur : List Value) (L : List Due) (i : Nat) (x : Due) (hi : i ≤ L.length) (ht : cur.take (i * 2) = cellsP (L.take i)) :
    (splice (splice cur (i * 2) [.int .i64 x.1, .int .i64 x.2]) ((i + 1) * 2) (cellsP (L.drop i))).take ((L.length + 1) * 2) = cellsP (L.take i ++ [x] ++ L.drop i) := by
  have hAl : (cellsP (L.take i)).length = i * 2 := by rw [cells_len, List.length_take]; omega
  have hBl : (cellsP (L.drop i)).length = (L.length - i) * 2 := by rw [cells_len, List.length_drop]
  have e1 : (splice cur (i * 2) [.int .i64 x.1, .int .i64 x.2]).take ((i + 1) * 2) = cellsP (L.take i) ++ [.int .i64 x.1, .int .i64 x.2] := by
    unfold splice
    rw [ht, ← List.append_assoc, List.take_append_of_le_length (by rw [List.length_append, hAl]; simp; omega), List.take_of_length_le (by rw [List.length_append, hAl]; simp; omega)]
  generalize splice cur (i * 2) [.int .i64 x.1, .int .i64 x.2] = c1 at e1
  unfold splice
  rw [e1, ← List.append_assoc, List.take_append_of_le_length (by simp only [List.length_append, List.length_cons, List.length_nil]; omega), List.take_of_length_le (by simp only [List.length_append, List.length_cons, List.length_nil]; omega), cells_app, cells_app]
  rfl
/-- what the row holds when one was taken out -/
theorem splice_del (cur : List Value) (L : List Due) (i c : Nat) (hi : i < L.length) (hc : L.length ≤ c) (hl : cur.length = c * 2) (ht : cur.take (L.length * 2) = cellsP L) (zs : List Value) :
    (splice (splice cur (i * 2) (cellsP (L.drop (i + 1)))) ((L.length - 1) * 2) zs).take ((L.length - 1) * 2) = cellsP (L.take i ++ L.drop (i + 1)) := by
  have hA : cur.take (i * 2) = cellsP (L.take i) := by rw [← cells_take, ← ht, List.take_take]; congr 1; omega
  have hBl : (cellsP (L.drop (i + 1))).length = (L.length - (i + 1)) * 2 := by rw [cells_len, List.length_drop]
  have hAl : (cellsP (L.take i)).length = i * 2 := by rw [cells_len, List.length_take]; omega
  have hs : (splice cur (i * 2) (cellsP (L.drop (i + 1)))).length = c * 2 := by rw [length_splice _ _ _ (by omega), hl]
  have e1 : (splice cur (i * 2) (cellsP (L.drop (i + 1)))).take ((L.length - 1) * 2) = cellsP (L.take i ++ L.drop (i + 1)) := by
    unfold splice
    rw [hA, ← List.append_assoc, List.take_append_of_le_length (by rw [List.length_append]; omega), List.take_of_length_le (by rw [List.length_append]; omega), cells_app]
  generalize splice cur (i * 2) (cellsP (L.drop (i + 1))) = c1 at e1 hs
  unfold splice
  rw [List.take_append_of_le_length (by rw [List.length_take]; omega), List.take_take, Nat.min_self, e1]
/-- a row of the call's own handed back; nothing but the elder row and new memory was touched -/
def InsRes (base : Nat) (v : Value) (w : World) (L' : List Due) (e : Ending) (w' : World) : Prop :=
  ∃ v', e = .returned v' ∧ w'.ownsRow base 53 2 v' L'.length (cellsP L') ∧ w.grownBy w' v.ownBlock ∧ (v'.ownBlock = v.ownBlock ∨ v'.ownBlock = some w.heap.size)
theorem info_due : (Try.prog.info? 53).map (fun i => (i.zero, i.size, i.bytes)) = some (some (.agg #[.int .i64 0, .int .i64 0]), 2, 16) := by kernel_rfl
theorem shape_blk {w : World} {g : Nat} {t : TypeId} {cs : Array Value} (h : Blk w g t cs) : w.shape? g = some (t, cs.size) := by
  unfold Blk at h
  simp [World.shape?, h]
end Go.Proofs.Ytoiakenepmbalaa.Purse
