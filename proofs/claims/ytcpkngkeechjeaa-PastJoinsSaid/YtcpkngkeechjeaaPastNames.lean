/- Names of transactions in memory: ==, the document's own Less. -/
import Derived.Test.YtcpkngkeechjeaaPastRead
import Derived.Test.YtcpkngkeechjeaaEntRef
import Derived.Test.YtcpkngkeechjeaaEntRows
import Derived.Test.YtcpkngkeechjeaaMem
import Derived.Laws.AppendOwn
import Derived.Lib.QuietBelow
namespace Go.Proofs.Ytcpkngkeechjeaa.Past
set_option maxRecDepth 100000
open Go.RowKit
open Go.Proofs.Ytcpkngkeechjeaa.Mem
open Go.Proofs.Ytcpkngkeechjeaa.Ent (Ent goodB)
def txA (t : T3) : Array Value := #[.int .i64 t.cl, .int .i64 t.ep, .int .i64 t.n]
def sameT (a b : T3) : Bool := (a.cl == b.cl) && ((a.ep == b.ep) && (a.n == b.n))
theorem sameT_eq (a b : T3) : sameT a b = decide (a = b) := by
  rw [show decide (a = b) = decide (a.cl = b.cl ∧ a.ep = b.ep ∧ a.n = b.n) from decide_eq_decide.2 t3_eq]
  unfold sameT
  by_cases h1 : a.cl = b.cl <;> by_cases h2 : a.ep = b.ep <;> by_cases h3 : a.n = b.n <;> simp [h1, h2, h3]
theorem run_eq_txn (a b : T3) (w : World) : (binOp .eql 24 (.agg #[.int .i64 a.cl, .int .i64 a.ep, .int .i64 a.n]) (.agg #[.int .i64 b.cl, .int .i64 b.ep, .int .i64 b.n])).run Try.prog w = .ok (.bool (sameT a b)) w := by
  rw [run_eql_struct, show (10000 : Nat) = 9998 + 2 from rfl, Ent.eqIn_txn]
  rfl
theorem run_ne_txn (a b : T3) (w : World) : (binOp .neq 24 (.agg #[.int .i64 a.cl, .int .i64 a.ep, .int .i64 a.n]) (.agg #[.int .i64 b.cl, .int .i64 b.ep, .int .i64 b.n])).run Try.prog w = .ok (.bool (!sameT a b)) w := by
  have h := run_eq_txn a b w
  simp only [binOp] at h ⊢
  simp only [Sem.run_bind] at h ⊢
  generalize (Op.equal 24 (.agg #[.int .i64 a.cl, .int .i64 a.ep, .int .i64 a.n]) (.agg #[.int .i64 b.cl, .int .i64 b.ep, .int .i64 b.n])).run Try.prog w = r at h ⊢
  cases r with
  | ok b w1 => simp at h ⊢; obtain ⟨rfl, rfl⟩ := h; exact ⟨rfl, rfl⟩
  | halt x w1 => simp at h
theorem run_guard_txn (op : BinOp) (A B : Operand) (xs ys : Array Value) (w : World) : (eqGuard op 24 A B (.agg xs) (.agg ys)).run Try.prog w = .ok () w := run_eqGuard_agg w op 24 A B xs ys (by kernel_rfl)
theorem tx_cells {w : World} {g : Nat} {t : TypeId} {x : T3} (h : Blk w g t #[.int .i64 x.cl, .int .i64 x.ep, .int .i64 x.n]) :
    w.cell? ⟨g, 0, none⟩ = some (.int .i64 x.cl) ∧ w.cell? ⟨g, 1, none⟩ = some (.int .i64 x.ep) ∧ w.cell? ⟨g, 2, none⟩ = some (.int .i64 x.n) := ⟨h.cell 0, h.cell 1, h.cell 2⟩
set_option maxRecDepth 100000 in
theorem uless_any (a b : T3) (w : World) :
    Calls Try.prog 29 #[.agg #[.int .i64 a.cl, .int .i64 a.ep, .int .i64 a.n], .agg #[.int .i64 b.cl, .int .i64 b.ep, .int .i64 b.n]] w fun e w' => e = .returned (.bool (lessT a b)) ∧ Below w.heap.size w w' := by
  have hb1 := Ent.below_box w (.cells #[.int .i64 a.cl, .int .i64 a.ep, .int .i64 a.n] 24)
  have hB1 := Blk.new w 24 #[.int .i64 a.cl, .int .i64 a.ep, .int .i64 a.n]
  have hb2 := hb1.alloc (Nat.le_of_lt (Ent.alloc_lt _ _)) (.cells #[.int .i64 b.cl, .int .i64 b.ep, .int .i64 b.n] 24)
  have hB2 := Blk.new (w.alloc (.cells #[.int .i64 a.cl, .int .i64 a.ep, .int .i64 a.n] 24)) 24 #[.int .i64 b.cl, .int .i64 b.ep, .int .i64 b.n]
  have hB3 := hB1.alloc (.cells #[.int .i64 b.cl, .int .i64 b.ep, .int .i64 b.n] 24)
  obtain ⟨c0, c1, c2⟩ := tx_cells hB2
  obtain ⟨d0, d1, d2⟩ := tx_cells hB3
  clear hb1 hB1 hB2 hB3
  have HB := Lib.hid hb2
  clear hb2
  obtain ⟨a1, a2, a3⟩ := a
  obtain ⟨b1, b2, b3⟩ := b
  dsimp only at HB c0 c1 c2 d0 d1 d2 ⊢
  unfold lessT
  dsimp only
  by_cases h1 : a1 = b1
  · subst h1
    rw [if_neg (by simp)]
    by_cases h2 : a2 = b2
    · subst h2
      rw [if_neg (by simp)]
      go_enter Try.func29, Try.ntmps29
      go_wp2
      go_ret
      exact ⟨by simp, HB.out⟩
    · rw [if_pos h2]
      have e2 : (a2 != b2) = true := by simp [h2]
      go_enter Try.func29, Try.ntmps29
      go_wp2
      go_ret
      exact ⟨by simp, HB.out⟩
  · rw [if_pos h1]
    have e1 : (a1 != b1) = true := by simp [h1]
    go_enter Try.func29, Try.ntmps29
    go_wp2
    go_ret
    exact ⟨by simp, HB.out⟩
end Go.Proofs.Ytcpkngkeechjeaa.Past
