/- == of losers and of pages' first entries. -/
import Derived.Test.YtcpkngkeechjeaaPastView
namespace Go.Proofs.Ytcpkngkeechjeaa.Past
set_option maxRecDepth 100000
open Go.RowKit
open Go.Proofs.Ytcpkngkeechjeaa.Mem
def sameLo (x y : T3 × Int) : Bool := sameT x.1 y.1 && (x.2 == y.2)
def sameFi (x y : Int × Int) : Bool := (x.1 == y.1) && (x.2 == y.2)
theorem sameLo_eq (x y : T3 × Int) : sameLo x y = decide (x = y) := by
  unfold sameLo
  rw [sameT_eq, Bool.eq_iff_iff]
  simp [Prod.ext_iff]
theorem sameFi_eq (x y : Int × Int) : sameFi x y = decide (x = y) := by
  unfold sameFi
  rw [Bool.eq_iff_iff]
  simp [Prod.ext_iff]
set_option maxRecDepth 100000 in
set_option maxHeartbeats 800000 in
theorem run_eq_lo (x y : T3 × Int) (w : World) : (binOp .eql 43 (.agg #[.int .i64 x.1.cl, .int .i64 x.1.ep, .int .i64 x.1.n, .int .i64 x.2]) (.agg #[.int .i64 y.1.cl, .int .i64 y.1.ep, .int .i64 y.1.n, .int .i64 y.2])).run Try.prog w = .ok (.bool (sameLo x y)) w := by
  have u4 := Try.underlying3
  have a4 := Try.isAgg3
  have z4 := Try.sizeOf3
  have a5 := Try.isAgg24
  have z5 := Try.sizeOf24
  have hS : Try.prog.underlying 43 = some (.struct (Try.prog.fieldsOf 43)) := by kernel_rfl
  have hp : Try.prog.stoodInHeld 43 = false := by kernel_rfl
  have e2 := fun (a b c a' b' c' : Int) (w : World) => Ent.eqIn_txn 9997 a b c a' b' c' w
  rw [run_eql_struct, show (10000 : Nat) = 9999 + 1 from rfl, run_equalIn_agg w 9999 43 _ _ hS hp]
  clear hS hp
  simp only [Program.fieldsOf, Try.underlying43]
  go_simp
  unfold sameLo sameT
  by_cases h1 : x.1.cl = y.1.cl
  rotate_left
  · simp [h1]
  by_cases h2 : x.1.ep = y.1.ep
  rotate_left
  · simp [h1, h2]
  by_cases h3 : x.1.n = y.1.n
  rotate_left
  · simp [h1, h2, h3]
  by_cases h4 : x.2 = y.2
  rotate_left
  · simp [h1, h2, h3, h4]
  simp [h1, h2, h3, h4]
set_option maxRecDepth 100000 in
set_option maxHeartbeats 800000 in
theorem run_eq_fi (x y : Int × Int) (w : World) : (binOp .eql 45 (.agg #[.int .i64 x.1, .int .i64 x.2]) (.agg #[.int .i64 y.1, .int .i64 y.2])).run Try.prog w = .ok (.bool (sameFi x y)) w := by
  have u4 := Try.underlying3
  have a4 := Try.isAgg3
  have z4 := Try.sizeOf3
  have hS : Try.prog.underlying 45 = some (.struct (Try.prog.fieldsOf 45)) := by kernel_rfl
  have hp : Try.prog.stoodInHeld 45 = false := by kernel_rfl
  rw [run_eql_struct, show (10000 : Nat) = 9999 + 1 from rfl, run_equalIn_agg w 9999 45 _ _ hS hp]
  clear hS hp
  simp only [Program.fieldsOf, Try.underlying45]
  go_simp
  unfold sameFi
  by_cases h1 : x.1 = y.1
  rotate_left
  · simp [h1]
  by_cases h4 : x.2 = y.2
  rotate_left
  · simp [h1, h4]
  simp [h1, h4]
theorem run_ne_lo (x y : T3 × Int) (w : World) : (binOp .neq 43 (.agg #[.int .i64 x.1.cl, .int .i64 x.1.ep, .int .i64 x.1.n, .int .i64 x.2]) (.agg #[.int .i64 y.1.cl, .int .i64 y.1.ep, .int .i64 y.1.n, .int .i64 y.2])).run Try.prog w = .ok (.bool (!sameLo x y)) w := by
  have h := run_eq_lo x y w
  simp only [binOp] at h ⊢
  simp only [Sem.run_bind] at h ⊢
  generalize (Op.equal 43 (.agg #[.int .i64 x.1.cl, .int .i64 x.1.ep, .int .i64 x.1.n, .int .i64 x.2]) (.agg #[.int .i64 y.1.cl, .int .i64 y.1.ep, .int .i64 y.1.n, .int .i64 y.2])).run Try.prog w = r at h ⊢
  cases r with
  | ok b w1 => simp at h ⊢; obtain ⟨rfl, rfl⟩ := h; exact ⟨rfl, rfl⟩
  | halt x w1 => simp at h
theorem run_ne_fi (x y : Int × Int) (w : World) : (binOp .neq 45 (.agg #[.int .i64 x.1, .int .i64 x.2]) (.agg #[.int .i64 y.1, .int .i64 y.2])).run Try.prog w = .ok (.bool (!sameFi x y)) w := by
  have h := run_eq_fi x y w
  simp only [binOp] at h ⊢
  simp only [Sem.run_bind] at h ⊢
  generalize (Op.equal 45 (.agg #[.int .i64 x.1, .int .i64 x.2]) (.agg #[.int .i64 y.1, .int .i64 y.2])).run Try.prog w = r at h ⊢
  cases r with
  | ok b w1 => simp at h ⊢; obtain ⟨rfl, rfl⟩ := h; exact ⟨rfl, rfl⟩
  | halt x w1 => simp at h
theorem run_guard_lo (op : BinOp) (A B : Operand) (xs ys : Array Value) (w : World) : (eqGuard op 43 A B (.agg xs) (.agg ys)).run Try.prog w = .ok () w := run_eqGuard_agg w op 43 A B xs ys (by kernel_rfl)
theorem run_guard_fi (op : BinOp) (A B : Operand) (xs ys : Array Value) (w : World) : (eqGuard op 45 A B (.agg xs) (.agg ys)).run Try.prog w = .ok () w := run_eqGuard_agg w op 45 A B xs ys (by kernel_rfl)
end Go.Proofs.Ytcpkngkeechjeaa.Past
