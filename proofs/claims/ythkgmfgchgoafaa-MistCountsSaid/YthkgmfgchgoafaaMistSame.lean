/- Go's == on datagrams. -/
import Derived.Test.YthkgmfgchgoafaaMistClear
namespace Go.Proofs.Ythkgmfgchgoafaa.Mist
set_option maxRecDepth 100000
open Go.RowKit
open Go.Proofs.Ythkgmfgchgoafaa.Mem Go.Proofs.Ythkgmfgchgoafaa.CordG
def sameG (x y : Gr) : Bool := (x.cl == y.cl) && ((x.up == y.up) && ((x.ep == y.ep) && ((x.sq == y.sq) && ((x.ak == y.ak) && (x.bd.toList == y.bd.toList)))))
theorem sameG_refl (x : Gr) : sameG x x = true := by simp [sameG]
set_option maxRecDepth 100000 in
set_option maxHeartbeats 800000 in
theorem run_eq_gram (x y : Gr) (w : World) : (binOp .eql 29 (.agg #[.int .i64 x.cl, .bool x.up, .int .i64 x.ep, .int .i64 x.sq, .int .i64 x.ak, .string x.bd]) (.agg #[.int .i64 y.cl, .bool y.up, .int .i64 y.ep, .int .i64 y.sq, .int .i64 y.ak, .string y.bd])).run Try.prog w = .ok (.bool (sameG x y)) w := by
  have u3 := Try.underlying4
  have u4 := Try.underlying3
  have u9 := Try.underlying9
  have a3 := Try.isAgg4
  have z3 := Try.sizeOf4
  have a4 := Try.isAgg3
  have z4 := Try.sizeOf3
  have a9 := Try.isAgg9
  have z9 := Try.sizeOf9
  have hS : Try.prog.underlying 29 = some (.struct (Try.prog.fieldsOf 29)) := by kernel_rfl
  have hp : Try.prog.stoodInHeld 29 = false := by kernel_rfl
  rw [run_eql_struct, show (10000 : Nat) = 9999 + 1 from rfl, run_equalIn_agg w 9999 29 _ _ hS hp]
  clear hS hp
  simp only [Program.fieldsOf, Try.underlying29]
  go_simp
  unfold sameG
  by_cases h0 : x.cl = y.cl
  rotate_left
  · simp [h0]
  by_cases h1 : x.up = y.up
  rotate_left
  · simp [h0, h1]
  by_cases h2 : x.ep = y.ep
  rotate_left
  · simp [h0, h1, h2]
  by_cases h3 : x.sq = y.sq
  rotate_left
  · simp [h0, h1, h2, h3]
  by_cases h4 : x.ak = y.ak
  rotate_left
  · simp [h0, h1, h2, h3, h4]
  by_cases h5 : x.bd.toList = y.bd.toList
  rotate_left
  · simp [h0, h1, h2, h3, h4, h5]
  simp [h0, h1, h2, h3, h4, h5]
theorem run_ne_gram (x y : Gr) (w : World) : (binOp .neq 29 (.agg #[.int .i64 x.cl, .bool x.up, .int .i64 x.ep, .int .i64 x.sq, .int .i64 x.ak, .string x.bd]) (.agg #[.int .i64 y.cl, .bool y.up, .int .i64 y.ep, .int .i64 y.sq, .int .i64 y.ak, .string y.bd])).run Try.prog w = .ok (.bool (!sameG x y)) w := by
  have h := run_eq_gram x y w
  simp only [binOp] at h ⊢
  simp only [Sem.run_bind] at h ⊢
  generalize (Op.equal 29 (.agg #[.int .i64 x.cl, .bool x.up, .int .i64 x.ep, .int .i64 x.sq, .int .i64 x.ak, .string x.bd]) (.agg #[.int .i64 y.cl, .bool y.up, .int .i64 y.ep, .int .i64 y.sq, .int .i64 y.ak, .string y.bd])).run Try.prog w = r at h ⊢
  cases r with
  | ok b w1 => simp at h ⊢; obtain ⟨rfl, rfl⟩ := h; exact ⟨rfl, rfl⟩
  | halt x w1 => simp at h
theorem run_guard_gram (op : BinOp) (A B : Operand) (xs ys : Array Value) (w : World) : (eqGuard op 29 A B (.agg xs) (.agg ys)).run Try.prog w = .ok () w := run_eqGuard_agg w op 29 A B xs ys (by kernel_rfl)
theorem run_eqg (x : Gr) (w : World) : (binOp .eql 29 (.agg #[.int .i64 x.cl, .bool x.up, .int .i64 x.ep, .int .i64 x.sq, .int .i64 x.ak, .string x.bd]) (.agg #[.int .i64 x.cl, .bool x.up, .int .i64 x.ep, .int .i64 x.sq, .int .i64 x.ak, .string x.bd])).run Try.prog w = .ok (.bool true) w := by
  rw [run_eq_gram, sameG_refl]
theorem run_neg (x : Gr) (w : World) : (binOp .neq 29 (.agg #[.int .i64 x.cl, .bool x.up, .int .i64 x.ep, .int .i64 x.sq, .int .i64 x.ak, .string x.bd]) (.agg #[.int .i64 x.cl, .bool x.up, .int .i64 x.ep, .int .i64 x.sq, .int .i64 x.ak, .string x.bd])).run Try.prog w = .ok (.bool false) w := by
  rw [run_ne_gram, sameG_refl]; rfl
end Go.Proofs.Ythkgmfgchgoafaa.Mist
