/- The walks of nib's small functions: fold, unfold, ends. -/
import Derived.Test.YtjaafdkmhkhehaaRows
import Derived.Test.YtjaafdkmhkhehaaNibMath
import Derived.WalkKit
import Derived.WalkSpells
import Derived.WalkLawsBesides
import Derived.BigQuiet
import Derived.Deep.QuietTactic
import Derived.IntWalk
import Derived.Lib.Hide
import Derived.WalkSmall
namespace Go.Proofs.Ytjaafdkmhkhehaa.Nib
open Go.RowKit
open Go.Lib (zigzag)

theorem xor_comm_u64 (a b : Int) : bits .xor .u64 a b = bits .xor .u64 b a := by
  show IntKind.u64.wrap ((BitVec.ofInt 64 a ^^^ BitVec.ofInt 64 b).toNat : Int) = IntKind.u64.wrap ((BitVec.ofInt 64 b ^^^ BitVec.ofInt 64 a).toNat : Int)
  rw [BitVec.xor_comm]
theorem xor_comm_i64 (a b : Int) : bits .xor .i64 a b = bits .xor .i64 b a := by
  show IntKind.i64.wrap ((BitVec.ofInt 64 a ^^^ BitVec.ofInt 64 b).toNat : Int) = IntKind.i64.wrap ((BitVec.ofInt 64 b ^^^ BitVec.ofInt 64 a).toNat : Int)
  rw [BitVec.xor_comm]
theorem xor_zero_i64 (x : Nat) (hx : x < 9223372036854775808) : bits .xor .i64 (x : Int) 0 = (x : Int) := by
  show IntKind.i64.wrap ((BitVec.ofInt 64 (x : Int) ^^^ BitVec.ofInt 64 0).toNat : Int) = _
  have h2 : (BitVec.ofInt 64 (x : Int)).toNat = x := by
    rw [BitVec.ofInt_natCast, BitVec.toNat_ofNat]; exact Nat.mod_eq_of_lt (by omega)
  have h0 : (BitVec.ofInt 64 0) = 0#64 := by decide
  rw [h0, BitVec.xor_zero, h2, IntKind.wrap_i64]
  omega
theorem fold_eq {n : Int} (h : Fits n) : bits .xor .u64 (IntKind.u64.wrap (IntKind.u64.wrap n * 2)) (IntKind.u64.wrap (n / 9223372036854775808)) = ((zigzag n : Nat) : Int) := by
  obtain ⟨h1, h2⟩ := h
  by_cases hn : n < 0
  · have e : IntKind.u64.wrap (n / 9223372036854775808) = IntKind.u64.max := by
      have e1 : n / 9223372036854775808 = -1 := by omega
      rw [e1]; decide
    rw [e, xor_comm_u64, Lib.zigzag_neg h1 hn]
  · have e1 : n / 9223372036854775808 = 0 := by omega
    have e2 : IntKind.u64.wrap (IntKind.u64.wrap n * 2) = ((zigzag n : Nat) : Int) := by
      rw [Lib.zigzag_nonneg (by omega), IntKind.wrap_u64, IntKind.wrap_u64]; omega
    have e3 : IntKind.u64.wrap 0 = ((0 : Nat) : Int) := by decide
    rw [e1, e2, e3, bits_xor_u64_nat _ _ (Lib.zigzag_lt h1 h2) (by decide), Nat.xor_zero]
theorem unfold_eq {u : Nat} (h : u < 18446744073709551616) : bits .xor .i64 ((u : Int) / 2) (wrap64 (-wrap64 (bits .and .u64 (u : Int) 1))) = zag u := by
  have e0 : bits .and .u64 (u : Int) 1 = (u : Int) % 2 := Lib.u64_and1 _ (by omega) (by omega)
  have ed : ((u : Int) / 2) = ((u / 2 : Nat) : Int) := by omega
  rw [e0, ed]
  unfold zag
  by_cases h1 : u % 2 = 1
  · have e2 : wrap64 (-wrap64 ((u : Int) % 2)) = -1 := by
      have : (u : Int) % 2 = 1 := by omega
      rw [this]; unfold wrap64; omega
    rw [if_pos h1, e2, xor_comm_i64, Lib.i64_not _ (by omega)]
  · have e2 : wrap64 (-wrap64 ((u : Int) % 2)) = 0 := by
      have : (u : Int) % 2 = 0 := by omega
      rw [this]; unfold wrap64; omega
    rw [if_neg h1, e2, xor_zero_i64 _ (by omega)]

theorem ret_int' {k : IntKind} {a b : Int} (h : a = b) : Ending.returned (.int k a) = .returned (.int k b) := by rw [h]
theorem ret_bool' {a b : Bool} (h : a = b) : Ending.returned (.bool a) = .returned (.bool b) := by rw [h]

set_option maxHeartbeats 400000 in
theorem fold_any (n : Int) (w : World) (h : Fits n) :
    Calls Try.prog 87 #[.int .i64 n] w fun e w' => e = .returned (.int .u64 (zigzag n : Nat)) ∧ w = w' := by
  have H := fold_eq h
  have HH := Lib.hid H
  clear H
  obtain ⟨h1, h2⟩ := h
  go_enter Try.func87, Try.ntmps87
  go_wp2
  go_ret
  exact ⟨ret_int' HH.out, rfl⟩
set_option maxHeartbeats 400000 in
theorem unfold_any (u : Nat) (w : World) (h : u < 18446744073709551616) :
    Calls Try.prog 89 #[.int .u64 u] w fun e w' => e = .returned (.int .i64 (zag u)) ∧ w = w' := by
  have H := unfold_eq h
  have HH := Lib.hid H
  clear H
  go_enter Try.func89, Try.ntmps89
  go_wp2
  go_ret
  exact ⟨ret_int' HH.out, rfl⟩

/-- whether a number can end with byte b at i -/
def canEnd (i b : Nat) : Bool := decide ((0 < b ∨ i = 0) ∧ (b = 1 ∨ i < 9))
set_option maxHeartbeats 400000 in
theorem ends_any (i b : Nat) (w : World) (h2 : i < 10) (h4 : b < 256) :
    Calls Try.prog 88 #[.int .i64 i, .int .u8 b] w fun e w' => e = .returned (.bool (canEnd i b)) ∧ w = w' := by
  have H : ((decide (0 < (b : Int)) || ((i : Int) == 0)) && (((b : Int) == 1) || decide ((i : Int) < 9))) = canEnd i b := by
    unfold canEnd
    rw [Bool.eq_iff_iff]; simp; omega
  have HH := Lib.hid H
  clear H
  by_cases a1 : 0 < b
  · have a2 : decide (0 < (b : Int)) = true := by simp; omega
    by_cases b1 : b = 1
    · subst b1
      go_enter Try.func88, Try.ntmps88
      go_wp2
      go_ret
      exact ⟨ret_bool' (by simpa using HH.out), rfl⟩
    · have b2 : ((b : Int) == 1) = false := by simp; omega
      go_enter Try.func88, Try.ntmps88
      go_wp2
      go_ret
      exact ⟨ret_bool' (by have hh := HH.out; rw [a2, b2] at hh; simpa using hh), rfl⟩
  · obtain rfl : b = 0 := by omega
    by_cases i1 : i = 0
    · subst i1
      go_enter Try.func88, Try.ntmps88
      go_wp2
      go_ret
      exact ⟨ret_bool' (by simpa using HH.out), rfl⟩
    · have i2 : ((i : Int) == 0) = false := by simp; omega
      go_enter Try.func88, Try.ntmps88
      go_wp2
      go_ret
      exact ⟨ret_bool' (by have hh := HH.out; rw [i2] at hh; simpa using hh), rfl⟩
end Go.Proofs.Ytjaafdkmhkhehaa.Nib
