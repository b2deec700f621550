/- Plain facts on numbers as few bytes: what a text begins with, there and back; no program is named here. Memory that only grows. The walks of nib's small functions: fold, unfold, ends. The walk of nib.Int. The walks of nib.Str, nib.TakeInt, nib.TakeStr. What layers above nib use: contracts by an equation, memory that only grows, a number's bytes as a text. The walks of the document's own answers for layer 1: fold, TakeInt, TakeStr. The walks of the document's own answers for layer 1: Int, Str. -/
import Derived.Lib.Varint
import Derived.Lib.Zigzag
import Derived.Test.YtjffjmffoffblaaRows
import Derived.WalkKit
import Derived.WalkSmall
import Derived.WalkSpells
import Derived.WalkLawsBesides
import Derived.BigQuiet
import Derived.Deep.QuietTactic
import Derived.IntWalk
import Derived.Lib.Hide
import Derived.Lib.Strings
import Derived.OwnWalk
namespace Go.Proofs.Ytjffjmffoffblaa.Nib
set_option maxRecDepth 100000
open Go.Lib (uvarint uvarint_small uvarint_big zigzag)

/-- what stands in bytes from group i on, over what was gathered: the number and the rest -/
def tk (i u : Nat) : List UInt8 → Option (Nat × List UInt8)
  | [] => none
  | b :: r => if 10 ≤ i then none else if 128 ≤ b.toNat then tk (i + 1) (u + b.toNat % 128 * 128 ^ i) r
      else if (0 < b.toNat ∨ i = 0) ∧ (b.toNat = 1 ∨ i < 9) then some (u + b.toNat * 128 ^ i, r) else none

theorem tk_ten (u : Nat) (l : List UInt8) : tk 10 u l = none := by cases l <;> simp [tk]

theorem tk_go {i u : Nat} {b : UInt8} {r : List UInt8} (hi : i < 10) (hb : 128 ≤ b.toNat) : tk i u (b :: r) = tk (i + 1) (u + b.toNat % 128 * 128 ^ i) r := by
  rw [tk, if_neg (by omega), if_pos hb]
theorem tk_end {i u : Nat} {b : UInt8} {r : List UInt8} (hi : i < 10) (hb : b.toNat < 128) (he : (0 < b.toNat ∨ i = 0) ∧ (b.toNat = 1 ∨ i < 9)) : tk i u (b :: r) = some (u + b.toNat * 128 ^ i, r) := by
  rw [tk, if_neg (by omega), if_neg (by omega), if_pos he]
theorem tk_no {i u : Nat} {b : UInt8} {r : List UInt8} (hb : b.toNat < 128) (he : ¬ ((0 < b.toNat ∨ i = 0) ∧ (b.toNat = 1 ∨ i < 9))) : tk i u (b :: r) = none := by
  unfold tk
  by_cases h : 10 ≤ i
  · rw [if_pos h]
  · rw [if_neg h, if_neg (by omega), if_neg he]

theorem u8_toNat (n : Nat) (h : n < 256) : n.toUInt8.toNat = n := by
  simp [Nat.toUInt8, UInt8.toNat_ofNat']; omega

/-- written and read: group i on -/
theorem tk_write : ∀ (k i u v : Nat) (t : List UInt8), i + k = 9 → (v < 128 ^ k * 2) → (0 < v ∨ i = 0) → tk i u (uvarint v ++ t) = some (u + v * 128 ^ i, t)
  | 0, i, u, v, t, hik, hv, h0 => by
    have hi : i = 9 := by omega
    subst hi
    rw [uvarint_small (by omega)]
    have e := u8_toNat v (by omega)
    simp only [List.cons_append, List.nil_append]
    rw [tk_end (by omega) (by omega) (by rw [e]; omega), e]
  | k + 1, i, u, v, t, hik, hv, h0 => by
    by_cases hs : v < 128
    · rw [uvarint_small hs]
      have e := u8_toNat v (by omega)
      simp only [List.cons_append, List.nil_append]
      rw [tk_end (by omega) (by omega) (by rw [e]; omega), e]
    · rw [uvarint_big (by omega)]
      have e := u8_toNat (v % 128 + 128) (by omega)
      simp only [List.cons_append]
      rw [tk_go (by omega) (by omega), e, tk_write k (i + 1) _ (v / 128) t (by omega) (by rw [Nat.pow_succ] at hv; omega) (by omega)]
      have h1 : (v % 128 + 128) % 128 = v % 128 := by omega
      rw [h1, Nat.pow_succ]
      have h2 : v = v % 128 + v / 128 * 128 := by omega
      have h3 : v / 128 * (128 ^ i * 128) = (v / 128 * 128) * 128 ^ i := by
        rw [Nat.mul_comm (128 ^ i) 128, ← Nat.mul_assoc]
      rw [h3, Nat.add_assoc, ← Nat.add_mul, ← h2]

theorem tk_back (v : Nat) (hv : v < 18446744073709551616) (t : List UInt8) : tk 0 0 (uvarint v ++ t) = some (v, t) := by
  have := tk_write 9 0 0 v t rfl (by simpa using hv) (.inr rfl)
  simpa using this

/-- what was read was written so: group i on -/
theorem tk_one : ∀ (s : List UInt8) (i u v : Nat) (r : List UInt8), tk i u s = some (v, r) → ∃ x, v = u + x * 128 ^ i ∧ s = uvarint x ++ r ∧ (0 < x ∨ i = 0) ∧ x * 128 ^ i < 18446744073709551616
  | [], i, u, v, r, h => by simp [tk] at h
  | b :: s, i, u, v, r, h => by
    by_cases hi : 10 ≤ i
    · rw [tk, if_pos hi] at h; exact absurd h (by simp)
    by_cases hb : 128 ≤ b.toNat
    · rw [tk_go (by omega) hb] at h
      obtain ⟨x, hv, hs, hx, hl⟩ := tk_one s (i + 1) _ v r h
      have hx0 : 0 < x := by omega
      have e1 : (b.toNat % 128 + x * 128) * 128 ^ i = b.toNat % 128 * 128 ^ i + x * 128 ^ (i + 1) := by
        rw [Nat.add_mul, Nat.pow_succ, Nat.mul_comm (128 ^ i) 128, Nat.mul_assoc]
      refine ⟨b.toNat % 128 + x * 128, by rw [hv, e1]; omega, ?_, by omega, ?_⟩
      · rw [uvarint_big (by omega)]
        have e2 : (b.toNat % 128 + x * 128) / 128 = x := by omega
        have e3 : (b.toNat % 128 + x * 128) % 128 + 128 = b.toNat := by have := b.toNat_lt; omega
        rw [e2, e3, hs]
        simp
      · -- at most ten groups: the last is 1
        rw [e1]
        have hlt : b.toNat % 128 < 128 := Nat.mod_lt _ (by decide)
        have h9 : i + 1 ≤ 9 := by
          rcases Nat.lt_or_ge (i + 1) 10 with h' | h'
          · omega
          · have e10 : i + 1 = 10 := by omega
            rw [e10, tk_ten] at h; exact absurd h (by simp)
        have hp : b.toNat % 128 * 128 ^ i < 128 ^ (i + 1) := by
          rw [Nat.pow_succ, Nat.mul_comm (128 ^ i) 128]
          exact Nat.mul_lt_mul_of_pos_right hlt (Nat.pow_pos (by decide))
        have hd : 128 ^ (i + 1) ∣ 18446744073709551616 := by
          have : (18446744073709551616 : Nat) = 128 ^ (i + 1) * (128 ^ (9 - (i + 1)) * 2) := by
            rw [← Nat.mul_assoc, ← Nat.pow_add, show i + 1 + (9 - (i + 1)) = 9 from by omega]
          exact ⟨_, this⟩
        obtain ⟨q, hq⟩ := hd
        rw [hq] at hl ⊢
        rw [Nat.mul_comm x] at hl ⊢
        have hxq : x < q := Nat.lt_of_mul_lt_mul_left hl
        have : 128 ^ (i + 1) * (x + 1) ≤ 128 ^ (i + 1) * q := Nat.mul_le_mul_left _ hxq
        rw [Nat.mul_succ] at this
        omega
    · by_cases he : (0 < b.toNat ∨ i = 0) ∧ (b.toNat = 1 ∨ i < 9)
      · rw [tk_end (by omega) (by omega) he] at h
        simp only [Option.some.injEq, Prod.mk.injEq] at h
        obtain ⟨rfl, rfl⟩ := h
        refine ⟨b.toNat, rfl, by rw [uvarint_small (by omega)]; simp, he.1, ?_⟩
        have hi9 : i ≤ 9 := by omega
        rcases he.2 with h1 | h1
        · rw [h1, Nat.one_mul]
          exact Nat.lt_of_le_of_lt (Nat.pow_le_pow_right (by decide) hi9) (by decide)
        · have : b.toNat * 128 ^ i < 128 ^ (i + 1) := by
            rw [Nat.pow_succ, Nat.mul_comm (128 ^ i) 128]
            exact Nat.mul_lt_mul_of_pos_right (by omega) (Nat.pow_pos (by decide))
          exact Nat.lt_of_lt_of_le this (Nat.le_trans (Nat.pow_le_pow_right (by decide) (show i + 1 ≤ 9 by omega)) (by decide))
      · rw [tk_no (by omega) he] at h; exact absurd h (by simp)

theorem tk_form {s : List UInt8} {v : Nat} {r : List UInt8} (h : tk 0 0 s = some (v, r)) : v < 18446744073709551616 ∧ s = uvarint v ++ r := by
  obtain ⟨x, hv, hs, _, hl⟩ := tk_one s 0 0 v r h
  simp at hv hl
  subst hv
  exact ⟨hl, hs⟩

/-- the number that a folded number stands for -/
def zag (u : Nat) : Int := if u % 2 = 1 then -((u / 2 : Nat) : Int) - 1 else ((u / 2 : Nat) : Int)
theorem zag_zig (n : Int) : zag (zigzag n) = n := by unfold zag zigzag; split <;> split <;> omega
theorem zig_zag (u : Nat) : zigzag (zag u) = u := by unfold zag zigzag; split <;> split <;> omega
theorem zag_bd {u : Nat} (h : u < 18446744073709551616) : -9223372036854775808 ≤ zag u ∧ zag u ≤ 9223372036854775807 := by unfold zag; split <;> omega

/-- the bytes of a number; of a text -/
def enc (n : Int) : List UInt8 := uvarint (zigzag n)
def encStr (s : List UInt8) : List UInt8 := enc s.length ++ s

/-- what TakeInt answers, as one triple; what TakeStr answers -/
def takeInt (s : List UInt8) : Int × List UInt8 × Bool := match tk 0 0 s with
  | none => (0, [], false)
  | some (u, r) => (zag u, r, true)
def takeStr (s : List UInt8) (most : Int) : List UInt8 × List UInt8 × Bool :=
  if (takeInt s).2.2 = true ∧ 0 ≤ (takeInt s).1 ∧ (takeInt s).1 ≤ most ∧ (takeInt s).1 ≤ (takeInt s).2.1.length
  then ((takeInt s).2.1.take (takeInt s).1.toNat, (takeInt s).2.1.drop (takeInt s).1.toNat, true) else ([], [], false)

def Fits (n : Int) : Prop := -9223372036854775808 ≤ n ∧ n ≤ 9223372036854775807

theorem fits_mk {n : Int} (h1 : -9223372036854775808 ≤ n) (h2 : n ≤ 9223372036854775807) : Fits n := ⟨h1, h2⟩
theorem zig_lt {n : Int} (h : Fits n) : zigzag n < 18446744073709551616 := Go.Lib.zigzag_lt h.1 h.2
theorem takeInt_enc {n : Int} (h : Fits n) (t : List UInt8) : takeInt (enc n ++ t) = (n, t, true) := by
  unfold takeInt enc; rw [tk_back _ (zig_lt h)]; simp [zag_zig]
theorem takeInt_form {s : List UInt8} (h : (takeInt s).2.2 = true) : s = enc (takeInt s).1 ++ (takeInt s).2.1 ∧ Fits (takeInt s).1 := by
  unfold takeInt at h ⊢
  cases e : tk 0 0 s with
  | none => rw [e] at h; simp at h
  | some p =>
    obtain ⟨u, r⟩ := p
    obtain ⟨hu, hs⟩ := tk_form e
    refine ⟨?_, zag_bd hu⟩
    show s = enc (zag u) ++ r
    unfold enc; rw [zig_zag]; exact hs
theorem takeInt_no {s : List UInt8} (h : (takeInt s).2.2 = false) : takeInt s = (0, [], false) := by
  unfold takeInt at h ⊢
  cases e : tk 0 0 s with
  | none => rfl
  | some p => rw [e] at h; simp at h
theorem takeInt_fits (s : List UInt8) : Fits (takeInt s).1 := by
  cases h : (takeInt s).2.2 with
  | true => exact (takeInt_form h).2
  | false => rw [takeInt_no h]; unfold Fits; omega
theorem enc_pos (n : Int) : 1 ≤ (enc n).length := Go.Lib.uvarint_pos _
theorem enc_le {n : Int} (h : Fits n) : (enc n).length ≤ 10 := Go.Lib.uvarint_length64 (zig_lt h)
theorem takeInt_len (s : List UInt8) : (takeInt s).2.1.length ≤ s.length := by
  cases h : (takeInt s).2.2 with
  | true =>
    have e := congrArg List.length (takeInt_form h).1
    rw [List.length_append] at e
    omega
  | false => rw [takeInt_no h]; simp
/-- a text, written, is read as it was -/
theorem takeStr_enc {s : List UInt8} (hs : (s.length : Int) ≤ 9223372036854775807) (t : List UInt8) {most : Int} (hm : (s.length : Int) ≤ most) : takeStr (encStr s ++ t) most = (s, t, true) := by
  have e : takeInt (encStr s ++ t) = ((s.length : Int), s ++ t, true) := by
    unfold encStr; rw [List.append_assoc]; exact takeInt_enc ⟨by omega, hs⟩ _
  unfold takeStr; rw [e]
  rw [if_pos ⟨rfl, by omega, hm, by simp; omega⟩]
  simp
theorem takeStr_len (s : List UInt8) (most : Int) : (takeStr s most).1.length ≤ s.length ∧ (takeStr s most).2.1.length ≤ s.length := by
  unfold takeStr
  have := takeInt_len s
  split
  · simp only [List.length_take, List.length_drop]; omega
  · simp

/-- how many bytes -/
theorem uv_le : ∀ (k x : Nat), (uvarint x).length ≤ k + 1 → x < 128 ^ (k + 1)
  | k, x, h => by
    by_cases hx : x < 128
    · exact Nat.lt_of_lt_of_le hx (by rw [Nat.pow_succ]; exact Nat.le_mul_of_pos_left _ (Nat.pow_pos (by decide)))
    · rw [uvarint_big (by omega), List.length_cons] at h
      cases k with
      | zero => have := Go.Lib.uvarint_pos (x / 128); omega
      | succ k =>
        have := uv_le k (x / 128) (by omega)
        rw [Nat.pow_succ]
        omega
theorem uv_iff (k x : Nat) : (uvarint x).length ≤ k + 1 ↔ x < 128 ^ (k + 1) := ⟨uv_le k x, Go.Lib.uvarint_length k x⟩
end Go.Proofs.Ytjffjmffoffblaa.Nib
namespace Go.Proofs.Ytjffjmffoffblaa.Nib
set_option maxRecDepth 100000
open Go.RowKit
theorem below_next {W w w' : World} (h : Below W.heap.size W w) (h' : Below w.heap.size w w') : Below W.heap.size W w' := h.trans (h'.mono h.size)
theorem below_drew {W w : World} (h : Below W.heap.size W w) (q : Nat) : Below W.heap.size W (w.drewN q) := below_drewN h q
end Go.Proofs.Ytjffjmffoffblaa.Nib
namespace Go.Proofs.Ytjffjmffoffblaa.Nib
set_option maxRecDepth 100000
open Go.RowKit
open Go.Lib (zigzag)

theorem xor_comm_u64 (a b : Int) : bits .xor .u64 a b = bits .xor .u64 b a := by
  show IntKind.u64.wrap ((BitVec.ofInt 64 a ^^^ BitVec.ofInt 64 b).toNat : Int) = IntKind.u64.wrap ((BitVec.ofInt 64 b ^^^ BitVec.ofInt 64 a).toNat : Int)
  rw [BitVec.xor_comm]
theorem xor_comm_i64 (a b : Int) : bits .xor .i64 a b = bits .xor .i64 b a := by
  show IntKind.i64.wrap ((BitVec.ofInt 64 a ^^^ BitVec.ofInt 64 b).toNat : Int) = IntKind.i64.wrap ((BitVec.ofInt 64 b ^^^ BitVec.ofInt 64 a).toNat : Int)
  rw [BitVec.xor_comm]
theorem xor_zero_i64 (x : Nat) (hx : x < 9223372036854775808) : bits .xor .i64 (x : Int) 0 = (x : Int) := by
  show IntKind.i64.wrap ((BitVec.ofInt 64 (x : Int) ^^^ BitVec.ofInt 64 0).toNat : Int) = _
  have h2 : (BitVec.ofInt 64 (x : Int)).toNat = x := by
    rw [BitVec.ofInt_natCast, BitVec.toNat_ofNat]; exact Nat.mod_eq_of_lt (by omega)
  have h0 : (BitVec.ofInt 64 0) = 0#64 := by decide
  rw [h0, BitVec.xor_zero, h2, IntKind.wrap_i64]
  omega
theorem fold_eq {n : Int} (h : Fits n) : bits .xor .u64 (IntKind.u64.wrap (IntKind.u64.wrap n * 2)) (IntKind.u64.wrap (n / 9223372036854775808)) = ((zigzag n : Nat) : Int) := by
  obtain ⟨h1, h2⟩ := h
  by_cases hn : n < 0
  · have e : IntKind.u64.wrap (n / 9223372036854775808) = IntKind.u64.max := by
      have e1 : n / 9223372036854775808 = -1 := by omega
      rw [e1]; decide
    rw [e, xor_comm_u64, Lib.zigzag_neg h1 hn]
  · have e1 : n / 9223372036854775808 = 0 := by omega
    have e2 : IntKind.u64.wrap (IntKind.u64.wrap n * 2) = ((zigzag n : Nat) : Int) := by
      rw [Lib.zigzag_nonneg (by omega), IntKind.wrap_u64, IntKind.wrap_u64]; omega
    have e3 : IntKind.u64.wrap 0 = ((0 : Nat) : Int) := by decide
    rw [e1, e2, e3, bits_xor_u64_nat _ _ (Lib.zigzag_lt h1 h2) (by decide), Nat.xor_zero]
theorem unfold_eq {u : Nat} (h : u < 18446744073709551616) : bits .xor .i64 ((u : Int) / 2) (wrap64 (-wrap64 (bits .and .u64 (u : Int) 1))) = zag u := by
  have e0 : bits .and .u64 (u : Int) 1 = (u : Int) % 2 := Lib.u64_and1 _ (by omega) (by omega)
  have ed : ((u : Int) / 2) = ((u / 2 : Nat) : Int) := by omega
  rw [e0, ed]
  unfold zag
  by_cases h1 : u % 2 = 1
  · have e2 : wrap64 (-wrap64 ((u : Int) % 2)) = -1 := by
      have : (u : Int) % 2 = 1 := by omega
      rw [this]; unfold wrap64; omega
    rw [if_pos h1, e2, xor_comm_i64, Lib.i64_not _ (by omega)]
  · have e2 : wrap64 (-wrap64 ((u : Int) % 2)) = 0 := by
      have : (u : Int) % 2 = 0 := by omega
      rw [this]; unfold wrap64; omega
    rw [if_neg h1, e2, xor_zero_i64 _ (by omega)]

theorem ret_int' {k : IntKind} {a b : Int} (h : a = b) : Ending.returned (.int k a) = .returned (.int k b) := by rw [h]
theorem ret_bool' {a b : Bool} (h : a = b) : Ending.returned (.bool a) = .returned (.bool b) := by rw [h]

set_option maxHeartbeats 400000 in
theorem fold_any (n : Int) (w : World) (h : Fits n) :
    Calls Try.prog 55 #[.int .i64 n] w fun e w' => e = .returned (.int .u64 (zigzag n : Nat)) ∧ w = w' := by
  have H := fold_eq h
  have HH := Lib.hid H
  clear H
  obtain ⟨h1, h2⟩ := h
  go_enter Try.func55, Try.ntmps55
  go_wp2
  go_ret
  exact ⟨ret_int' HH.out, rfl⟩
set_option maxHeartbeats 400000 in
theorem unfold_any (u : Nat) (w : World) (h : u < 18446744073709551616) :
    Calls Try.prog 69 #[.int .u64 u] w fun e w' => e = .returned (.int .i64 (zag u)) ∧ w = w' := by
  have H := unfold_eq h
  have HH := Lib.hid H
  clear H
  go_enter Try.func69, Try.ntmps69
  go_wp2
  go_ret
  exact ⟨ret_int' HH.out, rfl⟩

/-- whether a number can end with byte b at i -/
def canEnd (i b : Nat) : Bool := decide ((0 < b ∨ i = 0) ∧ (b = 1 ∨ i < 9))
set_option maxHeartbeats 400000 in
theorem ends_any (i b : Nat) (w : World) (h2 : i < 10) (h4 : b < 256) :
    Calls Try.prog 68 #[.int .i64 i, .int .u8 b] w fun e w' => e = .returned (.bool (canEnd i b)) ∧ w = w' := by
  have H : ((decide (0 < (b : Int)) || ((i : Int) == 0)) && (((b : Int) == 1) || decide ((i : Int) < 9))) = canEnd i b := by
    unfold canEnd
    rw [Bool.eq_iff_iff]; simp; omega
  have HH := Lib.hid H
  clear H
  by_cases a1 : 0 < b
  · have a2 : decide (0 < (b : Int)) = true := by simp; omega
    by_cases b1 : b = 1
    · subst b1
      go_enter Try.func68, Try.ntmps68
      go_wp2
      go_ret
      exact ⟨ret_bool' (by simpa using HH.out), rfl⟩
    · have b2 : ((b : Int) == 1) = false := by simp; omega
      go_enter Try.func68, Try.ntmps68
      go_wp2
      go_ret
      exact ⟨ret_bool' (by have hh := HH.out; rw [a2, b2] at hh; simpa using hh), rfl⟩
  · obtain rfl : b = 0 := by omega
    by_cases i1 : i = 0
    · subst i1
      go_enter Try.func68, Try.ntmps68
      go_wp2
      go_ret
      exact ⟨ret_bool' (by simpa using HH.out), rfl⟩
    · have i2 : ((i : Int) == 0) = false := by simp; omega
      go_enter Try.func68, Try.ntmps68
      go_wp2
      go_ret
      exact ⟨ret_bool' (by have hh := HH.out; rw [i2] at hh; simpa using hh), rfl⟩
end Go.Proofs.Ytjffjmffoffblaa.Nib
namespace Go.Proofs.Ytjffjmffoffblaa.Nib
set_option maxRecDepth 100000
open Go.RowKit
open Go.Lib (zigzag uvarint uvarint_small uvarint_big)

/-- behind k rounds: the first k cells hold the bytes p, and v is what is left -/
def IntAt (N : Nat) (k : Nat) (v : Nat) (c : Array Value) : Prop :=
  c.size = 10 ∧ v < 128 ^ (9 - k) * 2 ∧ k ≤ 9 ∧ ∃ p : List UInt8, p.length = k ∧ uvarint N = p ++ uvarint v ∧ ∀ j (hj : j < p.length), c[j]? = some (.int .u8 (p[j].toNat : Int))

/-- a round that goes on -/
theorem IntAt.next {N k v : Nat} {c : Array Value} (h : IntAt N k v c) (hv : 128 ≤ v) : IntAt N (k + 1) (v / 128) (c.setIfInBounds k (.int .u8 (bits .or .u8 ((v : Int) % 256) 128))) := by
  obtain ⟨hs, hb, hk, p, hp, hu, hc⟩ := h
  have hk8 : k ≤ 8 := by
    rcases Nat.lt_or_ge k 9 with h | h
    · omega
    · have : 9 - k = 0 := by omega
      rw [this] at hb
      omega
  have e1 : bits .or .u8 ((v : Int) % 256) 128 = (((v % 128 + 128).toUInt8.toNat : Nat) : Int) := by
    rw [Lib.u8_or128_any _ (by omega) (by omega), u8_toNat _ (by omega)]; omega
  have e9 : 9 - k = (9 - (k + 1)) + 1 := by omega
  rw [e9, Nat.pow_succ] at hb
  refine ⟨by simpa using hs, by omega, by omega, p ++ [(v % 128 + 128).toUInt8], by simp [hp], ?_, ?_⟩
  · rw [hu, uvarint_big (by omega)]; simp
  · intro j hj
    rw [List.length_append, hp] at hj
    simp only [List.length_cons, List.length_nil] at hj
    by_cases hjk : j = k
    · subst hjk
      have eg : (p ++ [(v % 128 + 128).toUInt8])[j]'(by simp [hp]) = (v % 128 + 128).toUInt8 := by
        rw [List.getElem_append_right (by omega)]; simp [hp]
      rw [eg, e1, Array.getElem?_setIfInBounds_self_of_lt (by omega)]
    · have eg : (p ++ [(v % 128 + 128).toUInt8])[j]'(by simp [hp]; omega) = p[j]'(by omega) := List.getElem_append_left (by omega)
      rw [eg, Array.getElem?_setIfInBounds_ne (by omega)]
      exact hc j (by omega)
theorem IntAt.last {N k v : Nat} {c : Array Value} (h : IntAt N k v c) (hv : v < 128) : (uvarint N).length = k + 1 ∧
    ∀ j (hj : j < (uvarint N).length), (c.setIfInBounds k (.int .u8 (v : Int)))[j]? = some (.int .u8 (((uvarint N)[j].toNat : Nat) : Int)) := by
  obtain ⟨hs, hb, hk, p, hp, hu, hc⟩ := h
  rw [uvarint_small (x := v) (by omega)] at hu
  refine ⟨by rw [hu]; simp [hp], fun j hj => ?_⟩
  have hj' : j < k + 1 := by rw [hu] at hj; simpa [hp] using hj
  by_cases hjk : j = k
  · subst hjk
    have eg : (uvarint N)[j]'hj = v.toUInt8 := by
      have : (p ++ [v.toUInt8])[j]'(by simp [hp]) = v.toUInt8 := by rw [List.getElem_append_right (by omega)]; simp [hp]
      exact (List.getElem_of_eq hu hj).trans this
    rw [eg, u8_toNat _ (by omega), Array.getElem?_setIfInBounds_self_of_lt (by omega)]
  · have eg : (uvarint N)[j]'hj = p[j]'(by omega) := by
      have : (p ++ [v.toUInt8])[j]'(by simp [hp]; omega) = p[j]'(by omega) := List.getElem_append_left (by omega)
      exact (List.getElem_of_eq hu hj).trans this
    rw [eg, Array.getElem?_setIfInBounds_ne (by omega)]
    exact hc j (by omega)

theorem run_cut10 (w : World) (a : Addr) (h : Nat) (h2 : h ≤ 10) :
    (Instr.sliceAt 102 (.pointer (some a)) none (some (.int .i64 (h : Int))) none).run Try.prog w = .ok (.slice (some a) h 10) w := by
  have hl : Try.prog.arrayLen 102 = 10 := by kernel_rfl
  have he : Try.prog.elem 102 = 5 := by kernel_rfl
  have hz : ∀ W, (sizeOf 5).run Try.prog W = .ok 1 W := fun _ => by kernel_rfl
  rw [run_sliceAt_array_h w _ a (by rw [hl, he]; exact Try.underlying102) .i64 _ (by omega) (by rw [hl]; omega), hl, he, hz]
  simp [Result.andThen, slicedAt, Addr.add]

set_option maxRecDepth 100000 in
set_option maxHeartbeats 400000 in
theorem int_any (n : Int) (w : World) (h : Fits n) :
    Calls Try.prog 36 #[.int .i64 n] w fun e w' => e = .returned (.string ⟨(enc n).toArray⟩) ∧ Below w.heap.size w w' := by
  have hz := zig_lt h
  go_enter Try.func36, Try.ntmps36
  go_wp2_with ((with_reducible refine (fold_any _ _ h).mono ?_); rintro e w' ⟨rfl, rfl⟩)
  go_loopw [4, 5] (fun t u wr => ∃ (k v : Nat) (c : Array Value), t = .int .i64 k ∧ u = .int .u64 v ∧ wr = w.alloc (.cells c 102) ∧ IntAt (zigzag n) k v c) (fun _ u _ => (intOf u).toNat)
  case atStart => exact ⟨0, zigzag n, _, rfl, rfl, rfl, rfl, by simpa using hz, by omega, [], rfl, rfl, by simp⟩
  case round =>
    clear hz h
    obtain ⟨k, v, c, rfl, rfl, rfl, hc⟩ := hrel
    have hk9 : k ≤ 9 := hc.2.2.1
    have hsz : c.size = 10 := hc.1
    obtain ⟨x, hck⟩ : ∃ x, c[k]? = some x := ⟨_, Array.getElem?_eq_getElem (by omega)⟩
    have Hc := Lib.hid hc
    clear hc
    by_cases hv : 128 ≤ v
    · go_wp2
      go_roundw
      case rel => exact ⟨k + 1, v / 128, _, by go_num, by go_num, rfl, Hc.out.next hv⟩
      case measure => simp [intOf]; omega
    · have hs := fun W => run_cut10 W ⟨w.heap.size, 0, none⟩ (k + 1) (by omega)
      have hcv := run_convert_bytes_back (P := Try.prog) (w.alloc (.cells (c.setIfInBounds k (.int .u8 (v : Int))) 102)) 66 9 5 ⟨w.heap.size, 0, none⟩ 10 (uvarint (zigzag n)) Try.underlying66 Try.underlying5 Try.underlying9
        (fun j hj => by
          have := (Hc.out.last (by omega)).2 j hj
          have ha : (Addr.add ⟨w.heap.size, 0, none⟩ j) = ⟨w.heap.size, j, none⟩ := by unfold Addr.add; split <;> simp_all
          rw [ha, World.cell?_alloc_at _ _ _ _ rfl]
          exact this)
      rw [(Hc.out.last (by omega)).1] at hcv
      simp only [Int.natCast_add, Int.natCast_one] at hs
      go_wp2
      go_ret
      exact ⟨rfl, (Below.refl _ _).alloc (Nat.le_refl _) _⟩
end Go.Proofs.Ytjffjmffoffblaa.Nib
namespace Go.Proofs.Ytjffjmffoffblaa.Nib
set_option maxRecDepth 100000
open Go.RowKit
open Go.Lib (zigzag uvarint uvarint_small uvarint_big)
/-- a text as a list: the parts that Go cuts -/
theorem str_drop (s : ByteArray) (k : Nat) : (⟨(s.data.toList.drop k).toArray⟩ : ByteArray) = s.extract k s.size := by
  apply ByteArray.ext
  apply Array.toList_inj.1
  rw [Lib.extract_data, List.take_of_length_le (by simp)]
theorem str_take (s : ByteArray) (k : Nat) : (⟨(s.data.toList.take k).toArray⟩ : ByteArray) = s.extract 0 k := by
  apply ByteArray.ext
  apply Array.toList_inj.1
  rw [Lib.extract_data]
  simp
theorem str_inj {a b : ByteArray} (h : a.data.toList = b.data.toList) : a = b := ByteArray.ext (Array.toList_inj.1 h)
theorem quiet_left {P : Program} {f : FuncId} {args : Array Value} {w : World} {n : Nat} {v : Value}
    (h : Calls P f args (w.drewN n) fun e w' => e = .returned v ∧ w.drewN n = w') : Calls P f args (w.drewN n) fun e w'' => e = .returned v ∧ ∃ m, w'' = w.drewN m :=
  h.mono fun _ _ ⟨he, hm⟩ => ⟨he, n, hm.symm⟩

/-- what the round's bit work comes to -/
def orShl (v b k : Nat) : Int := bits .or .u64 (v : Int) (IntKind.u64.wrap (IntKind.u64.wrap (bits .andNot .u8 (b : Int) 128) * 2 ^ (k * 7)))
theorem u8_not128 : ∀ b : Fin 256, bits .andNot .u8 (b.val : Int) 128 = ((b.val % 128 : Nat) : Int) := by decide +kernel
theorem orShl_range (v b k : Nat) : ∃ V : Nat, orShl v b k = V ∧ V < 18446744073709551616 := by
  unfold orShl
  generalize IntKind.u64.wrap (IntKind.u64.wrap (bits .andNot .u8 (b : Int) 128) * 2 ^ (k * 7)) = y
  have : bits .or .u64 (v : Int) y = IntKind.u64.wrap ((BitVec.ofInt 64 (v : Int) ||| BitVec.ofInt 64 y).toNat : Int) := rfl
  rw [this, IntKind.wrap_u64]
  generalize ((BitVec.ofInt 64 (v : Int) ||| BitVec.ofInt 64 y).toNat : Int) = x
  exact ⟨(x % 18446744073709551616).toNat, by omega, by omega⟩
theorem orShl_eq {v b k : Nat} (hb : b < 256) (hk : k ≤ 9) (hv : v < 128 ^ k) (hl : b % 128 * 128 ^ k < 18446744073709551616) : orShl v b k = ((v + b % 128 * 128 ^ k : Nat) : Int) := by
  have h1 : bits .andNot .u8 (b : Int) 128 = ((b % 128 : Nat) : Int) := u8_not128 ⟨b, hb⟩
  have hp : (2 : Nat) ^ (k * 7) = 128 ^ k := by rw [Nat.mul_comm, Nat.pow_mul]
  have e1 : IntKind.u64.wrap ((b % 128 : Nat) : Int) = ((b % 128 : Nat) : Int) := by rw [IntKind.wrap_u64]; omega
  have e2 : ((b % 128 : Nat) : Int) * 2 ^ (k * 7) = ((b % 128 * 128 ^ k : Nat) : Int) := by
    rw [Int.natCast_mul, ← hp]; simp
  have e3 : IntKind.u64.wrap ((b % 128 * 128 ^ k : Nat) : Int) = ((b % 128 * 128 ^ k : Nat) : Int) := by rw [IntKind.wrap_u64]; omega
  unfold orShl
  rw [h1, e1, e2, e3]
  have hv64 : v < 18446744073709551616 := Nat.lt_of_lt_of_le hv (Nat.le_trans (Nat.pow_le_pow_right (by decide) hk) (by decide))
  have ep : ((2 : Int) ^ (k * 7)) = ((128 ^ k : Nat) : Int) := by rw [← hp]; simp
  have hj := bits_join_low .u64 64 (by decide) wraps_u64 (k * 7) (v : Int) ((b % 128 * 128 ^ k : Nat) : Int) (by omega) (by rw [ep]; omega) (by omega) (by omega)
    (by rw [ep]; exact_mod_cast Nat.mul_mod_left _ _) (by omega)
  rw [hj]; omega

/-- behind k rounds -/
def TakeAt (l : List UInt8) (k v : Nat) : Prop := v < 18446744073709551616 ∧ (k < 10 → v < 128 ^ k ∧ tk 0 0 l = tk k v (l.drop k)) ∧ (k = 10 → tk 0 0 l = none)

theorem TakeAt.zero (l : List UInt8) : TakeAt l 0 0 := ⟨by omega, fun _ => ⟨by decide, rfl⟩, fun h => absurd h (by omega)⟩
theorem pow9 {k : Nat} (h : k ≤ 8) {b : Nat} (hb : b < 128) : b * 128 ^ k < 128 ^ (k + 1) ∧ 128 ^ (k + 1) ≤ 9223372036854775808 := by
  refine ⟨?_, Nat.le_trans (Nat.pow_le_pow_right (by decide) (show k + 1 ≤ 9 by omega)) (by decide)⟩
  rw [Nat.pow_succ, Nat.mul_comm (128 ^ k) 128]
  exact Nat.mul_lt_mul_of_pos_right hb (Nat.pow_pos (by decide))
theorem drop_at {s : ByteArray} {k : Nat} (h : k < s.size) : s.data.toList.drop k = s[k] :: s.data.toList.drop (k + 1) := by
  rw [List.drop_eq_getElem_cons (by simpa using h)]; rfl
theorem TakeAt.go {s : ByteArray} {k v : Nat} (h : TakeAt s.data.toList k v) (hk : k < 10) (hl : k < s.size) (hb : 128 ≤ (s[k]).toNat) : ∃ V : Nat, orShl v (s[k]).toNat k = V ∧ TakeAt s.data.toList (k + 1) V := by
  obtain ⟨_, h1, _⟩ := h
  obtain ⟨hv, ht⟩ := h1 hk
  rw [drop_at hl, tk_go hk hb] at ht
  have hb2 := (s[k]).toNat_lt
  by_cases h9 : k = 9
  · subst h9
    obtain ⟨V, e, hV⟩ := orShl_range v (s[9]).toNat 9
    refine ⟨V, e, hV, fun h => absurd h (by omega), fun _ => ?_⟩
    rw [ht]; exact tk_ten _ _
  · have hp := pow9 (k := k) (by omega) (b := (s[k]).toNat % 128) (by omega)
    refine ⟨_, orShl_eq hb2 (by omega) hv (by omega), ?_, fun _ => ⟨?_, ht⟩, fun h => absurd h (by omega)⟩
    · have : 128 ^ k ≤ 128 ^ (k + 1) := Nat.pow_le_pow_right (by decide) (by omega)
      omega
    · have e : 128 ^ (k + 1) = 128 ^ k * 128 := Nat.pow_succ ..
      have h2 : (s[k]).toNat % 128 * 128 ^ k ≤ 127 * 128 ^ k := Nat.mul_le_mul_right _ (by omega)
      omega
theorem TakeAt.end_ {s : ByteArray} {k v : Nat} (h : TakeAt s.data.toList k v) (hk : k < 10) (hl : k < s.size) (hb : (s[k]).toNat < 128) (hc : canEnd k (s[k]).toNat = true) :
    ∃ V : Nat, orShl v (s[k]).toNat k = V ∧ V < 18446744073709551616 ∧ takeInt s.data.toList = (zag V, s.data.toList.drop (k + 1), true) := by
  obtain ⟨_, h1, _⟩ := h
  obtain ⟨hv, ht⟩ := h1 hk
  unfold canEnd at hc
  have hc := of_decide_eq_true hc
  rw [drop_at hl, tk_end hk hb hc] at ht
  have hm : (s[k]).toNat % 128 = (s[k]).toNat := by omega
  have hle : (s[k]).toNat * 128 ^ k < 9223372036854775809 := by
    by_cases h9 : k = 9
    · subst h9
      have : (s[9]).toNat = 1 := by omega
      rw [this]; decide
    · have hp := pow9 (k := k) (by omega) hb
      omega
  have hv9 : v < 9223372036854775808 := Nat.lt_of_lt_of_le hv (Nat.le_trans (Nat.pow_le_pow_right (by decide) (show k ≤ 9 by omega)) (by decide))
  refine ⟨_, orShl_eq (by omega) (by omega) hv (by rw [hm]; omega), by rw [hm]; omega, ?_⟩
  unfold takeInt
  rw [ht, hm]
theorem TakeAt.none_ {s : ByteArray} {k v : Nat} (h : TakeAt s.data.toList k v) (hk : k < 10) (hl : k < s.size) (hb : (s[k]).toNat < 128) (hc : canEnd k (s[k]).toNat = false) : takeInt s.data.toList = (0, [], false) := by
  obtain ⟨_, h1, _⟩ := h
  obtain ⟨hv, ht⟩ := h1 hk
  unfold canEnd at hc
  have hc := of_decide_eq_false hc
  rw [drop_at hl, tk_no hb hc] at ht
  unfold takeInt; rw [ht]
theorem TakeAt.over {s : ByteArray} {k v : Nat} (h : TakeAt s.data.toList k v) (hk : k ≤ 10) (he : ¬ (k < s.size ∧ k < 10)) : takeInt s.data.toList = (0, [], false) := by
  obtain ⟨_, h1, h2⟩ := h
  have ht : tk 0 0 s.data.toList = none := by
    by_cases h10 : k = 10
    · exact h2 h10
    · rw [(h1 (by omega)).2, List.drop_of_length_le (by simp; omega)]; rfl
  unfold takeInt; rw [ht]

set_option maxRecDepth 100000 in
set_option maxHeartbeats 400000 in
theorem str_any (s : ByteArray) (w : World) (h : s.size ≤ 140737488351232) :
    Calls Try.prog 82 #[.string s] w fun e w' => e = .returned (.string ⟨(encStr s.data.toList).toArray⟩) ∧ Below w.heap.size w w' := by
  have hl : (enc (s.size : Int)).length ≤ 10 := enc_le (fits_mk (by omega) (by omega))
  go_enter Try.func82, Try.ntmps82
  go_wp2_with ((with_reducible refine (int_any _ _ (fits_mk (by omega) (by omega))).mono ?_); rintro e w' ⟨rfl, hb⟩)
  go_ret
  refine ⟨?_, hb⟩
  unfold encStr
  congr 2

def takeVal (l : List UInt8) : Value := .tuple #[.int .i64 (takeInt l).1, .string ⟨(takeInt l).2.1.toArray⟩, .bool (takeInt l).2.2]
theorem takeVal_no {l : List UInt8} (h : takeInt l = (0, [], false)) : takeVal l = .tuple #[.int .i64 0, .string ⟨#[]⟩, .bool false] := by unfold takeVal; rw [h]
theorem takeVal_yes {s : ByteArray} {V k : Nat} (h : takeInt s.data.toList = (zag V, s.data.toList.drop k, true)) : takeVal s.data.toList = .tuple #[.int .i64 (zag V), .string (s.extract k s.size), .bool true] := by
  unfold takeVal; rw [h]; rw [str_drop]

set_option maxRecDepth 100000 in
set_option maxHeartbeats 400000 in
theorem takeInt_any (s : ByteArray) (w : World) (h : s.size ≤ 9223372036854775807) :
    Calls Try.prog 47 #[.string s] w fun e w' => e = .returned (takeVal s.data.toList) ∧ ∃ q, w' = w.drewN q := by
  by_cases h10 : s.size ≤ 10
  all_goals
    go_enter Try.func47, Try.ntmps47
    go_wp2
    go_loop [5, 11] (fun u i => ∃ (k v : Nat), i = .int .i64 k ∧ u = .int .u64 v ∧ k ≤ s.size ∧ k ≤ 10 ∧ TakeAt s.data.toList k v) (fun _ i => 10 - (intOf i).toNat)
    case atStart => exact ⟨0, 0, rfl, rfl, by omega, by omega, TakeAt.zero _⟩
    case round =>
      obtain ⟨k, v, rfl, rfl, hk, hk10, hv⟩ := hrel
      have HV := Lib.hid hv
      clear hv
      by_cases hlt : k < s.size ∧ k < 10
      · obtain ⟨hlt1, hlt2⟩ := hlt
        by_cases hb : 128 ≤ (s[k]).toNat
        · obtain ⟨V, hV, hT⟩ := HV.out.go hlt2 hlt1 hb
          unfold orShl at hV
          have HT := Lib.hid hT
          clear hT
          go_wp2
          go_round
          case rel => exact ⟨k + 1, V, by go_num, rfl, by omega, by omega, HT.out⟩
          case measure => simp [intOf]; omega
        · have hb256 : (s[k]).toNat < 256 := (s[k]).toNat_lt
          cases hc : canEnd k (s[k]).toNat with
          | true =>
            obtain ⟨V, hV, hV64, hT⟩ := HV.out.end_ hlt2 hlt1 (by omega) hc
            unfold orShl at hV
            have HT := Lib.hid (takeVal_yes hT)
            have H64 := Lib.hid hV64
            clear hT hV64
            go_wp2_with (go_at_call 68; (with_reducible refine (ends_any _ _ _ hlt2 hb256).mono ?_); rintro e w' ⟨rfl, rfl⟩)
            go_quiet ((go_at_call 69; exact quiet_left (unfold_any V _ H64.out)))
            go_wp2
            go_ret3
            exact ⟨by rw [HT.out]; rfl, _, rfl⟩
          | false =>
            have HT := Lib.hid (takeVal_no (HV.out.none_ hlt2 hlt1 (by omega) hc))
            go_wp2_with (go_at_call 68; (with_reducible refine (ends_any _ _ _ hlt2 hb256).mono ?_); rintro e w' ⟨rfl, rfl⟩)
            go_ret3
            exact ⟨by rw [HT.out]; rfl, 0, rfl⟩
      · have HT := Lib.hid (takeVal_no (HV.out.over hk10 hlt))
        go_wp2
        go_ret3
        exact ⟨by rw [HT.out]; rfl, 0, rfl⟩

theorem list_of (l : List UInt8) : (⟨l.toArray⟩ : ByteArray).data.toList = l := by simp
theorem takeInt_yes (s r : ByteArray) (n : Int) (w : World) (hs : s.size ≤ 9223372036854775807) (h : takeInt s.data.toList = (n, r.data.toList, true)) :
    Calls Try.prog 47 #[.string s] w fun e w' => e = .returned (.tuple #[.int .i64 n, .string r, .bool true]) ∧ ∃ q, w' = w.drewN q :=
  (takeInt_any s w hs).mono fun _ _ ⟨he, hq⟩ => ⟨by rw [he]; unfold takeVal; rw [h], hq⟩
theorem takeInt_not (s : ByteArray) (w : World) (hs : s.size ≤ 9223372036854775807) (h : takeInt s.data.toList = (0, [], false)) :
    Calls Try.prog 47 #[.string s] w fun e w' => e = .returned (.tuple #[.int .i64 0, .string ⟨#[]⟩, .bool false]) ∧ ∃ q, w' = w.drewN q :=
  (takeInt_any s w hs).mono fun _ _ ⟨he, hq⟩ => ⟨by rw [he, takeVal_no h], hq⟩

def takeStrVal (l : List UInt8) (most : Int) : Value := .tuple #[.string ⟨(takeStr l most).1.toArray⟩, .string ⟨(takeStr l most).2.1.toArray⟩, .bool (takeStr l most).2.2]
theorem takeStrVal_no {l : List UInt8} {most : Int} (h : takeStr l most = ([], [], false)) : takeStrVal l most = .tuple #[.string ⟨#[]⟩, .string ⟨#[]⟩, .bool false] := by unfold takeStrVal; rw [h]
theorem takeStrVal_yes {l : List UInt8} {r : ByteArray} {n : Nat} {most : Int} (h : takeStr l most = (r.data.toList.take n, r.data.toList.drop n, true)) : takeStrVal l most = .tuple #[.string (r.extract 0 n), .string (r.extract n r.size), .bool true] := by
  unfold takeStrVal; rw [h, str_take, str_drop]

set_option maxRecDepth 100000 in
set_option maxHeartbeats 400000 in
theorem takeStr_any (s : ByteArray) (most : Int) (w : World) (hs : s.size ≤ 9223372036854775807) :
    Calls Try.prog 95 #[.string s, .int .i64 most] w fun e w' => e = .returned (takeStrVal s.data.toList most) ∧ ∃ q, w' = w.drewN q := by
  cases hok : (takeInt s.data.toList).2.2 with
  | false =>
    have h0 := takeInt_no hok
    have HT := Lib.hid (takeStrVal_no (most := most) (show takeStr s.data.toList most = ([], [], false) by unfold takeStr; rw [h0]; simp))
    have H0 := Lib.hid h0
    clear h0 hok
    go_enter Try.func95, Try.ntmps95
    go_wp2_with ((with_reducible refine (takeInt_not s _ hs H0.out).mono ?_); rintro e w' ⟨rfl, q, rfl⟩)
    go_ret3
    exact ⟨by rw [HT.out]; rfl, _, rfl⟩
  | true =>
    obtain ⟨n, r, hnr⟩ : ∃ (n : Int) (r : ByteArray), takeInt s.data.toList = (n, r.data.toList, true) := ⟨(takeInt s.data.toList).1, ⟨(takeInt s.data.toList).2.1.toArray⟩, by rw [list_of, ← hok]⟩
    have hrl : r.size ≤ s.size := by have := takeInt_len s.data.toList; rw [hnr] at this; simpa using this
    have hf := takeInt_fits s.data.toList
    rw [hnr] at hf
    obtain ⟨f1, f2⟩ := hf
    have hT : takeStr s.data.toList most = if 0 ≤ n ∧ n ≤ most ∧ n ≤ (r.size : Int) then (r.data.toList.take n.toNat, r.data.toList.drop n.toNat, true) else ([], [], false) := by
      unfold takeStr; rw [hnr]; simp
    have H0 := Lib.hid hnr
    clear hnr hok
    by_cases hc : 0 ≤ n ∧ n ≤ most ∧ n ≤ (r.size : Int)
    · rw [if_pos hc] at hT
      have HT := Lib.hid (takeStrVal_yes hT)
      obtain ⟨c1, c2, c3⟩ := hc
      clear hT
      obtain ⟨m, rfl⟩ := Int.eq_ofNat_of_zero_le c1
      go_enter Try.func95, Try.ntmps95
      go_wp2_with ((with_reducible refine (takeInt_yes s r _ _ hs H0.out).mono ?_); rintro e w' ⟨rfl, q, rfl⟩)
      go_quiet (fail)
      go_wp2
      go_ret3
      exact ⟨by rw [HT.out]; rfl, _, World.drewN_drewN ..⟩
    · rw [if_neg hc] at hT
      have HT := Lib.hid (takeStrVal_no hT)
      clear hT
      by_cases c1 : n < 0
      · go_enter Try.func95, Try.ntmps95
        go_wp2_with ((with_reducible refine (takeInt_yes s r _ _ hs H0.out).mono ?_); rintro e w' ⟨rfl, q, rfl⟩)
        go_ret3
        exact ⟨by rw [HT.out]; rfl, _, rfl⟩
      · by_cases c2 : most < n
        · go_enter Try.func95, Try.ntmps95
          go_wp2_with ((with_reducible refine (takeInt_yes s r _ _ hs H0.out).mono ?_); rintro e w' ⟨rfl, q, rfl⟩)
          go_ret3
          exact ⟨by rw [HT.out]; rfl, _, rfl⟩
        · have c3 : (r.size : Int) < n := by omega
          go_enter Try.func95, Try.ntmps95
          go_wp2_with ((with_reducible refine (takeInt_yes s r _ _ hs H0.out).mono ?_); rintro e w' ⟨rfl, q, rfl⟩)
          go_ret3
          exact ⟨by rw [HT.out]; rfl, _, rfl⟩
end Go.Proofs.Ytjffjmffoffblaa.Nib
namespace Go.Proofs.Ytjffjmffoffblaa.Nib
set_option maxRecDepth 100000
open Go.RowKit
open Go.Lib (zigzag uvarint uvarint_small uvarint_big)

theorem int_is (n : Int) (r : ByteArray) (w : World) (hn : Fits n) (h : enc n = r.data.toList) :
    Calls Try.prog 36 #[.int .i64 n] w fun e w' => e = .returned (.string r) ∧ Below w.heap.size w w' :=
  (int_any n w hn).mono fun _ _ ⟨he, hq⟩ => ⟨by rw [he, h], hq⟩
/-- the bytes of a number, as a text -/
def encB (n : Int) : ByteArray := ⟨(enc n).toArray⟩
theorem encB_list (n : Int) : enc n = (encB n).data.toList := by simp [encB]
theorem encB_size (n : Int) : (encB n).size = (enc n).length := by unfold encB; rfl
theorem encB_le {n : Int} (h : Fits n) : (encB n).size ≤ 10 := by rw [encB_size]; exact enc_le h
theorem intB (n : Int) (w : World) (h : Fits n) :
    Calls Try.prog 36 #[.int .i64 n] w fun e w' => e = .returned (.string (encB n)) ∧ Below w.heap.size w w' := int_is n _ w h (encB_list n)
end Go.Proofs.Ytjffjmffoffblaa.Nib
namespace Go.Proofs.Ytjffjmffoffblaa.Nib
set_option maxRecDepth 100000
open Go.RowKit
open Go.Lib (zigzag uvarint uvarint_small uvarint_big)

/-- what the reference's round comes to -/
def addShl (v b k : Nat) : Int := IntKind.u64.wrap ((v : Int) + IntKind.u64.wrap ((b : Int) % 128 * 2 ^ (7 * k)))
theorem addShl_range (v b k : Nat) : ∃ V : Nat, addShl v b k = V ∧ V < 18446744073709551616 := by
  unfold addShl
  rw [IntKind.wrap_u64]
  generalize (v : Int) + IntKind.u64.wrap ((b : Int) % 128 * 2 ^ (7 * k)) = x
  exact ⟨(x % 18446744073709551616).toNat, by omega, by omega⟩
theorem addShl_eq {v b k : Nat} (hl : v + b % 128 * 128 ^ k < 18446744073709551616) : addShl v b k = ((v + b % 128 * 128 ^ k : Nat) : Int) := by
  unfold addShl
  have hp : (2 : Nat) ^ (7 * k) = 128 ^ k := by rw [Nat.pow_mul]
  have e2 : (b : Int) % 128 * 2 ^ (7 * k) = ((b % 128 * 128 ^ k : Nat) : Int) := by
    rw [Int.natCast_mul, ← hp]; simp
  rw [e2, IntKind.wrap_u64, IntKind.wrap_u64]
  omega
theorem TakeAt.bound {l : List UInt8} {k v : Nat} (h : TakeAt l k v) (hk : k < 10) (b : Nat) (hb : k ≤ 8 ∨ b = 1) (hb' : b < 128) : v + b * 128 ^ k < 18446744073709551616 := by
  have hv := (h.2.1 hk).1
  have hv9 : v < 9223372036854775808 := Nat.lt_of_lt_of_le hv (Nat.le_trans (Nat.pow_le_pow_right (by decide) (show k ≤ 9 by omega)) (by decide))
  by_cases h9 : k = 9
  · subst h9
    have : b = 1 := by omega
    subst this
    have h3 : (1 : Nat) * 128 ^ 9 = 9223372036854775808 := by decide
    omega
  · have hp := pow9 (k := k) (by omega) (b := b) hb'
    omega
theorem TakeAt.go2 {s : ByteArray} {k v : Nat} (h : TakeAt s.data.toList k v) (hk : k < 10) (hl : k < s.size) {b : Nat} (he : (s[k]).toNat = b) (hb : 128 ≤ b) : ∃ V : Nat, addShl v b k = V ∧ TakeAt s.data.toList (k + 1) V := by
  subst he
  by_cases h9 : k = 9
  · obtain ⟨V, e, hV⟩ := addShl_range v (s[k]).toNat k
    obtain ⟨V', _, hT⟩ := h.go hk hl hb
    exact ⟨V, e, hV, fun h => absurd h (by omega), hT.2.2⟩
  · obtain ⟨V', e', hT⟩ := h.go hk hl hb
    have hb2 := (s[k]).toNat_lt
    have hbd := h.bound hk ((s[k]).toNat % 128) (.inl (by omega)) (Nat.mod_lt _ (by decide))
    have e2 := orShl_eq (v := v) (b := (s[k]).toNat) (k := k) hb2 (by omega) (h.2.1 hk).1 (by omega)
    refine ⟨V', ?_, hT⟩
    rw [addShl_eq hbd, ← e2, e']
theorem TakeAt.end2 {s : ByteArray} {k v : Nat} (h : TakeAt s.data.toList k v) (hk : k < 10) (hl : k < s.size) {b : Nat} (he : (s[k]).toNat = b) (hb : b < 128) (hc : canEnd k b = true) :
    ∃ V : Nat, addShl v b k = V ∧ V < 18446744073709551616 ∧ takeInt s.data.toList = (zag V, s.data.toList.drop (k + 1), true) := by
  subst he
  obtain ⟨V, e, hV, hT⟩ := h.end_ hk hl hb hc
  have hc' := of_decide_eq_true hc
  have hm : (s[k]).toNat % 128 = (s[k]).toNat := by omega
  have hbd := h.bound hk (s[k]).toNat (by omega) hb
  have e2 := orShl_eq (v := v) (b := (s[k]).toNat) (k := k) (by omega) (by omega) (h.2.1 hk).1 (by rw [hm]; omega)
  refine ⟨V, ?_, hV, hT⟩
  rw [addShl_eq (by rw [hm]; exact hbd), ← e2, e]
theorem TakeAt.none2 {s : ByteArray} {k v : Nat} (h : TakeAt s.data.toList k v) (hk : k < 10) (hl : k < s.size) {b : Nat} (he : (s[k]).toNat = b) (hb : b < 128) (hc : canEnd k b = false) : takeInt s.data.toList = (0, [], false) := by
  subst he; exact h.none_ hk hl hb hc
theorem TakeAt.nine {s : ByteArray} {k v : Nat} (h : TakeAt s.data.toList k v) (hk : k = 9) (hl : k < s.size) {b : Nat} (he : (s[k]).toNat = b) (hb : 1 < b % 128) : takeInt s.data.toList = (0, [], false) := by
  by_cases hc : b < 128
  · exact h.none2 (by omega) hl he hc (by unfold canEnd; simp; omega)
  · obtain ⟨V, _, hT⟩ := h.go2 (by omega) hl he (by omega)
    unfold takeInt
    rw [hT.2.2 (by omega)]

set_option maxRecDepth 100000 in
set_option maxHeartbeats 400000 in
theorem refTakeInt (s : ByteArray) (w : World) (h : s.size ≤ 9223372036854775807) :
    Calls Try.prog 30 #[.string s] w fun e w' => e = .returned (takeVal s.data.toList) ∧ ∃ q, w' = w.drewN q := by
  go_enter Try.func30, Try.ntmps30
  go_wp2
  go_loop [5, 6] (fun u i => ∃ (k v : Nat), i = .int .i64 k ∧ u = .int .u64 v ∧ k ≤ s.size ∧ k ≤ 10 ∧ TakeAt s.data.toList k v) (fun _ i => 10 - (intOf i).toNat)
  case atStart => exact ⟨0, 0, rfl, rfl, by omega, by omega, TakeAt.zero _⟩
  case round =>
    obtain ⟨k, v, rfl, rfl, hk, hk10, hv⟩ := hrel
    have HV := Lib.hid hv
    clear hv
    by_cases hlt : k < s.size ∧ k < 10
    · obtain ⟨hlt1, hlt2⟩ := hlt
      obtain ⟨b, hbe⟩ : ∃ b, (s[k]).toNat = b := ⟨_, rfl⟩
      have hb256 : b < 256 := by have := (s[k]).toNat_lt; omega
      by_cases h9 : k = 9 ∧ 1 < b % 128
      · obtain ⟨c1, c2⟩ := h9
        have HT := Lib.hid (takeVal_no (HV.out.nine c1 hlt1 hbe c2))
        have t9 : ((k : Int) == 9) = true := by simp; omega
        clear c1
        go_wp2
        go_ret3
        exact ⟨by rw [HT.out]; rfl, 0, rfl⟩
      · have hcase : (∃ (t9 : ((k : Int) == 9) = false), True) ∨ (∃ (t9 : ((k : Int) == 9) = true), b % 128 ≤ 1) := by
          by_cases c : k = 9
          · exact .inr ⟨by simp; omega, by omega⟩
          · exact .inl ⟨by simp; omega, trivial⟩
        clear h9
        by_cases hb : 128 ≤ b
        · obtain ⟨V, hV, hT⟩ := HV.out.go2 hlt2 hlt1 hbe hb
          unfold addShl at hV
          have HT := Lib.hid hT
          clear hT
          rcases hcase with ⟨t9, _⟩ | ⟨t9, t1⟩
          all_goals
            go_wp2
            go_round
            case rel => exact ⟨k + 1, V, by go_num, rfl, by omega, by omega, HT.out⟩
            case measure => simp [intOf]; omega
        · have hm : (b : Int) % 128 = (b : Int) := by omega
          cases hc : canEnd k b with
          | true =>
            obtain ⟨V, hV, hV64, hT⟩ := HV.out.end2 hlt2 hlt1 hbe (by omega) hc
            unfold addShl at hV
            rw [hm] at hV
            have HT := Lib.hid (takeVal_yes hT)
            have hc' := of_decide_eq_true hc
            clear hT hc
            have hz : (∃ (t0 : ((b : Int) == 0) = false), True) ∨ (∃ (t0 : ((b : Int) == 0) = true), decide (0 < k) = false) := by
              by_cases c : b = 0
              · exact .inr ⟨by simp; omega, by simp; omega⟩
              · exact .inl ⟨by simp; omega, trivial⟩
            clear hc'
            by_cases hp : V % 2 = 1
            · have tp : ((V : Int) % 2 == 1) = true := by simp; omega
              have HP := Lib.hid (show zag V = -((V : Int) / 2) - 1 by unfold zag; rw [if_pos hp]; omega)
              rcases hcase with ⟨t9, _⟩ | ⟨t9, t1⟩ <;> rcases hz with ⟨t0, _⟩ | ⟨t0, tk⟩
              all_goals
                go_wp2
                go_quiet (fail)
                go_wp2
                go_ret3
                exact ⟨by rw [HT.out, HP.out]; rfl, _, rfl⟩
            · have tp : ((V : Int) % 2 == 1) = false := by simp; omega
              have HP := Lib.hid (show zag V = (V : Int) / 2 by unfold zag; rw [if_neg hp]; omega)
              rcases hcase with ⟨t9, _⟩ | ⟨t9, t1⟩ <;> rcases hz with ⟨t0, _⟩ | ⟨t0, tk⟩
              all_goals
                go_wp2
                go_quiet (fail)
                go_wp2
                go_ret3
                exact ⟨by rw [HT.out, HP.out]; rfl, _, rfl⟩
          | false =>
            have HT := Lib.hid (takeVal_no (HV.out.none2 hlt2 hlt1 hbe (by omega) hc))
            have hc' := of_decide_eq_false hc
            have hb0 : b = 0 ∧ 0 < k := by
              rcases hcase with ⟨t9, _⟩ | ⟨t9, t1⟩
              · have : k ≠ 9 := by simp at t9; omega
                omega
              · omega
            obtain ⟨rfl, hk0⟩ := hb0
            clear hc' hc
            rcases hcase with ⟨t9, _⟩ | ⟨t9, t1⟩
            all_goals
              go_wp2
              go_ret3
              exact ⟨by rw [HT.out]; rfl, 0, rfl⟩
    · have HT := Lib.hid (takeVal_no (HV.out.over hk10 hlt))
      by_cases hs : k < s.size
      · have hk' : ¬ k < 10 := by omega
        go_wp2
        go_ret3
        exact ⟨by rw [HT.out]; rfl, 0, rfl⟩
      · go_wp2
        go_ret3
        exact ⟨by rw [HT.out]; rfl, 0, rfl⟩
theorem refTakeInt_yes (s r : ByteArray) (n : Int) (w : World) (hs : s.size ≤ 9223372036854775807) (h : takeInt s.data.toList = (n, r.data.toList, true)) :
    Calls Try.prog 30 #[.string s] w fun e w' => e = .returned (.tuple #[.int .i64 n, .string r, .bool true]) ∧ ∃ q, w' = w.drewN q :=
  (refTakeInt s w hs).mono fun _ _ ⟨he, hq⟩ => ⟨by rw [he]; unfold takeVal; rw [h], hq⟩
theorem refTakeInt_not (s : ByteArray) (w : World) (hs : s.size ≤ 9223372036854775807) (h : takeInt s.data.toList = (0, [], false)) :
    Calls Try.prog 30 #[.string s] w fun e w' => e = .returned (.tuple #[.int .i64 0, .string ⟨#[]⟩, .bool false]) ∧ ∃ q, w' = w.drewN q :=
  (refTakeInt s w hs).mono fun _ _ ⟨he, hq⟩ => ⟨by rw [he, takeVal_no h], hq⟩

set_option maxRecDepth 100000 in
set_option maxHeartbeats 400000 in
theorem refTakeStr (s : ByteArray) (most : Int) (w : World) (hs : s.size ≤ 9223372036854775807) :
    Calls Try.prog 52 #[.string s, .int .i64 most] w fun e w' => e = .returned (takeStrVal s.data.toList most) ∧ ∃ q, w' = w.drewN q := by
  cases hok : (takeInt s.data.toList).2.2 with
  | false =>
    have h0 := takeInt_no hok
    have HT := Lib.hid (takeStrVal_no (most := most) (show takeStr s.data.toList most = ([], [], false) by unfold takeStr; rw [h0]; simp))
    have H0 := Lib.hid h0
    clear h0 hok
    go_enter Try.func52, Try.ntmps52
    go_wp2_with ((with_reducible refine (refTakeInt_not s _ hs H0.out).mono ?_); rintro e w' ⟨rfl, q, rfl⟩)
    go_ret3
    exact ⟨by rw [HT.out]; rfl, _, rfl⟩
  | true =>
    obtain ⟨n, r, hnr⟩ : ∃ (n : Int) (r : ByteArray), takeInt s.data.toList = (n, r.data.toList, true) := ⟨(takeInt s.data.toList).1, ⟨(takeInt s.data.toList).2.1.toArray⟩, by rw [list_of, ← hok]⟩
    have hrl : r.size ≤ s.size := by have := takeInt_len s.data.toList; rw [hnr] at this; simpa using this
    have hf := takeInt_fits s.data.toList
    rw [hnr] at hf
    obtain ⟨f1, f2⟩ := hf
    have hT : takeStr s.data.toList most = if 0 ≤ n ∧ n ≤ most ∧ n ≤ (r.size : Int) then (r.data.toList.take n.toNat, r.data.toList.drop n.toNat, true) else ([], [], false) := by
      unfold takeStr; rw [hnr]; simp
    have H0 := Lib.hid hnr
    clear hnr hok
    by_cases hc : 0 ≤ n ∧ n ≤ most ∧ n ≤ (r.size : Int)
    · rw [if_pos hc] at hT
      have HT := Lib.hid (takeStrVal_yes hT)
      obtain ⟨c1, c2, c3⟩ := hc
      clear hT
      obtain ⟨m, rfl⟩ := Int.eq_ofNat_of_zero_le c1
      go_enter Try.func52, Try.ntmps52
      go_wp2_with ((with_reducible refine (refTakeInt_yes s r _ _ hs H0.out).mono ?_); rintro e w' ⟨rfl, q, rfl⟩)
      go_quiet (fail)
      go_wp2
      go_ret3
      exact ⟨by rw [HT.out]; rfl, _, World.drewN_drewN ..⟩
    · rw [if_neg hc] at hT
      have HT := Lib.hid (takeStrVal_no hT)
      clear hT
      by_cases c1 : n < 0
      · go_enter Try.func52, Try.ntmps52
        go_wp2_with ((with_reducible refine (refTakeInt_yes s r _ _ hs H0.out).mono ?_); rintro e w' ⟨rfl, q, rfl⟩)
        go_ret3
        exact ⟨by rw [HT.out]; rfl, _, rfl⟩
      · by_cases c2 : most < n
        · go_enter Try.func52, Try.ntmps52
          go_wp2_with ((with_reducible refine (refTakeInt_yes s r _ _ hs H0.out).mono ?_); rintro e w' ⟨rfl, q, rfl⟩)
          go_ret3
          exact ⟨by rw [HT.out]; rfl, _, rfl⟩
        · have c3 : (r.size : Int) < n := by omega
          go_enter Try.func52, Try.ntmps52
          go_wp2_with ((with_reducible refine (refTakeInt_yes s r _ _ hs H0.out).mono ?_); rintro e w' ⟨rfl, q, rfl⟩)
          go_ret3
          exact ⟨by rw [HT.out]; rfl, _, rfl⟩
end Go.Proofs.Ytjffjmffoffblaa.Nib
namespace Go.Proofs.Ytjffjmffoffblaa.Nib
set_option maxRecDepth 100000
open Go.RowKit
open Go.Lib (zigzag uvarint uvarint_small uvarint_big)

/-- bytes as cells -/
def cellsOf (p : List UInt8) : List Value := p.map fun b => .int .u8 (b.toNat : Int)
/-- what stands behind p rounds -/
def RefAt (N : Nat) (p : List UInt8) (v : Nat) : Prop := uvarint N = p ++ uvarint v ∧ p.length ≤ 9 ∧ v < 128 ^ (9 - p.length) * 2
theorem RefAt.next {N : Nat} {p : List UInt8} {v : Nat} (h : RefAt N p v) (hv : 128 ≤ v) : RefAt N (p ++ [(v % 128 + 128).toUInt8]) (v / 128) := by
  obtain ⟨hu, hl, hb⟩ := h
  have hk8 : p.length ≤ 8 := by
    rcases Nat.lt_or_ge p.length 9 with h | h
    · omega
    · have : 9 - p.length = 0 := by omega
      rw [this] at hb
      omega
  have e9 : 9 - p.length = (9 - (p.length + 1)) + 1 := by omega
  rw [e9, Nat.pow_succ] at hb
  have el : (p ++ [(v % 128 + 128).toUInt8]).length = p.length + 1 := by simp
  refine ⟨by rw [hu, uvarint_big (by omega)]; simp, by omega, ?_⟩
  rw [el]; omega
theorem RefAt.lt {N : Nat} {p : List UInt8} {v : Nat} (h : RefAt N p v) : v ≤ 18446744073709551615 := by
  have h1 : (128 : Nat) ^ (9 - p.length) ≤ 128 ^ 9 := Nat.pow_le_pow_right (by decide) (by omega)
  have h2 : (128 : Nat) ^ 9 = 9223372036854775808 := by decide
  have := h.2.2
  omega
theorem RefAt.last {N : Nat} {p : List UInt8} {v : Nat} (h : RefAt N p v) (hv : v < 128) : uvarint N = p ++ [v.toUInt8] := by
  rw [h.1, uvarint_small (x := v) (by omega)]

end Go.Proofs.Ytjffjmffoffblaa.Nib
