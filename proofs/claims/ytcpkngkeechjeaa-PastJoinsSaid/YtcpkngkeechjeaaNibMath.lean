/- Plain facts on numbers as few bytes: what a text begins with, there and back; no program is named here. -/
import Derived.Lib.Varint
import Derived.Lib.Zigzag
namespace Go.Proofs.Ytcpkngkeechjeaa.Nib
set_option maxRecDepth 100000
open Go.Lib (uvarint uvarint_small uvarint_big zigzag)

/-- what stands in bytes from group i on, over what was gathered: the number and the rest -/
def tk (i u : Nat) : List UInt8 → Option (Nat × List UInt8)
  | [] => none
  | b :: r => if 10 ≤ i then none else if 128 ≤ b.toNat then tk (i + 1) (u + b.toNat % 128 * 128 ^ i) r
      else if (0 < b.toNat ∨ i = 0) ∧ (b.toNat = 1 ∨ i < 9) then some (u + b.toNat * 128 ^ i, r) else none

theorem tk_ten (u : Nat) (l : List UInt8) : tk 10 u l = none := by cases l <;> simp [tk]

theorem tk_nil (i u : Nat) : tk i u [] = none := rfl
theorem tk_go {i u : Nat} {b : UInt8} {r : List UInt8} (hi : i < 10) (hb : 128 ≤ b.toNat) : tk i u (b :: r) = tk (i + 1) (u + b.toNat % 128 * 128 ^ i) r := by
  rw [tk, if_neg (by omega), if_pos hb]
theorem tk_end {i u : Nat} {b : UInt8} {r : List UInt8} (hi : i < 10) (hb : b.toNat < 128) (he : (0 < b.toNat ∨ i = 0) ∧ (b.toNat = 1 ∨ i < 9)) : tk i u (b :: r) = some (u + b.toNat * 128 ^ i, r) := by
  rw [tk, if_neg (by omega), if_neg (by omega), if_pos he]
theorem tk_no {i u : Nat} {b : UInt8} {r : List UInt8} (hb : b.toNat < 128) (he : ¬ ((0 < b.toNat ∨ i = 0) ∧ (b.toNat = 1 ∨ i < 9))) : tk i u (b :: r) = none := by
  unfold tk
  by_cases h : 10 ≤ i
  · rw [if_pos h]
  · rw [if_neg h, if_neg (by omega), if_neg he]

theorem u8_toNat (n : Nat) (h : n < 256) : n.toUInt8.toNat = n := by
  simp [Nat.toUInt8, UInt8.toNat_ofNat']; omega

/-- written and read: group i on -/
theorem tk_write : ∀ (k i u v : Nat) (t : List UInt8), i + k = 9 → (v < 128 ^ k * 2) → (0 < v ∨ i = 0) → tk i u (uvarint v ++ t) = some (u + v * 128 ^ i, t)
  | 0, i, u, v, t, hik, hv, h0 => by
    have hi : i = 9 := by omega
    subst hi
    rw [uvarint_small (by omega)]
    have e := u8_toNat v (by omega)
    simp only [List.cons_append, List.nil_append]
    rw [tk_end (by omega) (by omega) (by rw [e]; omega), e]
  | k + 1, i, u, v, t, hik, hv, h0 => by
    by_cases hs : v < 128
    · rw [uvarint_small hs]
      have e := u8_toNat v (by omega)
      simp only [List.cons_append, List.nil_append]
      rw [tk_end (by omega) (by omega) (by rw [e]; omega), e]
    · rw [uvarint_big (by omega)]
      have e := u8_toNat (v % 128 + 128) (by omega)
      simp only [List.cons_append]
      rw [tk_go (by omega) (by omega), e, tk_write k (i + 1) _ (v / 128) t (by omega) (by rw [Nat.pow_succ] at hv; omega) (by omega)]
      have h1 : (v % 128 + 128) % 128 = v % 128 := by omega
      rw [h1, Nat.pow_succ]
      have h2 : v = v % 128 + v / 128 * 128 := by omega
      have h3 : v / 128 * (128 ^ i * 128) = (v / 128 * 128) * 128 ^ i := by
        rw [Nat.mul_comm (128 ^ i) 128, ← Nat.mul_assoc]
      rw [h3, Nat.add_assoc, ← Nat.add_mul, ← h2]

theorem tk_back (v : Nat) (hv : v < 18446744073709551616) (t : List UInt8) : tk 0 0 (uvarint v ++ t) = some (v, t) := by
  have := tk_write 9 0 0 v t rfl (by simpa using hv) (.inr rfl)
  simpa using this

/-- what was read was written so: group i on -/
theorem tk_one : ∀ (s : List UInt8) (i u v : Nat) (r : List UInt8), tk i u s = some (v, r) → ∃ x, v = u + x * 128 ^ i ∧ s = uvarint x ++ r ∧ (0 < x ∨ i = 0) ∧ x * 128 ^ i < 18446744073709551616
  | [], i, u, v, r, h => by simp [tk] at h
  | b :: s, i, u, v, r, h => by
    by_cases hi : 10 ≤ i
    · rw [tk, if_pos hi] at h; exact absurd h (by simp)
    by_cases hb : 128 ≤ b.toNat
    · rw [tk_go (by omega) hb] at h
      obtain ⟨x, hv, hs, hx, hl⟩ := tk_one s (i + 1) _ v r h
      have hx0 : 0 < x := by omega
      have e1 : (b.toNat % 128 + x * 128) * 128 ^ i = b.toNat % 128 * 128 ^ i + x * 128 ^ (i + 1) := by
        rw [Nat.add_mul, Nat.pow_succ, Nat.mul_comm (128 ^ i) 128, Nat.mul_assoc]
      refine ⟨b.toNat % 128 + x * 128, by rw [hv, e1]; omega, ?_, by omega, ?_⟩
      · rw [uvarint_big (by omega)]
        have e2 : (b.toNat % 128 + x * 128) / 128 = x := by omega
        have e3 : (b.toNat % 128 + x * 128) % 128 + 128 = b.toNat := by have := b.toNat_lt; omega
        rw [e2, e3, hs]
        simp
      · -- at most ten groups: the last is 1
        rw [e1]
        have hlt : b.toNat % 128 < 128 := Nat.mod_lt _ (by decide)
        have h9 : i + 1 ≤ 9 := by
          rcases Nat.lt_or_ge (i + 1) 10 with h' | h'
          · omega
          · have e10 : i + 1 = 10 := by omega
            rw [e10, tk_ten] at h; exact absurd h (by simp)
        have hp : b.toNat % 128 * 128 ^ i < 128 ^ (i + 1) := by
          rw [Nat.pow_succ, Nat.mul_comm (128 ^ i) 128]
          exact Nat.mul_lt_mul_of_pos_right hlt (Nat.pow_pos (by decide))
        have hd : 128 ^ (i + 1) ∣ 18446744073709551616 := by
          have : (18446744073709551616 : Nat) = 128 ^ (i + 1) * (128 ^ (9 - (i + 1)) * 2) := by
            rw [← Nat.mul_assoc, ← Nat.pow_add, show i + 1 + (9 - (i + 1)) = 9 from by omega]
          exact ⟨_, this⟩
        obtain ⟨q, hq⟩ := hd
        rw [hq] at hl ⊢
        rw [Nat.mul_comm x] at hl ⊢
        have hxq : x < q := Nat.lt_of_mul_lt_mul_left hl
        have : 128 ^ (i + 1) * (x + 1) ≤ 128 ^ (i + 1) * q := Nat.mul_le_mul_left _ hxq
        rw [Nat.mul_succ] at this
        omega
    · by_cases he : (0 < b.toNat ∨ i = 0) ∧ (b.toNat = 1 ∨ i < 9)
      · rw [tk_end (by omega) (by omega) he] at h
        simp only [Option.some.injEq, Prod.mk.injEq] at h
        obtain ⟨rfl, rfl⟩ := h
        refine ⟨b.toNat, rfl, by rw [uvarint_small (by omega)]; simp, he.1, ?_⟩
        have hi9 : i ≤ 9 := by omega
        rcases he.2 with h1 | h1
        · rw [h1, Nat.one_mul]
          exact Nat.lt_of_le_of_lt (Nat.pow_le_pow_right (by decide) hi9) (by decide)
        · have : b.toNat * 128 ^ i < 128 ^ (i + 1) := by
            rw [Nat.pow_succ, Nat.mul_comm (128 ^ i) 128]
            exact Nat.mul_lt_mul_of_pos_right (by omega) (Nat.pow_pos (by decide))
          exact Nat.lt_of_lt_of_le this (Nat.le_trans (Nat.pow_le_pow_right (by decide) (show i + 1 ≤ 9 by omega)) (by decide))
      · rw [tk_no (by omega) he] at h; exact absurd h (by simp)

theorem tk_form {s : List UInt8} {v : Nat} {r : List UInt8} (h : tk 0 0 s = some (v, r)) : v < 18446744073709551616 ∧ s = uvarint v ++ r := by
  obtain ⟨x, hv, hs, _, hl⟩ := tk_one s 0 0 v r h
  simp at hv hl
  subst hv
  exact ⟨hl, hs⟩

/-- the number that a folded number stands for -/
def zag (u : Nat) : Int := if u % 2 = 1 then -((u / 2 : Nat) : Int) - 1 else ((u / 2 : Nat) : Int)
theorem zag_zig (n : Int) : zag (zigzag n) = n := by unfold zag zigzag; split <;> split <;> omega
theorem zig_zag (u : Nat) : zigzag (zag u) = u := by unfold zag zigzag; split <;> split <;> omega
theorem zag_bd {u : Nat} (h : u < 18446744073709551616) : -9223372036854775808 ≤ zag u ∧ zag u ≤ 9223372036854775807 := by unfold zag; split <;> omega

/-- the bytes of a number; of a text -/
def enc (n : Int) : List UInt8 := uvarint (zigzag n)
def encStr (s : List UInt8) : List UInt8 := enc s.length ++ s

/-- what TakeInt answers, as one triple; what TakeStr answers -/
def takeInt (s : List UInt8) : Int × List UInt8 × Bool := match tk 0 0 s with
  | none => (0, [], false)
  | some (u, r) => (zag u, r, true)
def takeStr (s : List UInt8) (most : Int) : List UInt8 × List UInt8 × Bool :=
  if (takeInt s).2.2 = true ∧ 0 ≤ (takeInt s).1 ∧ (takeInt s).1 ≤ most ∧ (takeInt s).1 ≤ (takeInt s).2.1.length
  then ((takeInt s).2.1.take (takeInt s).1.toNat, (takeInt s).2.1.drop (takeInt s).1.toNat, true) else ([], [], false)

def Fits (n : Int) : Prop := -9223372036854775808 ≤ n ∧ n ≤ 9223372036854775807

theorem fits_mk {n : Int} (h1 : -9223372036854775808 ≤ n) (h2 : n ≤ 9223372036854775807) : Fits n := ⟨h1, h2⟩
theorem zig_lt {n : Int} (h : Fits n) : zigzag n < 18446744073709551616 := Go.Lib.zigzag_lt h.1 h.2
theorem takeInt_enc {n : Int} (h : Fits n) (t : List UInt8) : takeInt (enc n ++ t) = (n, t, true) := by
  unfold takeInt enc; rw [tk_back _ (zig_lt h)]; simp [zag_zig]
theorem takeInt_form {s : List UInt8} (h : (takeInt s).2.2 = true) : s = enc (takeInt s).1 ++ (takeInt s).2.1 ∧ Fits (takeInt s).1 := by
  unfold takeInt at h ⊢
  cases e : tk 0 0 s with
  | none => rw [e] at h; simp at h
  | some p =>
    obtain ⟨u, r⟩ := p
    obtain ⟨hu, hs⟩ := tk_form e
    refine ⟨?_, zag_bd hu⟩
    show s = enc (zag u) ++ r
    unfold enc; rw [zig_zag]; exact hs
theorem takeInt_no {s : List UInt8} (h : (takeInt s).2.2 = false) : takeInt s = (0, [], false) := by
  unfold takeInt at h ⊢
  cases e : tk 0 0 s with
  | none => rfl
  | some p => rw [e] at h; simp at h
theorem takeInt_fits (s : List UInt8) : Fits (takeInt s).1 := by
  cases h : (takeInt s).2.2 with
  | true => exact (takeInt_form h).2
  | false => rw [takeInt_no h]; unfold Fits; omega
theorem enc_pos (n : Int) : 1 ≤ (enc n).length := Go.Lib.uvarint_pos _
theorem enc_le {n : Int} (h : Fits n) : (enc n).length ≤ 10 := Go.Lib.uvarint_length64 (zig_lt h)
theorem takeInt_len (s : List UInt8) : (takeInt s).2.1.length ≤ s.length := by
  cases h : (takeInt s).2.2 with
  | true =>
    have e := congrArg List.length (takeInt_form h).1
    rw [List.length_append] at e
    omega
  | false => rw [takeInt_no h]; simp
theorem takeInt_shorter {s : List UInt8} (h : (takeInt s).2.2 = true) : (takeInt s).2.1.length < s.length := by
  have e := congrArg List.length (takeInt_form h).1
  rw [List.length_append] at e
  have := enc_pos (takeInt s).1
  omega

/-- a text, written, is read as it was -/
theorem takeStr_enc {s : List UInt8} (hs : (s.length : Int) ≤ 9223372036854775807) (t : List UInt8) {most : Int} (hm : (s.length : Int) ≤ most) : takeStr (encStr s ++ t) most = (s, t, true) := by
  have e : takeInt (encStr s ++ t) = ((s.length : Int), s ++ t, true) := by
    unfold encStr; rw [List.append_assoc]; exact takeInt_enc ⟨by omega, hs⟩ _
  unfold takeStr; rw [e]
  rw [if_pos ⟨rfl, by omega, hm, by simp; omega⟩]
  simp
theorem takeStr_less {s : List UInt8} (hs : (s.length : Int) ≤ 9223372036854775807) (t : List UInt8) {most : Int} (hm : most < (s.length : Int)) : takeStr (encStr s ++ t) most = ([], [], false) := by
  have e : takeInt (encStr s ++ t) = ((s.length : Int), s ++ t, true) := by
    unfold encStr; rw [List.append_assoc]; exact takeInt_enc ⟨by omega, hs⟩ _
  unfold takeStr; rw [e]
  rw [if_neg (fun h => by have := h.2.2.1; simp at this; omega)]
theorem takeStr_len (s : List UInt8) (most : Int) : (takeStr s most).1.length ≤ s.length ∧ (takeStr s most).2.1.length ≤ s.length := by
  unfold takeStr
  have := takeInt_len s
  split
  · simp only [List.length_take, List.length_drop]; omega
  · simp

/-- neither of two numbers, written, begins with the other -/
theorem enc_apart {a b : Int} (ha : Fits a) (hb : Fits b) {t : List UInt8} (h : enc a = enc b ++ t) : a = b := by
  have h1 := takeInt_enc ha []
  have h2 := takeInt_enc hb t
  rw [List.append_nil, h, h2] at h1
  exact (Prod.mk.inj h1).1.symm
theorem enc_cut {a : Int} (ha : Fits a) {k : Nat} (hk : k < (enc a).length) : (takeInt ((enc a).take k)).2.2 = false := by
  cases h : (takeInt ((enc a).take k)).2.2 with
  | false => rfl
  | true =>
    obtain ⟨hs, hf⟩ := takeInt_form h
    have h1 := takeInt_enc hf ((takeInt ((enc a).take k)).2.1 ++ (enc a).drop k)
    rw [← List.append_assoc, ← hs, List.take_append_drop] at h1
    have h2 := takeInt_enc ha []
    rw [List.append_nil, h1] at h2
    have h3 := (Prod.mk.inj (Prod.mk.inj h2).2).1
    have h4 := congrArg List.length h3
    rw [List.length_append, List.length_drop] at h4
    simp at h4
    omega

/-- how many bytes -/
theorem uv_le : ∀ (k x : Nat), (uvarint x).length ≤ k + 1 → x < 128 ^ (k + 1)
  | k, x, h => by
    by_cases hx : x < 128
    · exact Nat.lt_of_lt_of_le hx (by rw [Nat.pow_succ]; exact Nat.le_mul_of_pos_left _ (Nat.pow_pos (by decide)))
    · rw [uvarint_big (by omega), List.length_cons] at h
      cases k with
      | zero => have := Go.Lib.uvarint_pos (x / 128); omega
      | succ k =>
        have := uv_le k (x / 128) (by omega)
        rw [Nat.pow_succ]
        omega
theorem uv_iff (k x : Nat) : (uvarint x).length ≤ k + 1 ↔ x < 128 ^ (k + 1) := ⟨uv_le k x, Go.Lib.uvarint_length k x⟩
theorem uv_mono {x y : Nat} (h : x ≤ y) : (uvarint x).length ≤ (uvarint y).length := by
  have hp := Go.Lib.uvarint_pos y
  obtain ⟨k, hk⟩ : ∃ k, (uvarint y).length = k + 1 := ⟨(uvarint y).length - 1, by omega⟩
  rw [hk]
  exact (uv_iff k x).2 (Nat.lt_of_le_of_lt h ((uv_iff k y).1 (by omega)))
end Go.Proofs.Ytcpkngkeechjeaa.Nib
