/- The document's own reading of an image, on lists: the same as decR. -/
import Derived.Test.YtjffjmffoffblaaQSlabBookC
namespace Go.Proofs.Ytjffjmffoffblaa.Slab
set_option maxRecDepth 100000
open Go.RowKit Go.Sort

set_option maxRecDepth 10000 in
theorem beN_ge (s : List UInt8) : ∀ i, 2 + i ≤ s.length → beN (s.take 2) * 256 ^ i ≤ beN (s.take (2 + i))
  | 0, _ => by simp
  | i + 1, h => by
    have ih := beN_ge s i (by omega)
    have e := beN_next (s := s) (k := 2 + i) (by omega)
    rw [show 2 + (i + 1) = 2 + i + 1 by omega, e, Nat.pow_succ, ← Nat.mul_assoc]
    have := Nat.mul_le_mul_right 256 ih
    omega
theorem beN_two {s : List UInt8} (h : 2 ≤ s.length) : beN (s.take 2) = (s.getD 0 0).toNat * 256 + (s.getD 1 0).toNat := by
  have e1 := beN_next (s := s) (k := 1) (by omega)
  have e0 := beN_next (s := s) (k := 0) (by omega)
  rw [e1, e0]
  have a0 : s.getD 0 0 = s[0] := by simp [List.getD, show 0 < s.length by omega]
  have a1 : s.getD 1 0 = s[1] := by simp [List.getD, show 1 < s.length by omega]
  rw [a0, a1]
  simp [beN]
theorem dec_high {t : List UInt8} (h : t.length = 240) (hn : ¬ ((t.getD 0 0).toNat = 0 ∧ (t.getD 1 0).toNat = 0)) : decR t = (0, [], 4) := by
  have h1 := beN_ge t 6 (by omega)
  rw [beN_two (by omega)] at h1
  have h2 := beN_lt t 8 (by omega)
  have p6 : (256 : Nat) ^ 6 = 281474976710656 := by decide
  have p8 : (256 : Nat) ^ 8 = 18446744073709551616 := by decide
  rw [p6] at h1
  rw [p8] at h2
  have h3 : 281474976710656 ≤ beN (t.take 8) := by
    refine Nat.le_trans ?_ h1
    have : 1 ≤ (t.getD 0 0).toNat * 256 + (t.getD 1 0).toNat := by omega
    omega
  unfold decR
  rw [if_pos h]
  cases hT : takesL (t.getD 8 0).toNat (t.drop 9) with
  | none => rfl
  | some p =>
    obtain ⟨z, r⟩ := p
    rw [decOf_some, if_neg]
    rintro ⟨hg, _⟩
    have hp := good_parts hg
    unfold sgn at hp
    split at hp <;> omega
theorem low_num {t : List UInt8} (h : t.length = 240) (h0 : (t.getD 0 0).toNat = 0) (h1 : (t.getD 1 0).toNat = 0) : beN (t.take 2) = 0 := by
  rw [beN_two (by omega), h0, h1]
theorem beN_small {t : List UInt8} (h : t.length = 240) (h2 : beN (t.take 2) = 0) : ∀ i, i ≤ 6 → beN (t.take (2 + i)) < 256 ^ i
  | 0, _ => by rw [Nat.add_zero, h2]; decide
  | i + 1, hi => by
    have ih := beN_small h h2 i (by omega)
    have e := beN_next (s := t) (k := 2 + i) (by omega)
    rw [show 2 + (i + 1) = 2 + i + 1 by omega, e, Nat.pow_succ]
    have hb := (t[2 + i]'(by omega)).toNat_lt
    omega
theorem drop_at {t : List UInt8} {i : Nat} (h : i < t.length) : t.drop i = t[i] :: t.drop (i + 1) := List.drop_eq_getElem_cons h
theorem take_end {t : List UInt8} {i : Nat} (h : t.length ≤ i) : takeL (t.drop i) = none := by rw [List.drop_of_length_le h]; rfl
theorem take_255 {t : List UInt8} {i : Nat} (h : i < t.length) (hn : t[i].toNat = 255) : takeL (t.drop i) = some (nos, t.drop (i + 1)) := by
  rw [drop_at h, takeL_cons, if_pos hn]
theorem take_rec {t : List UInt8} {i n : Nat} (h : i < t.length) (hn : t[i].toNat = n) (h2 : n ≠ 255) (h3 : i + 1 + n ≤ t.length) :
    takeL (t.drop i) = some (⟨true, ⟨((t.drop (i + 1)).take n).toArray⟩⟩, t.drop (i + 1 + n)) := by
  rw [drop_at h, takeL_cons, hn, if_neg h2, if_pos (by simp; omega), List.drop_drop]
theorem take_short {t : List UInt8} {i n : Nat} (h : i < t.length) (hn : t[i].toNat = n) (h2 : n ≠ 255) (h3 : ¬ i + 1 + n ≤ t.length) : takeL (t.drop i) = none := by
  rw [drop_at h, takeL_cons, hn, if_neg h2, if_neg (by simp; omega)]
theorem ext_mid {s : ByteArray} (i n : Nat) : s.extract i (i + n) = ⟨((s.data.toList.drop i).take n).toArray⟩ := by
  refine ByteArray.ext (Array.toList_inj.1 ?_)
  rw [Lib.extract_data]
  simp
end Go.Proofs.Ytjffjmffoffblaa.Slab
