/- The walk of the statement NibShort. -/
import Derived.Test.YtelnodnacgpilaaNibLawsA
namespace Go.Proofs.Ytelnodnacgpilaa.Nib
open Go.RowKit
open Go.Lib (zigzag uvarint uvarint_small uvarint_big)

/-- behind b rounds of halving -/
def HalfAt (h0 b h : Nat) : Prop := h = h0 / 2 ^ b ∧ (b = 0 ∨ 2 ^ (b - 1) ≤ h0) ∧ h0 < 9223372036854775808
theorem HalfAt.next {h0 b h : Nat} (H : HalfAt h0 b h) (hp : 0 < h) : HalfAt h0 (b + 1) (h / 2) := by
  obtain ⟨e, _, hb⟩ := H
  refine ⟨by rw [e, Nat.pow_succ, Nat.div_div_eq_div_mul], .inr ?_, hb⟩
  rw [Nat.add_sub_cancel]
  rw [e] at hp
  have := Nat.div_mul_le_self h0 (2 ^ b)
  have h1 : 1 * 2 ^ b ≤ h0 / 2 ^ b * 2 ^ b := Nat.mul_le_mul_right _ hp
  omega
theorem HalfAt.small {h0 b h : Nat} (H : HalfAt h0 b h) : b ≤ 63 := by
  obtain ⟨_, h1, hb⟩ := H
  rcases Nat.lt_or_ge 63 b with hlt | hle
  · exfalso
    have h2 : (2 : Nat) ^ 63 ≤ 2 ^ (b - 1) := Nat.pow_le_pow_right (by decide) (by omega)
    have h3 : (2 : Nat) ^ 63 = 9223372036854775808 := by decide
    omega
  · exact hle
theorem HalfAt.len {h0 b : Nat} (H : HalfAt h0 b 0) {n : Int} (hz : zigzag n = 2 * h0 ∨ zigzag n = 2 * h0 + 1) : (encB n).size = (b + 7) / 7 := by
  obtain ⟨e, h1, _⟩ := H
  have hlt : h0 < 2 ^ b := by
    have := Nat.lt_of_div_eq_zero (Nat.pow_pos (by decide : 0 < 2)) e.symm
    exact this
  rw [encB_size]; unfold enc
  have hp : ∀ k, (128 : Nat) ^ k = 2 ^ (7 * k) := fun k => by rw [Nat.pow_mul]
  have hup : (uvarint (zigzag n)).length ≤ (b + 7) / 7 := by
    have hk : (b + 7) / 7 = (b / 7) + 1 := by omega
    rw [hk]
    refine (uv_iff _ _).2 ?_
    rw [hp]
    have h2 : (2 : Nat) ^ (b + 1) ≤ 2 ^ (7 * (b / 7 + 1)) := Nat.pow_le_pow_right (by decide) (by omega)
    rw [Nat.pow_succ] at h2
    omega
  have hlo : (b + 7) / 7 ≤ (uvarint (zigzag n)).length := by
    have hpos := Lib.uvarint_pos (zigzag n)
    rcases Nat.lt_or_ge b 7 with h7 | h7
    · omega
    · rcases Nat.lt_or_ge (uvarint (zigzag n)).length ((b + 7) / 7) with hl | hl
      · exfalso
        have hk : (uvarint (zigzag n)).length ≤ (b / 7 - 1) + 1 := by omega
        have h3 := (uv_iff _ _).1 hk
        rw [hp] at h3
        have h4 : (2 : Nat) ^ (7 * (b / 7 - 1 + 1)) ≤ 2 ^ b := Nat.pow_le_pow_right (by decide) (by omega)
        rcases h1 with h1 | h1
        · omega
        · have h5 : (2 : Nat) ^ b = 2 ^ (b - 1) * 2 := by rw [← Nat.pow_succ]; congr 1; omega
          omega
      · exact hl
  omega

set_option maxRecDepth 100000 in
set_option maxHeartbeats 400000 in
theorem short_walk (n : Int) (w : World) (hn : Fits n) :
    Calls Try.prog 8 #[.int .i64 n] w fun e w' => e = .returned (.bool true) ∧ Below w.heap.size w w' := by
  have la := encB_le hn
  have hn' := hn
  obtain ⟨f1, f2⟩ := hn'
  obtain ⟨h0, hh0, hz⟩ : ∃ h0 : Nat, ((n < 0 ∧ -(n + 1) = (h0 : Int)) ∨ (¬ n < 0 ∧ n = (h0 : Int))) ∧ (zigzag n = 2 * h0 ∨ zigzag n = 2 * h0 + 1) := by
    by_cases c : n < 0
    · exact ⟨(-(n + 1)).toNat, .inl ⟨c, by omega⟩, .inr (by unfold zigzag; split <;> omega)⟩
    · exact ⟨n.toNat, .inr ⟨c, by omega⟩, .inl (by unfold zigzag; split <;> omega)⟩
  have HZ := Lib.hid hz
  have hb0 : h0 < 9223372036854775808 := by omega
  have HB := Lib.hid hb0
  clear hz hb0
  rcases hh0 with ⟨c, e0⟩ | ⟨c, rfl⟩
  all_goals
    go_enter Try.func8, Try.ntmps8
    go_wp2_with fail
    refine (awake_any _).mono ?_
    rintro e w1 ⟨rfl, b1⟩
    go_wp2_with fail
    refine (intB _ _ hn).mono ?_
    rintro e w2 ⟨rfl, b2⟩
    go_wp2_with fail
    go_loop [4, 5] (fun t u => ∃ (h b : Nat), t = .int .i64 h ∧ u = .int .i64 b ∧ HalfAt h0 b h) (fun t _ => (intOf t).toNat)
    case atStart => exact ⟨h0, 0, rfl, rfl, by simp, .inl rfl, HB.out⟩
    case round =>
      obtain ⟨h, b, rfl, rfl, hr⟩ := hrel
      have hb63 := hr.small
      have HR := Lib.hid hr
      clear hr
      by_cases hp : 0 < h
      · have hh : h ≤ 9223372036854775807 := by
          have := HR.out.1; have h2 := HB.out
          have h3 := Nat.div_le_self h0 (2 ^ b)
          omega
        go_wp2
        go_round
        case rel => exact ⟨h / 2, b + 1, by go_num, by go_num, HR.out.next hp⟩
        case measure => simp [intOf]; omega
      · obtain rfl : h = 0 := by omega
        have hs := HR.out.len HZ.out
        have HS := Lib.hid hs
        clear hs
        go_wp2
        all_goals
          have hs := HS.out
          first
            | (exfalso; omega)
            | (go_ret; exact ⟨rfl, below_next b1 b2⟩)
end Go.Proofs.Ytelnodnacgpilaa.Nib
