/- The walks of sum.take and sum.Of. -/
import Derived.Test.YtfclaoacldmpdaaRows
import Derived.Test.YtfclaoacldmpdaaSumMath
import Derived.WalkKit
import Derived.WalkSpells
import Derived.WalkLawsBesides
import Derived.BigQuiet
import Derived.Deep.QuietTactic
import Derived.IntWalk
import Derived.Lib.Hide
import Derived.WalkSmall
namespace Go.Proofs.Ytfclaoacldmpdaa.Sum
open Go.RowKit
theorem ret_int' {k : IntKind} {a b : Int} (h : a = b) : Ending.returned (.int k a) = .returned (.int k b) := by rw [h]

theorem ofInt_toNat (a : BitVec 32) : BitVec.ofInt 32 (a.toNat : Int) = a := by
  rw [BitVec.ofInt_natCast]; simp
theorem wrap_toNat (a : BitVec 32) : IntKind.u32.wrap (a.toNat : Int) = (a.toNat : Int) := by
  have := a.isLt
  rw [IntKind.wrap_u32]; omega
theorem bits_xor32 (a b : BitVec 32) : bits .xor .u32 (a.toNat : Int) (b.toNat : Int) = ((a ^^^ b).toNat : Int) := by
  show IntKind.u32.wrap ((BitVec.ofInt 32 (a.toNat : Int) ^^^ BitVec.ofInt 32 (b.toNat : Int)).toNat : Int) = _
  rw [ofInt_toNat, ofInt_toNat, wrap_toNat]
theorem bits_and32 (a b : BitVec 32) : bits .and .u32 (a.toNat : Int) (b.toNat : Int) = ((a &&& b).toNat : Int) := by
  show IntKind.u32.wrap ((BitVec.ofInt 32 (a.toNat : Int) &&& BitVec.ofInt 32 (b.toNat : Int)).toNat : Int) = _
  rw [ofInt_toNat, ofInt_toNat, wrap_toNat]
theorem byteOf_toNat (b : UInt8) : (byteOf b).toNat = b.toNat := by
  have := b.toNat_lt
  unfold byteOf
  rw [BitVec.toNat_ofNat]; omega

theorem shr1_toNat (r : BitVec 32) : (Int.ofNat r.toNat) / (2 : Int) = Int.ofNat (r >>> 1).toNat := by
  rw [BitVec.toNat_ushiftRight, Nat.shiftRight_eq_div_pow]; simp
theorem and1 (r : BitVec 32) : bits .and .u32 (r.toNat : Int) 1 = if r.getLsbD 0 then 1 else 0 := by
  have e : (1 : Int) = ((1#32).toNat : Int) := by decide
  rw [e, bits_and32]
  have h : r &&& 1#32 = if r.getLsbD 0 then 1#32 else 0#32 := by
    apply BitVec.eq_of_getLsbD_eq
    intro i hi
    rw [BitVec.getLsbD_and, BitVec.getLsbD_ofNat]
    cases i with
    | zero => cases r.getLsbD 0 <;> simp
    | succ i =>
      have : Nat.testBit 1 (i + 1) = false := by simp [Nat.testBit_succ]
      rw [this]
      cases r.getLsbD 0 <;> simp
  rw [h]
  cases r.getLsbD 0 <;> decide
theorem half_int (r : BitVec 32) : bits .xor .u32 ((r.toNat : Int) / 2) (bits .and .u32 3988292384 (-bits .and .u32 (r.toNat : Int) 1 % 4294967296)) = ((half r).toNat : Int) := by
  rw [and1]
  have e1 := shr1_toNat r
  simp only [Int.ofNat_eq_natCast] at e1
  rw [e1]
  unfold half
  cases r.getLsbD 0 with
  | true =>
    have e : bits .and .u32 3988292384 (-(if true = true then (1 : Int) else 0) % 4294967296) = (poly.toNat : Int) := by decide
    rw [e, bits_xor32]; rfl
  | false =>
    have e : bits .and .u32 3988292384 (-(if false = true then (1 : Int) else 0) % 4294967296) = ((0#32).toNat : Int) := by decide
    rw [e, bits_xor32]; rfl

set_option maxRecDepth 100000 in
set_option maxHeartbeats 400000 in
theorem take_any (r : BitVec 32) (b : UInt8) (w : World) :
    Calls Try.prog 10 #[.int .u32 (r.toNat : Int), .int .u8 (b.toNat : Int)] w fun e w' => e = .returned (.int .u32 ((take r b).toNat : Int)) ∧ w = w' := by
  have hr := r.isLt
  have hb := b.toNat_lt
  go_enter Try.func10, Try.ntmps10
  go_wp2
  go_loop [0, 9] (fun t i => ∃ k : Nat, k ≤ 8 ∧ i = .int .i64 k ∧ t = .int .u32 ((halves k (r ^^^ byteOf b)).toNat : Int)) (fun _ i => 8 - (intOf i).toNat)
  case atStart => exact ⟨0, by omega, rfl, by rw [← byteOf_toNat, bits_xor32]; rfl⟩
  case round =>
    obtain ⟨k, hk, rfl, rfl⟩ := hrel
    have hx := (halves k (r ^^^ byteOf b)).isLt
    by_cases hlt : k < 8
    · go_wp2
      go_round
      case rel => exact ⟨k + 1, by omega, by go_num, by rw [half_int]; rfl⟩
      case measure => simp [intOf]; omega
    · go_wp2
      go_ret
      obtain rfl : k = 8 := by omega
      exact ⟨rfl, rfl⟩

/-- texts one behind the other -/
def flat (ss : List ByteArray) : List UInt8 := ss.flatMap fun s => s.data.toList
theorem flat_take (ss : List ByteArray) (k : Nat) (h : k < ss.length) : flat (ss.take (k + 1)) = flat (ss.take k) ++ (ss.getD k ⟨#[]⟩).data.toList := by
  unfold flat
  rw [List.take_succ_eq_append_getElem h]
  rw [List.flatMap_append]
  simp [List.getD, h]
theorem take_snoc (s : ByteArray) (k : Nat) (h : k < s.size) : s.data.toList.take (k + 1) = s.data.toList.take k ++ [s[k]] := by
  rw [List.take_succ_eq_append_getElem (by simpa using h)]; rfl
theorem not_int (r : BitVec 32) : bits .xor .u32 (r.toNat : Int) 4294967295 = ((~~~ r).toNat : Int) := by
  have e : (4294967295 : Int) = ((BitVec.allOnes 32).toNat : Int) := by decide
  rw [e, bits_xor32, BitVec.xor_allOnes]

theorem not_max (r : BitVec 32) : bits .xor .u32 IntKind.u32.max (r.toNat : Int) = ((~~~ r).toNat : Int) := by
  have e : IntKind.u32.max = ((BitVec.allOnes 32).toNat : Int) := by decide
  rw [e, bits_xor32, BitVec.allOnes_xor]

/-- the texts lie in a row of cells -/
def Texts (w : World) (b o : Nat) (ss : List ByteArray) : Prop := (∀ i, i < ss.length → w.cell? ⟨b, o + i, none⟩ = some (.string (ss.getD i ⟨#[]⟩))) ∧ (∀ i, i < ss.length → (ss.getD i ⟨#[]⟩).size ≤ 9223372036854775807) ∧ ss.length ≤ 9223372036854775807

set_option maxRecDepth 100000 in
set_option maxHeartbeats 400000 in
theorem of_any (b o c : Nat) (ss : List ByteArray) (w : World) (h : Texts w b o ss) :
    Calls Try.prog 8 #[.slice (some ⟨b, o, none⟩) ss.length c] w fun e w' => e = .returned (.int .u32 ((check (flat ss)).toNat : Int)) ∧ w = w' := by
  obtain ⟨hc, hs, hn⟩ := h
  have HC := Lib.hid hc
  have HS := Lib.hid hs
  clear hc hs
  go_enter Try.func8, Try.ntmps8
  go_wp2
  go_loop [3, 9] (fun t i => ∃ k : Nat, k ≤ ss.length ∧ i = .int .i64 k ∧ t = .int .u32 ((crc 4294967295#32 (flat (ss.take k))).toNat : Int)) (fun _ i => ss.length - (intOf i).toNat)
  case atStart => exact ⟨0, by omega, rfl, rfl⟩
  case round =>
    obtain ⟨k, hk, rfl, rfl⟩ := hrel
    by_cases hlt : k < ss.length
    · have hcell := HC.out k hlt
      have hsz := HS.out k hlt
      have hft := flat_take ss k hlt
      have HF := Lib.hid hft
      clear hft
      generalize hr0 : crc 4294967295#32 (flat (ss.take k)) = r0 at *
      generalize hsk : ss.getD k ⟨#[]⟩ = s at *
      have HR0 := Lib.hid hr0
      clear hr0 hsk
      go_wp2
      go_loop [3, 15] (fun t i => ∃ j : Nat, j ≤ s.size ∧ i = .int .i64 j ∧ t = .int .u32 ((crc r0 (s.data.toList.take j)).toNat : Int)) (fun _ i => s.size - (intOf i).toNat)
      case atStart => exact ⟨0, by omega, rfl, rfl⟩
      case round =>
        obtain ⟨j, hj, rfl, rfl⟩ := hrel
        by_cases hjt : j < s.size
        · have HT := Lib.hid (take_snoc s j hjt)
          go_wp2_with fail
          refine (take_any _ _ _).mono ?_
          rintro e w' ⟨rfl, rfl⟩
          go_wp2
          go_round
          case rel => exact ⟨j + 1, by omega, by go_num, by rw [HT.out, crc_snoc]⟩
          case measure => simp [intOf]; omega
        · go_wp2
          go_round
          case rel => exact ⟨k + 1, by omega, by go_num, by rw [HF.out, crc_append, HR0.out, List.take_of_length_le (by simp; omega)]⟩
          case measure => simp [intOf]; omega
    · go_wp2
      go_ret
      obtain rfl : k = ss.length := by omega
      refine ⟨ret_int' ?_, rfl⟩
      rw [not_max, List.take_length]; rfl
end Go.Proofs.Ytfclaoacldmpdaa.Sum
