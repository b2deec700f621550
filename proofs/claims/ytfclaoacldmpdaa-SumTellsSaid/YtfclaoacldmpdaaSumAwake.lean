/- The walks of the statements' own beginning and of the document's own answer. -/
import Derived.Test.YtfclaoacldmpdaaSumTake
import Derived.StillTailTactics
namespace Go.Proofs.Ytfclaoacldmpdaa.Sum
open Go.RowKit

set_option maxRecDepth 100000 in
set_option maxHeartbeats 400000 in
theorem of_nil (w : World) :
    Calls Try.prog 8 #[.slice none 0 0] w fun e w' => e = .returned (.int .u32 0) ∧ w = w' := by
  go_enter Try.func8, Try.ntmps8
  go_wp2
  go_loop [3, 9] (fun t i => i = .int .i64 0 ∧ t = .int .u32 4294967295) (fun _ i => 0)
  case atStart => exact ⟨rfl, rfl⟩
  case round =>
    obtain ⟨rfl, rfl⟩ := hrel
    go_wp2
    go_ret
    exact ⟨ret_int' (by decide), rfl⟩

theorem below_next {W w w' : World} (h : Below W.heap.size W w) (h' : Below w.heap.size w w') : Below W.heap.size W w' := h.trans (h'.mono h.size)
theorem below_drew {W w : World} (h : Below W.heap.size W w) (q : Nat) : Below W.heap.size W (w.drewN q) := below_drewN h q
theorem texts_new (w : World) (T : TypeId) (cs : Array Value) (ss : List ByteArray) (hcs : cs = (ss.map Value.string).toArray) (hs : ∀ s ∈ ss, s.size ≤ 9223372036854775807) (hn : ss.length ≤ 9223372036854775807) :
    Texts (w.alloc (.cells cs T)) w.heap.size 0 ss := by
  subst hcs
  refine ⟨fun i hi => ?_, fun i hi => ?_, hn⟩
  · rw [Nat.zero_add, World.cell?_alloc_new]
    simp [List.getD, hi]
  · apply hs
    simp [List.getD, hi]
theorem of_new (w : World) (T : TypeId) (cs : Array Value) (ss : List ByteArray) (n c : Nat) (v : Int) (hcs : cs = (ss.map Value.string).toArray) (hn : n = ss.length) (hl : ss.length ≤ 9223372036854775807)
    (hs : ∀ s ∈ ss, s.size ≤ 9223372036854775807) (hv : ((check (flat ss)).toNat : Int) = v) :
    Calls Try.prog 8 #[.slice (some ⟨w.heap.size, 0, none⟩) n c] (w.alloc (.cells cs T)) fun e w' => e = .returned (.int .u32 v) ∧ Below w.heap.size w w' := by
  subst hn
  refine (of_any _ 0 c ss _ (texts_new w T cs ss hcs hs hl)).mono ?_
  rintro e w' ⟨rfl, rfl⟩
  exact ⟨by rw [hv], (Below.refl _ _).alloc (Nat.le_refl _) _⟩
theorem of_at (w : World) (b : Nat) (T : TypeId) (cs : Array Value) (ss : List ByteArray) (n c : Nat) (v : Int) (hb : b = w.heap.size) (hcs : cs = (ss.map Value.string).toArray) (hn : n = ss.length) (hl : ss.length ≤ 9223372036854775807)
    (hs : ∀ s ∈ ss, s.size ≤ 9223372036854775807) (hv : ((check (flat ss)).toNat : Int) = v) :
    Calls Try.prog 8 #[.slice (some ⟨b, 0, none⟩) n c] (w.alloc (.cells cs T)) fun e w' => e = .returned (.int .u32 v) ∧ Below w.heap.size w w' := by
  subst hb; exact of_new w T cs ss n c v hcs hn hl hs hv
set_option maxRecDepth 100000 in
set_option maxHeartbeats 400000 in
theorem awake_any (w : World) :
    Calls Try.prog 7 #[] w fun e w' => e = .returned (.bool true) ∧ Below w.heap.size w w' := by
  go_enter Try.func7, Try.ntmps7
  go_wp2_with fail
  refine (of_nil _).mono ?_
  rintro e w1 ⟨rfl, rfl⟩
  go_wp2_with fail
  refine (of_new _ _ _ [⟨#[49, 50, 51, 52]⟩, ⟨#[53, 54, 55, 56, 57]⟩] _ _ 3421780262 rfl rfl (by decide) (by decide) (by decide +kernel)).mono ?_
  rintro e w2 ⟨rfl, b2⟩
  go_wp2
  go_ret
  exact ⟨rfl, b2⟩

theorem bit_int (b : UInt8) (k : Nat) : bits .and .u32 ((b.toNat : Int) / 2 ^ k % 4294967296) 1 = if (byteOf b).getLsbD k then 1 else 0 := by
  have hb := b.toNat_lt
  have e : ((b.toNat : Int) / 2 ^ k % 4294967296) = (((byteOf b >>> k).toNat : Nat) : Int) := by
    rw [BitVec.toNat_ushiftRight, byteOf_toNat, Nat.shiftRight_eq_div_pow]
    have h1 : ((b.toNat : Int) / 2 ^ k) = ((b.toNat / 2 ^ k : Nat) : Int) := by simp
    have h2 := Nat.div_le_self b.toNat (2 ^ k)
    rw [h1]
    generalize b.toNat / 2 ^ k = q at h2
    omega
  rw [e, and1, BitVec.getLsbD_ushiftRight]; rfl
theorem differ (b : UInt8) (k : Nat) (x : BitVec 32) (v : Bool) (h : (bits .and .u32 ((b.toNat : Int) / 2 ^ k % 4294967296) 1 != bits .and .u32 (x.toNat : Int) 1) = v) : ((byteOf b).getLsbD k != x.getLsbD 0) = v := by
  rw [bit_int, and1] at h
  rw [← h]
  cases (byteOf b).getLsbD k <;> cases x.getLsbD 0 <;> rfl
theorem xor_poly (x : BitVec 32) : bits .xor .u32 ((x.toNat : Int) / 2) 3988292384 = (((x >>> 1) ^^^ poly).toNat : Int) := by
  have e1 := shr1_toNat x
  simp only [Int.ofNat_eq_natCast] at e1
  have e : (3988292384 : Int) = (poly.toNat : Int) := by decide
  rw [e1, e, bits_xor32]
theorem shr_only (x : BitVec 32) : ((x.toNat : Int) / (2 : Int)) = (((x >>> 1)).toNat : Int) := by
  have e1 := shr1_toNat x
  simp only [Int.ofNat_eq_natCast] at e1
  exact e1

set_option maxRecDepth 100000 in
set_option maxHeartbeats 400000 in
theorem ref_any (s : ByteArray) (w : World) (hs : s.size ≤ 9223372036854775807) :
    Calls Try.prog 9 #[.string s] w fun e w' => e = .returned (.int .u32 ((check s.data.toList).toNat : Int)) ∧ w = w' := by
  go_enter Try.func9, Try.ntmps9
  go_wp2
  go_loop [3, 4] (fun t i => ∃ j : Nat, j ≤ s.size ∧ i = .int .i64 j ∧ t = .int .u32 ((crc 4294967295#32 (s.data.toList.take j)).toNat : Int)) (fun _ i => s.size - (intOf i).toNat)
  case atStart => exact ⟨0, by omega, rfl, rfl⟩
  case round =>
    obtain ⟨j, hj, rfl, rfl⟩ := hrel
    by_cases hlt : j < s.size
    · have HT := Lib.hid (take_snoc s j hlt)
      generalize hr0 : crc 4294967295#32 (s.data.toList.take j) = r0 at *
      have HR0 := Lib.hid hr0
      clear hr0
      go_wp2
      go_loop [3, 5] (fun t i => ∃ k : Nat, k ≤ 8 ∧ i = .int .i64 k ∧ t = .int .u32 ((refAt r0 s[j] k).toNat : Int)) (fun _ i => 8 - (intOf i).toNat)
      case atStart => exact ⟨0, by omega, rfl, by rw [refAt_zero]⟩
      case round =>
        obtain ⟨k, hk, rfl, rfl⟩ := hrel
        have hx := (refAt r0 s[j] k).isLt
        have HN := Lib.hid (refAt_next r0 s[j] k)
        by_cases hkt : k < 8
        · go_wp2
          all_goals
            have hd := differ _ _ _ _ (by assumption)
            go_round
            case rel => exact ⟨k + 1, by omega, by go_num, by rw [HN.out, hd]; first | (rw [xor_poly]; rfl) | (rw [shr_only]; rfl)⟩
            case measure => simp [intOf]; omega
        · obtain rfl : k = 8 := by omega
          clear hx HN
          go_wp2
          go_round
          case rel => exact ⟨j + 1, by omega, by go_num, by rw [HT.out, crc_snoc, refAt_eight, HR0.out]⟩
          case measure => simp [intOf]; omega
    · go_wp2
      go_ret
      refine ⟨ret_int' ?_, rfl⟩
      rw [not_int, List.take_of_length_le (by simp; omega)]; rfl
end Go.Proofs.Ytfclaoacldmpdaa.Sum
