/- The walk of the statement RingRoom. -/
import Derived.Test.YtdpaeffhddehaaaRingRoom0
import Derived.Test.YtdpaeffhddehaaaRingSecondWalk
import Derived.Test.YtdpaeffhddehaaaInts
namespace Go.Proofs.Ytdpaeffhddehaaa.RingI
set_option maxRecDepth 100000
open Go.RowKit Go.Shelf
open Go.Proofs.Ytdpaeffhddehaaa.Mem
open Go.Proofs.Ytdpaeffhddehaaa.Ring
attribute [local go_sem] Oper.semAt_some

theorem len_to {p : Nat} {M : Nat → Prop} {S : RState} {n : Nat} (w : World) (h : RQ w p M S) (e : (thingsR S).length = n) :
    Calls Try.prog 27 #[.pointer (some ⟨p, 0, none⟩)] w fun e w' => e = .returned (.int .i64 (n : Int)) ∧ Below w.heap.size w w' := by
  subst e
  obtain ⟨fb, ad, h⟩ := h
  exact len_any w h
theorem pins_to {p : Nat} {M : Nat → Prop} {S : RState} {n : Nat} {k : Int} (w : World) (h : RQ w p M S) (e : pinsR S k = n) :
    Calls Try.prog 33 #[.pointer (some ⟨p, 0, none⟩), .int .i64 k] w fun e w' => e = .returned (.int .i64 (n : Int)) ∧ Below w.heap.size w w' := by
  subst e
  obtain ⟨fb, ad, h⟩ := h
  exact pins_any k w h
theorem pin_to {p : Nat} {M : Nat → Prop} {S S2 : RState} {k : Int} {b : Bool} (w : World) (h : RQ w p M S) (hl : Low S 1000000) (e : pinR S k = (b, S2)) :
    Calls Try.prog 31 #[.pointer (some ⟨p, 0, none⟩), .int .i64 k] w fun e w' => e = .returned (.bool b) ∧ RQ w' p M S2 ∧ Keep M w w' := by
  obtain ⟨fb, ad, h⟩ := h
  refine (pin_any k w h hl).mono ?_
  rintro e' w' ⟨h1, h2⟩
  rw [e] at h1 h2
  exact ⟨h1, h2.1, h2.2⟩
set_option maxHeartbeats 8000000 in
theorem room_walk (a : Option Addr) (n c : Nat) (zs : List Int) (fr pd : Int) (w : World) (hI : Ints w a n zs) (_hn : n ≤ maxLen) (_hf : -9223372036854775808 ≤ fr ∧ fr ≤ 9223372036854775807) (_hp : -9223372036854775808 ≤ pd ∧ pd ≤ 9223372036854775807) :
    Calls Try.prog 6 #[.slice a n c, .int .i64 fr, .int .i64 pd] w fun e w' => e = .returned (.bool true) ∧ Below w.heap.size w w' := by
  obtain ⟨N, hNe, hN1, hN2⟩ := add_of fr 1 64 (by omega) (by omega) (by omega)
  have hn1 : 1 ≤ N := by omega
  have hn2 : N ≤ 64 := by omega
  obtain ⟨q, hqe, hq1⟩ := cut_of pd ((N : Int) + 1) (by omega) (by omega)
  have hq2 : q ≤ N := by omega
  have HI := Lib.hid hI
  have HQE := Lib.hid hqe
  unfold maxLen at _hn
  clear hN1 hN2 hI hqe hq1
  go_enter Try.func6, Try.ntmps6
  go_wp2_with fail
  refine (RingS.awake_any w).mono ?_
  rintro e w1 ⟨rfl, b1⟩
  go_wp2_with fail
  rw [hNe]
  refine (new_any w1 N (by omega)).mono ?_
  rintro e w2 ⟨p, rfl, r1, b2, -⟩
  rw [show clampN (N : Int) = N by unfold clampN; rw [if_neg (by omega), if_neg (by omega)]; omega, fill_zero] at r1
  have R0 := Lib.hid r1
  have B0 := Lib.hid (b1.trans (b2.mono b1.size))
  have HW1 := Lib.hid b1.size
  clear r1 b1 b2 hNe
  go_wp2
  go_loopw [8, 9, 10] (fun i _ _ wr => ∃ k : Nat, k ≤ N ∧ i = .int .i64 (k : Int) ∧ Hid (RQ wr p (fun k => k < w1.heap.size) (fillS N k)) ∧ Hid (Below w.heap.size w wr)) (fun i _ _ _ => N - (intOf i).toNat)
  case atStart => exact ⟨0, Nat.zero_le _, rfl, R0, B0⟩
  case round =>
    obtain ⟨m, hm, rfl, HR, HB⟩ := hrel
    clear R0 B0
    by_cases hlt : m < N
    · have HP := Lib.hid (put_to wr HR.out (fill_put hlt))
      simp only [noOu] at HP
      go_wp2_with fail
      refine HP.out.mono ?_
      rintro e w3 ⟨rfl, r3, k3⟩
      have HR3 := Lib.hid (r3.below ((Below.refl _ _).alloc (Nat.le_refl _) (.cells #[.int .i64 0, .int .i64 0, .bool false] 57)))
      have HB3 := Lib.hid ((HB.out.trans (k3.below (fun k h => by have := HW1.out; omega))).alloc (Nat.le_trans HB.out.size k3.size) (.cells #[.int .i64 0, .int .i64 0, .bool false] 57))
      clear HP r3 k3
      go_wp2
      go_roundw
      case rel => exact ⟨m + 1, by omega, by go_num, HR3, HB3⟩
      case measure => simp [intOf]; omega
    · obtain rfl : N = m := by omega
      have R1 : Hid (RQ wr p (fun k => k < w1.heap.size) (roomS N (fun j => j) 0)) := fill_room N ▸ HR.out
      clear HR hlt hm
      go_wp2
      go_loopw [11, 12, 13, 14] (fun i _ _ _ wr => ∃ (k : Nat) (v : Nat → Int), k ≤ 64 ∧ k ≤ n ∧ i = .int .i64 (k : Int) ∧ Hid (RQ wr p (fun k => k < w1.heap.size) (roomS N v 0)) ∧ Hid (Below w.heap.size w wr)) (fun i _ _ _ _ => 64 - (intOf i).toNat)
      case atStart => exact ⟨0, _, Nat.zero_le _, Nat.zero_le _, rfl, R1, HB⟩
      case round =>
        obtain ⟨m, v, hm, hmn, rfl, HR, HB2⟩ := hrel
        clear R1 HB
        rcases (show (m < n ∧ m < 64) ∨ (m < n ∧ m = 64) ∨ m = n by omega) with ⟨hlt, hlt2⟩ | ⟨hlt, h⟩ | h
        · obtain ⟨b, off, z, rfl, -, hz, hc, z1, z2⟩ := (HI.out.below HB2.out).at_ hlt
          obtain ⟨K, hKe, hK⟩ := cut_of z N (by omega) (by omega)
          have hK2 : K < N := by omega
          have HKE := Lib.hid hKe
          have HP := Lib.hid (put_to wr HR.out (room_put (v := v) (q := 0) hK2 (-(K : Int))))
          simp only [noOu] at HP
          have HNEG := Lib.hid (show wrap64 (-(K : Int)) = -(K : Int) by unfold wrap64; omega)
          clear hz hKe hK
          go_wp2_with fail
          rw [HKE.out, HNEG.out]
          refine HP.out.mono ?_
          rintro e w3 ⟨rfl, r3, k3⟩
          have r4 := r3.alloc (.cells #[.int .i64 0, .int .i64 0, .bool false] 57)
          have o4 := Blk.new w3 57 #[.int .i64 0, .int .i64 0, .bool false]
          have HB4 := Lib.hid ((HB2.out.trans (k3.below (fun k h => by have := HW1.out; omega))).alloc (Nat.le_trans HB2.out.size k3.size) (.cells #[.int .i64 0, .int .i64 0, .bool false] 57))
          have q2 := o4.cell 2
          clear HP r3 k3 HKE HNEG hc HR HB2
          go_wp2_with fail
          generalize hGen : w3.alloc (.cells #[.int .i64 0, .int .i64 0, .bool false] 57) = w4 at r4 o4 HB4 q2 ⊢
          clear hGen
          refine (len_to w4 r4 room_len).mono ?_
          rintro e w5 ⟨rfl, b5⟩
          have HR5 := Lib.hid ((r4.below b5).mono (fun k (h : k < w1.heap.size) => Or.inl h))
          have HB5 := Lib.hid (HB4.out.trans (b5.mono HB4.out.size))
          clear r4 o4 HB4 q2 b5
          go_wp2
          go_roundw
          case rel => exact ⟨m + 1, _, by omega, by omega, by go_num, HR5, HB5⟩
          case measure => simp [intOf]; omega
        all_goals
          first | (have h9 : ¬ m < n := by omega) | (have h9 : ¬ m < 64 := by omega)
          have hqN : IntKind.u64.wrap ((N : Int) + 1) = (N : Int) + 1 := by rw [IntKind.wrap_u64]; omega
          clear h
          go_wp2
          try rw [HQE.out]
          go_loopw [15] (fun i wr => ∃ (k : Nat), k ≤ q ∧ i = .int .i64 (k : Int) ∧ Hid (RQ wr p (fun k => k < w1.heap.size) (roomS N v k)) ∧ Hid (Below w.heap.size w wr)) (fun i _ => q - (intOf i).toNat)
          case atStart => exact ⟨0, Nat.zero_le _, rfl, HR, HB2⟩
          case round =>
            obtain ⟨m3, hm3, rfl, HR3, HB3⟩ := hrel
            clear HR HB2
            by_cases hlt3 : m3 < q
            · have HP := Lib.hid (pin_to wr HR3.out room_low (room_pin (v := v) (N := N) (q := m3) (by omega)))
              go_wp2_with fail
              refine HP.out.mono ?_
              rintro e w3 ⟨rfl, r3, k3⟩
              have HS := Lib.hid (pins_to w3 r3 (room_pins (v := v) (N := N) (q := m3) (by omega)))
              have HB4 := Lib.hid (HB3.out.trans (k3.below (fun k h => by have := HW1.out; omega)))
              have HR4 := Lib.hid r3
              clear r3 k3 HP HR3 HB3
              go_wp2_with fail
              refine HS.out.mono ?_
              rintro e w4 ⟨rfl, b4⟩
              have HR5 := Lib.hid (HR4.out.below b4)
              have HB5 := Lib.hid (HB4.out.trans (b4.mono HB4.out.size))
              clear b4 HS HR4 HB4
              go_wp2
              go_roundw
              case rel => exact ⟨m3 + 1, by omega, by go_num, HR5, HB5⟩
              case measure => simp [intOf]; omega
            · obtain rfl : q = m3 := by omega
              by_cases hqn : q = N
              · subst hqn
                have HP := Lib.hid (put_to _ HR3.out (room_full hn2))
                simp only [noOu] at HP
                go_wp2_with fail
                refine HP.out.mono ?_
                rintro e w3 ⟨rfl, r3, k3⟩
                have r4 := r3.alloc (.cells #[.int .i64 0, .int .i64 0, .bool false] 57)
                have o4 := Blk.new w3 57 #[.int .i64 0, .int .i64 0, .bool false]
                have HB4 := Lib.hid ((HB3.out.trans (k3.below (fun k h => by have := HW1.out; omega))).alloc (Nat.le_trans HB3.out.size k3.size) (.cells #[.int .i64 0, .int .i64 0, .bool false] 57))
                have q2 := o4.cell 2
                clear HP r3 k3 HR3 HB3
                go_wp2_with fail
                generalize hGen : w3.alloc (.cells #[.int .i64 0, .int .i64 0, .bool false] 57) = w4 at r4 o4 HB4 q2 ⊢
                clear hGen
                refine (len_to w4 r4 room_len).mono ?_
                rintro e w5 ⟨rfl, b5⟩
                have HB5 := Lib.hid (HB4.out.trans (b5.mono HB4.out.size))
                clear r4 o4 HB4 q2 b5
                go_wp2
                go_ret
                exact ⟨ret_bool' (by simp), HB5.out⟩
              · obtain ⟨i, x, S2, e1, i1, i2, e2, e3, e4⟩ := room_last (v := v) hn1 hn2 (show q < N by omega)
                have hqn2 : ((q : Int) == (N : Int)) = false := by rw [beq_eq_false_iff_ne]; omega
                have HP := Lib.hid (put_to _ HR3.out e1)
                have E2 := Lib.hid e2
                have E3 := Lib.hid e3
                have E4 := Lib.hid e4
                clear e1 e2 e3 e4
                go_wp2_with fail
                refine HP.out.mono ?_
                rintro e w3 ⟨rfl, r3, k3⟩
                have r4 := r3.alloc (.cells #[.int .i64 (i : Int), .int .i64 x, .bool true] 57)
                have o4 := Blk.new w3 57 #[.int .i64 (i : Int), .int .i64 x, .bool true]
                have HB4 := Lib.hid ((HB3.out.trans (k3.below (fun k h => by have := HW1.out; omega))).alloc (Nat.le_trans HB3.out.size k3.size) (.cells #[.int .i64 (i : Int), .int .i64 x, .bool true] 57))
                have q0 := o4.cell 0
                have q2 := o4.cell 2
                clear HP r3 k3 HR3 HB3
                go_wp2_with fail
                generalize hGen : w3.alloc (.cells #[.int .i64 (i : Int), .int .i64 x, .bool true] 57) = w4 at r4 o4 HB4 q0 q2 ⊢
                clear hGen
                refine (get_to w4 r4 E2.out).mono ?_
                rintro e w5 ⟨rfl, r5, k5⟩
                have o5 := k5.blk o4 (.inr rfl)
                have HB5 := Lib.hid (HB4.out.trans (k5.below (fun k h => by have := HW1.out; omega)))
                have q0 := o5.cell 0
                have q2 := o5.cell 2
                have HL := Lib.hid (len_to w5 r5 E3.out)
                have R5 := Lib.hid r5
                clear r4 o4 o5 HB4 k5 r5
                go_wp2_with fail
                refine HL.out.mono ?_
                rintro e w6 ⟨rfl, b6⟩
                have HS := Lib.hid (pins_to w6 (R5.out.below b6) E4.out)
                have HB6 := Lib.hid (HB5.out.trans (b6.mono HB5.out.size))
                clear b6 HL R5
                go_wp2_with fail
                refine HS.out.mono ?_
                rintro e w7 ⟨rfl, b7⟩
                have HB7 := Lib.hid (HB6.out.trans (b7.mono HB6.out.size))
                clear b7
                go_wp2
                go_ret
                exact ⟨ret_bool' (by simp), HB7.out⟩
end Go.Proofs.Ytdpaeffhddehaaa.RingI
