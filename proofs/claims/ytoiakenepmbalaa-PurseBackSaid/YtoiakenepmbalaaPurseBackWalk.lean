/- The walk of the statement PurseBack. -/
import Derived.Test.YtoiakenepmbalaaPursePlay
import Derived.Test.YtoiakenepmbalaaPurseIter
import Derived.StillTailTactics
import Derived.Deep.RegionHeld3
import Derived.Lib.QuietBelow
import Derived.Deep.CutBlock
import Derived.Deep.DeepCutAuto
namespace Go.Proofs.Ytoiakenepmbalaa.Purse
set_option maxRecDepth 100000
open Go.RowKit Go.Shelf
open Go.Proofs.Ytoiakenepmbalaa.Mem
set_option maxRecDepth 100000 in
set_option maxHeartbeats 8000000 in
theorem back_walk (a : Option Addr) (n c : Nat) (zs : List Act) (x : Act) (w : World) (hI : Acts w a n zs) (hx : ActGood x) :
    Calls Try.prog 5 #[.slice a n c, .agg #[.int .i64 x.kind, .int .i64 x.who, .int .i64 x.n, .int .i64 x.room]] w fun e w' => e = .returned (.bool true) ∧ Below w.heap.size w w' := by
  have HI := Lib.hid hI
  obtain ⟨xk, who, xn, room⟩ := x
  obtain ⟨g1, g2, g3, g4, g5, g6, g7, g8⟩ := hx
  simp only at g1 g2 g3 g4 g5 g6 g7 g8 ⊢
  have hX := Blk.new w 31 #[.int .i64 xk, .int .i64 who, .int .i64 xn, .int .i64 room]
  have hb0 := (Below.refl w.heap.size w).alloc (Nat.le_refl _) (.cells #[.int .i64 xk, .int .i64 who, .int .i64 xn, .int .i64 room] 31)
  clear hI
  go_enter Try.func5, Try.ntmps5
  go_wp2_with fail
  generalize hGen : w.alloc (.cells #[.int .i64 xk, .int .i64 who, .int .i64 xn, .int .i64 room] 31) = W0 at hX hb0 ⊢
  clear hGen
  refine (awake_any W0).mono ?_
  rintro e w1 ⟨rfl, b1⟩
  have hX1 := hX.below b1 hX.lt
  have B1 := Lib.hid (hb0.trans (b1.mono hb0.size))
  have x1 := hX1.cell 1
  have x2 := hX1.cell 2
  have x3 := hX1.cell 3
  clear hX b1 hb0
  go_wp2_with fail
  refine (new_any w1).mono ?_
  rintro e w2 ⟨rfl, h2, b2⟩
  have K0 : Hid (Played w w2 w1.heap.size 0) := ⟨[], h2.mono (fun k hk => by have := B1.out.size; omega), Nat.le_refl _⟩
  have B2 := Lib.hid (B1.out.trans (b2.mono B1.out.size))
  clear h2 b2 B1 x1 x2 x3 hX1
  generalize w1.heap.size = p at *
  go_wp2
  go_loopw [9] (fun i wr => ∃ k : Nat, k ≤ 200 ∧ k ≤ n ∧ i = .int .i64 (k : Int) ∧ Hid (Played w wr p k) ∧ Hid (Below w.heap.size w wr)) (fun i _ => 200 - (intOf i).toNat)
  case atStart => exact ⟨0, Nat.zero_le _, Nat.zero_le _, rfl, K0, B2⟩
  case round =>
    obtain ⟨m, hm, hmn, rfl, HK, HB⟩ := hrel
    clear K0 B2
    rcases (show (m < n ∧ m < 200) ∨ (m < n ∧ m = 200) ∨ m = n by omega) with ⟨hlt, hlt2⟩ | ⟨hlt, h⟩ | h
    · obtain ⟨L, r, hL⟩ := HK.out
      obtain ⟨b, off, z, rfl, -, hz, hc, hg⟩ := (HI.out.below HB.out).at_ hlt
      obtain ⟨zk, zw, zn, zr⟩ := z
      obtain ⟨c0, c1, c2, c3⟩ := hc
      obtain ⟨z1, z2, z3, z4, z5, z6, z7, z8⟩ := hg
      simp only at c0 c1 c2 c3 z1 z2 z3 z4 z5 z6 z7 z8
      have HR := Lib.hid r
      have HL := Lib.hid hL
      clear r hL hz HK
      by_cases hk : zk = 1
      · subst hk
        go_upto_region 11 with (fail)
        go_still_tail 16, (by kernel_rfl)
        change wpList _ _ _ _ _ wr.drew
        have HA := Lib.hid (ask_any p _ L zw zn zr wr.drew (HR.out.drewN 1) (by have := HL.out; omega) z8)
        have HB' : Hid (Below w.heap.size w wr.drew) := below_draw HB.out 1
        clear c0 c1 c2 c3 HR HB
        go_wp2_with fail
        refine HA.out.mono ?_
        rintro e w4 ⟨rfl, r4, k4⟩
        have K4 := Lib.hid (played_ask HL.out r4)
        have B4 := Lib.hid (HB'.out.trans (k4.below (fun _ h => h)))
        clear r4 k4 HA HB'
        go_wp2
        go_roundw
        case rel => exact ⟨m + 1, by omega, by omega, by go_num, K4, B4⟩
        case measure => simp [intOf]; omega
      · go_upto_region 12 with (fail)
        go_still_tail 11, (by kernel_rfl)
        change wpList _ _ _ _ _ wr.drew
        have HA := Lib.hid (take_any p _ L zw zn wr.drew (HR.out.drewN 1) (by have := HL.out; omega))
        have HB' : Hid (Below w.heap.size w wr.drew) := below_draw HB.out 1
        clear c0 c1 c2 c3 HR HB
        go_wp2_with fail
        refine HA.out.mono ?_
        rintro e w4 ⟨rfl, r4, k4⟩
        have K4 := Lib.hid (played_take HL.out r4)
        have B4 := Lib.hid (HB'.out.trans (k4.below (fun _ h => h)))
        clear r4 k4 HA HB'
        go_wp2
        go_roundw
        case rel => exact ⟨m + 1, by omega, by omega, by go_num, K4, B4⟩
        case measure => simp [intOf]; omega
    all_goals
      first | (have h9 : ¬ m < n := by omega) | (have h9 : ¬ m < 200 := by omega)
      clear h
      obtain ⟨L, r, hL⟩ := HK.out
      have hwf := r.wf
      have HLEN := Lib.hid hL
      have HWF := Lib.hid hwf
      have hs0 := total_nn L hwf.pos
      have hs1 := hwf.sum
      have ho0 := ofL_nn hwf.pos who
      have ho1 := ofL_total L who hwf.pos
      clear hwf hL HK
      have HR := Lib.hid r
      clear r
      go_wp2_with fail
      refine (sum_any p _ L wr HR.out).mono ?_
      rintro e w1 ⟨rfl, rfl⟩
      go_wp2_with fail
      refine (of_any p _ L who wr HR.out (by have := HLEN.out; omega)).mono ?_
      rintro e w2 ⟨rfl, b2⟩
      have R2 := Lib.hid (HR.out.below b2)
      have B2 := Lib.hid (HB.out.trans (b2.mono HB.out.size))
      clear b2 HR HB
      go_wp2_with fail
      refine (ask_any p _ L who xn room w2 R2.out (by have := HLEN.out; omega) g8).mono ?_
      rintro e w3 ⟨rfl, r3, k3⟩
      have B3 := Lib.hid (B2.out.trans (k3.below (fun _ h => h)))
      clear k3 B2 R2
      cases hb : askB L xn room with
      | false =>
        have e3 : askL L who xn room = L := by unfold askL; rw [hb]; rfl
        rw [e3] at r3
        have R3 := Lib.hid r3
        clear r3 e3
        go_wp2_with fail
        refine (sum_is R3.out (rfl : total L = total L)).mono ?_
        rintro e w5 ⟨rfl, rfl⟩
        go_wp2_with fail
        refine (of_is R3.out (by have := HLEN.out; omega) (rfl : ofL L who = ofL L who)).mono ?_
        rintro e w6 ⟨rfl, b6⟩
        have B6 := Lib.hid (B3.out.trans (b6.mono B3.out.size))
        clear b6 B3
        go_wp2_with fail
        refine (ask_nil _ _ _ _).mono ?_
        rintro e w7 ⟨rfl, rfl⟩
        go_wp2_with fail
        refine (take_nil _ _ _).mono ?_
        rintro e w8 ⟨rfl, rfl⟩
        go_wp2_with fail
        refine (sum_nil _).mono ?_
        rintro e w9 ⟨rfl, rfl⟩
        go_wp2_with fail
        refine (of_nil _ _).mono ?_
        rintro e w10 ⟨rfl, rfl⟩
        go_wp2
        go_ret
        exact ⟨rfl, B6.out⟩
      | true =>
        have hc := of_decide_eq_true hb
        have e3 : askL L who xn room = addL L who xn := by unfold askL; rw [hb]; rfl
        rw [e3] at r3
        have hlen := addL_len L who xn
        have hwf2 := r3.wf
        have hof := ofL_add HWF.out.srt who xn who
        rw [if_pos rfl] at hof
        have hto := total_add L who xn
        have htk : takeN (addL L who xn) who xn = xn := by
          unfold takeN
          rw [hof, if_neg (by omega), if_pos (by omega)]
        have htot := total_take (L := addL L who xn) who xn
        have hoft := of_take hwf2 who xn who
        rw [if_pos rfl, htk, hof, show ofL L who + xn - xn = ofL L who by omega] at hoft
        rw [htk, hto, show total L + xn - xn = total L by omega] at htot
        have htl := take_len (addL L who xn) who xn
        have HL2 := Lib.hid (show (addL L who xn).length ≤ 201 by have := HLEN.out; omega)
        have HL3 := Lib.hid (show (takeL (addL L who xn) who xn).length ≤ 201 by have := HLEN.out; omega)
        have hle := hwf2.sum
        rw [hto] at hle
        have hwo : IntKind.i64.wrap (ofL L who + xn - xn) = ofL L who := by rw [IntKind.wrap_i64]; omega
        have hwt : IntKind.i64.wrap (total L + xn - xn) = total L := by rw [IntKind.wrap_i64]; omega
        have hwr : IntKind.i64.wrap (room - xn) = room - xn := by rw [IntKind.wrap_i64]; omega
        have hrm : ¬ (room - xn < total L) := by omega
        have R3 := Lib.hid r3
        have HOF := Lib.hid hof
        have HTO := Lib.hid hto
        have HTK := Lib.hid htk
        have HTT := Lib.hid htot
        have HOT := Lib.hid hoft
        obtain ⟨o1, ho1e⟩ : ∃ o1, o1 = ofL L who + xn := ⟨_, rfl⟩
        obtain ⟨s1, hs1e⟩ : ∃ s1, s1 = total L + xn := ⟨_, rfl⟩
        rw [← ho1e] at hwo HOF
        rw [← hs1e] at hwt HTO
        clear r3 hlen hwf2 hof hto htk htot hoft htl hle hc e3 ho1e hs1e
        go_wp2_with fail
        refine (of_is R3.out (by have := HL2.out; omega) HOF.out).mono ?_
        rintro e w4 ⟨rfl, b4⟩
        have R4 := Lib.hid (R3.out.below b4)
        have B4 := Lib.hid (B3.out.trans (b4.mono B3.out.size))
        clear b4 R3 B3
        go_wp2_with fail
        refine (sum_is R4.out HTO.out).mono ?_
        rintro e w4 ⟨rfl, rfl⟩
        go_wp2_with fail
        refine (take_is R4.out (by have := HL2.out; omega) HTK.out rfl).mono ?_
        rintro e w5 ⟨rfl, r5, k5⟩
        have R5 := Lib.hid r5
        have B5 := Lib.hid (B4.out.trans (k5.below (fun _ h => h)))
        clear r5 k5 R4 B4
        go_wp2_with fail
        refine (sum_is R5.out HTT.out).mono ?_
        rintro e w5 ⟨rfl, rfl⟩
        go_wp2_with fail
        refine (of_is R5.out (by have := HL3.out; omega) HOT.out).mono ?_
        rintro e w6 ⟨rfl, b6⟩
        have B6 := Lib.hid (B5.out.trans (b6.mono B5.out.size))
        clear b6 B5
        go_wp2_with fail
        refine (ask_nil _ _ _ _).mono ?_
        rintro e w7 ⟨rfl, rfl⟩
        go_wp2_with fail
        refine (take_nil _ _ _).mono ?_
        rintro e w8 ⟨rfl, rfl⟩
        go_wp2_with fail
        refine (sum_nil _).mono ?_
        rintro e w9 ⟨rfl, rfl⟩
        go_wp2_with fail
        refine (of_nil _ _).mono ?_
        rintro e w10 ⟨rfl, rfl⟩
        go_wp2
        go_ret
        exact ⟨rfl, B6.out⟩
end Go.Proofs.Ytoiakenepmbalaa.Purse
