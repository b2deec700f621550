/- The walk of the statement SlabVacant. -/
import Derived.Test.YtnhdeebhkiemgaaSlabVacantMath
import Derived.Test.YtnhdeebhkiemgaaSlabKeepsWalk
namespace Go.Proofs.Ytnhdeebhkiemgaa.Slab
open Go.RowKit Go.Sort

set_option maxRecDepth 100000 in
set_option maxHeartbeats 8000000 in
theorem vacant_walk (lsn : Int) (a : Option Addr) (n c : Nat) (zs : List Slot) (num : Int) (w : World) (hl : -9223372036854775808 ≤ lsn ∧ lsn ≤ 9223372036854775807) (h : Slots w a n zs) (_hm : -9223372036854775808 ≤ num ∧ num ≤ 9223372036854775807) :
    Calls Try.prog 8 #[.agg #[.int .i64 lsn, .slice a n c], .int .i64 num] w fun e w' => e = .returned (.bool true) ∧ Below w.heap.size w w' := by
  have H0 := (Hold.nil (Below.refl w.heap.size w)).box2 (.int .i64 lsn) (.slice a n c) 24
  have HO := Lib.hid h
  have HL := Lib.hid hl
  clear h hl
  go_enter Try.func8, Try.ntmps8
  go_wp2_with fail
  generalize hGen : w.alloc (.cells #[.int .i64 lsn, .slice a n c] 24) = W at H0 ⊢
  clear hGen
  refine (awake_any _).mono ?_
  rintro e w1 ⟨rfl, b1⟩
  have H1 := H0.next b1
  obtain ⟨P0, P1⟩ := H1.get2
  clear H0 b1
  cases hgr : greatB zs with
  | true =>
    have HGR := Lib.hid hgr
    clear hgr
    go_wp2_with fail
    refine (great_any lsn a n c zs _ (HO.out.below H1.b)).mono ?_
    rw [HGR.out]
    rintro e w2 ⟨rfl, b2⟩
    go_wp2
    go_ret
    exact ⟨rfl, (H1.next b2).b⟩
  | false =>
    have hn : n ≤ 1000000 := by have := HO.out.len; simp [greatB] at hgr; omega
    have HGR := Lib.hid hgr
    clear hgr
    cases hg : goodB lsn zs with
    | false =>
      have HG := Lib.hid hg
      clear hg
      go_wp2_with fail
      refine (great_any lsn a n c zs _ (HO.out.below H1.b)).mono ?_
      rw [HGR.out]
      rintro e w2 ⟨rfl, b2⟩
      have H2 := H1.next b2
      obtain ⟨P0b, P1b⟩ := H2.get2
      clear P0 P1 b2 H1
      go_wp2_with fail
      refine (good_any lsn a n c zs _ (HO.out.below H2.b) (by omega)).mono ?_
      rw [HG.out]
      rintro e w3 ⟨rfl, b3⟩
      go_wp2
      go_ret
      exact ⟨rfl, (H2.next b3).b⟩
    | true =>
      have hn2 : n ≤ 32 := by have := HO.out.len; have h2 := (good_parts hg).2.2.1; omega
      have HG := Lib.hid hg
      clear hg
      go_wp2_with fail
      refine (great_any lsn a n c zs _ (HO.out.below H1.b)).mono ?_
      rw [HGR.out]
      rintro e w2 ⟨rfl, b2⟩
      have H2 := H1.next b2
      obtain ⟨P0b, P1b⟩ := H2.get2
      clear P0 P1 b2 H1
      go_wp2_with fail
      refine (good_any lsn a n c zs _ (HO.out.below H2.b) (by omega)).mono ?_
      rw [HG.out]
      rintro e w3 ⟨rfl, b3⟩
      have H3 := H2.next b3
      obtain ⟨P0c, P1c⟩ := H3.get2
      clear P0b P1b b3 H2
      by_cases hneg : num < 0
      · go_wp2
        go_ret
        exact ⟨rfl, H3.b⟩
      · by_cases hbig : 200 < num
        · go_wp2
          go_ret
          exact ⟨rfl, H3.b⟩
        · obtain ⟨m, rfl⟩ := Int.eq_ofNat_of_zero_le (show 0 ≤ num by omega)
          have hm : m ≤ 200 := by omega
          clear hneg hbig
          have hfd := run_used
          have hm1 : ((m : Int) < 0) = False := by simp
          have hm2 : ((200 : Int) < (m : Int)) = False := by simp; omega
          have hmk := run_made m (by omega)
          have hc1 : (convert 43 9 (.slice (some ⟨w3.heap.size, 0, none⟩) m m)).run Try.prog (w3.alloc (.cells (madeCells #[.int .u8 0] m) 5)) = .ok (.string (zstr m)) (w3.alloc (.cells (madeCells #[.int .u8 0] m) 5)) := run_conv0 m _ _ fun i hi => made_cell w3 m i hi _
          go_upto_region 6 with (fail)
          have H4 := (H3.alloc (.cells (madeCells #[.int .u8 0] m) 5)).box2 (.bool true) (.string (zstr m)) 36
          rw [World.size_alloc] at H4
          generalize hGen : (w3.alloc (.cells (madeCells #[.int .u8 0] m) 5)).alloc (.cells #[.bool true, .string (zstr m)] 36) = W4 at H4 ⊢
          clear hGen
          generalize hGen : w3.heap.size + 1 = gx at H4 ⊢
          clear hGen
          clear hmk hc1 P0c P1c H3 hm1 hm2
          obtain ⟨X0, X1, P0, P1⟩ := H4.get4
          by_cases hc : vacCode lsn zs (m : Int) = 0
          · obtain ⟨hv, hk, hu, hbefore, hput0⟩ := vac_room HG.out hm hc
            obtain ⟨k, hk0⟩ : ∃ k, k = vacS zs := ⟨_, rfl⟩
            rw [← hk0] at hv hk hu hbefore hput0
            clear hk0
            have HU := Lib.hid hu
            have HBE := Lib.hid hbefore
            have HP0 := Lib.hid hput0
            have HV := Lib.hid hv
            have HC := Lib.hid hc
            clear hu hbefore hput0 hv hc
            go_wp2_with fail
            refine (vac_any lsn a n c zs m _ (HO.out.below H4.b) hn).mono ?_
            rw [HC.out, HV.out]
            rintro e w5 ⟨rfl, b5⟩
            have H5 := H4.next b5
            clear X0 X1 P0 P1 b5 H4
            go_wp2
            go_loopw [11] (fun i wr => ∃ j : Nat, j ≤ k ∧ i = .int .i64 (j : Int) ∧ Below w5.heap.size w5 wr) (fun i _ => k - (intOf i).toNat)
            case atStart => exact ⟨0, by omega, rfl, Below.refl _ _⟩
            case round =>
              obtain ⟨j, hj, rfl, hbel⟩ := hrel
              have H6 := H5.next hbel
              obtain ⟨X0, X1, P0, P1⟩ := H6.get4
              by_cases hlt : j < k
              · have hjl : (j : Int) < (k : Int) := by omega
                obtain ⟨xd, hx⟩ : ∃ xd, atL lsn zs (j : Int) = ⟨true, xd⟩ := ⟨(atL lsn zs (j : Int)).d, by have := HBE.out j hlt; rw [← this]⟩
                have HX := Lib.hid hx
                clear hx
                go_wp2_with fail
                have hp := at_any lsn a n c zs (j : Int) wr (HO.out.below H6.b) (by omega)
                rw [HX.out] at hp
                simp only [slotV] at hp
                refine hp.mono ?_
                clear hp
                rintro e w6 ⟨rfl, b6⟩
                go_wp2
                go_roundw
                case rel => exact ⟨j + 1, by omega, by go_num, hbel.trans (b6.mono hbel.size)⟩
                case measure => simp [intOf]; omega
              · obtain rfl : j = k := by omega
                go_wp2_with fail
                refine (put_any lsn a n c zs (j : Int) true (zstr m) _ (HO.out.below H6.b) hn (by rw [zstr_size]; omega)).mono ?_
                have hat := at_put HP0.out j
                rw [if_pos rfl, Int.toNat_natCast] at hat
                have hN : putN lsn zs (j : Int) ⟨true, zstr m⟩ = lsn := by unfold putN; rw [if_pos HP0.out]
                have hZ : putZ lsn zs (j : Int) ⟨true, zstr m⟩ = putL zs j ⟨true, zstr m⟩ := by unfold putZ; rw [if_pos HP0.out, Int.toNat_natCast]
                have hQg := put_good HP0.out
                rw [Int.toNat_natCast] at hQg
                rw [hN, hZ, HP0.out]
                generalize putL zs j ⟨true, zstr m⟩ = Q at hat hQg ⊢
                have HAT := Lib.hid hat
                have HQG := Lib.hid hQg
                clear hat hQg hN hZ
                rintro e w6 ⟨a4, n4, c4, rfl, s4, b4, f4⟩
                have hn4 : n4 ≤ 32 := by have := s4.len; have h2 := (good_parts HQG.out).2.2.1; omega
                have H7 := (H6.next b4).box2 (.int .i64 lsn) (.slice a4 n4 c4) 24
                have S4 := Lib.hid (s4.below ((Below.refl _ _).alloc (Nat.le_refl _) (.cells #[.int .i64 lsn, .slice a4 n4 c4] 24)))
                clear s4 f4 X0 X1 P0 P1
                go_upto_region 21 with (fail)
                generalize hGen : w6.alloc (.cells #[.int .i64 lsn, .slice a4 n4 c4] 24) = W7 at H7 S4 ⊢
                clear hGen
                generalize hGen : w6.heap.size = gq at H7 ⊢
                clear hGen
                obtain ⟨Q0, Q1, X0, X1, P0, P1⟩ := H7.get6
                have kQ0 := cell_regrown Q0
                have kQ1 := cell_regrown Q1
                have kX0 := cell_regrown X0
                have kX1 := cell_regrown X1
                have kP0 := cell_regrown P0
                have kP1 := cell_regrown P1
                obtain ⟨xd, hx⟩ : ∃ xd, atL lsn zs (j : Int) = ⟨false, xd⟩ := ⟨(atL lsn zs (j : Int)).d, by have := HU.out; rw [← this]⟩
                have cP : ∀ dd os, Calls Try.prog 23 #[.agg #[.int .i64 lsn, .slice a n c], .int .i64 (j : Int)] (grow (redrawn W7 dd) os) fun e w'' => e = .returned (.agg #[.bool false, .string xd]) ∧ ∃ p : Regrown, w'' = grow (redrawn W7 p.d) p.os := fun dd os => Calls.regrown_of (by
                  have := at_any lsn a n c zs (j : Int) _ ((HO.out.below H7.b).below (below_regrown W7 dd os)) (by omega)
                  rw [hx] at this
                  exact this)
                have cQ : ∀ dd os, Calls Try.prog 23 #[.agg #[.int .i64 lsn, .slice a4 n4 c4], .int .i64 (j : Int)] (grow (redrawn W7 dd) os) fun e w'' => e = .returned (.agg #[.bool true, .string (zstr m)]) ∧ ∃ p : Regrown, w'' = grow (redrawn W7 p.d) p.os := fun dd os => Calls.regrown_of (by
                  have := at_any lsn a4 n4 c4 Q (j : Int) _ (S4.out.below (below_regrown W7 dd os)) (by omega)
                  rw [HAT.out] at this
                  exact this)
                have he := run_eq_slot true true (zstr m) (zstr m)
                rw [sameB_refl] at he
                have hgd := run_guard_slot
                refine wp_region_quiet_below (by kernel_rfl) (by kernel_rfl) ?_
                repeat (go_big_quiet_step (first | (with_reducible exact cP _ _) | (with_reducible exact cQ _ _)))
                refine wpQuiet_nil ?_
                intro _ hw'
                obtain ⟨⟨dq, osq⟩, hw''⟩ := hw'
                subst hw''
                have b8 := below_regrown W7 dq osq
                generalize grow (redrawn W7 dq) osq = W8 at b8 ⊢
                clear cP cQ he hgd kQ0 kQ1 kX0 kX1 kP0 kP1 hx
                go_wp2
                go_ret
                exact ⟨rfl, (H7.next b8).b⟩
          · obtain ⟨hc22, hall⟩ := vac_full HG.out hm hc
            have HALL := Lib.hid hall
            have HC := Lib.hid hc22
            clear hall hc22 hc
            go_wp2_with fail
            refine (vac_any lsn a n c zs m _ (HO.out.below H4.b) hn).mono ?_
            rw [HC.out]
            generalize vacV lsn zs (m : Int) = v
            rintro e w5 ⟨rfl, b5⟩
            have H5 := H4.next b5
            clear X0 X1 P0 P1 b5 H4
            go_wp2
            go_loopw [8] (fun i wr => ∃ k : Nat, k ≤ 32 ∧ i = .int .i64 (k : Int) ∧ Below w5.heap.size w5 wr) (fun i _ => 32 - (intOf i).toNat)
            case atStart => exact ⟨0, by omega, rfl, Below.refl _ _⟩
            case round =>
              obtain ⟨k, hk, rfl, hbel⟩ := hrel
              have H6 := H5.next hbel
              obtain ⟨X0, X1, P0, P1⟩ := H6.get4
              by_cases hlt : k < 32
              · have hput := put_any lsn a n c zs (k : Int) true (zstr m) wr (HO.out.below H6.b) hn (by rw [zstr_size]; omega)
                have hal := HALL.out k hlt
                obtain ⟨xu, xd, hx⟩ : ∃ xu xd, atL lsn zs (k : Int) = ⟨xu, xd⟩ := ⟨_, _, rfl⟩
                rw [hx] at hal
                generalize putCode lsn zs (k : Int) ⟨true, zstr m⟩ = cd at hput hal
                generalize putN lsn zs (k : Int) ⟨true, zstr m⟩ = N at hput
                generalize putZ lsn zs (k : Int) ⟨true, zstr m⟩ = Z at hput
                have HX := Lib.hid hx
                have HP := Lib.hid hput
                have HAL := Lib.hid hal
                clear hx hput hal
                go_wp2_with fail
                refine HP.out.mono ?_
                rintro e w6 ⟨a4, n4, c4, rfl, s4, b4, f4⟩
                have H7 := (H6.next b4).alloc (.cells #[.int .i64 N, .slice a4 n4 c4] 24)
                have b7 := Below.alloc b4 b4.size (.cells #[.int .i64 N, .slice a4 n4 c4] 24)
                clear s4 f4 X0 X1 P0 P1 b4
                go_upto_region 12 with (fail)
                generalize hGen : w6.alloc (.cells #[.int .i64 N, .slice a4 n4 c4] 24) = W7 at H7 b7 ⊢
                clear hGen
                generalize hGen : w6.heap.size = gq at H7 ⊢
                clear hGen
                obtain ⟨X0, X1, P0, P1⟩ := H7.get4
                cases xu with
                | true =>
                  go_wp2_with fail
                  have hp := at_any lsn a n c zs (k : Int) _ (HO.out.below H7.b) (by omega)
                  rw [HX.out] at hp
                  simp only [slotV] at hp
                  refine hp.mono ?_
                  clear hp
                  rintro e w8 ⟨rfl, b8⟩
                  go_wp2
                  go_roundw
                  case rel => exact ⟨k + 1, by omega, by go_num, hbel.trans ((b7.trans (b8.mono b7.size)).mono hbel.size)⟩
                  case measure => simp [intOf]; omega
                | false =>
                  have hcd : cd = 22 := HAL.out rfl
                  subst hcd
                  go_wp2_with fail
                  have hp := at_any lsn a n c zs (k : Int) _ (HO.out.below H7.b) (by omega)
                  rw [HX.out] at hp
                  simp only [slotV] at hp
                  refine hp.mono ?_
                  clear hp
                  rintro e w8 ⟨rfl, b8⟩
                  go_wp2
                  go_roundw
                  case rel => exact ⟨k + 1, by omega, by go_num, hbel.trans ((b7.trans (b8.mono b7.size)).mono hbel.size)⟩
                  case measure => simp [intOf]; omega
              · obtain rfl : k = 32 := by omega
                go_wp2
                go_ret
                exact ⟨rfl, H6.b⟩
end Go.Proofs.Ytnhdeebhkiemgaa.Slab
