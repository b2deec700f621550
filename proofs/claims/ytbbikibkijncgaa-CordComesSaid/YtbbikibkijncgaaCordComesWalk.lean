/- The walk of the statement CordComes. -/
import Derived.Test.YtbbikibkijncgaaCordTalked
import Derived.Test.YtbbikibkijncgaaCordComesMath
namespace Go.Proofs.Ytbbikibkijncgaa.Cord
set_option maxRecDepth 100000
open Go.RowKit Go.Sort
open Go.Proofs.Ytbbikibkijncgaa.Mem
set_option maxRecDepth 100000 in
set_option maxHeartbeats 8000000 in
theorem comes_walk (ep : Int) (a : Option Addr) (n c : Nat) (xs : List Ev) (w : World) (_he : -9223372036854775808 ≤ ep ∧ ep ≤ 9223372036854775807) (hI : Evs w a n xs) :
    Calls Try.prog 5 #[.int .i64 ep, .slice a n c] w fun e w' => e = .returned (.bool true) ∧ Below w.heap.size w w' := by
  have HI := Lib.hid hI
  clear hI
  obtain ⟨K, hKe, hK⟩ := cut_of ep 1000 (by omega) (by omega)
  have hw1 : IntKind.i64.wrap (1 + (K : Int)) = 1 + (K : Int) := by rw [IntKind.wrap_i64]; omega
  go_enter Try.func5, Try.ntmps5
  go_wp2_with fail
  refine (awake_any w).mono ?_
  rintro e w1 ⟨rfl, b1⟩
  have HB1 : Hid (Below w.heap.size w w1 ∧ ∀ j, j < 0 → (xs.getD j noEv).text.size ≤ 1024) := Lib.hid ⟨b1, fun j h => absurd h (Nat.not_lt_zero _)⟩
  clear b1
  go_wp2_with fail
  go_loopw [5] (fun i wr => ∃ k : Nat, k ≤ n ∧ k ≤ 120 ∧ i = .int .i64 (k : Int) ∧ Hid (Below w.heap.size w wr ∧ ∀ j, j < k → (xs.getD j noEv).text.size ≤ 1024)) (fun i _ => 120 - (intOf i).toNat)
  case atStart => exact ⟨0, Nat.zero_le _, Nat.zero_le _, rfl, HB1⟩
  case round =>
    obtain ⟨k, hkn, hk, rfl, HK⟩ := hrel
    clear HB1
    by_cases hlt : k < n ∧ k < 120
    · obtain ⟨h1, h2⟩ := hlt
      have h1i : (k : Int) < 120 := by omega
      have h1d : decide ((k : Int) < 120) = true := decide_eq_true h1i
      obtain ⟨bz, off, x, rfl, hbz, hxe, hx, hg⟩ := HI.out.at_ h1
      obtain ⟨zk, zn, zt⟩ := x
      obtain ⟨_, _, x2⟩ := hx
      simp only at x2
      have x2 := (HK.out.1.cell (p := ⟨bz, off + k * 3 + 1 + 1, none⟩) hbz).trans x2
      have g5 : zt.size ≤ 140737488351232 := hg.2.2.2.2
      clear hg
      by_cases hz : zt.size ≤ 1024
      · have hzi : ¬ (1024 : Int) < (zt.size : Int) := by omega
        have HK2 : Hid (Below w.heap.size w wr ∧ ∀ j, j < k + 1 → (xs.getD j noEv).text.size ≤ 1024) := Lib.hid ⟨HK.out.1, fun j hj => by
          rcases Nat.lt_succ_iff_lt_or_eq.1 hj with h | rfl
          · exact HK.out.2 j h
          · rw [hxe]; exact hz⟩
        clear HK hxe
        go_wp2_with fail
        go_roundw
        case rel => exact ⟨k + 1, by omega, by omega, by go_num, HK2⟩
        case measure => simp [intOf]; omega
      · have hzi : (1024 : Int) < (zt.size : Int) := by omega
        have HB := Lib.hid HK.out.1
        clear HK hxe HI
        go_wp2_with fail
        go_ret
        exact ⟨rfl, HB.out⟩
    · have HT : Hid (Calls Try.prog 23 #[.int .i64 (1 + (K : Int)), .slice a n c] wr fun r w' => ∃ W0 tp pa pb t, r = .returned (.tuple #[.pointer (some ⟨tp, 0, none⟩), .bool true]) ∧ Below w.heap.size w W0 ∧ Big W0 tp pa pb (1 + (K : Int)) 0 t w') := Lib.hid
        ((talked_any (1 + (K : Int)) a n c xs wr (HI.out.below HK.out.1) ⟨by omega, by omega⟩ (fun j h1 h2 => HK.out.2 j (by omega))).mono fun r w' ⟨tp, pa, pb, V, t, hr, hq, hv, hl⟩ => ⟨wr, tp, pa, pb, t, hr, HK.out.1, big_start hq hv hl⟩)
      clear HK HI
      have h1i : ¬ (k : Int) < (n : Int) ∨ ((k : Int) < (n : Int) ∧ ¬ (k : Int) < 120) := by omega
      rcases h1i with h1i | ⟨h0i, h1i⟩
      all_goals
        go_wp2_with fail
        refine HT.out.mono ?_
        rintro r w2 ⟨W0, tp, pa, pb, t0, rfl, hbw, hbig⟩
        have HB0 := Lib.hid hbig
        have HBW := Lib.hid hbw
        clear hbig hbw HT h1i
        go_wp2_with fail
        go_loopw [8] (fun i wx => ∃ (r : Nat) (t : TS), r ≤ 6 ∧ i = .int .i64 (r : Int) ∧ Hid (Big W0 tp pa pb (1 + (K : Int)) r t wx)) (fun i _ => 6 - (intOf i).toNat)
        case atStart => exact ⟨0, t0, by omega, rfl, HB0⟩
        case round =>
          obtain ⟨r, t, hr, rfl, HB⟩ := hrel
          clear HB0
          by_cases hr6 : r < 6
          · have hri : (r : Int) < 6 := by omega
            obtain ⟨fi, hfi⟩ : ∃ fi, fi = decide (r % 2 = 0) := ⟨_, rfl⟩
            have hre : ((r : Int) % 2 == 0) = fi := by
              rw [hfi]
              by_cases h : r % 2 = 0
              · rw [decide_eq_true h, beq_iff_eq]; omega
              · rw [decide_eq_false h, beq_eq_false_iff_ne]; omega
            have HFI := Lib.hid hfi
            clear hfi
            obtain ⟨m, hm⟩ : ∃ m, (sendsL t fi).length = m := ⟨_, rfl⟩
            have hs := HB.out.sends hr6 fi
            rw [hm] at hs
            have HS := Lib.hid hs
            clear hs
            have HE : Hid (Inv (1 + (K : Int)) t ∧ Stage r t ∧ Small t r) := Lib.hid HB.out.2
            clear HB
            have hm33 : m ≤ 33 := by rw [← hm]; exact sendsL_len HE.out.1 fi
            go_wp2_with fail
            refine HS.out.mono ?_
            rintro e w3 ⟨v, q, rfl, hmid⟩
            have HM := Lib.hid hmid
            clear hmid HS
            go_wp2_with fail
            go_loopw [10] (fun i wx => ∃ j : Nat, j ≤ m ∧ i = .int .i64 (j : Int) ∧ Hid (Mid W0 tp pa pb (1 + (K : Int)) fi t v q r j wx)) (fun i _ => m - (intOf i).toNat)
            case atStart => exact ⟨0, Nat.zero_le _, rfl, HM⟩
            case round =>
              obtain ⟨j, hj, rfl, HJ⟩ := hrel
              clear HM
              by_cases hjm : j < m
              · obtain ⟨g, x, hv, m0, m1, m2, m3, m4, m5, m6, hcm⟩ := HJ.out.next HE.out.2.2 hr6 HE.out.1 (by omega)
                subst hv
                have HC := Lib.hid (hcm _ (Below.refl _ _))
                clear hcm HJ
                unfold sentA at HC
                go_wp2_with fail
                refine HC.out.mono ?_
                rintro e w5 ⟨rfl, h5⟩
                have HM5 := Lib.hid h5
                clear h5 HC m0 m1 m2 m3 m4 m5 m6
                go_wp2_with fail
                go_roundw
                case rel => exact ⟨j + 1, by omega, by go_num, HM5⟩
                case measure => simp [intOf]; omega
              · obtain rfl : j = m := by omega
                subst hm
                obtain ⟨u, hu⟩ := HJ.out.end_ HE.out.2.2 hr6 HFI.out HE.out.1 HE.out.2.1
                have HU := Lib.hid hu
                clear hu HJ HE
                go_wp2_with fail
                go_roundw
                case rel => exact ⟨r + 1, u, by omega, by go_num, HU⟩
                case measure => simp [intOf]; omega
          · obtain rfl : r = 6 := by omega
            obtain ⟨a0, c0, a1, c1, a2, c2, a3, c3, d0, d1, d2, d3, d4, d5, hc⟩ := HB.out.ends
            have HBB : Hid (Below w.heap.size w wr) := Lib.hid (HBW.out.trans (HB.out.bel.mono HBW.out.size))
            have HC := Lib.hid hc
            clear hc HB HBW
            go_wp2_with fail
            have q0 := cell_regrown d0
            have q1 := cell_regrown d1
            have q2 := cell_regrown d2
            have q3 := cell_regrown d3
            have q4 := cell_regrown d4
            have q5 := cell_regrown d5
            have k0 : ∀ dd os, Calls Try.prog 19 #[.slice a2 t.tA.length c2, .slice a0 t.tA.length c0] (grow (redrawn wr dd) os) fun e w'' => e = .returned (.bool true) ∧ ∃ p : Regrown, w'' = grow (redrawn wr p.d) p.os := fun dd os => Calls.regrown_of (HC.out _ (below_regrown wr dd os)).1
            have k1 : ∀ dd os, Calls Try.prog 19 #[.slice a3 t.tB.length c3, .slice a1 t.tB.length c1] (grow (redrawn wr dd) os) fun e w'' => e = .returned (.bool true) ∧ ∃ p : Regrown, w'' = grow (redrawn wr p.d) p.os := fun dd os => Calls.regrown_of (HC.out _ (below_regrown wr dd os)).2.1
            have k2 : ∀ dd os, Calls Try.prog 20 #[.pointer (some ⟨pa, 0, none⟩)] (grow (redrawn wr dd) os) fun e w'' => e = .returned (.int .i64 0) ∧ ∃ p : Regrown, w'' = grow (redrawn wr p.d) p.os := fun dd os => Calls.regrown_of (HC.out _ (below_regrown wr dd os)).2.2.1
            have k3 : ∀ dd os, Calls Try.prog 20 #[.pointer (some ⟨pb, 0, none⟩)] (grow (redrawn wr dd) os) fun e w'' => e = .returned (.int .i64 0) ∧ ∃ p : Regrown, w'' = grow (redrawn wr p.d) p.os := fun dd os => Calls.regrown_of (HC.out _ (below_regrown wr dd os)).2.2.2.1
            have k4 : ∀ dd os, Calls Try.prog 13 #[.pointer (some ⟨pa, 0, none⟩)] (grow (redrawn wr dd) os) fun e w'' => e = .returned (.bool false) ∧ ∃ p : Regrown, w'' = grow (redrawn wr p.d) p.os := fun dd os => Calls.regrown_of (HC.out _ (below_regrown wr dd os)).2.2.2.2.1
            have k5 : ∀ dd os, Calls Try.prog 13 #[.pointer (some ⟨pb, 0, none⟩)] (grow (redrawn wr dd) os) fun e w'' => e = .returned (.bool false) ∧ ∃ p : Regrown, w'' = grow (redrawn wr p.d) p.os := fun dd os => Calls.regrown_of (HC.out _ (below_regrown wr dd os)).2.2.2.2.2
            refine wp_region_quiet_below (by kernel_rfl) (by kernel_rfl) ?_
            repeat (go_big_quiet_step (first | (with_reducible exact k0 _ _) | (with_reducible exact k1 _ _) | (with_reducible exact k2 _ _) | (with_reducible exact k3 _ _) | (with_reducible exact k4 _ _) | (with_reducible exact k5 _ _)))
            refine wpQuiet_nil ?_
            intro _ hw'
            obtain ⟨⟨dq, osq⟩, hw''⟩ := hw'
            subst hw''
            have b5 := below_regrown wr dq osq
            generalize grow (redrawn wr dq) osq = W5 at b5 ⊢
            have HB5 : Hid (Below w.heap.size w W5) := Lib.hid (HBB.out.trans (b5.mono HBB.out.size))
            clear b5 q0 q1 q2 q3 q4 q5 k0 k1 k2 k3 k4 k5 HC HBB d0 d1 d2 d3 d4 d5
            go_wp2
            go_ret
            exact ⟨rfl, HB5.out⟩
end Go.Proofs.Ytbbikibkijncgaa.Cord
