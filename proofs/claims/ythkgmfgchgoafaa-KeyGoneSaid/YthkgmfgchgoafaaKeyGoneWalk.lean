/- The walk of the statement KeyGone. -/
import Derived.Test.YthkgmfgchgoafaaKeyGoneMath
import Derived.Test.YthkgmfgchgoafaaKeyActs
namespace Go.Proofs.Ythkgmfgchgoafaa.Key
set_option maxRecDepth 100000
open Go.RowKit
open Go.Proofs.Ythkgmfgchgoafaa.Mem
open Go.Maps
theorem waits_nil (w : World) : Calls Try.prog 24 #[.pointer none] w fun e w' => e = .returned (.slice none 0 0) ∧ w = w' := by
  have hn := run_nilt w
  go_enter Try.func24, Try.ntmps24
  go_wp2
  go_ret
  exact ⟨rfl, rfl⟩
def Kg (w : World) (p k : Nat) (W : World) : Prop := ∃ S, S.said.length ≤ 40 * k ∧ TQ W p (fun k => k < w.heap.size) S ∧ Below w.heap.size w W
theorem Kg.below {w W W' : World} {p k : Nat} (h : Kg w p k W) (hb : Below W.heap.size W W') : Kg w p k W' := by
  obtain ⟨S, h1, h2, h3⟩ := h
  exact ⟨S, h1, h2.below hb, h3.trans (hb.mono h3.size)⟩
set_option maxRecDepth 100000 in
set_option maxHeartbeats 16000000 in
theorem gone_walk (a : Option Addr) (n cc : Nat) (zs : List Act) (cli : Int) (w : World) (hI : Acts w a n zs) (_hcl : -9223372036854775808 ≤ cli ∧ cli ≤ 9223372036854775807) :
    Calls Try.prog 6 #[.slice a n cc, .int .i64 cli] w fun e w' => e = .returned (.bool true) ∧ Below w.heap.size w w' := by
  have HI := Lib.hid hI
  clear hI
  obtain ⟨K, hKe, hK⟩ := cut_of cli 8 (by omega) (by omega)
  have hw64 : wrap64 (1 + (K : Int)) = 1 + (K : Int) := by unfold wrap64; omega
  have HKE := Lib.hid hKe
  have HW64 := Lib.hid hw64
  clear hKe hw64
  go_enter Try.func6, Try.ntmps6
  go_wp2_with fail
  refine (awake_any w).mono ?_
  rintro e w1 ⟨rfl, b1⟩
  have HB1 := Lib.hid b1
  clear b1
  go_upto_region 4 with (fail)
  rw [HKE.out, HW64.out]
  have hC8 : 1 ≤ 1 + (K : Int) ∧ 1 + (K : Int) ≤ 8 := by omega
  generalize (1 : Int) + (K : Int) = C at *
  clear HKE HW64 hK
  go_wp2_with fail
  refine (new_any w1).mono ?_
  rintro e w3 ⟨p, rfl, _, hn, b3⟩
  have ST : Hid (Kg w p 0 w3) := Lib.hid ⟨newK, Nat.le_refl _, hn.mono (fun k hk => Nat.lt_of_lt_of_le hk HB1.out.size), HB1.out.trans (b3.mono HB1.out.size)⟩
  clear hn b3 HB1
  go_wp2_with fail
  go_loopw [6] (fun ti wr => ∃ k : Nat, k ≤ 150 ∧ k ≤ n ∧ ti = .int .i64 (k : Int) ∧ Hid (Kg w p k wr)) (fun ti _ => 150 - (intOf ti).toNat)
  case atStart => exact ⟨0, Nat.zero_le _, Nat.zero_le _, rfl, ST⟩
  case round =>
    obtain ⟨k, hk, hkn, rfl, HK⟩ := hrel
    clear ST
    by_cases hin : k < n ∧ k < 150
    · obtain ⟨hlt, hlt2⟩ := hin
      obtain ⟨S, hC, hT, hB⟩ := HK.out
      obtain ⟨b, off, ⟨kd, cl, pg, xx⟩, rfl, -, hz, ⟨c0, c1, c2, c3⟩, hg⟩ := (HI.out.below hB).at_ hlt
      dsimp only at c0 c1 c2 c3
      have hcl : Sm cl := sm_of ⟨hg.2.2.1, hg.2.2.2.1⟩
      obtain ⟨P, hPe, hP⟩ := cut_of pg 8 (by omega) (by omega)
      have hsP : Sm (P : Int) := sm_of (by omega)
      have hbx := below_box wr (.cells #[.int .i64 kd, .int .i64 cl, .int .i64 pg, .bool xx] 45)
      have HT := Lib.hid (hT.below hbx)
      have HB := Lib.hid (hB.trans (hbx.mono hB.size))
      have HX := Lib.hid (Blk.new wr 45 #[.int .i64 kd, .int .i64 cl, .int .i64 pg, .bool xx])
      have HPE := Lib.hid hPe
      have hlen : S.said.length ≤ 3800000 := by omega
      clear hT hB hz hg hbx HK hPe
      go_upto_region 10 with (fail)
      rw [HPE.out]
      clear HPE c0 c1 c2 c3
      generalize wr.alloc (.cells #[.int .i64 kd, .int .i64 cl, .int .i64 pg, .bool xx] 45) = W1 at *
      generalize wr.heap.size = bx at *
      have x0 : W1.cell? ⟨bx, 0, none⟩ = some (.int .i64 kd) := HX.out.cell 0
      have x1 : W1.cell? ⟨bx, 1, none⟩ = some (.int .i64 cl) := HX.out.cell 1
      have x3 : W1.cell? ⟨bx, 3, none⟩ = some (.bool xx) := HX.out.cell 3
      by_cases k1 : kd = 1
      · subst k1
        have HF := Lib.hid (ask_any p _ S cl (P : Int) xx W1 HT.out hsP hcl (by omega))
        go_wp2_with fail
        refine HF.out.mono ?_
        rintro e W2 ⟨rfl, h2, k2⟩
        have FIN : Hid (Kg w p (k + 1) W2) := Lib.hid ⟨_, by have := ask_said HT.out.wf cl P xx; omega, h2, HB.out.trans (k2.below fun _ h => h)⟩
        clear h2 k2 HF HT HB HX x0 x1 x3
        go_wp2
        go_roundw
        case rel => exact ⟨k + 1, by omega, by omega, by go_num, FIN⟩
        case measure => simp [intOf]; omega
      have n1 : (kd == 1) = false := by simpa using k1
      by_cases k2 : kd = 2
      · subst k2
        have HF := Lib.hid (free_any p _ S cl (P : Int) xx W1 HT.out hsP hcl (by omega))
        go_wp2_with fail
        refine HF.out.mono ?_
        rintro e W2 ⟨rfl, h2, k2⟩
        have FIN : Hid (Kg w p (k + 1) W2) := Lib.hid ⟨_, by have := free_said HT.out.wf cl P xx; omega, h2, HB.out.trans (k2.below fun _ h => h)⟩
        clear h2 k2 HF HT HB HX x0 x1 x3
        go_wp2
        go_roundw
        case rel => exact ⟨k + 1, by omega, by omega, by go_num, FIN⟩
        case measure => simp [intOf]; omega
      have n2 : (kd == 2) = false := by simpa using k2
      by_cases k3 : kd = 3
      · subst k3
        have HF := Lib.hid (busy_any p _ S cl (P : Int) W1 HT.out hsP hcl)
        go_wp2_with fail
        refine HF.out.mono ?_
        rintro e W2 ⟨⟨rb, rfl⟩, h2, k2⟩
        have FIN : Hid (Kg w p (k + 1) W2) := Lib.hid ⟨_, by rw [busy_said]; omega, h2, HB.out.trans (k2.below fun _ h => h)⟩
        clear h2 k2 HF HT HB HX x0 x1 x3
        go_wp2
        go_roundw
        case rel => exact ⟨k + 1, by omega, by omega, by go_num, FIN⟩
        case measure => simp [intOf]; omega
      have n3 : (kd == 3) = false := by simpa using k3
      have FIN : Hid (Kg w p (k + 1) W1) := Lib.hid ⟨S, by omega, HT.out, HB.out⟩
      clear k1 k2 k3 HX x1 x3 HT HB
      go_wp2
      go_roundw
      case rel => exact ⟨k + 1, by omega, by omega, by go_num, FIN⟩
      case measure => simp [intOf]; omega
    · -- the calls are over
      obtain ⟨S, hlen, hT, hB⟩ := HK.out
      have hl38 : S.said.length ≤ 3800000 := by omega
      have HW0 : Hid (Wt w p wr.heap.size S 8 (wr.alloc (.cells Try.zeroCells60 60))) := Lib.hid ⟨(hT.alloc _).mono fun _ h => h, zero_was S wr, hB.trans ((below_box wr _).mono hB.size), hB.size⟩
      have HSM := Lib.hid hT.wf
      have hzs := zero_store wr
      clear HK hT hB HI
      rcases (show (k < n ∧ k = 150) ∨ k = n by omega) with ⟨hlt, h⟩ | h
      all_goals
        subst h
        clear hin hlen hkn hk
        go_wp2_with fail
        clear hzs
        generalize wr.alloc (.cells Try.zeroCells60 60) = W0 at *
        generalize wr.heap.size = gA at *
        go_loopw [10] (fun ti wz => ∃ c : Nat, 1 ≤ c ∧ c ≤ 9 ∧ ti = .int .i64 (c : Int) ∧ Hid (Wt w p gA S (c * 8) wz)) (fun ti _ => 9 - (intOf ti).toNat)
        case atStart => exact ⟨1, by omega, by omega, rfl, HW0⟩
        case round =>
          obtain ⟨c, hc1, hc9, rfl, HC⟩ := hrel
          clear HW0
          by_cases hc : c ≤ 8
          · have hd8 : decide ((c : Int) ≤ 8) = true := by simp; omega
            go_wp2_with fail
            go_loopw [11] (fun ti wz => ∃ q : Nat, q ≤ 8 ∧ ti = .int .i64 (q : Int) ∧ Hid (Wt w p gA S (c * 8 + q) wz)) (fun ti _ => 8 - (intOf ti).toNat)
            case atStart => exact ⟨0, by omega, rfl, HC⟩
            case round =>
              obtain ⟨q, hq8, rfl, HQ⟩ := hrel
              clear HC
              by_cases hq : q < 8
              · have hsq : Sm (q : Int) := sm_of (by omega)
                have hsc : Sm (c : Int) := sm_of (by omega)
                obtain ⟨G, hT⟩ := HQ.out.t
                have HCa := Lib.hid (holds_any p _ G S (c : Int) (q : Int) _ hT hsq hsc)
                have HCb := Lib.hid (holds_any p _ G S (c : Int) (q : Int) wr.drew (hT.drewN 1) hsq hsc)
                have a0 := (HQ.out.a.at_ (k := c * 8 + q) (by omega)).1
                have af := (HQ.out.a.at_ (k := c * 8 + q) (by omega)).2
                have FIN := Lib.hid (HQ.out.set_ hc1 hc hq)
                have FIN2 := Lib.hid (HQ.out.set_ hc1 hc hq).drew
                generalize holdsS S (c : Int) (q : Int) = hh at *
                clear hT HQ
                go_upto_region 24 with (fail)
                go_region_with (go_at_call 23; (first | with_reducible refine HCa.out.mono ?_ | with_reducible refine HCb.out.mono ?_); rintro e w5 ⟨rfl, rfl⟩)
                all_goals
                  clear HCa HCb a0 af
                  go_wp2
                  go_roundw
                  case rel => exact ⟨q + 1, by omega, by go_num, by first | exact FIN2 | exact FIN⟩
                  case measure => simp [intOf]; omega
              · obtain rfl : q = 8 := by omega
                have HC : Hid (Wt w p gA S ((c + 1) * 8) wr) := by rw [show (c + 1) * 8 = c * 8 + 8 by omega]; exact HQ
                clear HQ
                go_wp2
                go_roundw
                case rel => exact ⟨c + 1, by omega, by omega, by go_num, HC⟩
                case measure => simp [intOf]; omega
          · obtain rfl : c = 9 := by omega
            have hsC : Sm C := sm_of (by omega)
            have HG := Lib.hid (gone_any p _ S C wr HC.out.t hsC hl38)
            have HA := Lib.hid HC.out.a
            have HB := Lib.hid HC.out.b
            have HLE := Lib.hid (left_gone (c := C) HSM.out)
            clear HC
            go_wp2_with fail
            refine HG.out.mono ?_
            rintro e W2 ⟨rfl, h2, k2⟩
            have HA2 := Lib.hid (HA.out.keep k2 (.inr rfl))
            have HB2 := Lib.hid (HB.out.trans (k2.below fun _ h => .inl h))
            generalize goneK S C = T at *
            have HOF := Lib.hid (of_any' p _ T C W2 h2 hsC)
            have HT2 := Lib.hid h2
            clear h2 k2 HG HA HB
            go_wp2_with fail
            refine HOF.out.mono ?_
            rintro e W3 ⟨v3, rfl, ho3, b3⟩
            rw [left_of HLE.out] at ho3
            obtain ⟨a3, c3, rfl⟩ := own_shape ho3
            have HT3 := Lib.hid (HT2.out.below b3)
            have HA3 := Lib.hid (HA2.out.below b3)
            have HB3 := Lib.hid (HB2.out.trans (b3.mono HB2.out.size))
            have HWT := Lib.hid (waits_any p _ T W3 HT3.out)
            clear ho3 b3 HOF HT2 HA2 HB2
            go_wp2_with fail
            refine HWT.out.mono ?_
            rintro e W4 ⟨v4, E, rfl, ho4, hE, b4⟩
            have HED : Hid (∀ (i : Nat) (x : Rq), E[i]? = some x → x.cl ≠ C ∧ x.wants ≠ C) := Lib.hid fun i x hx => left_edge HLE.out (hE x (List.mem_of_getElem? hx))
            have HEC : Hid (∀ (i : Nat) (x : Rq), E[i]? = some x → ∃ g cap, v4 = .slice (some ⟨g, 0, none⟩) E.length cap ∧ W4.cell? ⟨g, i * 2, none⟩ = some (.int .i64 x.cl) ∧ W4.cell? ⟨g, i * 2 + 1, none⟩ = some (.int .i64 x.wants)) := Lib.hid fun i x hx => edge_at ho4 hx
            have HT4 := Lib.hid (HT3.out.below b4)
            have HA4 := Lib.hid (HA3.out.below b4)
            have HB4 := Lib.hid (HB3.out.trans (b4.mono HB3.out.size))
            have hEL := own_le ho4
            obtain ⟨a4, c4, rfl⟩ := own_shape ho4
            clear ho4 hE b4 HWT HT3 HA3 HB3
            obtain ⟨m, hm⟩ : ∃ m, E.length = m := ⟨_, rfl⟩
            rw [hm] at HEC hEL
            have HM := Lib.hid hm
            rw [hm]
            clear hm
            go_wp2_with fail
            go_loopw [13] (fun i wq => ∃ l : Nat, l ≤ m ∧ i = .int .i64 (l : Int) ∧ Hid (W4 = wq)) (fun i _ => m - (intOf i).toNat)
            case atStart => exact ⟨0, Nat.zero_le _, rfl, Lib.hid (by first | rfl | trivial)⟩
            case round =>
              obtain ⟨l, hl, rfl, HWQ⟩ := hrel
              obtain rfl := HWQ.out
              by_cases hlm : l < m
              · have hls : l < E.length := by rw [HM.out]; exact hlm
                have hy : E[l]? = some E[l] := List.getElem?_eq_getElem hls
                generalize E[l] = y at hy
                obtain ⟨g, cap, e4, d0, d1⟩ := HEC.out l y hy
                injection e4 with e4 _ _
                subst e4
                obtain ⟨n0, n1⟩ := HED.out l y hy
                obtain ⟨ycl, yw⟩ := y
                dsimp only at d0 d1 n0 n1
                have b0 : (ycl == C) = false := by simpa using n0
                have b1 : (yw == C) = false := by simpa using n1
                clear hy hls
                go_wp2
                go_roundw
                case rel => exact ⟨l + 1, by omega, by go_num, Lib.hid (by first | rfl | trivial)⟩
                case measure => simp [intOf]; omega
              · obtain rfl : l = m := by omega
                clear HEC HED HM
                go_wp2_with fail
                go_loopw [14] (fun ti wz => ∃ c : Nat, 1 ≤ c ∧ c ≤ 9 ∧ ti = .int .i64 (c : Int) ∧ (∃ d, wz = W4.drewN d)) (fun ti _ => 9 - (intOf ti).toNat)
                case atStart => exact ⟨1, by omega, by omega, rfl, 0, rfl⟩
                case round =>
                  obtain ⟨c, hc1, hc9, rfl, d, rfl⟩ := hrel
                  by_cases hc : c ≤ 8
                  · have hd8 : decide ((c : Int) ≤ 8) = true := by simp; omega
                    go_wp2_with fail
                    go_loopw [15] (fun ti wz => ∃ q : Nat, q ≤ 8 ∧ ti = .int .i64 (q : Int) ∧ (∃ d, wz = W4.drewN d)) (fun ti _ => 8 - (intOf ti).toNat)
                    case atStart => exact ⟨0, by omega, rfl, d, rfl⟩
                    case round =>
                      obtain ⟨q, hq8, rfl, d2, rfl⟩ := hrel
                      by_cases hq : q < 8
                      · obtain ⟨G, hT⟩ := HT4.out
                        obtain ⟨W6, hW6⟩ : ∃ W6, W4.drewN d2 = W6 := ⟨_, rfl⟩
                        have HCA : Hid (∀ q' , Calls Try.prog 23 #[.pointer (some ⟨p, 0, none⟩), .int .i64 (c : Int), .int .i64 (q : Int)] (W6.drewN q') fun e w' => e = .returned (.int .i64 (holdsS T (c : Int) (q : Int))) ∧ W6.drewN q' = w') := Lib.hid fun q' => holds_any p _ G T (c : Int) (q : Int) _ (by rw [← hW6]; exact (hT.drewN d2).drewN q') (sm_of (by omega)) (sm_of (by omega))
                        have a0 : W6.cell? ⟨gA, c * 8 + q, none⟩ = some (.int .i64 (holdsS S (c : Int) (q : Int))) := by
                          rw [← hW6]
                          exact quiet_cell (by rw [← was_at S (m := 72) hc1 hq (by omega)]; exact (HA4.out.at_ (k := c * 8 + q) (by omega)).1) d2
                        have HS0 : (c : Int) = C → holdsS T (c : Int) (q : Int) = 0 := fun e => by rw [e]; exact left_self HLE.out _
                        have HS1 : (c : Int) ≠ C → holdsS S (c : Int) (q : Int) ≤ holdsS T (c : Int) (q : Int) := fun e => HLE.out.more _ _ e
                        have HW6 := Lib.hid hW6
                        rw [hW6]
                        clear hW6 hT
                        generalize holdsS S (c : Int) (q : Int) = h0 at *
                        generalize holdsS T (c : Int) (q : Int) = hh at *
                        by_cases hcC : (c : Int) = C
                        · obtain rfl := HS0 hcC
                          have b0 : ((c : Int) == C) = true := by simpa using hcC
                          have b0' : ((c : Int) != C) = false := by simpa using hcC
                          have b2 : decide ((c : Int) = C) = true := by simpa using hcC
                          clear hcC
                          clear HS0 HS1
                          go_upto_region 40 with (fail)
                          go_quiet ((go_at_call 23; exact quiet_left (HCA.out _)))
                          clear HCA a0
                          go_wp2
                          go_roundw
                          case rel => exact ⟨q + 1, by omega, by go_num, d2 + nq, by rw [← HW6.out]; exact World.drewN_drewN _ _ _⟩
                          case measure => simp [intOf]; omega
                        · have hle := HS1 hcC
                          have b0 : ((c : Int) == C) = false := by simpa using hcC
                          have b0' : ((c : Int) != C) = true := by simpa using hcC
                          have b2 : decide ((c : Int) = C) = false := by simpa using hcC
                          have hlt2 : decide (hh < h0) = false := by simp; omega
                          clear hcC hle
                          clear HS0 HS1
                          go_upto_region 40 with (fail)
                          go_quiet ((go_at_call 23; exact quiet_left (HCA.out _)))
                          clear HCA a0
                          go_wp2
                          go_roundw
                          case rel => exact ⟨q + 1, by omega, by go_num, d2 + nq, by rw [← HW6.out]; exact World.drewN_drewN _ _ _⟩
                          case measure => simp [intOf]; omega
                      · obtain rfl : q = 8 := by omega
                        go_wp2
                        go_roundw
                        case rel => exact ⟨c + 1, by omega, by omega, by go_num, d2, rfl⟩
                        case measure => simp [intOf]; omega
                  · obtain rfl : c = 9 := by omega
                    have FIN : Hid (Below w.heap.size w (W4.drewN d)) := Lib.hid (HB4.out.trans ⟨rfl, rfl, rfl, Nat.le_refl _, fun _ _ => rfl⟩)
                    clear HT4 HA4 HB4 HLE HSM
                    go_wp2_with fail
                    refine (gone_nil 1 _).mono ?_
                    rintro e w9 ⟨rfl, rfl⟩
                    go_wp2_with fail
                    refine (cancel_nil 1 _).mono ?_
                    rintro e w9 ⟨rfl, rfl⟩
                    go_wp2_with fail
                    refine (ask_nil 1 1 true _).mono ?_
                    rintro e w9 ⟨rfl, rfl⟩
                    go_wp2_with fail
                    refine (free_nil 1 1 true _).mono ?_
                    rintro e w9 ⟨rfl, rfl⟩
                    go_wp2_with fail
                    refine (busy_nil 1 1 _).mono ?_
                    rintro e w9 ⟨rfl, rfl⟩
                    go_wp2_with fail
                    refine (take_nil _).mono ?_
                    rintro e w9 ⟨rfl, rfl⟩
                    go_wp2_with fail
                    refine (holds_nil 1 1 _).mono ?_
                    rintro e w9 ⟨rfl, rfl⟩
                    go_wp2_with fail
                    refine (of_nil 1 _).mono ?_
                    rintro e w9 ⟨rfl, rfl⟩
                    go_wp2_with fail
                    refine (waits_nil _).mono ?_
                    rintro e w9 ⟨rfl, rfl⟩
                    go_wp2
                    go_ret
                    exact ⟨rfl, FIN.out⟩
end Go.Proofs.Ythkgmfgchgoafaa.Key
