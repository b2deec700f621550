/- The walk of the statement KeySafe. -/
import Derived.Test.YthkgmfgchgoafaaKeyAwake
import Derived.Test.YthkgmfgchgoafaaKeySafeMath
import Derived.Test.YthkgmfgchgoafaaKeyActs
import Derived.Test.YthkgmfgchgoafaaArr
namespace Go.Proofs.Ythkgmfgchgoafaa.Key
set_option maxRecDepth 100000
open Go.RowKit
open Go.Proofs.Ythkgmfgchgoafaa.Mem
open Go.Maps
def Kp (w : World) (p : Nat) (W : World) : Prop := ∃ S, Calm S ∧ TQ W p (fun k => k < w.heap.size) S ∧ Below w.heap.size w W
def Ks (w : World) (p : Nat) (W : World) : Prop := ∃ S, Safe S ∧ S.said.length ≤ 40000 ∧ TQ W p (fun k => k < w.heap.size) S ∧ Below w.heap.size w W
theorem act_again {w : World} {b off n k : Nat} {zs : List Act} {x : Act} (h : Acts w (some ⟨b, off, none⟩) n zs) (hk : k < n) (hx : zs.getD k noAct = x) : ActAt w b off k x := by
  obtain ⟨b', off', y, e, _, hy, hc, _⟩ := h.at_ hk
  injection e with e
  injection e with e1 e2
  subst e1; subst e2
  rw [← hx, hy]; exact hc
set_option maxRecDepth 100000 in
set_option maxHeartbeats 4000000 in
theorem safe_walk (a : Option Addr) (n cc : Nat) (zs : List Act) (w : World) (hI : Acts w a n zs) :
    Calls Try.prog 4 #[.slice a n cc] w fun e w' => e = .returned (.bool true) ∧ Below w.heap.size w w' := by
  have HI := Lib.hid hI
  clear hI
  go_enter Try.func4, Try.ntmps4
  go_wp2_with fail
  refine (awake_any w).mono ?_
  rintro e w1 ⟨rfl, b1⟩
  have HB1 := Lib.hid b1
  clear b1
  go_wp2_with fail
  refine (new_any w1).mono ?_
  rintro e w3 ⟨p, rfl, _, hn, b3⟩
  have ST : Hid (Kp w p w3) := Lib.hid ⟨newK, calm_new, hn.mono (fun k hk => Nat.lt_of_lt_of_le hk HB1.out.size), HB1.out.trans (b3.mono HB1.out.size)⟩
  clear hn b3 HB1
  go_wp2_with fail
  go_loopw [4] (fun ti wr => ∃ k : Nat, k ≤ 150 ∧ k ≤ n ∧ ti = .int .i64 (k : Int) ∧ Hid (Kp w p wr)) (fun ti _ => 150 - (intOf ti).toNat)
  case atStart => exact ⟨0, Nat.zero_le _, Nat.zero_le _, rfl, ST⟩
  case round =>
    obtain ⟨k, hk, hkn, rfl, HK⟩ := hrel
    clear ST
    rcases (show (k < n ∧ k < 150) ∨ (k < n ∧ k = 150) ∨ k = n by omega) with ⟨hlt, hlt2⟩ | ⟨hlt, h⟩ | h
    · obtain ⟨S, hC, hT, hB⟩ := HK.out
      obtain ⟨b, off, ⟨kd, cl, pg, xx⟩, rfl, -, hz, ⟨c0, c1, c2, c3⟩, hg⟩ := (HI.out.below hB).at_ hlt
      dsimp only at c0 c1 c2 c3
      have hcl : Sm cl := sm_of ⟨hg.2.2.1, hg.2.2.2.1⟩
      obtain ⟨P, hPe, hP⟩ := cut_of pg 8 (by omega) (by omega)
      have hsP : Sm (P : Int) := sm_of (by omega)
      have hbx := below_box wr (.cells #[.int .i64 kd, .int .i64 cl, .int .i64 pg, .bool xx] 45)
      have HT := Lib.hid (hT.below hbx)
      have HB := Lib.hid (hB.trans (hbx.mono hB.size))
      have HC := Lib.hid hC
      have HX := Lib.hid (Blk.new wr 45 #[.int .i64 kd, .int .i64 cl, .int .i64 pg, .bool xx])
      have HPE := Lib.hid hPe
      clear hC hT hB hz hg hbx HK hPe
      go_upto_region 9 with (fail)
      rw [HPE.out]
      clear HPE c0 c1 c2 c3
      generalize wr.alloc (.cells #[.int .i64 kd, .int .i64 cl, .int .i64 pg, .bool xx] 45) = W1 at *
      generalize wr.heap.size = bx at *
      have x0 : W1.cell? ⟨bx, 0, none⟩ = some (.int .i64 kd) := HX.out.cell 0
      have x1 : W1.cell? ⟨bx, 1, none⟩ = some (.int .i64 cl) := HX.out.cell 1
      have x3 : W1.cell? ⟨bx, 3, none⟩ = some (.bool xx) := HX.out.cell 3
      have hs0 : S.said.length ≤ 10 := by rw [HC.out.2.2]; simp
      go_upto_block 2 with (fail)
      go_cut [] (fun wx => Ks w p wx)
      case first =>
        by_cases k1 : kd = 1
        · subst k1
          as_aux_lemma =>
            have HF := Lib.hid (ask_any p _ S cl (P : Int) xx W1 HT.out hsP hcl (by omega))
            go_wp2_with fail
            refine HF.out.mono ?_
            rintro e W2 ⟨rfl, h2, k2⟩
            have FIN : Hid (Ks w p W2) := Lib.hid ⟨_, calm_ask HC.out cl P xx, by have := ask_said HC.out.1 cl P xx; rw [HC.out.2.2] at this; simp at this ⊢; omega, h2, HB.out.trans (k2.below fun _ h => h)⟩
            clear h2 k2 HF
            go_wp2_with fail
            go_meet
            exact FIN.out
        have n1 : (kd == 1) = false := by simpa using k1
        by_cases k2 : kd = 2
        · subst k2
          as_aux_lemma =>
            have HF := Lib.hid (free_any p _ S cl (P : Int) xx W1 HT.out hsP hcl (by omega))
            go_wp2_with fail
            refine HF.out.mono ?_
            rintro e W2 ⟨rfl, h2, k2⟩
            have FIN : Hid (Ks w p W2) := Lib.hid ⟨_, calm_free HC.out cl P xx, by have := free_said HC.out.1 cl P xx; rw [HC.out.2.2] at this; simp at this ⊢; omega, h2, HB.out.trans (k2.below fun _ h => h)⟩
            clear h2 k2 HF
            go_wp2_with fail
            go_meet
            exact FIN.out
        have n2 : (kd == 2) = false := by simpa using k2
        by_cases k3 : kd = 3
        · subst k3
          as_aux_lemma =>
            have HF := Lib.hid (busy_any p _ S cl (P : Int) W1 HT.out hsP hcl)
            go_wp2_with fail
            refine HF.out.mono ?_
            rintro e W2 ⟨⟨rb, rfl⟩, h2, k2⟩
            have FIN : Hid (Ks w p W2) := Lib.hid ⟨_, calm_busy HC.out cl P, by rw [busy_said]; omega, h2, HB.out.trans (k2.below fun _ h => h)⟩
            clear h2 k2 HF
            go_wp2_with fail
            go_meet
            exact FIN.out
        have n3 : (kd == 3) = false := by simpa using k3
        by_cases k4 : kd = 4
        · subst k4
          as_aux_lemma =>
            have HF := Lib.hid (cancel_any p _ S cl W1 HT.out (by omega))
            go_wp2_with fail
            refine HF.out.mono ?_
            rintro e W2 ⟨rfl, h2, k2⟩
            have FIN : Hid (Ks w p W2) := Lib.hid ⟨_, calm_leave HC.out cl [], by have := leave_said HC.out.1 cl []; rw [HC.out.2.2] at this; simp at this ⊢; omega, h2, HB.out.trans (k2.below fun _ h => h)⟩
            clear h2 k2 HF
            go_wp2_with fail
            go_meet
            exact FIN.out
        have n4 : (kd == 4) = false := by simpa using k4
        by_cases k5 : kd = 5
        · subst k5
          as_aux_lemma =>
            have HF := Lib.hid (gone_any p _ S cl W1 HT.out hcl (by omega))
            go_wp2_with fail
            refine HF.out.mono ?_
            rintro e W2 ⟨rfl, h2, k2⟩
            have FIN : Hid (Ks w p W2) := Lib.hid ⟨_, calm_gone HC.out cl, by have := gone_said HC.out.1 cl; rw [HC.out.2.2] at this; simp at this ⊢; omega, h2, HB.out.trans (k2.below fun _ h => h)⟩
            clear h2 k2 HF
            go_wp2_with fail
            go_meet
            exact FIN.out
        have n5 : (kd == 5) = false := by simpa using k5
        have FIN : Hid (Ks w p W1) := Lib.hid ⟨S, safe_quiet HC.out.1 HC.out.2.1 HC.out.2.2, by omega, HT.out, HB.out⟩
        clear k1 k2 k3 k4 k5 HX x1 x3
        go_wp2_with fail
        go_meet
        exact FIN.out
      case rest =>
        obtain ⟨S', hS', hl', hT', hB'⟩ := hcut
        have HTK := Lib.hid (take_any p _ S' wc hT')
        have HS' := Lib.hid hS'
        have HB' := Lib.hid hB'
        clear hT' hS' hB' x0 x1 x3 HT HB HX HC hs0
        go_wp2_with fail
        refine HTK.out.mono ?_
        rintro e w5 ⟨v5, rfl, ho5, hv5, h5, k5⟩
        have HW : Hid (∀ (i : Nat) (y : Wd), S'.said[i]? = some y → ((Sm y.cl ∧ Sm y.pg) ∧ holdsS S' y.cl y.pg ≠ 0 ∧ (y.call = true → y.x = false → holdsS S' y.cl y.pg = 2) ∧ (y.call = false → (y.x = true ↔ holdsS S' y.cl y.pg = 2)))) := Lib.hid fun i y hy => by
          obtain ⟨h1, h2⟩ := wok_ask HS'.out (List.mem_of_getElem? hy)
          exact ⟨⟨sm_of ⟨h1.1, h1.2.1⟩, sm_of ⟨h1.2.2.1, h1.2.2.2⟩⟩, h2⟩
        have HO := Lib.hid ho5
        have HC5 := Lib.hid HS'.out.taken
        have HWF := Lib.hid HS'.out.1
        have HAL : Hid (∀ q k, cntF (fun c => holdsS S' c q == 2) k ≤ 1 ∧ (1 ≤ cntF (fun c => holdsS S' c q == 2) k → cntF (fun c => decide (0 < holdsS S' c q)) k ≤ 1)) := Lib.hid fun q k => alone_cnt HS'.out.1 HS'.out.2.1 q k
        have HB5 := Lib.hid (HB'.out.trans (k5.below fun _ h => h))
        obtain ⟨m, hm⟩ : ∃ m, S'.said.length = m := ⟨_, rfl⟩
        rw [hm] at hl'
        have HM := Lib.hid hm
        obtain ⟨a5, c5, e5⟩ := own_shape ho5
        rw [hm] at e5
        subst e5
        have HQ5 : Hid (TQ w5 p (fun k => k < w.heap.size ∨ (Value.slice a5 m c5).ownBlock = some k) { S' with said := [] }) := Lib.hid h5
        clear ho5 hv5 h5 k5 hm HTK HB' HS'
        go_wp2_with fail
        go_loopw [8] (fun i wq => ∃ l : Nat, l ≤ m ∧ i = .int .i64 (l : Int) ∧ (∃ q, wq = w5.drewN q)) (fun i _ => m - (intOf i).toNat)
        case atStart => exact ⟨0, Nat.zero_le _, rfl, 0, rfl⟩
        case round =>
          obtain ⟨l, hl, rfl, q, rfl⟩ := hrel
          by_cases hlm : l < m
          · have hls : l < S'.said.length := by rw [HM.out]; exact hlm
            have hy : S'.said[l]? = some S'.said[l] := List.getElem?_eq_getElem hls
            generalize S'.said[l] = y at hy
            obtain ⟨hsm, h0, h2, h3⟩ := HW.out l y hy
            obtain ⟨g, cap, e1, -, d0, d1, d2, d3⟩ := word_at HO.out hy
            injection e1 with e1 e2 e3
            clear e2
            subst e1; subst e3
            have hv := holds_or HWF.out y.cl y.pg
            obtain ⟨yc, ycl, yp, yx⟩ := y
            dsimp only at hsm h0 h2 h3 hv d0 d1 d2 d3
            obtain ⟨G5, hT5⟩ := HQ5.out
            obtain ⟨W6, hW6⟩ : ∃ W6, w5.drewN q = W6 := ⟨_, rfl⟩
            have HCA : Hid (∀ q' , Calls Try.prog 23 #[.pointer (some ⟨p, 0, none⟩), .int .i64 ycl, .int .i64 yp] (W6.drewN q') fun e w' => e = .returned (.int .i64 (holdsS S' ycl yp)) ∧ W6.drewN q' = w') := Lib.hid fun q' => holds_any p _ G5 { S' with said := [] } ycl yp _ (by rw [← hW6]; exact (hT5.drewN q).drewN q') hsm.2 hsm.1
            have d0 : W6.cell? ⟨g, l * 4, none⟩ = some (.bool yc) := by rw [← hW6]; exact quiet_cell d0 q
            have d1 : W6.cell? ⟨g, l * 4 + 1, none⟩ = some (.int .i64 ycl) := by rw [← hW6]; exact quiet_cell d1 q
            have d2 : W6.cell? ⟨g, l * 4 + 1 + 1, none⟩ = some (.int .i64 yp) := by rw [← hW6]; exact quiet_cell d2 q
            have d3 : W6.cell? ⟨g, l * 4 + 1 + 1 + 1, none⟩ = some (.bool yx) := by rw [← hW6]; exact quiet_cell d3 q
            have HW6 := Lib.hid hW6
            rw [hW6]
            clear hW6
            have hcase : (yc = true ∧ yx = true ∧ (holdsS S' ycl yp = 1 ∨ holdsS S' ycl yp = 2)) ∨ (yc = true ∧ yx = false ∧ holdsS S' ycl yp = 2) ∨ (yc = false ∧ yx = true ∧ holdsS S' ycl yp = 2) ∨ (yc = false ∧ yx = false ∧ holdsS S' ycl yp = 1) := by
              cases yc <;> cases yx <;> simp at h2 h3 ⊢ <;> omega
            generalize holdsS S' ycl yp = hh at hcase HCA
            clear hT5 hy hsm h0 h2 h3 hv hls
            go_wp2_with fail
            go_quiet ((go_at_call 23; exact quiet_left (HCA.out _)))
            have d0 : (W6.drewN nq).cell? ⟨g, l * 4, none⟩ = some (.bool yc) := d0
            have d3 : (W6.drewN nq).cell? ⟨g, l * 4 + 1 + 1 + 1, none⟩ = some (.bool yx) := d3
            clear HCA d1 d2
            rcases hcase with ⟨rfl, rfl, rfl | rfl⟩ | ⟨rfl, rfl, rfl⟩ | ⟨rfl, rfl, rfl⟩ | ⟨rfl, rfl, rfl⟩
            all_goals
              go_wp2
              go_roundw
              case rel => exact ⟨l + 1, by omega, by go_num, q + nq, by rw [← HW6.out]; exact World.drewN_drewN _ _ _⟩
              case measure => simp [intOf]; omega
          · obtain rfl : l = m := by omega
            have HQ6 := Lib.hid (HQ5.out.drewN q)
            have HB6 : Hid (Below w.heap.size w (w5.drewN q)) := Lib.hid (HB5.out.trans ⟨rfl, rfl, rfl, Nat.le_refl _, fun _ _ => rfl⟩)
            clear HQ5 HB5 HO HW HM
            go_wp2_with fail
            generalize w5.drewN q = w6 at *
            go_loopw [10] (fun i wq => ∃ q : Nat, q ≤ 8 ∧ i = .int .i64 (q : Int) ∧ Hid (w6 = wq)) (fun i _ => 8 - (intOf i).toNat)
            case atStart => exact ⟨0, by omega, rfl, Lib.hid (by first | rfl | trivial)⟩
            case round =>
              obtain ⟨q, hq, rfl, HWQ⟩ := hrel
              obtain rfl := HWQ.out
              by_cases hq8 : q < 8
              · obtain ⟨G6, hT6⟩ := HQ6.out
                have HCA : Hid (∀ c : Int, Sm c → Calls Try.prog 23 #[.pointer (some ⟨p, 0, none⟩), .int .i64 c, .int .i64 (q : Int)] w6 fun e w' => e = .returned (.int .i64 (holdsS S' c q)) ∧ w6 = w') := Lib.hid fun c hc => holds_any p _ G6 { S' with said := [] } c q w6 hT6 (sm_of (by omega)) hc
                have HAQ := Lib.hid (HAL.out q 8)
                have HV : Hid (∀ c : Int, holdsS S' c q = 0 ∨ holdsS S' c q = 1 ∨ holdsS S' c q = 2) := Lib.hid fun c => holds_or HWF.out c q
                clear hT6
                have e0 : cntF (fun c => decide (0 < holdsS S' c q)) 0 = 0 := rfl
                have e1 : cntF (fun c => holdsS S' c q == 2) 0 = 0 := rfl
                go_wp2_with fail
                go_loopw [11, 12, 13] (fun s x i wz => ∃ c : Nat, c ≤ 8 ∧ s = .int .i64 (cntF (fun c => decide (0 < holdsS S' c q)) c : Int) ∧ x = .int .i64 (cntF (fun c => holdsS S' c q == 2) c : Int) ∧ i = .int .i64 ((c : Int) + 1) ∧ Hid (w6 = wz)) (fun _ _ i _ => 9 - (intOf i).toNat)
                case atStart => exact ⟨0, by omega, by rw [e0]; rfl, by rw [e1]; rfl, rfl, Lib.hid (by first | rfl | trivial)⟩
                case round =>
                  obtain ⟨c, hc, rfl, rfl, rfl, HWZ⟩ := hrel
                  obtain rfl := HWZ.out
                  clear e0 e1
                  by_cases hc8 : c < 8
                  · have HC1 := Lib.hid (HCA.out ((c : Int) + 1) (sm_of (by omega)))
                    have hv := HV.out ((c : Int) + 1)
                    have hs1 := cntF_succ (fun c => decide (0 < holdsS S' c q)) c
                    have hs2 := cntF_succ (fun c => holdsS S' c q == 2) c
                    have ec : (1 : Int) + (c : Int) = (c : Int) + 1 := by omega
                    rw [ec] at hs1 hs2
                    have hl1 : cntF (fun c => decide (0 < holdsS S' c q)) c ≤ 8 := by have := List.length_filter_le (fun c => decide (0 < holdsS S' c q)) (upFrom 1 c); rw [up_len] at this; unfold cntF; omega
                    have hl2 : cntF (fun c => holdsS S' c q == 2) c ≤ 8 := by have := List.length_filter_le (fun c => holdsS S' c q == 2) (upFrom 1 c); rw [up_len] at this; unfold cntF; omega
                    have HS1 := Lib.hid hs1
                    have HS2 := Lib.hid hs2
                    generalize hcn1 : cntF (fun c => decide (0 < holdsS S' c q)) c = n1 at *
                    generalize hcn2 : cntF (fun c => holdsS S' c q == 2) c = n2 at *
                    generalize hhh : holdsS S' ((c : Int) + 1) q = hh at *
                    clear hs1 hs2 ec hcn1 hcn2 hhh
                    rcases hv with rfl | rfl | rfl
                    all_goals
                      go_wp2_with fail
                      refine HC1.out.mono ?_
                      rintro e wA ⟨rfl, rfl⟩
                      go_wp2_with fail
                      refine HC1.out.mono ?_
                      rintro e wA ⟨rfl, rfl⟩
                      go_wp2
                      go_roundw
                      case rel => exact ⟨c + 1, by omega, by rw [HS1.out]; first | rfl | (simp), by rw [HS2.out]; first | rfl | (simp), by go_num, Lib.hid (by first | rfl | trivial)⟩
                      case measure => simp [intOf]; omega
                  · obtain rfl : c = 8 := by omega
                    have h1 := HAQ.out.1
                    have h2 := HAQ.out.2
                    generalize cntF (fun c => decide (0 < holdsS S' c q)) 8 = n1 at *
                    generalize cntF (fun c => holdsS S' c q == 2) 8 = n2 at *
                    rcases (show n2 = 0 ∨ n2 = 1 by omega) with rfl | rfl
                    · clear h1 h2 HAQ
                      go_wp2
                      go_roundw
                      case rel => exact ⟨q + 1, by omega, by go_num, Lib.hid (by first | rfl | trivial)⟩
                      case measure => simp [intOf]; omega
                    · have h3 : n1 ≤ 1 := h2 (by omega)
                      have h3i : ¬ (1 : Int) < (n1 : Int) := by omega
                      clear h1 h2 HAQ
                      go_wp2
                      go_roundw
                      case rel => exact ⟨q + 1, by omega, by go_num, Lib.hid (by first | rfl | trivial)⟩
                      case measure => simp [intOf]; omega
              · obtain rfl : q = 8 := by omega
                have ST : Hid (Kp w p w6) := Lib.hid ⟨_, HC5.out, HQ6.out.mono fun k hk => .inl hk, HB6.out⟩
                clear HQ6 HB6 HC5 HAL HWF
                go_wp2
                go_roundw
                case rel => exact ⟨k + 1, by omega, by omega, by go_num, ST⟩
                case measure => simp [intOf]; omega
    · subst h
      have FIN : Hid (Below w.heap.size w wr) := Lib.hid (by obtain ⟨_, _, _, hb⟩ := HK.out; exact hb)
      clear HK
      go_wp2
      go_ret
      exact ⟨rfl, FIN.out⟩
    · subst h
      have FIN : Hid (Below w.heap.size w wr) := Lib.hid (by obtain ⟨_, _, _, hb⟩ := HK.out; exact hb)
      clear HK
      go_wp2
      go_ret
      exact ⟨rfl, FIN.out⟩
end Go.Proofs.Ythkgmfgchgoafaa.Key
