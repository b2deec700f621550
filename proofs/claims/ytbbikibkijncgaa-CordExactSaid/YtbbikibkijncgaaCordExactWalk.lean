/- The walk of the statement CordExact. -/
import Derived.Test.YtbbikibkijncgaaCordExact0
import Derived.Test.YtbbikibkijncgaaCordActs
import Derived.Test.YtbbikibkijncgaaCordAwake
namespace Go.Proofs.Ytbbikibkijncgaa.Cord
set_option maxRecDepth 100000
open Go.RowKit Go.Sort
open Go.Proofs.Ytbbikibkijncgaa.Mem
theorem out_len2 {e : CE} (h : e.wf) : (outL e).length ≤ 33 := by
  have := h.ol
  unfold outL
  split
  · split <;> simp
  · rw [gms_len]; omega
theorem takeL_len2 {e : CE} (h : e.wf) (g : Gm) : (takeL e g).length ≤ 32 := by
  have hg : (settleE e g.ak.toNat).got = e.got := by unfold settleE; split <;> rfl
  unfold takeL
  split
  · simp
  · rename_i hc
    split
    · simp
    · obtain ⟨_, _, h3, _, _, _, h7⟩ := taken (e := e) (g := g) (by simpa using hc)
      exact told_le (wf_lay (wf_settle h _) (by rw [hg]; omega) h7)
set_option maxRecDepth 100000 in
set_option maxHeartbeats 8000000 in
theorem exact_walk (ep : Int) (a : Option Addr) (n c : Nat) (xs : List Act) (w : World) (_he : -9223372036854775808 ≤ ep ∧ ep ≤ 9223372036854775807) (hI : Acts w a n xs) :
    Calls Try.prog 3 #[.int .i64 ep, .slice a n c] w fun e w' => e = .returned (.bool true) ∧ Below w.heap.size w w' := by
  have HI := Lib.hid hI
  clear hI
  by_cases hep : 1 ≤ ep ∧ ep ≤ 1073741824
  rotate_left
  · go_enter Try.func3, Try.ntmps3
    go_wp2_with fail
    refine (awake_any w).mono ?_
    rintro e w1 ⟨rfl, b1⟩
    have B1 := Lib.hid b1
    clear b1 HI
    go_wp2_with fail
    refine (new_none ep w1 hep).mono ?_
    rintro r _ ⟨rfl, rfl⟩
    go_wp2_with fail
    refine (unew_none ep w1 hep).mono ?_
    rintro r _ ⟨rfl, rfl⟩
    go_wp2
    go_ret
    exact ⟨rfl, B1.out⟩
  go_enter Try.func3, Try.ntmps3
  go_wp2_with fail
  refine (awake_any w).mono ?_
  rintro e w1 ⟨rfl, b1⟩
  have B1 := Lib.hid b1
  clear b1
  go_wp2_with fail
  refine (new_any ep w1 hep.1 hep.2).mono ?_
  rintro r w2 ⟨p, rfl, hA, b2⟩
  have HA := Lib.hid hA
  have B2 := Lib.hid b2
  clear hA b2
  go_wp2_with fail
  refine (unew_any ep w2 hep.1 hep.2).mono ?_
  rintro r w3 ⟨u, rfl, hB, b3⟩
  have HK0 : Hid (KX w1 p u (3 * 0) (3 * 0) (fun _ => False) (newE ep) (newE ep) w3 ∧ (newE ep).ep = ep) := Lib.hid ⟨kx_new HA.out B2.out hB b3, rfl⟩
  clear hB b3 HA B2
  go_wp2_with fail
  go_loopw [7] (fun i wr => ∃ (k : Nat) (e : CE), k ≤ 150 ∧ k ≤ n ∧ i = .int .i64 (k : Int) ∧ Hid (KX w1 p u (3 * k) (3 * k) (fun _ => False) e e wr ∧ e.ep = ep)) (fun i _ => 150 - (intOf i).toNat)
  case atStart => exact ⟨0, _, Nat.zero_le _, Nat.zero_le _, rfl, HK0⟩
  case round =>
    obtain ⟨k, e, hk, hkn, rfl, HK⟩ := hrel
    clear HK0
    by_cases hlt : k < n ∧ k < 150
    rotate_left
    · have HB : Hid (Below w.heap.size w wr) := Lib.hid (B1.out.trans (HK.out.1.bel.mono B1.out.size))
      clear HK HI B1
      have h1i : ¬ (k : Int) < (n : Int) ∨ ((k : Int) < (n : Int) ∧ ¬ (k : Int) < 150) := by omega
      rcases h1i with h1i | ⟨h0i, h1i⟩
      all_goals
        go_wp2
        go_ret
        exact ⟨rfl, HB.out⟩
    obtain ⟨h1, h2⟩ := hlt
    have h1i : (k : Int) < 150 := by omega
    have h1d : decide ((k : Int) < 150) = true := decide_eq_true h1i
    have hB : Below w.heap.size w wr := B1.out.trans (HK.out.1.bel.mono B1.out.size)
    obtain ⟨bz, off, x, rfl, hbz, hxe, hx, hg⟩ := (HI.out.below hB).at_ h1
    obtain ⟨zk, zt, cl, up, gep, sq, ak, bd⟩ := x
    obtain ⟨x0, x1, x2, x3, x4, x5, x6, x7⟩ := hx
    obtain ⟨_, _, gt1, _, _, _, _, _, _, _, _, gb1⟩ := hg
    simp only at x0 x1 x2 x3 x4 x5 x6 x7 gt1 gb1
    have hbb := below_box wr (.cells #[.int .i64 zk, .string zt, .int .i64 cl, .bool up, .int .i64 gep, .int .i64 sq, .int .i64 ak, .string bd] 31)
    have HQ1 : Hid (KX w1 p u (3 * k) (3 * k) (fun j => j = wr.heap.size) e e (wr.alloc (.cells #[.int .i64 zk, .string zt, .int .i64 cl, .bool up, .int .i64 gep, .int .i64 sq, .int .i64 ak, .string bd] 31))) := Lib.hid ((HK.out.1.below hbb).less fun j hj => .inr ⟨by omega, by rw [hj]; simp⟩)
    have HBW : Hid (Below w.heap.size w (wr.alloc (.cells #[.int .i64 zk, .string zt, .int .i64 cl, .bool up, .int .i64 gep, .int .i64 sq, .int .i64 ak, .string bd] 31))) := Lib.hid (hB.trans (hbb.mono hB.size))
    have HEP := Lib.hid HK.out.2
    have hbx := Blk.new wr 31 #[.int .i64 zk, .string zt, .int .i64 cl, .bool up, .int .i64 gep, .int .i64 sq, .int .i64 ak, .string bd]
    clear hbb hB hxe HK
    go_upto_region 13 with (fail)
    generalize hGen : wr.alloc (.cells #[.int .i64 zk, .string zt, .int .i64 cl, .bool up, .int .i64 gep, .int .i64 sq, .int .i64 ak, .string bd] 31) = W at HQ1 HBW hbx ⊢
    clear hGen
    generalize wr.heap.size = bx at *
    have e0 : W.cell? ⟨bx, 0, none⟩ = some (.int .i64 zk) := hbx.cell 0
    have e1 : W.cell? ⟨bx, 1, none⟩ = some (.string zt) := hbx.cell 1
    have e2 : W.cell? ⟨bx, 2, none⟩ = some (.int .i64 cl) := hbx.cell 2
    have e3 : W.cell? ⟨bx, 3, none⟩ = some (.bool up) := hbx.cell 3
    have e4 : W.cell? ⟨bx, 4, none⟩ = some (.int .i64 gep) := hbx.cell 4
    have e5 : W.cell? ⟨bx, 5, none⟩ = some (.int .i64 sq) := hbx.cell 5
    have e6 : W.cell? ⟨bx, 6, none⟩ = some (.int .i64 ak) := hbx.cell 6
    have e7 : W.cell? ⟨bx, 7, none⟩ = some (.string bd) := hbx.cell 7
    clear hbx x0 x1 x2 x3 x4 x5 x6 x7
    by_cases hz1 : (32768 : Int) < (zt.size : Int)
    · clear HQ1 HI HEP
      go_wp2_with fail
      go_ret
      exact ⟨rfl, HBW.out⟩
    by_cases hz2 : (32768 : Int) < (bd.size : Int)
    · clear HQ1 HI HEP
      go_wp2_with fail
      go_ret
      exact ⟨rfl, HBW.out⟩
    clear HBW
    have hk3 : 3 * (k + 1) ≤ 460 := by omega
    go_upto_block 2 with (fail)
    go_cut [] (fun wx => ∃ e', KX w1 p u (3 * (k + 1)) (3 * (k + 1)) (fun _ => False) e' e' wx ∧ e'.ep = ep)
    case first =>
      by_cases k1 : zk = 1
      · subst k1
        have HFI : Hid (∀ w', KX w1 p u (3 * k + 1) (3 * k + 1) (fun j => j = bx) (sendE e zt) (sendE e zt) w' → ∃ e', KX w1 p u (3 * (k + 1)) (3 * (k + 1)) (fun _ => False) e' e' w' ∧ e'.ep = ep) := Lib.hid fun w' h => ⟨_, (h.mono (by omega) (by omega)).less (fun _ x => x.elim), (send_ep e zt).trans HEP.out⟩
        have HA : Hid (∀ W', Below W.heap.size W W' → Calls Try.prog 11 #[.pointer (some ⟨p, 0, none⟩), .string zt] W' fun r w5 => r = .returned (.int .i64 (sendX e zt)) ∧ Hid (∀ W'', Below w5.heap.size w5 W'' → Calls Try.prog 12 #[.pointer (some ⟨u, 0, none⟩), .string zt] W'' fun r w6 => r = .returned (.int .i64 (sendX e zt)) ∧ (∃ e', KX w1 p u (3 * (k + 1)) (3 * (k + 1)) (fun _ => False) e' e' w6 ∧ e'.ep = ep)) ∧ w5.cell? ⟨bx, 1, none⟩ = some (.string zt)) := Lib.hid fun W' hb => by
          refine (((HQ1.out.below hb).less (N := fun j => j = bx) fun j hj => .inl hj).send1 zt).mono ?_
          rintro r w5 ⟨rfl, h5, hk5⟩
          refine ⟨rfl, Lib.hid fun W'' hb2 => ?_, (hk5.cell (p := ⟨bx, 1, none⟩) rfl).trans ((hb.cell (p := ⟨bx, 1, none⟩) (by obtain ⟨F, G, _, _, _, _, _, h6, _⟩ := HQ1.out; exact (h6 bx rfl).1)).trans e1)⟩
          refine (((h5.below hb2).less (N := fun j => j = bx) fun j hj => .inl hj).send2 (by omega) zt).mono ?_
          rintro r w6 ⟨rfl, h6, _⟩
          exact ⟨rfl, HFI.out _ h6⟩
        have HB : Hid (∀ W', Below W.heap.size W W' → Calls Try.prog 12 #[.pointer (some ⟨u, 0, none⟩), .string zt] W' fun r w5 => r = .returned (.int .i64 (sendX e zt)) ∧ Hid (∀ W'', Below w5.heap.size w5 W'' → Calls Try.prog 11 #[.pointer (some ⟨p, 0, none⟩), .string zt] W'' fun r w6 => r = .returned (.int .i64 (sendX e zt)) ∧ (∃ e', KX w1 p u (3 * (k + 1)) (3 * (k + 1)) (fun _ => False) e' e' w6 ∧ e'.ep = ep)) ∧ w5.cell? ⟨bx, 1, none⟩ = some (.string zt)) := Lib.hid fun W' hb => by
          refine (((HQ1.out.below hb).less (N := fun j => j = bx) fun j hj => .inl hj).send2 (by omega) zt).mono ?_
          rintro r w5 ⟨rfl, h5, hk5⟩
          refine ⟨rfl, Lib.hid fun W'' hb2 => ?_, (hk5.cell (p := ⟨bx, 1, none⟩) rfl).trans ((hb.cell (p := ⟨bx, 1, none⟩) (by obtain ⟨F, G, _, _, _, _, _, h6, _⟩ := HQ1.out; exact (h6 bx rfl).1)).trans e1)⟩
          refine (((h5.below hb2).less (N := fun j => j = bx) fun j hj => .inl hj).send1 zt).mono ?_
          rintro r w6 ⟨rfl, h6, _⟩
          exact ⟨rfl, HFI.out _ h6⟩
        clear HFI HQ1 HI HEP e2 e3 e4 e5 e6 e7
        generalize sendX e zt = sx at HA HB
        have hss : (sx == sx) = true := by simp
        go_wp2_with fail
        go_region_law (first
          | (go_simp; go_at_call 11; (with_reducible refine (HA.out _ ?_).mono ?_); (first | assumption | exact (Below.refl _ _).drew | exact Below.refl _ _); rintro r w5 ⟨rfl, HN, x5⟩)
          | (go_simp; go_at_call 12; (with_reducible refine (HB.out _ ?_).mono ?_); (first | assumption | exact (Below.refl _ _).drew | exact Below.refl _ _); rintro r w5 ⟨rfl, HN, x5⟩)
          | (go_simp; go_at_call 12; (with_reducible refine (HN.out _ ?_).mono ?_); (first | assumption | exact (Below.refl _ _).drew | exact Below.refl _ _); rintro r w6 ⟨rfl, h6⟩; have H6 := Lib.hid h6; clear h6)
          | (go_simp; go_at_call 11; (with_reducible refine (HN.out _ ?_).mono ?_); (first | assumption | exact (Below.refl _ _).drew | exact Below.refl _ _); rintro r w6 ⟨rfl, h6⟩; have H6 := Lib.hid h6; clear h6))
        all_goals
          clear HA HB HN x5 e0 e1
          go_wp2_with fail
          go_meet
          exact H6.out
      have n1 : (zk == 1) = false := by rw [beq_eq_false_iff_ne]; exact k1
      by_cases k2 : zk = 2
      · subst k2
        obtain ⟨a1, c1, d1, _, d5⟩ := HQ1.out.at_
        have HFI : Hid (∀ w' N, KX w1 p u (3 * k) (3 * k) N (outE e) (outE e) w' → (∃ e', KX w1 p u (3 * (k + 1)) (3 * (k + 1)) (fun _ => False) e' e' w' ∧ e'.ep = ep)) := Lib.hid fun w' N h => ⟨_, (h.mono (by omega) (by omega)).less (fun _ x => x.elim), HEP.out⟩
        have hln : (outL e).length ≤ 33 := out_len2 HQ1.out.wf
        have HOW : Hid (∀ W', Below W.heap.size W W' → Calls Try.prog 13 #[.pointer (some ⟨p, 0, none⟩)] W' fun r w' => r = .returned (.bool (owesB e)) ∧ W' = w') := Lib.hid fun W' hb => (HQ1.out.below hb).owes
        have HA : Hid (∀ W', Below W.heap.size W W' → Calls Try.prog 15 #[.pointer (some ⟨p, 0, none⟩)] W' fun r w5 => ∃ v q, r = .returned (.slice v (outL e).length q) ∧ Hid (∀ W'', Below w5.heap.size w5 W'' → Calls Try.prog 16 #[.pointer (some ⟨u, 0, none⟩)] W'' fun r w6 => ∃ v2 q2, r = .returned (.slice v2 (outL e).length q2) ∧ Hid (∀ W3, Below w6.heap.size w6 W3 → Calls Try.prog 14 #[.slice v (outL e).length q, .slice v2 (outL e).length q2] W3 fun r w7 => r = .returned (.bool true) ∧ (∃ e', KX w1 p u (3 * (k + 1)) (3 * (k + 1)) (fun _ => False) e' e' w7 ∧ e'.ep = ep)))) := Lib.hid fun W' hb => by
          refine ((HQ1.out.below hb).out1 (by omega)).mono ?_
          rintro r w5 ⟨v, q, rfl, g1, h5, _⟩
          refine ⟨v, q, rfl, Lib.hid fun W'' hb2 => ?_⟩
          refine ((h5.below hb2).out2).mono ?_
          rintro r w6 ⟨v2, q2, rfl, g2, h6, hk6⟩
          refine ⟨v2, q2, rfl, Lib.hid fun W3 hb3 => ?_⟩
          have r1 : Grs w6 v (outL e).length (outL e) := grs_of (own_same (own_same g1 fun g hg => hb2.block g (own_lt g1 hg)) fun g hg => hk6.block g (.inl (.inr hg))) rfl
          refine (same_any v v2 _ q q2 (outL e) W3 (r1.below hb3) ((grs_of g2 rfl).below hb3) (by omega)).mono ?_
          rintro r w7 ⟨rfl, b7⟩
          exact ⟨rfl, HFI.out _ _ ((h6.below hb3).below b7)⟩
        have HB : Hid (∀ W', Below W.heap.size W W' → Calls Try.prog 16 #[.pointer (some ⟨u, 0, none⟩)] W' fun r w5 => ∃ v2 q2, r = .returned (.slice v2 (outL e).length q2) ∧ Hid (∀ W'', Below w5.heap.size w5 W'' → Calls Try.prog 15 #[.pointer (some ⟨p, 0, none⟩)] W'' fun r w6 => ∃ v q, r = .returned (.slice v (outL e).length q) ∧ Hid (∀ W3, Below w6.heap.size w6 W3 → Calls Try.prog 14 #[.slice v (outL e).length q, .slice v2 (outL e).length q2] W3 fun r w7 => r = .returned (.bool true) ∧ (∃ e', KX w1 p u (3 * (k + 1)) (3 * (k + 1)) (fun _ => False) e' e' w7 ∧ e'.ep = ep)))) := Lib.hid fun W' hb => by
          refine ((HQ1.out.below hb).out2).mono ?_
          rintro r w5 ⟨v2, q2, rfl, g2, h5, _⟩
          refine ⟨v2, q2, rfl, Lib.hid fun W'' hb2 => ?_⟩
          refine ((h5.below hb2).out1 (by omega)).mono ?_
          rintro r w6 ⟨v, q, rfl, g1, h6, hk6⟩
          refine ⟨v, q, rfl, Lib.hid fun W3 hb3 => ?_⟩
          have r2 : Grs w6 v2 (outL e).length (outL e) := grs_of (own_same (own_same g2 fun g hg => hb2.block g (own_lt g2 hg)) fun g hg => hk6.block g (.inl (.inr hg))) rfl
          refine (same_any v v2 _ q q2 (outL e) W3 ((grs_of g1 rfl).below hb3) (r2.below hb3) (by omega)).mono ?_
          rintro r w7 ⟨rfl, b7⟩
          exact ⟨rfl, HFI.out _ _ ((h6.below hb3).below b7)⟩
        have hcs : (0 < e.op.length ∧ owesB e = true) ∨ (e.op.length = 0 ∧ e.due = true ∧ owesB e = true) ∨ (e.op.length = 0 ∧ e.due = false ∧ owesB e = false) := by
          unfold owesB
          by_cases h : 0 < e.op.length
          · exact .inl ⟨h, by rw [decide_eq_true h]; simp⟩
          · have h0 : e.op.length = 0 := by omega
            rw [decide_eq_false h]
            cases hd : e.due with
            | true => exact .inr (.inl ⟨h0, rfl, rfl⟩)
            | false => exact .inr (.inr ⟨h0, rfl, rfl⟩)
        clear HFI HQ1 HI HEP e2 e3 e4 e5 e6 e7 hln
        generalize (outL e).length = ol at HA HB
        generalize owesB e = ow at HOW hcs
        generalize e.op.length = nl at d1 hcs
        generalize e.due = du at d5 hcs
        rcases hcs with ⟨hl, rfl⟩ | ⟨rfl, rfl, rfl⟩ | ⟨rfl, rfl, rfl⟩
        all_goals
          (try (have hli : (0 : Int) < (nl : Int) := by omega))
          (try (have hld : decide ((0 : Int) < (nl : Int)) = true := decide_eq_true hli))
          go_wp2_with fail
          first
            | (go_region_law (first
            | (go_simp; go_at_call 13; (with_reducible refine (HOW.out _ ?_).mono ?_); (first | assumption | exact (Below.refl _ _).drew | exact Below.refl _ _); rintro r _ ⟨rfl, rfl⟩)
            | (go_simp; go_at_call 15; (with_reducible refine (HA.out _ ?_).mono ?_); (first | assumption | exact (Below.refl _ _).drew | exact Below.refl _ _); rintro r w5 ⟨v1, q1, rfl, HN⟩)
            | (go_simp; go_at_call 16; (with_reducible refine (HB.out _ ?_).mono ?_); (first | assumption | exact (Below.refl _ _).drew | exact Below.refl _ _); rintro r w5 ⟨v2, q2, rfl, HN⟩)
            | (go_simp; go_at_call 16; (with_reducible refine (HN.out _ ?_).mono ?_); (first | assumption | exact (Below.refl _ _).drew | exact Below.refl _ _); rintro r w6 ⟨v2, q2, rfl, HM⟩)
            | (go_simp; go_at_call 15; (with_reducible refine (HN.out _ ?_).mono ?_); (first | assumption | exact (Below.refl _ _).drew | exact Below.refl _ _); rintro r w6 ⟨v1, q1, rfl, HM⟩)
            | (go_simp; go_at_call 14; (with_reducible refine (HM.out _ ?_).mono ?_); (first | assumption | exact (Below.refl _ _).drew | exact Below.refl _ _); rintro r w7 ⟨rfl, h7⟩; have H7 := Lib.hid h7; clear h7)))
            | fail
          all_goals
            clear HA HB HOW HN HM d1 d5 e0 e1
            go_wp2_with fail
            go_meet
            exact H7.out
      have n2 : (zk == 2) = false := by rw [beq_eq_false_iff_ne]; exact k2
      by_cases k3 : zk = 3
      · subst k3
        have hbl : bx < W.heap.size := HQ1.out.lt bx rfl
        have hln : (takeL e ⟨cl, up, gep, sq, ak, bd⟩).length ≤ 32 := takeL_len2 HQ1.out.wf _
        have HFI : Hid (∀ w' N, KX w1 p u (3 * k + 2) (3 * k + 1) N (takeE e ⟨cl, up, gep, sq, ak, bd⟩) (takeE e ⟨cl, up, gep, sq, ak, bd⟩) w' → (∃ e', KX w1 p u (3 * (k + 1)) (3 * (k + 1)) (fun _ => False) e' e' w' ∧ e'.ep = ep)) := Lib.hid fun w' N h => ⟨_, (h.mono (by omega) (by omega)).less (fun _ x => x.elim), (take_ep e _).trans HEP.out⟩
        have HC : Hid (∀ W', Below W.heap.size W W' → Calls Try.prog 17 #[.pointer (some ⟨p, 0, none⟩), .agg #[.int .i64 cl, .bool up, .int .i64 gep, .int .i64 sq, .int .i64 ak, .string bd]] W' fun r w5 => ∃ v q, r = .returned (.tuple #[.slice v (takeL e ⟨cl, up, gep, sq, ak, bd⟩).length q, .int .i64 (takeX e ⟨cl, up, gep, sq, ak, bd⟩)]) ∧ (∀ j, w5.cell? ⟨bx, j, none⟩ = W.cell? ⟨bx, j, none⟩) ∧ Hid (∀ W'', Below w5.heap.size w5 W'' → Calls Try.prog 18 #[.pointer (some ⟨u, 0, none⟩), .agg #[.int .i64 cl, .bool up, .int .i64 gep, .int .i64 sq, .int .i64 ak, .string bd]] W'' fun r w6 => ∃ v2 q2, r = .returned (.tuple #[.slice v2 (takeL e ⟨cl, up, gep, sq, ak, bd⟩).length q2, .int .i64 (takeX e ⟨cl, up, gep, sq, ak, bd⟩)]) ∧
            Hid (∀ W3, Below w6.heap.size w6 W3 → Calls Try.prog 19 #[.slice v (takeL e ⟨cl, up, gep, sq, ak, bd⟩).length q, .slice v2 (takeL e ⟨cl, up, gep, sq, ak, bd⟩).length q2] W3 fun r w7 => r = .returned (.bool true) ∧ (∃ e', KX w1 p u (3 * (k + 1)) (3 * (k + 1)) (fun _ => False) e' e' w7 ∧ e'.ep = ep)))) := Lib.hid fun W' hb => by
          refine (((HQ1.out.below hb).less (N := fun j => j = bx) fun j hj => .inl hj).take1 (by omega) ⟨cl, up, gep, sq, ak, bd⟩).mono ?_
          rintro r w5 ⟨v, q, rfl, g1, h5, hk5⟩
          refine ⟨v, q, rfl, fun j => (hk5.cell (p := ⟨bx, j, none⟩) rfl).trans (hb.cell (p := ⟨bx, j, none⟩) hbl), Lib.hid fun W'' hb2 => ?_⟩
          refine ((h5.below hb2).take2 (by omega) ⟨cl, up, gep, sq, ak, bd⟩).mono ?_
          rintro r w6 ⟨v2, q2, rfl, g2, h6, hk6⟩
          refine ⟨v2, q2, rfl, Lib.hid fun W3 hb3 => ?_⟩
          have r1 : Strs w6 v (takeL e ⟨cl, up, gep, sq, ak, bd⟩).length (takeL e ⟨cl, up, gep, sq, ak, bd⟩) := strs_of (own_same (own_same g1 fun g hg => hb2.block g (own_lt g1 hg)) fun g hg => hk6.block g (.inl (.inr hg))) rfl
          refine (texts_same v v2 _ q q2 (takeL e ⟨cl, up, gep, sq, ak, bd⟩) W3 (r1.below hb3) ((strs_of g2 rfl).below hb3) (by omega)).mono ?_
          rintro r w7 ⟨rfl, b7⟩
          exact ⟨rfl, HFI.out _ _ ((h6.below hb3).below b7)⟩
        clear HFI HQ1 HI HEP hln hbl
        generalize (takeL e ⟨cl, up, gep, sq, ak, bd⟩).length = tl at HC
        generalize takeX e ⟨cl, up, gep, sq, ak, bd⟩ = tx at HC
        have hss : (tx == tx) = true := by simp
        go_wp2_with fail
        refine (HC.out _ (Below.refl _ _)).mono ?_
        rintro r w5 ⟨v1, q1, rfl, hbx, HN⟩
        have f2 := (hbx 2).trans e2
        have f3 := (hbx 3).trans e3
        have f4 := (hbx 4).trans e4
        have f5 := (hbx 5).trans e5
        have f6 := (hbx 6).trans e6
        have f7 := (hbx 7).trans e7
        clear hbx HC e0 e1 e2 e3 e4 e5 e6 e7
        go_wp2_with fail
        refine (HN.out _ (Below.refl _ _)).mono ?_
        rintro r w6 ⟨v2, q2, rfl, HM⟩
        clear HN f2 f3 f4 f5 f6 f7
        go_wp2_with fail
        refine (HM.out _ (Below.refl _ _)).mono ?_
        rintro r w7 ⟨rfl, h7⟩
        have H7 := Lib.hid h7
        clear h7 HM
        go_wp2_with fail
        go_meet
        exact H7.out
      have n3 : (zk == 3) = false := by rw [beq_eq_false_iff_ne]; exact k3
      have HE : Hid (∃ e', KX w1 p u (3 * (k + 1)) (3 * (k + 1)) (fun _ => False) e' e' W ∧ e'.ep = ep) := Lib.hid ⟨e, (HQ1.out.mono (by omega) (by omega)).less (fun _ x => x.elim), HEP.out⟩
      clear HQ1 HI HEP
      go_wp2_with fail
      go_meet
      exact HE.out
    case rest =>
      obtain ⟨e', h1, h2⟩ := hcut
      have HK2 := Lib.hid h1
      have HE2 := Lib.hid h2
      clear h1 h2 e0 e1 e2 e3 e4 e5 e6 e7
      obtain ⟨a1, c1, d1, d3, d5⟩ := HK2.out.at_
      have cO : ∀ dd os, Calls Try.prog 20 #[.pointer (some ⟨p, 0, none⟩)] (grow (redrawn wc dd) os) fun e w'' => e = .returned (.int .i64 e'.op.length) ∧ ∃ p : Regrown, w'' = grow (redrawn wc p.d) p.os := fun dd os => Calls.regrown_of (((HK2.out.below (below_regrown wc dd os)).open_).mono (by rintro r w' ⟨rfl, rfl⟩; exact ⟨rfl, Below.refl _ _⟩))
      have cG : ∀ dd os, Calls Try.prog 21 #[.pointer (some ⟨p, 0, none⟩)] (grow (redrawn wc dd) os) fun e w'' => e = .returned (.int .i64 e'.got) ∧ ∃ p : Regrown, w'' = grow (redrawn wc p.d) p.os := fun dd os => Calls.regrown_of (((HK2.out.below (below_regrown wc dd os)).got).mono (by rintro r w' ⟨rfl, rfl⟩; exact ⟨rfl, Below.refl _ _⟩))
      have cE : ∀ dd os, Calls Try.prog 22 #[.pointer (some ⟨p, 0, none⟩)] (grow (redrawn wc dd) os) fun e w'' => e = .returned (.int .i64 ep) ∧ ∃ p : Regrown, w'' = grow (redrawn wc p.d) p.os := fun dd os => Calls.regrown_of (((HK2.out.below (below_regrown wc dd os)).epoch).mono (by rintro r w' ⟨rfl, rfl⟩; exact ⟨by rw [HE2.out], Below.refl _ _⟩))
      have q1 := cell_regrown d1
      have q3 := cell_regrown d3
      go_wp2_with fail
      refine wp_region_quiet_below (by kernel_rfl) (by kernel_rfl) ?_
      repeat (go_big_quiet_step (first | (with_reducible exact cO _ _) | (with_reducible exact cG _ _) | (with_reducible exact cE _ _)))
      refine wpQuiet_nil ?_
      intro _ hw'
      obtain ⟨⟨dq, osq⟩, hw''⟩ := hw'
      subst hw''
      have b5 := below_regrown wc dq osq
      generalize grow (redrawn wc dq) osq = W5 at b5 ⊢
      have HK3 : Hid (KX w1 p u (3 * (k + 1)) (3 * (k + 1)) (fun _ => False) e' e' W5 ∧ e'.ep = ep) := Lib.hid ⟨(HK2.out.below b5).less (fun _ x => x.elim), HE2.out⟩
      clear b5 q1 q3 cO cG cE d1 d3 d5 HK2 HE2
      go_wp2
      go_roundw
      case rel => exact ⟨k + 1, e', by omega, by omega, by go_num, HK3⟩
      case measure => simp [intOf]; omega
end Go.Proofs.Ytbbikibkijncgaa.Cord
