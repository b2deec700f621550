/- MendClient, walked: undoing one client's leaves the others' pages as they were. -/
import Derived.Test.YtkeocnhndnbamaaGreatQMendClientM
import Derived.Deep.RegionHeld3
namespace Go.Proofs.YtkeocnhndnbamaaGreat.Mend
set_option maxRecDepth 100000
open Go.RowKit Go.Sort
open Go.Proofs.YtkeocnhndnbamaaGreat.Mem
open Go.Proofs.YtkeocnhndnbamaaGreat.Slab (Slot Slots nos atL slotV sameB_refl run_ne_slot run_guard_slot)
open Go.Proofs.YtkeocnhndnbamaaGreat.Ent (Ent goodB Ents)
open Go.Proofs.YtkeocnhndnbamaaGreat.Past (T3 txE)
open Go.Proofs.YtkeocnhndnbamaaGreat.MLog
section
variable {ops : Array Oper} {rest : List Oper} {o : Oper} {a : Go.Act} {w : World} {Q : Exit → Go.Act → World → Prop}
theorem wbig_store2 (f : Int → Int → Slot) (hg : o.guard = none) (x y : Operand) (ho : o.op = .store 43 x y) (W : World) (hw : w = W.alloc (.cells zw 43)) (hx : a.eval x = .pointer (some ⟨W.heap.size, 0, none⟩)) (hy : a.eval y = .agg (wantA f))
    (h : wpList Tryz.prog ops Q rest (a.put o.dst undef) (W.alloc (.cells (wantA f) 43))) : wpList Tryz.prog ops Q (o :: rest) a w :=
  wpList_plain hg fun _ hK => by
    subst hw
    unfold Oper.wp execOp
    simp only [ho, hx, hy, run_storeAt_new W 43 zw (wantA f) (by rw [show (wantA f).size = 40 from rfl]; exact info_ws) (by rw [zw_eq]; rfl) (want_one _), Sem.run_bind, Sem.run_pure, Result.andThen_ok]
    exact hK _ _ h
end
set_option maxRecDepth 100000 in
set_option maxHeartbeats 16000000 in
theorem client_walk (a : Option Addr) (n c : Nat) (zs : List AR) (cl : Int) (w : World) (h : ARs w a n zs) (_hc : -9223372036854775808 ≤ cl ∧ cl ≤ 9223372036854775807) :
    Calls Tryz.prog 5 #[.slice a n c, .int .i64 cl] w fun e w' => e = .returned (.bool true) ∧ Below w.heap.size w w' := by
  have HH := Lib.hid h
  have HAW := Lib.hid awake_any
  clear h
  go_enter Tryz.func5, Tryz.ntmps5
  go_upto_region 4 with (first
    | ((with_reducible refine (HAW.out _).mono ?_); rintro e w2 ⟨rfl, b2⟩; have B2 := Lib.hid b2; clear b2; have HLI := Lib.hid (lived_any a n c zs w2 (HH.out.below B2.out)))
    | ((with_reducible refine (HLI.out).mono ?_); rintro e w3 ⟨u, bb, rfl, b3, hpq⟩; have B3 := Lib.hid (below_go B2.out b3); have HPQ := Lib.hid hpq; clear b3 hpq))
  have HB3 := B3
  cases bb with
  | false =>
    go_wp2
    exact bodyPost_ret (v := .bool true) (by simp [results, Tryz.results5, go_sem]) rfl ⟨rfl, HB3.out⟩
  | true =>
    obtain ⟨p, hp⟩ : ∃ p, livedP (actsL zs 40) = p := ⟨_, rfl⟩
    obtain ⟨s, hliv⟩ := livA zs (Nat.le_refl 40)
    rw [hp] at hliv
    obtain ⟨MM, lv, nv, av, hpm, -⟩ := HPQ.out rfl
    rw [hp] at hpm
    have hlen80 : p.list.length ≤ 80 := by have := hliv.pot; omega
    obtain ⟨la, lc, hlv⟩ := own_shape hpm.list
    subst hlv
    have HPM := Lib.hid hpm
    have HLIV := Lib.hid hliv
    obtain ⟨q0, hq0, hq1⟩ : ∃ q0 : Nat, q0 < 4 ∧ wrap64 ((IntKind.u64.wrap cl).tmod 4) = (q0 : Int) := by
      obtain ⟨h1, h2⟩ := cutN_is cl 4 (by omega) (by omega)
      exact ⟨_, by omega, h1⟩
    obtain ⟨C, hC⟩ : ∃ C : Int, 1 + (q0 : Int) = C := ⟨_, rfl⟩
    have hCl : Cl C := by unfold Cl; omega
    have e1 : wrap64 (1 + (q0 : Int)) = C := by rw [IntWalk.wrap64_in _ (by omega)]; exact hC
    have e2 : IntKind.i64.wrap (1 + (q0 : Int)) = C := by rw [IntWalk.i64_left]; exact e1
    have e3 : IntKind.i64.wrap ((IntKind.u64.wrap cl).tmod 4) = (q0 : Int) := by rw [IntWalk.i64_left]; exact hq1
    have HCL := Lib.hid hCl
    clear hpm hliv hCl HPQ HLI HAW HH
    go_upto_region 7 with (fail)
    try rw [hq1]
    try rw [e3]
    try rw [e1]
    try rw [e2]
    clear hq0 hq1 e1 e2 e3
    obtain ⟨gn, cn, hnv, hMg, hnl⟩ := now_leaves HPM.out.now
    subst hnv
    obtain ⟨m, hm⟩ : ∃ m, p.list.length = m := ⟨_, rfl⟩
    have HM := Lib.hid hm
    have HNL := Lib.hid (fun (W : World) (hb : Below w3.heap.size w3 W) => hnl.below hb)
    have HEN := Lib.hid (show ∀ W, Below w3.heap.size w3 W → Ents W la m p.list from fun W hb => by
      obtain ⟨a2, c2, e2, hE, -⟩ := Past.ents_own (HPM.out.below hb).list HPM.out.small
      injection e2 with e3 e4 e5
      subst e3
      rw [HM.out] at hE
      exact hE)
    have HS := Lib.hid (show ∀ W, Below w3.heap.size w3 W → W.cell? ⟨u, 0, none⟩ = some (.slice la m lc) ∧ W.cell? ⟨u, 1, none⟩ = some (.slice (some ⟨gn, 0, none⟩) 4 cn) from fun W hb => ⟨by rw [(HPM.out.below hb).blk.cell, ← HM.out]; rfl, by rw [(HPM.out.below hb).blk.cell]; rfl⟩)
    have HOW := Lib.hid (show ∀ W, Below w3.heap.size w3 W → ∀ i : Nat, i < 4 → W.cell? ⟨u, 3 + i, none⟩ = some (.int .i64 (p.owner i)) from fun W hb i hi => by
      rw [(HPM.out.below hb).blk.cell]
      rcases (show i = 0 ∨ i = 1 ∨ i = 2 ∨ i = 3 by omega) with rfl | rfl | rfl | rfl <;> rfl)
    obtain ⟨hlog, hnow⟩ := client_log HLIV.out (by decide)
    have HUN := Lib.hid (fun (W : World) (hb : Below w3.heap.size w3 W) => undo_any hlog hnow la m lc (some ⟨gn, 0, none⟩) 4 cn C W (HEN.out W hb) (HNL.out W hb) (by omega) (by have := HCL.out; unfold Cl at this; omega))
    have HLOG := Lib.hid hlog
    clear hlog hnow hnl hm hMg
    have z0 := HS.out w3 (Below.refl _ _)
    have z1 := HS.out w3.drew (Below.refl _ _).drew
    go_cut [8, 9, 10] (fun t8 t9 t10 wy => ∃ (E : List Ent) (R : List Lf) (a1 a2 : Option Addr) (c1 c2 : Nat), t8 = .slice a1 E.length c1 ∧ t9 = .slice a2 4 c2 ∧ t10 = .int .i64 0 ∧ Hid (PostU (whoC C) p.list s (nowL p.now) 1000 E R ∧ Ents wy a1 E.length E ∧ LeavesI wy a2 4 R ∧ Below w3.heap.size w3 wy))
    case first =>
      go_region_held3 (fun W' => W'.cell? ⟨u, 0, none⟩ = some (.slice la m lc) ∧ W'.cell? ⟨u, 1, none⟩ = some (.slice (some ⟨gn, 0, none⟩) 4 cn))
        (first | (with_unfolding_none assumption) | (with_unfolding_none exact z0) | (with_unfolding_none exact z1))
        (first
          | (go_at_call 15; (with_reducible refine (HUN.out _ (by first | (with_reducible exact Below.refl _ _) | (with_reducible exact bx_d _))).mono ?_); rintro e w5 ⟨E, R, a1, a2, c1, c2, rfl, hpost, hea, hlr, b5⟩; have B5 := Lib.hid (show Below w3.heap.size w3 w5 from (by first | (with_reducible exact b5) | (with_reducible exact bn_d b5))); have HPO := Lib.hid hpost; have hR4 : R.length = 4 := (by obtain ⟨B, F, m', z, -, -, hR, -⟩ := hpost; rw [hR, List.length_map, nowL_len]); rw [hR4] at hlr ⊢; have HLR := Lib.hid hlr; have HEA := Lib.hid hea.1; clear hpost hlr hea b5 hR4; have z4 := HS.out w5 B5.out))
      all_goals
        go_wp2_with fail
        go_meet
        case rel => exact ⟨E, R, a1, a2, c1, c2, rfl, rfl, rfl, Lib.hid ⟨HPO.out, HEA.out, HLR.out, B5.out⟩⟩
    case rest =>
      obtain ⟨E, R, a1, a2, c1, c2, rfl, rfl, rfl, H5⟩ := hcut
      clear z0 z1
      obtain ⟨z, hR, hcl, hz⟩ := client_post HLIV.out HCL.out HLOG.out H5.out.1
      have hlr := H5.out.2.2.1
      rw [hR] at hlr
      have HFO := Lib.hid (fun (W : World) (hb : Below w3.heap.size w3 W) => foldp_any la m lc p.list W (HEN.out W hb) HLIV.out.core.good HLIV.out.core.rng (by have := HM.out; omega))
      have u0 := (HS.out wc H5.out.2.2.2).1
      have HB5 := Lib.hid H5.out.2.2.2
      have HEA := Lib.hid H5.out.2.1
      have HLR := Lib.hid hlr
      have HZ := Lib.hid hz
      have HCE := Lib.hid hcl
      have HEL := Lib.hid (show E.length ≤ 160 from by obtain ⟨B, F, m', z, -, -, -, -, hE⟩ := H5.out.1; omega)
      clear hR hcl hz hlr H5 HUN
      go_upto_region 11 with (first
        | ((with_reducible refine (HFO.out _ HB5.out).mono ?_); rintro e w6 ⟨rfl, b6⟩; have B6 := Lib.hid b6; clear b6)
        | (refine wbig_alloc rfl rfl ?_)
        | (refine wbig_store2 (fold0 p.list) rfl _ _ rfl w6 rfl rfl rfl ?_))
      obtain ⟨gw, hgw⟩ : ∃ gw, w6.heap.size = gw := ⟨_, rfl⟩
      have HWB := Lib.hid (Blk.new w6 43 (wantA (fold0 p.list)))
      have B7 := Lib.hid (below_go B6.out (Ent.below_box w6 (.cells (wantA (fold0 p.list)) 43)))
      rw [hgw] at HWB
      try rw [hgw]
      clear hgw
      generalize hGen : w6.alloc (.cells (wantA (fold0 p.list)) 43) = W7 at HWB B7 ⊢
      clear hGen
      have HB7 := Lib.hid (below_go HB5.out B7.out)
      -- the pages that came back, and those that are now
      obtain ⟨rb, roff, rfl, hf4⟩ := leaves_four (q := fun i => ((z.pg i).1, (z.pg i).2.1)) (HLR.out.below B7.out) (fun i hi => by rw [List.getElem?_map, nowL_at p.now hi]; rfl) (fun i _ => by have := (Slab.good_parts (z.pg (i : Int)).2.2).2.2.1; show (z.pg (i : Int)).2.1.length ≤ _; omega)
      have HF4 := Lib.hid hf4
      have hn4 : ∀ i : Nat, i < 4 → p.now i = ((s.pg i).1, (s.pg i).2.1) := fun i _ => HLIV.out.core.now i
      have HN4 := Lib.hid hn4
      obtain ⟨nb, noff, hnb, hq4⟩ := leaves_four (q := fun i => ((p.now i).1, (p.now i).2)) (HNL.out W7 HB7.out) (fun i hi => nowL_at p.now hi) (fun i hi => by rw [hn4 i hi]; have := (Slab.good_parts (s.pg (i : Int)).2.2).2.2.1; show (s.pg (i : Int)).2.1.length ≤ _; omega)
      obtain ⟨rfl, rfl⟩ : gn = nb ∧ 0 = noff := by injection hnb with h; injection h with h1 h2; exact ⟨h1, h2⟩
      have HQ4 := Lib.hid hq4
      have HU := Lib.hid (fun (W : World) (hb : Below W7.heap.size W7 W) => (HS.out W (below_go HB7.out hb)).2)
      have HO4 := Lib.hid (fun (W : World) (hb : Below W7.heap.size W7 W) => HOW.out W (below_go HB7.out hb))
      have HEA7 := Lib.hid (HEA.out.next B7.out)
      clear hf4 hn4 hnb hq4 u0 HS HOW HNL HEN HFO HEA HLR
      go_wp2_with fail
      go_loopw [12] (fun iv wz => ∃ i : Nat, i ≤ 4 ∧ iv = .int .i64 (i : Int) ∧ Hid (Below W7.heap.size W7 wz)) (fun iv _ => 4 - intN iv)
      case atStart => exact ⟨0, by omega, rfl, Lib.hid (Below.refl _ _)⟩
      case round =>
        obtain ⟨i, hi, rfl, HI⟩ := hrel
        by_cases hil : i < 4
        · have hd : decide ((i : Int) < 4) = true := decide_eq_true (by omega)
          go_wp2_with fail
          go_loopw [13] (fun kv wz => ∃ k : Nat, k ≤ 5 ∧ kv = .int .i64 (k : Int) ∧ Hid (Below W7.heap.size W7 wz)) (fun kv _ => 5 - intN kv)
          case atStart => exact ⟨0, by omega, rfl, HI⟩
          case round =>
            clear hd
            obtain ⟨k, hk, rfl, HK⟩ := hrel
            by_cases hkl : k < 5
            · have hd : decide ((k : Int) < 5) = true := decide_eq_true (by omega)
              obtain ⟨na, nm, nd, n1, n2, n3, n4⟩ := (HQ4.out.below HK.out).2 i hil
              try dsimp only at n1 n2 n3
              rw [Nat.zero_add] at n1 n2
              have u1 := HU.out _ HK.out
              obtain ⟨y, hy⟩ : ∃ y : Slot, atL (p.now (i : Int)).1 (p.now (i : Int)).2 (k : Int) = y := ⟨_, rfl⟩
              obtain ⟨yu, yd⟩ := y
              have hat := Slab.at_any (p.now (i : Int)).1 na nm nd (p.now (i : Int)).2 (k : Int) wr n3 n4
              rw [hy] at hat
              unfold slotV at hat
              have HAT := Lib.hid hat
              have HY := Lib.hid hy
              have hi4 : (i : Int) < 4 := by omega
              have hi0 : (0 : Int) ≤ (i : Int) := by omega
              have hk0 : (0 : Int) ≤ (k : Int) := by omega
              have hk5 : (k : Int) < 5 := by omega
              clear hat hy n3
              go_upto_region 18 with ((with_reducible refine HAT.out.mono ?_); rintro e w8 ⟨rfl, b8⟩; have B8 := Lib.hid (below_go HK.out b8); clear b8)
              clear n1 n2 u1
              have hbx := below_go B8.out (Ent.below_box w8 (.cells #[.bool yu, .string yd] 41))
              have o1 := HO4.out _ hbx i hil
              by_cases ho : p.owner (i : Int) = C
              · obtain ⟨x, hx⟩ : ∃ x : Slot, fold0 p.list (i : Int) (k : Int) = x := ⟨_, rfl⟩
                have hW := HWB.out.below hbx HWB.out.lt
                have y0 := hW.cell (i * 10 + k * 2)
                have y1 := hW.cell (i * 10 + k * 2 + 1)
                rw [(want_at (fold0 p.list) hil hkl).1, hx] at y0
                rw [(want_at (fold0 p.list) hil hkl).2, hx] at y1
                obtain ⟨xu, xd⟩ := x
                have HEQ := Lib.hid (show atL (z.pg (i : Int)).1 (z.pg (i : Int)).2.1 (k : Int) = ⟨xu, xd⟩ from by
                  have h1 := (HZ.out (i : Int)).1 ho (k : Int)
                  have h2 : atL 0 (z.pg (i : Int)).2.1 (k : Int) = fold0 p.list i k := h1
                  rw [at_lsn0 (good_at (HZ.out (i : Int)).2.2.1 (HZ.out (i : Int)).2.2.2), h2, hx])
                rw [ho] at o1
                have H9 := Lib.hid (below_go B8.out (Ent.below_box w8 (.cells #[.bool xu, .string xd] 41)))
                have HX := Lib.hid (Blk.new w8 41 #[.bool xu, .string xd])
                have hdC : (C == C) = true := beq_self_eq_true C
                clear hW hbx hx ho
                go_upto_region 20 with (fail)
                clear o1 y0 y1
                generalize hw9 : w8.alloc (.cells #[.bool xu, .string xd] 41) = w9 at HX H9 ⊢
                generalize w8.heap.size = gx at HX ⊢
                clear hw9
                obtain ⟨ra, rm, rd, c1, c2, c3, c4⟩ := (HF4.out.below H9.out).2 i hil
                try dsimp only at c1 c2 c3
                have q0 := cell_regrown (HX.out.cell 0)
                have q1 := cell_regrown (HX.out.cell 1)
                have q2 := cell_regrown c1
                have q3 := cell_regrown c2
                have cA : ∀ dd os, Calls Tryz.prog 16 #[.agg #[.int .i64 (z.pg (i : Int)).1, .slice ra rm rd], .int .i64 (k : Int)] (grow (redrawn w9 dd) os) fun e w'' => e = .returned (slotV (atL (z.pg (i : Int)).1 (z.pg (i : Int)).2.1 (k : Int))) ∧ ∃ p : Regrown, w'' = grow (redrawn w9 p.d) p.os := fun dd os => Calls.regrown_of (Slab.at_any _ ra rm rd _ (k : Int) _ (c3.mono (below_regrown w9 dd os) (Nat.le_refl _)) c4)
                rw [HEQ.out] at cA
                unfold slotV at cA
                have hq := fun W => run_ne_slot xu xu xd xd W
                rw [sameB_refl] at hq
                have hgd := fun (A B : Operand) xs ys W => run_guard_slot .neq A B xs ys W
                clear c1 c2 c3 HEQ
                refine wp_region_quiet_below (by kernel_rfl) (by kernel_rfl) ?_
                repeat (go_big_quiet_step ((with_reducible exact cA _ _)))
                refine wpQuiet_nil ?_
                intro _ hw'
                obtain ⟨⟨dq, osq⟩, hw''⟩ := hw'
                subst hw''
                have b10 := below_regrown w9 dq osq
                generalize grow (redrawn w9 dq) osq = w10 at b10 ⊢
                have H10 := Lib.hid (below_go H9.out b10)
                clear b10 cA q0 q1 q2 q3
                go_wp2
                go_roundw
                case rel => exact ⟨k + 1, by omega, by go_num, H10⟩
                case measure => simp [intN]; omega
              · obtain ⟨xu, hxu⟩ : ∃ xu, yu = xu := ⟨_, rfl⟩
                obtain ⟨xd, hxd⟩ : ∃ xd, yd = xd := ⟨_, rfl⟩
                subst hxu hxd
                have HEQ := Lib.hid (show atL (z.pg (i : Int)).1 (z.pg (i : Int)).2.1 (k : Int) = ⟨yu, yd⟩ from by
                  rw [(HZ.out (i : Int)).2.1 ho, ← HY.out, HLIV.out.core.now (i : Int)])
                have H9 := Lib.hid hbx
                have HX := Lib.hid (Blk.new w8 41 #[.bool yu, .string yd])
                have hdC : (p.owner (i : Int) == C) = false := beq_eq_false_iff_ne.2 ho
                have hdD : decide (p.owner (i : Int) = C) = false := decide_eq_false ho
                clear hbx
                go_upto_region 20 with (fail)
                clear o1 hdC hdD ho
                generalize hw9 : w8.alloc (.cells #[.bool yu, .string yd] 41) = w9 at HX H9 ⊢
                generalize w8.heap.size = gx at HX ⊢
                clear hw9
                obtain ⟨ra, rm, rd, c1, c2, c3, c4⟩ := (HF4.out.below H9.out).2 i hil
                try dsimp only at c1 c2 c3
                have q0 := cell_regrown (HX.out.cell 0)
                have q1 := cell_regrown (HX.out.cell 1)
                have q2 := cell_regrown c1
                have q3 := cell_regrown c2
                have cA : ∀ dd os, Calls Tryz.prog 16 #[.agg #[.int .i64 (z.pg (i : Int)).1, .slice ra rm rd], .int .i64 (k : Int)] (grow (redrawn w9 dd) os) fun e w'' => e = .returned (slotV (atL (z.pg (i : Int)).1 (z.pg (i : Int)).2.1 (k : Int))) ∧ ∃ p : Regrown, w'' = grow (redrawn w9 p.d) p.os := fun dd os => Calls.regrown_of (Slab.at_any _ ra rm rd _ (k : Int) _ (c3.mono (below_regrown w9 dd os) (Nat.le_refl _)) c4)
                rw [HEQ.out] at cA
                unfold slotV at cA
                have hq := fun W => run_ne_slot yu yu yd yd W
                rw [sameB_refl] at hq
                have hgd := fun (A B : Operand) xs ys W => run_guard_slot .neq A B xs ys W
                clear c1 c2 c3 HEQ
                refine wp_region_quiet_below (by kernel_rfl) (by kernel_rfl) ?_
                repeat (go_big_quiet_step ((with_reducible exact cA _ _)))
                refine wpQuiet_nil ?_
                intro _ hw'
                obtain ⟨⟨dq, osq⟩, hw''⟩ := hw'
                subst hw''
                have b10 := below_regrown w9 dq osq
                generalize grow (redrawn w9 dq) osq = w10 at b10 ⊢
                have H10 := Lib.hid (below_go H9.out b10)
                clear b10 cA q0 q1 q2 q3
                go_wp2
                go_roundw
                case rel => exact ⟨k + 1, by omega, by go_num, H10⟩
                case measure => simp [intN]; omega
            · obtain rfl : k = 5 := by omega
              have hd : decide ((5 : Int) < 5) = false := by decide
              have o1 := HO4.out _ HK.out i hil
              obtain ⟨ra, rm, rd, c1, c2, c3, c4⟩ := (HF4.out.below HK.out).2 i hil
              try dsimp only at c1 c2 c3
              obtain ⟨na, nm, nd, n1, n2, n3, n4⟩ := (HQ4.out.below HK.out).2 i hil
              try dsimp only at n1 n2 n3
              rw [Nat.zero_add] at n1 n2
              have u1 := HU.out _ HK.out
              have hi4 : (i : Int) < 4 := by omega
              have hi0 : (0 : Int) ≤ (i : Int) := by omega
              by_cases ho : p.owner (i : Int) = C
              · rw [ho] at o1
                clear c2 c3 n2 n3 ho
                go_upto_region 22 with (fail)
                go_quiet (fail)
                go_wp2
                go_roundw
                case rel => exact ⟨i + 1, by omega, by go_num, Lib.hid (below_drewN HK.out _)⟩
                case measure => simp [intN]; omega
              · have hdC : (p.owner (i : Int) == C) = false := beq_eq_false_iff_ne.2 ho
                have hdN : (p.owner (i : Int) != C) = true := bne_iff_ne.2 ho
                have c9 : wr.cell? ⟨rb, roff + i * 3 + 1, none⟩ = some (.int .i64 (p.now (i : Int)).1) := by
                  have h := c1
                  rw [(HZ.out (i : Int)).2.1 ho] at h
                  rw [HLIV.out.core.now (i : Int)]
                  exact h
                clear c1
                generalize (p.now (i : Int)).1 = LL at c9 n1
                clear c2 c3 n2 n3
                go_upto_region 22 with (fail)
                go_quiet (fail)
                go_wp2
                go_roundw
                case rel => exact ⟨i + 1, by omega, by go_num, Lib.hid (below_drewN HK.out _)⟩
                case measure => simp [intN]; omega
        · obtain rfl : i = 4 := by omega
          have hd : decide ((4 : Int) < 4) = false := by decide
          obtain ⟨me, hme⟩ : ∃ me, E.length = me := ⟨_, rfl⟩
          rw [hme] at HEA7
          have hmb : me ≤ 160 := by rw [← hme]; exact HEL.out
          try rw [hme]
          have HEI := Lib.hid (HEA7.out.next HI.out)
          clear HEA7
          go_wp2_with fail
          go_loopw [15] (fun jv wz => ∃ j : Nat, j ≤ me ∧ jv = .int .i64 (j : Int) ∧ Hid (Below wr.heap.size wr wz)) (fun jv _ => me - intN jv)
          case atStart => exact ⟨0, Nat.zero_le _, rfl, Lib.hid (Below.refl _ _)⟩
          case round =>
            clear hd
            obtain ⟨j, hj, rfl, HJ⟩ := hrel
            by_cases hjl : j < me
            · have hd : decide ((j : Int) < (me : Int)) = true := decide_eq_true (by omega)
              have hx : E[j]? = some (E[j]'(by omega)) := List.getElem?_eq_getElem _
              obtain ⟨b, off, hab, -, he, -, -⟩ := Past.ents_mem (HEI.out.next HJ.out) hx
              subst hab
              have hcx := HCE.out _ (List.mem_of_getElem? hx)
              have y1 := he.cells.2.1
              rw [hcx] at y1
              clear he hx hcx
              go_wp2
              go_roundw
              case rel => exact ⟨j + 1, by omega, by go_num, HJ⟩
              case measure => simp [intN]; omega
            · have hjm : j = me := by omega
              subst hjm
              have hd : decide ((j : Int) < (j : Int)) = false := decide_eq_false (by omega)
              go_wp2
              go_ret
              exact ⟨rfl, below_go HB3.out (below_go HB7.out (below_go HI.out HJ.out))⟩
end Go.Proofs.YtkeocnhndnbamaaGreat.Mend
