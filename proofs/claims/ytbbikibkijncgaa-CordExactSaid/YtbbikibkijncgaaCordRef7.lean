/- Take of the document's own end: the walk of a text that is taken (laid by wip/bin/genref7.py). -/
import Derived.Test.YtbbikibkijncgaaCordRef6
namespace Go.Proofs.Ytbbikibkijncgaa.Cord
set_option maxRecDepth 100000
open Go.RowKit Go.Sort
open Go.Proofs.Ytbbikibkijncgaa.Mem
set_option maxRecDepth 100000 in
set_option maxHeartbeats 8000000 in
theorem utake_some (u m : Nat) (F : Nat → Prop) (e : CE) (g : Gm) (w : World) (h : UQ w u m F e) (hm : m ≤ 900) (hx : checkX e g = 0) (h0 : g.sq ≠ 0) :
    Calls Try.prog 18 #[.pointer (some ⟨u, 0, none⟩), .agg (gmV g)] w (UTakeRes u m F e g w) := by
  obtain ⟨q1, q2, q3, q4, q5, q6, q7⟩ := taken hx
  obtain ⟨E, hS⟩ := us_start g h
  have hne := hS.bxne
  obtain ⟨X, hX⟩ : ∃ X : Nat, g.sq = (X : Int) := ⟨g.sq.toNat, by omega⟩
  obtain ⟨K, hKe⟩ : ∃ K : Nat, g.ak = (K : Int) := ⟨g.ak.toNat, by omega⟩
  have hx32 : X ≤ e.got + 32 := by omega
  have hX0 : 0 < X := by omega
  have FIN : Hid (∀ w' o, w'.ownsRow w.heap.size 9 1 o (told (layE (settleE e K) X g.bd)).length (strsV (told (layE (settleE e K) X g.bd))) → UDid F w w' u (m + 1) (tellE (layE (settleE e K) X g.bd)) → UTakeRes u m F e g w (.returned (.tuple #[o, .int .i64 0])) w') := Lib.hid fun w' o ho hU =>
    ⟨o, by rw [hx], by unfold takeL; rw [if_neg (by simp [hx]), if_neg h0, hX, hKe, Int.toNat_natCast, Int.toNat_natCast]; exact ho, by unfold takeE; rw [if_neg (by simp [hx]), if_neg h0, hX, hKe, Int.toNat_natCast, Int.toNat_natCast]; exact hU⟩
  have hP : (settleE e K).wf ∧ Early E (settleE e K).f ∧ E.length ≤ m ∧ (settleE e K).given ≤ m ∧ (settleE e K).got = e.got := by
    obtain ⟨v1, v4, k, _⟩ := hS
    obtain ⟨s1, s2, _⟩ : (settleE e K).got = e.got ∧ (settleE e K).f = e.f ∧ True := by unfold settleE; split <;> exact ⟨rfl, rfl, trivial⟩
    refine ⟨wf_settle k.wf K, by rw [s2]; exact k.ea, k.lenE, ?_, s1⟩
    have := k.giv
    unfold settleE
    split
    · exact this
    · unfold CE.given at q5 this ⊢; simp; omega
  have HP := Lib.hid hP
  clear hP
  obtain ⟨a1, c1, a4, c4, k0, k1, k2, k3, k4, k5, f1, f4, f5, t1, t4, hA⟩ := hS.at_
  have hM := hS.box
  have hgot : e.got ≤ 32 * m := by obtain ⟨_, _, _, h, _⟩ := h; exact h.gotn
  have hwg : IntKind.i64.wrap ((e.got : Int) + 32) = (e.got : Int) + 32 := by rw [IntKind.wrap_i64]; omega
  clear h
  generalize UTakeRes u m F e g w = RES at *
  obtain ⟨cl, up, gep, sq, ak, bd⟩ := g
  dsimp only at *
  subst hX
  subst hKe
  subst q1
  have hKg : K ≤ e.given := by omega
  rw [Int.toNat_natCast] at hA
  have h2d : decide ((X : Int) < 0) = false := decide_eq_false (by omega)
  have h6n : ((X : Int) == 0) = false := by rw [beq_eq_false_iff_ne]; omega
  have h3d : decide ((K : Int) < 0) = false := decide_eq_false (by omega)
  have h4d : decide ((e.given : Int) < (K : Int)) = false := decide_eq_false (by omega)
  have h5d : decide ((e.got : Int) + 32 < (X : Int)) = false := decide_eq_false (by omega)
  have HA : Hid (∀ w', Below (w.alloc (.cells (gmV ⟨cl, up, e.ep, X, K, bd⟩) 29)).heap.size (w.alloc (.cells (gmV ⟨cl, up, e.ep, X, K, bd⟩) 29)) w' → Calls Try.prog 29 #[.slice a1 e.op.length c1, .int .i64 (K : Int)] w' (fun r w2 => ∃ a5 n5 c5, r = .returned (.slice a5 n5 c5) ∧ w2.cell? ⟨u, 1, none⟩ = some (.slice a1 e.op.length c1) ∧ w2.frozen? ⟨u, 1, none⟩ = false ∧ w2.cell? ⟨w.heap.size, 4, none⟩ = some (.int .i64 (K : Int)) ∧ US w F u m ⟨cl, up, e.ep, X, K, bd⟩ E (settleE e K) (w2.setCell ⟨u, 1, none⟩ (.slice a5 n5 c5)))) := Lib.hid fun w' hb => (hA w' hb).mono fun r w2 ⟨a5, n5, c5, h1, h2, h3, hz, h4⟩ => ⟨a5, n5, c5, h1, h2, h3, hz, h4 hKg⟩
  clear hS hA t1 t4 f4 f5 k4 k5
  unfold gmV at *
  dsimp only at *
  generalize e.op.length = n1 at *
  generalize hep : e.ep = gep at *
  generalize hgv : e.given = gv at *
  generalize hgt : e.got = gt at *
  go_enter Try.func18, Try.ntmps18
  go_upto_region 3 with (fail)
  generalize hGen : w.alloc (.cells #[.int .i64 cl, .bool up, .int .i64 gep, .int .i64 X, .int .i64 K, .string bd] 29) = W at hM HA k0 k1 k2 k3 f1 ⊢
  clear hGen
  have m2 : W.cell? ⟨w.heap.size, 2, none⟩ = some (.int .i64 gep) := hM.cell 2
  have m3 : W.cell? ⟨w.heap.size, 3, none⟩ = some (.int .i64 X) := hM.cell 3
  have m4 : W.cell? ⟨w.heap.size, 4, none⟩ = some (.int .i64 K) := hM.cell 4
  have m5 : W.cell? ⟨w.heap.size, 5, none⟩ = some (.string bd) := hM.cell 5
  clear hM hep hgv
  go_wp2_with fail
  go_quiet (fail)
  generalize nq = nq1
  go_wp2_with fail
  go_quiet (fail)
  go_wp2_with fail
  have e1 : (W.drewN (nq1 + nq)).cell? ⟨u, 1, none⟩ = some (.slice a1 n1 c1) := k1
  have e4 : (W.drewN (nq1 + nq)).cell? ⟨w.heap.size, 4, none⟩ = some (.int .i64 K) := m4
  have e5 : (W.drewN (nq1 + nq)).cell? ⟨w.heap.size, 5, none⟩ = some (.string bd) := m5
  have HA2 : Hid (∀ w', Below (W.drewN (nq1 + nq)).heap.size (W.drewN (nq1 + nq)) w' → Calls Try.prog 29 #[.slice a1 n1 c1, .int .i64 (K : Int)] w' (fun r w2 => ∃ a5 n5 c5, r = .returned (.slice a5 n5 c5) ∧ w2.cell? ⟨u, 1, none⟩ = some (.slice a1 n1 c1) ∧ w2.frozen? ⟨u, 1, none⟩ = false ∧ w2.cell? ⟨w.heap.size, 4, none⟩ = some (.int .i64 (K : Int)) ∧ US w F u m ⟨cl, up, gep, X, K, bd⟩ E (settleE e K) (w2.setCell ⟨u, 1, none⟩ (.slice a5 n5 c5)))) := Lib.hid fun w' hb => HA.out w' ((below_drewN (Below.refl _ _) _).trans hb)
  clear HA k0 k1 k2 k3 m2 m3 m4 m5 f1
  generalize hGen : W.drewN (nq1 + nq) = W2 at e1 e4 e5 HA2 ⊢
  clear hGen
  go_cut [] (fun wx => US w F u m ⟨cl, up, gep, X, K, bd⟩ E (settleE e K) wx)
  case first =>
    clear FIN
    go_region_law (go_simp; go_at_call 29; (with_reducible refine (HA2.out _ ?_).mono ?_); (first | assumption | exact (Below.refl _ _).drew | exact Below.refl _ _); rintro r w3 ⟨a5, n5, c5, rfl, d1, g1, hz, hU⟩; have HU := Lib.hid hU; clear hU hz)
    all_goals
      clear HA2 e1 e4 e5
      go_wp2_with fail
      go_meet
      exact HU.out
  case rest =>
    have HU := Lib.hid hcut
    clear hcut HA2 e1 e4 e5
    generalize wc = W4 at *
    have hB5 := below_box W4 (.cells #[] 9)
    have HU5 := HU.out.below hB5
    have m3 : (W4.alloc (.cells #[] 9)).cell? ⟨w.heap.size, 3, none⟩ = some (.int .i64 X) := (HU5.box).cell 3
    obtain ⟨_, _, _, _, _, _, _, _, _, d5, _, _, g5, _⟩ := HU5.at_
    have HW := Lib.hid (uw_start HU.out)
    obtain ⟨e1, he1⟩ : ∃ e1, e1 = settleE e K := ⟨_, rfl⟩
    rw [← he1] at HW HP FIN d5
    clear hB5 HU HU5 he1
    have hgt1 : e1.got = gt := HP.out.2.2.2.2
    clear hgt
    go_upto_region 14 with (fail)
    generalize hGen : (W4.alloc (.cells #[] 9)).setCell ⟨u, 5, none⟩ (.bool true) = W6 at HW ⊢
    clear hGen
    generalize W4.heap.size = ob at HW ⊢
    obtain ⟨a6, c6, d3, d4, _, f4, _, hu6, hf⟩ := HW.out.at_
    have HF := Lib.hid (hf (by have := HP.out.2.2.1; omega))
    have m3 : W6.cell? ⟨w.heap.size, 3, none⟩ = some (.int .i64 X) := HW.out.box.cell 3
    have m5 : W6.cell? ⟨w.heap.size, 5, none⟩ = some (.string bd) := HW.out.box.cell 5
    rw [hgt1] at d3
    clear hf d5 g5
    rcases (show (∃ sx, look E X = some sx) ∨ (look E X = none ∧ ¬ gt < X) ∨ (look E X = none ∧ gt < X) by cases look E X with | none => exact .inr ((Nat.lt_or_ge gt X).elim (fun h => .inr ⟨rfl, h⟩) (fun h => .inl ⟨rfl, by omega⟩)) | some s => exact .inl ⟨s, rfl⟩) with ⟨sx, hl⟩ | ⟨hl, hgx⟩ | ⟨hl, hgx⟩
    · have hd : layE e1 X bd = { e1 with due := true } := by
        unfold layE
        rw [if_neg (fun hc => by rw [HP.out.2.1 X, hc.1] at hl; cases hl)]
      go_wp2_with fail
      have q_d4 := cell_regrown d4
      have q_m3 := cell_regrown m3
      have cF : ∀ dd os, Calls Try.prog 30 #[.slice a6 E.length c6, .int .i64 (X : Int)] (grow (redrawn W6 dd) os) fun e w'' => e = .returned (.tuple #[.string sx, .bool true]) ∧ ∃ p : Regrown, w'' = grow (redrawn W6 p.d) p.os := fun dd os => Calls.regrown_of (by have h9 := HF.out _ (below_regrown W6 dd os) (X : Int); rw [hl] at h9; exact h9)
      refine wp_region_quiet_below (by kernel_rfl) (by kernel_rfl) ?_
      repeat (go_big_quiet_step ((with_reducible exact cF _ _)))
      refine wpQuiet_nil ?_
      intro _ hw'
      obtain ⟨⟨dq, osq⟩, hw''⟩ := hw'
      subst hw''
      have b7 := below_regrown W6 dq osq
      generalize grow (redrawn W6 dq) osq = W7 at b7 ⊢
      clear cF q_d4 q_m3
      have HW7 := Lib.hid (HW.out.below b7)
      have m3 : W7.cell? ⟨w.heap.size, 3, none⟩ = some (.int .i64 X) := HW7.out.box.cell 3
      have d3 : W7.cell? ⟨u, 3, none⟩ = some (.int .i64 gt) := by rw [← hgt1]; exact (HW7.out.at_).elim fun _ h => h.elim fun _ h => h.1
      clear b7 HW HF
      go_wp2_with fail
      go_quiet (fail)
      have HWX : Hid (UW w F u ⟨cl, up, gep, X, K, bd⟩ E (layE e1 X bd) (layE e1 X bd).got (.slice (some ⟨ob, 0, none⟩) 0 0) [] (W7.drewN nq)) := Lib.hid (by rw [hd]; exact HW7.out.below (below_drewN (Below.refl _ _) nq))
      have HD : Hid ((layE e1 X bd).wf ∧ Early E (layE e1 X bd).f ∧ E.length ≤ m + 1 ∧ (layE e1 X bd).given ≤ m ∧ (layE e1 X bd).got ≤ 32 * m ∧ True) := Lib.hid ⟨wf_lay HP.out.1 (by omega) q7, by rw [hd]; exact HP.out.2.1, by have := HP.out.2.2.1; omega, HP.out.2.2.2.1, by show e1.got ≤ _; omega, trivial⟩
      clear HW7 d3 m3 hd
      generalize layE e1 X bd = d at *
      go_upto_region 17 with (fail)
      generalize E = E3 at *
      generalize hGen : W7.drewN nq = W8 at HWX ⊢
      clear hGen
      have HW8 := HWX
      clear HWX
      have h32 := told_le HD.out.1
      obtain ⟨a8, c8, d3, d4, _, _, _, hu8, hf⟩ := HW8.out.at_
      have HF := Lib.hid (hf (by have := HD.out.2.2.1; omega))
      have hgd := HD.out.2.2.2.2.1
      obtain ⟨g0, hg0⟩ : ∃ g0 : Nat, g0 = d.got := ⟨_, rfl⟩
      obtain ⟨g1, hg1⟩ : ∃ g1 : Nat, g1 = d.got + 0 + 1 := ⟨_, rfl⟩
      rw [← hg0] at d3 hgd HW8
      have hwr : IntKind.i64.wrap ((g0 : Int) + 1) = (g1 : Int) := by rw [IntKind.wrap_i64]; omega
      have hlk := look_told HD.out.2.1 HD.out.1 (Nat.zero_le _)
      rw [← hg1] at hlk
      obtain ⟨s0, b0, hs0, hb0, HS0⟩ : ∃ (s0 : ByteArray) (b0 : Bool), ((told d)[0]?).getD .empty = s0 ∧ ((told d)[0]?).isSome = b0 ∧ Hid ((b0 = true → (told d)[0]? = some s0) ∧ (b0 = false → (told d).length = 0)) := by
        cases h : (told d)[0]? with
        | none => exact ⟨_, _, rfl, rfl, Lib.hid ⟨(fun x => by cases x), fun _ => by have := List.getElem?_eq_none_iff.1 h; omega⟩⟩
        | some s => exact ⟨_, _, rfl, rfl, Lib.hid ⟨fun _ => rfl, (fun x => by cases x)⟩⟩
      have HG1 := Lib.hid (And.intro hg0 hg1)
      clear hg0 hg1 hgd
      go_wp2_with fail
      have q_d3 := cell_regrown d3
      have q_d4 := cell_regrown d4
      have cF : ∀ dd os, Calls Try.prog 30 #[.slice a8 E3.length c8, .int .i64 (g1 : Int)] (grow (redrawn W8 dd) os) fun e w'' => e = .returned (.tuple #[.string s0, .bool b0]) ∧ ∃ p : Regrown, w'' = grow (redrawn W8 p.d) p.os := fun dd os => Calls.regrown_of (by have h9 := HF.out _ (below_regrown W8 dd os) (g1 : Int); rw [hlk, hs0, hb0] at h9; exact h9)
      refine wp_region_quiet_below (by kernel_rfl) (by kernel_rfl) ?_
      repeat (go_big_quiet_step ((with_reducible exact cF _ _)))
      refine wpQuiet_nil ?_
      intro _ hw'
      obtain ⟨⟨dq, osq⟩, hw''⟩ := hw'
      subst hw''
      have b9 := below_regrown W8 dq osq
      generalize grow (redrawn W8 dq) osq = W9 at b9 ⊢
      clear cF q_d3 q_d4
      have HW9 : Hid (UW w F u ⟨cl, up, gep, X, K, bd⟩ E3 d g0 (.slice (some ⟨ob, 0, none⟩) 0 0) ((told d).take 0) W9) := Lib.hid (HW8.out.below b9)
      clear b9 d3 d4 HF HW8 hlk hs0 hb0 hu8
      go_wp2_with fail
      go_loopw [6, 9, 10] (fun o s i wr => ∃ (j g : Nat) (sj : ByteArray) (bj : Bool), j ≤ (told d).length ∧ (∃ a c, o = .slice a j c) ∧ s = .string sj ∧ i = .bool bj ∧ Hid (g = d.got + j) ∧ Hid ((bj = true → (told d)[j]? = some sj) ∧ (bj = false → (told d).length = j)) ∧ Hid (UW w F u ⟨cl, up, gep, X, K, bd⟩ E3 d g o ((told d).take j) wr)) (fun o _ _ _ => (told d).length - (match o with | .slice _ n _ => n | _ => 0))
      case atStart => exact ⟨0, g0, s0, b0, Nat.zero_le _, ⟨_, _, rfl⟩, rfl, rfl, Lib.hid (by have := HG1.out; omega), HS0, HW9⟩
      case round =>
        obtain ⟨j, gj, sj, bj, hj, ⟨ao, co, rfl⟩, rfl, rfl, HGJ, HS, HK⟩ := hrel
        clear HW9 HS0 HG1
        cases bj with
        | true =>
          have hxj := HS.out.1 rfl
          have hgj := HGJ.out
          have hgd := HD.out.2.2.2.2.1
          have hlt : j < (told d).length := (List.getElem?_eq_some_iff.1 hxj).1
          have htk : (told d).take (j + 1) = (told d).take j ++ [sj] := by rw [List.take_add_one, hxj]; rfl
          have hlj : ((told d).take j).length = j := by rw [List.length_take]; omega
          obtain ⟨gj1, hgj1⟩ : ∃ x : Nat, x = gj + 1 := ⟨_, rfl⟩
          obtain ⟨gj2, hgj2⟩ : ∃ x : Nat, x = d.got + (j + 1) + 1 := ⟨_, rfl⟩
          have hw1 : IntKind.i64.wrap ((gj : Int) + 1) = (gj1 : Int) := by rw [IntKind.wrap_i64]; omega
          have hw2 : IntKind.i64.wrap ((gj1 : Int) + 1) = (gj2 : Int) := by rw [IntKind.wrap_i64]; omega
          have hlk := look_told HD.out.2.1 HD.out.1 (show j + 1 ≤ (told d).length from hlt)
          rw [← hgj2] at hlk
          have FIN5 : Hid (∀ v5 w5, w5.ownsRow w.heap.size 9 1 v5 ((told d).take j ++ [sj]).length (strsV ((told d).take j ++ [sj])) → (wr.alloc (.cells #[.string sj] 9)).grownBy w5 (Value.slice ao j co).ownBlock → (v5.ownBlock = (Value.slice ao j co).ownBlock ∨ v5.ownBlock = some (wr.alloc (.cells #[.string sj] 9)).heap.size) →
              (∃ a c, v5 = .slice a (j + 1) c) ∧ w5.cell? ⟨u, 3, none⟩ = some (.int .i64 gj) ∧ w5.frozen? ⟨u, 3, none⟩ = false ∧ UW w F u ⟨cl, up, gep, X, K, bd⟩ E3 d gj1 v5 ((told d).take (j + 1)) (w5.setCell ⟨u, 3, none⟩ (.int .i64 (gj1 : Int)))) := Lib.hid fun v5 w5 ho hg hv => by
            obtain ⟨q1, q2, q3⟩ := HK.out.tell sj (below_box wr _) ho hg hv
            rw [htk, hgj1]
            refine ⟨?_, q1, q2, q3⟩
            have := own_shape ho
            rw [List.length_append, hlj] at this
            exact this
          have HO : Hid (wr.ownsRow w.heap.size 9 1 (.slice ao j co) ((told d).take j).length (strsV ((told d).take j)) ∧ w.heap.size ≤ wr.heap.size) := Lib.hid ⟨HK.out.row, HK.out.size⟩
          have HL := Lib.hid (show ((told d).take j).length ≤ 3000000 by omega)
          obtain ⟨s1, b1, hs1, hb1, HS1⟩ : ∃ (s1 : ByteArray) (b1 : Bool), ((told d)[j + 1]?).getD .empty = s1 ∧ ((told d)[j + 1]?).isSome = b1 ∧ Hid ((b1 = true → (told d)[j + 1]? = some s1) ∧ (b1 = false → (told d).length = j + 1)) := by
            cases h : (told d)[j + 1]? with
            | none => exact ⟨_, _, rfl, rfl, Lib.hid ⟨(fun x => by cases x), fun _ => by have := List.getElem?_eq_none_iff.1 h; omega⟩⟩
            | some s => exact ⟨_, _, rfl, rfl, Lib.hid ⟨fun _ => rfl, (fun x => by cases x)⟩⟩
          have HG2 := Lib.hid (show gj1 = d.got + (j + 1) by omega)
          clear hxj htk hlj HS HK hgj1 hgj2 hgj hgd HGJ
          go_upto_region 21 with (at_builtin; refine wpList_app rfl _ _ rfl w.heap.size _ ((told d).take j) rfl (own_below HO.out.1 (below_box _ _)) wr.heap.size sj rfl (Blk.new wr _ _) HL.out (Nat.le_trans HO.out.2 (by simp)) ?_; intro v5 w5 ho5 hg5 hv5; have HE5 := Lib.hid (FIN5.out v5 w5 ho5 hg5 hv5); obtain ⟨a5, c5', e5⟩ := HE5.out.1; subst e5; have k5 := HE5.out.2.1; have f5 := HE5.out.2.2.1; clear ho5 hg5 hv5)
          have HE6 := Lib.hid HE5.out.2.2.2
          clear FIN5 HO HL k5 f5 HE5
          generalize hGen : w5.setCell ⟨u, 3, none⟩ (.int .i64 (gj1 : Int)) = WA at HE6 ⊢
          clear hGen
          obtain ⟨aA, cA, d3, d4, _, _, _, huA, hf⟩ := HE6.out.at_
          have HF := Lib.hid (hf (by have := HD.out.2.2.1; omega))
          clear hf
          go_wp2_with fail
          have q_d3 := cell_regrown d3
          have q_d4 := cell_regrown d4
          have cF : ∀ dd os, Calls Try.prog 30 #[.slice aA E3.length cA, .int .i64 (gj2 : Int)] (grow (redrawn WA dd) os) fun e w'' => e = .returned (.tuple #[.string s1, .bool b1]) ∧ ∃ p : Regrown, w'' = grow (redrawn WA p.d) p.os := fun dd os => Calls.regrown_of (by have h9 := HF.out _ (below_regrown WA dd os) (gj2 : Int); rw [hlk, hs1, hb1] at h9; exact h9)
          refine wp_region_quiet_below (by kernel_rfl) (by kernel_rfl) ?_
          repeat (go_big_quiet_step ((with_reducible exact cF _ _)))
          refine wpQuiet_nil ?_
          intro _ hw'
          obtain ⟨⟨dq, osq⟩, hw''⟩ := hw'
          subst hw''
          have bB := below_regrown WA dq osq
          generalize grow (redrawn WA dq) osq = WB at bB ⊢
          clear cF q_d3 q_d4
          have HK2 : Hid (UW w F u ⟨cl, up, gep, X, K, bd⟩ E3 d gj1 (.slice a5 (j + 1) c5') ((told d).take (j + 1)) WB) := Lib.hid (HE6.out.below bB)
          clear bB d3 d4 HF HE6 hlk hs1 hb1 huA
          go_wp2_with fail
          go_roundw
          case rel => exact ⟨j + 1, gj1, s1, b1, hlt, ⟨_, _, rfl⟩, rfl, rfl, HG2, HS1, HK2⟩
          case measure => simp; omega
        | false =>
          have hjl := HS.out.2 rfl
          have hgj := HGJ.out
          subst hjl
          subst hgj
          have HK2 : Hid (UW w F u ⟨cl, up, gep, X, K, bd⟩ E3 d (d.got + (told d).length) (.slice ao (told d).length co) (told d) wr) := Lib.hid (by have := HK.out; rwa [List.take_length] at this)
          obtain ⟨aA, cA, d3, d4, hf⟩ := HK2.out.fin HD.out.2.1 HD.out.1 HD.out.2.2.1 HD.out.2.2.2.1 HD.out.2.2.2.2.1 hm
          have HAB := Lib.hid hf
          clear hf HK HS HGJ
          have HFI : Hid (∀ w', UDid F w w' u (m + 1) (tellE d) ∧ w'.ownsRow w.heap.size 9 1 (.slice ao (told d).length co) (told d).length (strsV (told d)) → RES (.returned (.tuple #[.slice ao (told d).length co, .int .i64 0])) w') := Lib.hid fun w' hh => FIN.out w' _ hh.2 hh.1
          clear FIN HK2
          generalize (told d).length = tl at *
          generalize d.got + tl = ge at *
          go_wp2_with fail
          go_region_law (go_simp; go_at_call 29; (with_reducible refine (HAB.out _ ?_).mono ?_); (first | assumption | exact (Below.refl _ _).drew | exact Below.refl _ _); rintro r w3 ⟨a7, n7, c7, rfl, d7, f7, z7, hU⟩; have HU := Lib.hid (HFI.out _ hU); clear hU z7)
          all_goals
            clear HAB HFI d3 d4
            go_wp2_with fail
            exact HU.out
    · have hd : layE e1 X bd = { e1 with due := true } := by
        unfold layE
        rw [if_neg (fun hc => hgx (by rw [← hgt1]; exact hc.2))]
      have hgxi : ¬ (gt : Int) < (X : Int) := by omega
      have hgxd : decide ((gt : Int) < (X : Int)) = false := decide_eq_false hgxi
      go_wp2_with fail
      have q_d4 := cell_regrown d4
      have q_m3 := cell_regrown m3
      have cF : ∀ dd os, Calls Try.prog 30 #[.slice a6 E.length c6, .int .i64 (X : Int)] (grow (redrawn W6 dd) os) fun e w'' => e = .returned (.tuple #[.string .empty, .bool false]) ∧ ∃ p : Regrown, w'' = grow (redrawn W6 p.d) p.os := fun dd os => Calls.regrown_of (by have h9 := HF.out _ (below_regrown W6 dd os) (X : Int); rw [hl] at h9; exact h9)
      refine wp_region_quiet_below (by kernel_rfl) (by kernel_rfl) ?_
      repeat (go_big_quiet_step ((with_reducible exact cF _ _)))
      refine wpQuiet_nil ?_
      intro _ hw'
      obtain ⟨⟨dq, osq⟩, hw''⟩ := hw'
      subst hw''
      have b7 := below_regrown W6 dq osq
      generalize grow (redrawn W6 dq) osq = W7 at b7 ⊢
      clear cF q_d4 q_m3
      have HW7 := Lib.hid (HW.out.below b7)
      have m3 : W7.cell? ⟨w.heap.size, 3, none⟩ = some (.int .i64 X) := HW7.out.box.cell 3
      have d3 : W7.cell? ⟨u, 3, none⟩ = some (.int .i64 gt) := by rw [← hgt1]; exact (HW7.out.at_).elim fun _ h => h.elim fun _ h => h.1
      clear b7 HW HF
      go_wp2_with fail
      go_quiet (fail)
      have HWX : Hid (UW w F u ⟨cl, up, gep, X, K, bd⟩ E (layE e1 X bd) (layE e1 X bd).got (.slice (some ⟨ob, 0, none⟩) 0 0) [] (W7.drewN nq)) := Lib.hid (by rw [hd]; exact HW7.out.below (below_drewN (Below.refl _ _) nq))
      have HD : Hid ((layE e1 X bd).wf ∧ Early E (layE e1 X bd).f ∧ E.length ≤ m + 1 ∧ (layE e1 X bd).given ≤ m ∧ (layE e1 X bd).got ≤ 32 * m ∧ True) := Lib.hid ⟨wf_lay HP.out.1 (by omega) q7, by rw [hd]; exact HP.out.2.1, by have := HP.out.2.2.1; omega, HP.out.2.2.2.1, by show e1.got ≤ _; omega, trivial⟩
      clear HW7 d3 m3 hd
      generalize layE e1 X bd = d at *
      go_upto_region 17 with (fail)
      generalize E = E3 at *
      generalize hGen : W7.drewN nq = W8 at HWX ⊢
      clear hGen
      have HW8 := HWX
      clear HWX
      have h32 := told_le HD.out.1
      obtain ⟨a8, c8, d3, d4, _, _, _, hu8, hf⟩ := HW8.out.at_
      have HF := Lib.hid (hf (by have := HD.out.2.2.1; omega))
      have hgd := HD.out.2.2.2.2.1
      obtain ⟨g0, hg0⟩ : ∃ g0 : Nat, g0 = d.got := ⟨_, rfl⟩
      obtain ⟨g1, hg1⟩ : ∃ g1 : Nat, g1 = d.got + 0 + 1 := ⟨_, rfl⟩
      rw [← hg0] at d3 hgd HW8
      have hwr : IntKind.i64.wrap ((g0 : Int) + 1) = (g1 : Int) := by rw [IntKind.wrap_i64]; omega
      have hlk := look_told HD.out.2.1 HD.out.1 (Nat.zero_le _)
      rw [← hg1] at hlk
      obtain ⟨s0, b0, hs0, hb0, HS0⟩ : ∃ (s0 : ByteArray) (b0 : Bool), ((told d)[0]?).getD .empty = s0 ∧ ((told d)[0]?).isSome = b0 ∧ Hid ((b0 = true → (told d)[0]? = some s0) ∧ (b0 = false → (told d).length = 0)) := by
        cases h : (told d)[0]? with
        | none => exact ⟨_, _, rfl, rfl, Lib.hid ⟨(fun x => by cases x), fun _ => by have := List.getElem?_eq_none_iff.1 h; omega⟩⟩
        | some s => exact ⟨_, _, rfl, rfl, Lib.hid ⟨fun _ => rfl, (fun x => by cases x)⟩⟩
      have HG1 := Lib.hid (And.intro hg0 hg1)
      clear hg0 hg1 hgd
      go_wp2_with fail
      have q_d3 := cell_regrown d3
      have q_d4 := cell_regrown d4
      have cF : ∀ dd os, Calls Try.prog 30 #[.slice a8 E3.length c8, .int .i64 (g1 : Int)] (grow (redrawn W8 dd) os) fun e w'' => e = .returned (.tuple #[.string s0, .bool b0]) ∧ ∃ p : Regrown, w'' = grow (redrawn W8 p.d) p.os := fun dd os => Calls.regrown_of (by have h9 := HF.out _ (below_regrown W8 dd os) (g1 : Int); rw [hlk, hs0, hb0] at h9; exact h9)
      refine wp_region_quiet_below (by kernel_rfl) (by kernel_rfl) ?_
      repeat (go_big_quiet_step ((with_reducible exact cF _ _)))
      refine wpQuiet_nil ?_
      intro _ hw'
      obtain ⟨⟨dq, osq⟩, hw''⟩ := hw'
      subst hw''
      have b9 := below_regrown W8 dq osq
      generalize grow (redrawn W8 dq) osq = W9 at b9 ⊢
      clear cF q_d3 q_d4
      have HW9 : Hid (UW w F u ⟨cl, up, gep, X, K, bd⟩ E3 d g0 (.slice (some ⟨ob, 0, none⟩) 0 0) ((told d).take 0) W9) := Lib.hid (HW8.out.below b9)
      clear b9 d3 d4 HF HW8 hlk hs0 hb0 hu8
      go_wp2_with fail
      go_loopw [6, 9, 10] (fun o s i wr => ∃ (j g : Nat) (sj : ByteArray) (bj : Bool), j ≤ (told d).length ∧ (∃ a c, o = .slice a j c) ∧ s = .string sj ∧ i = .bool bj ∧ Hid (g = d.got + j) ∧ Hid ((bj = true → (told d)[j]? = some sj) ∧ (bj = false → (told d).length = j)) ∧ Hid (UW w F u ⟨cl, up, gep, X, K, bd⟩ E3 d g o ((told d).take j) wr)) (fun o _ _ _ => (told d).length - (match o with | .slice _ n _ => n | _ => 0))
      case atStart => exact ⟨0, g0, s0, b0, Nat.zero_le _, ⟨_, _, rfl⟩, rfl, rfl, Lib.hid (by have := HG1.out; omega), HS0, HW9⟩
      case round =>
        obtain ⟨j, gj, sj, bj, hj, ⟨ao, co, rfl⟩, rfl, rfl, HGJ, HS, HK⟩ := hrel
        clear HW9 HS0 HG1
        cases bj with
        | true =>
          have hxj := HS.out.1 rfl
          have hgj := HGJ.out
          have hgd := HD.out.2.2.2.2.1
          have hlt : j < (told d).length := (List.getElem?_eq_some_iff.1 hxj).1
          have htk : (told d).take (j + 1) = (told d).take j ++ [sj] := by rw [List.take_add_one, hxj]; rfl
          have hlj : ((told d).take j).length = j := by rw [List.length_take]; omega
          obtain ⟨gj1, hgj1⟩ : ∃ x : Nat, x = gj + 1 := ⟨_, rfl⟩
          obtain ⟨gj2, hgj2⟩ : ∃ x : Nat, x = d.got + (j + 1) + 1 := ⟨_, rfl⟩
          have hw1 : IntKind.i64.wrap ((gj : Int) + 1) = (gj1 : Int) := by rw [IntKind.wrap_i64]; omega
          have hw2 : IntKind.i64.wrap ((gj1 : Int) + 1) = (gj2 : Int) := by rw [IntKind.wrap_i64]; omega
          have hlk := look_told HD.out.2.1 HD.out.1 (show j + 1 ≤ (told d).length from hlt)
          rw [← hgj2] at hlk
          have FIN5 : Hid (∀ v5 w5, w5.ownsRow w.heap.size 9 1 v5 ((told d).take j ++ [sj]).length (strsV ((told d).take j ++ [sj])) → (wr.alloc (.cells #[.string sj] 9)).grownBy w5 (Value.slice ao j co).ownBlock → (v5.ownBlock = (Value.slice ao j co).ownBlock ∨ v5.ownBlock = some (wr.alloc (.cells #[.string sj] 9)).heap.size) →
              (∃ a c, v5 = .slice a (j + 1) c) ∧ w5.cell? ⟨u, 3, none⟩ = some (.int .i64 gj) ∧ w5.frozen? ⟨u, 3, none⟩ = false ∧ UW w F u ⟨cl, up, gep, X, K, bd⟩ E3 d gj1 v5 ((told d).take (j + 1)) (w5.setCell ⟨u, 3, none⟩ (.int .i64 (gj1 : Int)))) := Lib.hid fun v5 w5 ho hg hv => by
            obtain ⟨q1, q2, q3⟩ := HK.out.tell sj (below_box wr _) ho hg hv
            rw [htk, hgj1]
            refine ⟨?_, q1, q2, q3⟩
            have := own_shape ho
            rw [List.length_append, hlj] at this
            exact this
          have HO : Hid (wr.ownsRow w.heap.size 9 1 (.slice ao j co) ((told d).take j).length (strsV ((told d).take j)) ∧ w.heap.size ≤ wr.heap.size) := Lib.hid ⟨HK.out.row, HK.out.size⟩
          have HL := Lib.hid (show ((told d).take j).length ≤ 3000000 by omega)
          obtain ⟨s1, b1, hs1, hb1, HS1⟩ : ∃ (s1 : ByteArray) (b1 : Bool), ((told d)[j + 1]?).getD .empty = s1 ∧ ((told d)[j + 1]?).isSome = b1 ∧ Hid ((b1 = true → (told d)[j + 1]? = some s1) ∧ (b1 = false → (told d).length = j + 1)) := by
            cases h : (told d)[j + 1]? with
            | none => exact ⟨_, _, rfl, rfl, Lib.hid ⟨(fun x => by cases x), fun _ => by have := List.getElem?_eq_none_iff.1 h; omega⟩⟩
            | some s => exact ⟨_, _, rfl, rfl, Lib.hid ⟨fun _ => rfl, (fun x => by cases x)⟩⟩
          have HG2 := Lib.hid (show gj1 = d.got + (j + 1) by omega)
          clear hxj htk hlj HS HK hgj1 hgj2 hgj hgd HGJ
          go_upto_region 21 with (at_builtin; refine wpList_app rfl _ _ rfl w.heap.size _ ((told d).take j) rfl (own_below HO.out.1 (below_box _ _)) wr.heap.size sj rfl (Blk.new wr _ _) HL.out (Nat.le_trans HO.out.2 (by simp)) ?_; intro v5 w5 ho5 hg5 hv5; have HE5 := Lib.hid (FIN5.out v5 w5 ho5 hg5 hv5); obtain ⟨a5, c5', e5⟩ := HE5.out.1; subst e5; have k5 := HE5.out.2.1; have f5 := HE5.out.2.2.1; clear ho5 hg5 hv5)
          have HE6 := Lib.hid HE5.out.2.2.2
          clear FIN5 HO HL k5 f5 HE5
          generalize hGen : w5.setCell ⟨u, 3, none⟩ (.int .i64 (gj1 : Int)) = WA at HE6 ⊢
          clear hGen
          obtain ⟨aA, cA, d3, d4, _, _, _, huA, hf⟩ := HE6.out.at_
          have HF := Lib.hid (hf (by have := HD.out.2.2.1; omega))
          clear hf
          go_wp2_with fail
          have q_d3 := cell_regrown d3
          have q_d4 := cell_regrown d4
          have cF : ∀ dd os, Calls Try.prog 30 #[.slice aA E3.length cA, .int .i64 (gj2 : Int)] (grow (redrawn WA dd) os) fun e w'' => e = .returned (.tuple #[.string s1, .bool b1]) ∧ ∃ p : Regrown, w'' = grow (redrawn WA p.d) p.os := fun dd os => Calls.regrown_of (by have h9 := HF.out _ (below_regrown WA dd os) (gj2 : Int); rw [hlk, hs1, hb1] at h9; exact h9)
          refine wp_region_quiet_below (by kernel_rfl) (by kernel_rfl) ?_
          repeat (go_big_quiet_step ((with_reducible exact cF _ _)))
          refine wpQuiet_nil ?_
          intro _ hw'
          obtain ⟨⟨dq, osq⟩, hw''⟩ := hw'
          subst hw''
          have bB := below_regrown WA dq osq
          generalize grow (redrawn WA dq) osq = WB at bB ⊢
          clear cF q_d3 q_d4
          have HK2 : Hid (UW w F u ⟨cl, up, gep, X, K, bd⟩ E3 d gj1 (.slice a5 (j + 1) c5') ((told d).take (j + 1)) WB) := Lib.hid (HE6.out.below bB)
          clear bB d3 d4 HF HE6 hlk hs1 hb1 huA
          go_wp2_with fail
          go_roundw
          case rel => exact ⟨j + 1, gj1, s1, b1, hlt, ⟨_, _, rfl⟩, rfl, rfl, HG2, HS1, HK2⟩
          case measure => simp; omega
        | false =>
          have hjl := HS.out.2 rfl
          have hgj := HGJ.out
          subst hjl
          subst hgj
          have HK2 : Hid (UW w F u ⟨cl, up, gep, X, K, bd⟩ E3 d (d.got + (told d).length) (.slice ao (told d).length co) (told d) wr) := Lib.hid (by have := HK.out; rwa [List.take_length] at this)
          obtain ⟨aA, cA, d3, d4, hf⟩ := HK2.out.fin HD.out.2.1 HD.out.1 HD.out.2.2.1 HD.out.2.2.2.1 HD.out.2.2.2.2.1 hm
          have HAB := Lib.hid hf
          clear hf HK HS HGJ
          have HFI : Hid (∀ w', UDid F w w' u (m + 1) (tellE d) ∧ w'.ownsRow w.heap.size 9 1 (.slice ao (told d).length co) (told d).length (strsV (told d)) → RES (.returned (.tuple #[.slice ao (told d).length co, .int .i64 0])) w') := Lib.hid fun w' hh => FIN.out w' _ hh.2 hh.1
          clear FIN HK2
          generalize (told d).length = tl at *
          generalize d.got + tl = ge at *
          go_wp2_with fail
          go_region_law (go_simp; go_at_call 29; (with_reducible refine (HAB.out _ ?_).mono ?_); (first | assumption | exact (Below.refl _ _).drew | exact Below.refl _ _); rintro r w3 ⟨a7, n7, c7, rfl, d7, f7, z7, hU⟩; have HU := Lib.hid (HFI.out _ hU); clear hU z7)
          all_goals
            clear HAB HFI d3 d4
            go_wp2_with fail
            exact HU.out
    · have hd : layE e1 X bd = { e1 with due := true, f := upd e1.f X bd } := by
        unfold layE
        rw [if_pos ⟨by rw [← HP.out.2.1 X]; exact hl, by rw [hgt1]; exact hgx⟩]
      have hgxi : (gt : Int) < (X : Int) := by omega
      have hgxd : decide ((gt : Int) < (X : Int)) = true := decide_eq_true hgxi
      go_wp2_with fail
      have q_d4 := cell_regrown d4
      have q_m3 := cell_regrown m3
      have cF : ∀ dd os, Calls Try.prog 30 #[.slice a6 E.length c6, .int .i64 (X : Int)] (grow (redrawn W6 dd) os) fun e w'' => e = .returned (.tuple #[.string .empty, .bool false]) ∧ ∃ p : Regrown, w'' = grow (redrawn W6 p.d) p.os := fun dd os => Calls.regrown_of (by have h9 := HF.out _ (below_regrown W6 dd os) (X : Int); rw [hl] at h9; exact h9)
      refine wp_region_quiet_below (by kernel_rfl) (by kernel_rfl) ?_
      repeat (go_big_quiet_step ((with_reducible exact cF _ _)))
      refine wpQuiet_nil ?_
      intro _ hw'
      obtain ⟨⟨dq, osq⟩, hw''⟩ := hw'
      subst hw''
      have b7 := below_regrown W6 dq osq
      generalize grow (redrawn W6 dq) osq = W7 at b7 ⊢
      clear cF q_d4 q_m3
      have HW7 := Lib.hid (HW.out.below b7)
      have m3 : W7.cell? ⟨w.heap.size, 3, none⟩ = some (.int .i64 X) := HW7.out.box.cell 3
      have d3 : W7.cell? ⟨u, 3, none⟩ = some (.int .i64 gt) := by rw [← hgt1]; exact (HW7.out.at_).elim fun _ h => h.elim fun _ h => h.1
      clear b7 HW HF
      go_wp2_with fail
      go_quiet (fail)
      have HW8 := Lib.hid (HW7.out.below (below_drewN (Below.refl _ _) nq))
      have HD : Hid ((layE e1 X bd).wf ∧ Early (E ++ [((X : Int), bd)]) (layE e1 X bd).f ∧ (E ++ [((X : Int), bd)]).length ≤ m + 1 ∧ (layE e1 X bd).given ≤ m ∧ (layE e1 X bd).got ≤ 32 * m ∧ True) := Lib.hid ⟨wf_lay HP.out.1 (by omega) q7, by have h9 := HP.out.2.1.lay X bd; unfold layT at h9; rw [if_pos ⟨hl, by rw [hgt1]; exact hgx⟩] at h9; exact h9, by have := HP.out.2.2.1; simp; omega, HP.out.2.2.2.1, by show e1.got ≤ _; omega, trivial⟩
      clear HW7 d3 m3
      go_upto_region 16 with (fail)
      generalize hGen : W7.drewN nq = WC at HW8 ⊢
      clear hGen
      obtain ⟨a4', c4', d4, ho4, happ⟩ := HW8.out.app X bd (upd e1.f X bd) rfl
      have m3 : WC.cell? ⟨w.heap.size, 3, none⟩ = some (.int .i64 X) := HW8.out.box.cell 3
      have m5 : WC.cell? ⟨w.heap.size, 5, none⟩ = some (.string bd) := HW8.out.box.cell 5
      obtain ⟨_, _, _, _, _, _, _, huC, _⟩ := HW8.out.at_
      have d6 : (WC.alloc (.cells #[.int .i64 X, .string bd] 68)).cell? ⟨u, 4, none⟩ = some (.slice a4' E.length c4') := ((below_box WC _).cell (p := ⟨u, 4, none⟩) huC).trans d4
      have d7 : (WC.alloc (.cells #[.int .i64 X, .string bd] 68)).drew.cell? ⟨u, 4, none⟩ = some (.slice a4' E.length c4') := d6
      have HAP := Lib.hid happ
      have HO4 := Lib.hid ho4
      have HEL := Lib.hid (show E.length ≤ 30000 by have := HP.out.2.2.1; omega)
      clear happ ho4 HW8
      go_cut [] (fun wx => UW w F u ⟨cl, up, gep, X, K, bd⟩ (E ++ [((X : Int), bd)]) (layE e1 X bd) (layE e1 X bd).got (.slice (some ⟨ob, 0, none⟩) 0 0) [] wx)
      case first =>
        clear FIN
        go_region_law (refine step_appU (wr := WC) rfl (.tmp 104) (.tmp 110) rfl (.slice a4' E.length c4') E (by simp [Act.eval]) WC.heap.size ((X : Int), bd) (by simp [Act.eval]) ?hp HO4.out HEL.out ?_; (case hp => first | exact ⟨(below_box WC _).drew, Blk.new WC _ _⟩ | exact ⟨below_box WC _, Blk.new WC _ _⟩); intro v5 w5 hb5 ho5 hg5 hv5; have HE := Lib.hid (HAP.out _ v5 w5 hb5 ho5 hg5 hv5); obtain ⟨a5, n5, c5, e5⟩ := HE.out.1; subst e5; have k5 := HE.out.2.1; have f5 := HE.out.2.2.1; clear hb5 ho5 hg5 hv5)
        all_goals
          have HE2 := Lib.hid HE.out.2.2.2.2
          clear HAP HO4 HEL d4 d6 d7 m3 m5
          go_wp2_with fail
          go_meet
          rw [hd]
          exact HE2.out
      case rest =>
        have HWX := Lib.hid hcut
        clear hcut HAP HO4 HEL d4 d6 d7 m3 m5 hd
        generalize wc = W8 at *
        generalize layE e1 X bd = d at *
        generalize E ++ [((X : Int), bd)] = E3 at *
        have HW8 := HWX
        clear HWX
        have h32 := told_le HD.out.1
        obtain ⟨a8, c8, d3, d4, _, _, _, hu8, hf⟩ := HW8.out.at_
        have HF := Lib.hid (hf (by have := HD.out.2.2.1; omega))
        have hgd := HD.out.2.2.2.2.1
        obtain ⟨g0, hg0⟩ : ∃ g0 : Nat, g0 = d.got := ⟨_, rfl⟩
        obtain ⟨g1, hg1⟩ : ∃ g1 : Nat, g1 = d.got + 0 + 1 := ⟨_, rfl⟩
        rw [← hg0] at d3 hgd HW8
        have hwr : IntKind.i64.wrap ((g0 : Int) + 1) = (g1 : Int) := by rw [IntKind.wrap_i64]; omega
        have hlk := look_told HD.out.2.1 HD.out.1 (Nat.zero_le _)
        rw [← hg1] at hlk
        obtain ⟨s0, b0, hs0, hb0, HS0⟩ : ∃ (s0 : ByteArray) (b0 : Bool), ((told d)[0]?).getD .empty = s0 ∧ ((told d)[0]?).isSome = b0 ∧ Hid ((b0 = true → (told d)[0]? = some s0) ∧ (b0 = false → (told d).length = 0)) := by
          cases h : (told d)[0]? with
          | none => exact ⟨_, _, rfl, rfl, Lib.hid ⟨(fun x => by cases x), fun _ => by have := List.getElem?_eq_none_iff.1 h; omega⟩⟩
          | some s => exact ⟨_, _, rfl, rfl, Lib.hid ⟨fun _ => rfl, (fun x => by cases x)⟩⟩
        have HG1 := Lib.hid (And.intro hg0 hg1)
        clear hg0 hg1 hgd
        go_wp2_with fail
        have q_d3 := cell_regrown d3
        have q_d4 := cell_regrown d4
        have cF : ∀ dd os, Calls Try.prog 30 #[.slice a8 E3.length c8, .int .i64 (g1 : Int)] (grow (redrawn W8 dd) os) fun e w'' => e = .returned (.tuple #[.string s0, .bool b0]) ∧ ∃ p : Regrown, w'' = grow (redrawn W8 p.d) p.os := fun dd os => Calls.regrown_of (by have h9 := HF.out _ (below_regrown W8 dd os) (g1 : Int); rw [hlk, hs0, hb0] at h9; exact h9)
        refine wp_region_quiet_below (by kernel_rfl) (by kernel_rfl) ?_
        repeat (go_big_quiet_step ((with_reducible exact cF _ _)))
        refine wpQuiet_nil ?_
        intro _ hw'
        obtain ⟨⟨dq, osq⟩, hw''⟩ := hw'
        subst hw''
        have b9 := below_regrown W8 dq osq
        generalize grow (redrawn W8 dq) osq = W9 at b9 ⊢
        clear cF q_d3 q_d4
        have HW9 : Hid (UW w F u ⟨cl, up, gep, X, K, bd⟩ E3 d g0 (.slice (some ⟨ob, 0, none⟩) 0 0) ((told d).take 0) W9) := Lib.hid (HW8.out.below b9)
        clear b9 d3 d4 HF HW8 hlk hs0 hb0 hu8
        go_wp2_with fail
        go_loopw [6, 9, 10] (fun o s i wr => ∃ (j g : Nat) (sj : ByteArray) (bj : Bool), j ≤ (told d).length ∧ (∃ a c, o = .slice a j c) ∧ s = .string sj ∧ i = .bool bj ∧ Hid (g = d.got + j) ∧ Hid ((bj = true → (told d)[j]? = some sj) ∧ (bj = false → (told d).length = j)) ∧ Hid (UW w F u ⟨cl, up, gep, X, K, bd⟩ E3 d g o ((told d).take j) wr)) (fun o _ _ _ => (told d).length - (match o with | .slice _ n _ => n | _ => 0))
        case atStart => exact ⟨0, g0, s0, b0, Nat.zero_le _, ⟨_, _, rfl⟩, rfl, rfl, Lib.hid (by have := HG1.out; omega), HS0, HW9⟩
        case round =>
          obtain ⟨j, gj, sj, bj, hj, ⟨ao, co, rfl⟩, rfl, rfl, HGJ, HS, HK⟩ := hrel
          clear HW9 HS0 HG1
          cases bj with
          | true =>
            have hxj := HS.out.1 rfl
            have hgj := HGJ.out
            have hgd := HD.out.2.2.2.2.1
            have hlt : j < (told d).length := (List.getElem?_eq_some_iff.1 hxj).1
            have htk : (told d).take (j + 1) = (told d).take j ++ [sj] := by rw [List.take_add_one, hxj]; rfl
            have hlj : ((told d).take j).length = j := by rw [List.length_take]; omega
            obtain ⟨gj1, hgj1⟩ : ∃ x : Nat, x = gj + 1 := ⟨_, rfl⟩
            obtain ⟨gj2, hgj2⟩ : ∃ x : Nat, x = d.got + (j + 1) + 1 := ⟨_, rfl⟩
            have hw1 : IntKind.i64.wrap ((gj : Int) + 1) = (gj1 : Int) := by rw [IntKind.wrap_i64]; omega
            have hw2 : IntKind.i64.wrap ((gj1 : Int) + 1) = (gj2 : Int) := by rw [IntKind.wrap_i64]; omega
            have hlk := look_told HD.out.2.1 HD.out.1 (show j + 1 ≤ (told d).length from hlt)
            rw [← hgj2] at hlk
            have FIN5 : Hid (∀ v5 w5, w5.ownsRow w.heap.size 9 1 v5 ((told d).take j ++ [sj]).length (strsV ((told d).take j ++ [sj])) → (wr.alloc (.cells #[.string sj] 9)).grownBy w5 (Value.slice ao j co).ownBlock → (v5.ownBlock = (Value.slice ao j co).ownBlock ∨ v5.ownBlock = some (wr.alloc (.cells #[.string sj] 9)).heap.size) →
                (∃ a c, v5 = .slice a (j + 1) c) ∧ w5.cell? ⟨u, 3, none⟩ = some (.int .i64 gj) ∧ w5.frozen? ⟨u, 3, none⟩ = false ∧ UW w F u ⟨cl, up, gep, X, K, bd⟩ E3 d gj1 v5 ((told d).take (j + 1)) (w5.setCell ⟨u, 3, none⟩ (.int .i64 (gj1 : Int)))) := Lib.hid fun v5 w5 ho hg hv => by
              obtain ⟨q1, q2, q3⟩ := HK.out.tell sj (below_box wr _) ho hg hv
              rw [htk, hgj1]
              refine ⟨?_, q1, q2, q3⟩
              have := own_shape ho
              rw [List.length_append, hlj] at this
              exact this
            have HO : Hid (wr.ownsRow w.heap.size 9 1 (.slice ao j co) ((told d).take j).length (strsV ((told d).take j)) ∧ w.heap.size ≤ wr.heap.size) := Lib.hid ⟨HK.out.row, HK.out.size⟩
            have HL := Lib.hid (show ((told d).take j).length ≤ 3000000 by omega)
            obtain ⟨s1, b1, hs1, hb1, HS1⟩ : ∃ (s1 : ByteArray) (b1 : Bool), ((told d)[j + 1]?).getD .empty = s1 ∧ ((told d)[j + 1]?).isSome = b1 ∧ Hid ((b1 = true → (told d)[j + 1]? = some s1) ∧ (b1 = false → (told d).length = j + 1)) := by
              cases h : (told d)[j + 1]? with
              | none => exact ⟨_, _, rfl, rfl, Lib.hid ⟨(fun x => by cases x), fun _ => by have := List.getElem?_eq_none_iff.1 h; omega⟩⟩
              | some s => exact ⟨_, _, rfl, rfl, Lib.hid ⟨fun _ => rfl, (fun x => by cases x)⟩⟩
            have HG2 := Lib.hid (show gj1 = d.got + (j + 1) by omega)
            clear hxj htk hlj HS HK hgj1 hgj2 hgj hgd HGJ
            go_upto_region 21 with (at_builtin; refine wpList_app rfl _ _ rfl w.heap.size _ ((told d).take j) rfl (own_below HO.out.1 (below_box _ _)) wr.heap.size sj rfl (Blk.new wr _ _) HL.out (Nat.le_trans HO.out.2 (by simp)) ?_; intro v5 w5 ho5 hg5 hv5; have HE5 := Lib.hid (FIN5.out v5 w5 ho5 hg5 hv5); obtain ⟨a5, c5', e5⟩ := HE5.out.1; subst e5; have k5 := HE5.out.2.1; have f5 := HE5.out.2.2.1; clear ho5 hg5 hv5)
            have HE6 := Lib.hid HE5.out.2.2.2
            clear FIN5 HO HL k5 f5 HE5
            generalize hGen : w5.setCell ⟨u, 3, none⟩ (.int .i64 (gj1 : Int)) = WA at HE6 ⊢
            clear hGen
            obtain ⟨aA, cA, d3, d4, _, _, _, huA, hf⟩ := HE6.out.at_
            have HF := Lib.hid (hf (by have := HD.out.2.2.1; omega))
            clear hf
            go_wp2_with fail
            have q_d3 := cell_regrown d3
            have q_d4 := cell_regrown d4
            have cF : ∀ dd os, Calls Try.prog 30 #[.slice aA E3.length cA, .int .i64 (gj2 : Int)] (grow (redrawn WA dd) os) fun e w'' => e = .returned (.tuple #[.string s1, .bool b1]) ∧ ∃ p : Regrown, w'' = grow (redrawn WA p.d) p.os := fun dd os => Calls.regrown_of (by have h9 := HF.out _ (below_regrown WA dd os) (gj2 : Int); rw [hlk, hs1, hb1] at h9; exact h9)
            refine wp_region_quiet_below (by kernel_rfl) (by kernel_rfl) ?_
            repeat (go_big_quiet_step ((with_reducible exact cF _ _)))
            refine wpQuiet_nil ?_
            intro _ hw'
            obtain ⟨⟨dq, osq⟩, hw''⟩ := hw'
            subst hw''
            have bB := below_regrown WA dq osq
            generalize grow (redrawn WA dq) osq = WB at bB ⊢
            clear cF q_d3 q_d4
            have HK2 : Hid (UW w F u ⟨cl, up, gep, X, K, bd⟩ E3 d gj1 (.slice a5 (j + 1) c5') ((told d).take (j + 1)) WB) := Lib.hid (HE6.out.below bB)
            clear bB d3 d4 HF HE6 hlk hs1 hb1 huA
            go_wp2_with fail
            go_roundw
            case rel => exact ⟨j + 1, gj1, s1, b1, hlt, ⟨_, _, rfl⟩, rfl, rfl, HG2, HS1, HK2⟩
            case measure => simp; omega
          | false =>
            have hjl := HS.out.2 rfl
            have hgj := HGJ.out
            subst hjl
            subst hgj
            have HK2 : Hid (UW w F u ⟨cl, up, gep, X, K, bd⟩ E3 d (d.got + (told d).length) (.slice ao (told d).length co) (told d) wr) := Lib.hid (by have := HK.out; rwa [List.take_length] at this)
            obtain ⟨aA, cA, d3, d4, hf⟩ := HK2.out.fin HD.out.2.1 HD.out.1 HD.out.2.2.1 HD.out.2.2.2.1 HD.out.2.2.2.2.1 hm
            have HAB := Lib.hid hf
            clear hf HK HS HGJ
            have HFI : Hid (∀ w', UDid F w w' u (m + 1) (tellE d) ∧ w'.ownsRow w.heap.size 9 1 (.slice ao (told d).length co) (told d).length (strsV (told d)) → RES (.returned (.tuple #[.slice ao (told d).length co, .int .i64 0])) w') := Lib.hid fun w' hh => FIN.out w' _ hh.2 hh.1
            clear FIN HK2
            generalize (told d).length = tl at *
            generalize d.got + tl = ge at *
            go_wp2_with fail
            go_region_law (go_simp; go_at_call 29; (with_reducible refine (HAB.out _ ?_).mono ?_); (first | assumption | exact (Below.refl _ _).drew | exact Below.refl _ _); rintro r w3 ⟨a7, n7, c7, rfl, d7, f7, z7, hU⟩; have HU := Lib.hid (HFI.out _ hU); clear hU z7)
            all_goals
              clear HAB HFI d3 d4
              go_wp2_with fail
              exact HU.out
end Go.Proofs.Ytbbikibkijncgaa.Cord
