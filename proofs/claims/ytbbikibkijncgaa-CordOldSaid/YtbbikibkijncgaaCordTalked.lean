/- The walk of the statements' talk: two ends behind events. -/
import Derived.Test.YtbbikibkijncgaaCordEvent
import Derived.Test.YtbbikibkijncgaaCordEvents
import Derived.Test.YtbbikibkijncgaaCordFullWalk
namespace Go.Proofs.Ytbbikibkijncgaa.Cord
set_option maxRecDepth 100000
open Go.RowKit Go.Sort
open Go.Proofs.Ytbbikibkijncgaa.Mem
def TalkRes (W0 : World) (ep : Int) (r : Ending) (w' : World) : Prop := ∃ tp a b V t, r = .returned (.tuple #[.pointer (some ⟨tp, 0, none⟩), .bool true]) ∧ TQ W0 w' tp a b 400 V (fun _ => False) t ∧ Inv ep t ∧ Lens t 120
theorem tq_new {W0 w2 : World} {a b : Nat} {ep : Int} (h : Two W0 w2 a b 0 0 (newE ep) (newE ep) (fun _ => False)) :
    TQ W0 (w2.alloc (.cells #[.pointer (some ⟨a, 0, none⟩), .pointer (some ⟨b, 0, none⟩), .slice none 0 0, .slice none 0 0, .slice none 0 0, .slice none 0 0, .slice none 0 0] 60)) w2.heap.size a b 0 (fun _ => .slice none 0 0) (fun _ => False) (newT ep) := by
  refine ⟨Blk.new _ _ _, own_nil _ _ _ _, own_nil _ _ _ _, own_nil _ _ _ _, own_nil _ _ _ _, own_nil _ _ _ _, fun i j g _ _ _ hg => ?_, fun i _ hg => ?_, h.bel.size, ?_, fun k hk => hk.elim, fun k hk => hk.elim⟩
  · simp [Value.ownBlock] at hg
  · simp [Value.ownBlock] at hg
  · refine (h.below (below_box w2 _)).less fun k hk => ?_
    rcases hk with (rfl | ⟨i, _, hk⟩) | hk
    · exact .inr ⟨Nat.le_refl _, by simp⟩
    · simp [Value.ownBlock] at hk
    · exact hk.elim
theorem row_cap {w : World} {base n size c : Nat} {t : TypeId} {a : Option Addr} {xs : List Value} (h : w.ownsRow base t size (.slice a n c) n xs) : n ≤ c := by
  rcases h.2 with ⟨e, e0⟩ | ⟨g, c2, cu, e, _, _, h3, _⟩
  · omega
  · injection e with _ _ e3; rw [e3]; exact h3
set_option maxRecDepth 100000 in
set_option maxHeartbeats 8000000 in
theorem talked_any (ep : Int) (ev : Option Addr) (n c : Nat) (xs : List Ev) (w : World) (hI : Evs w ev n xs) (hep : 1 ≤ ep ∧ ep ≤ 1000) (hs : ∀ k, k < n → k < 120 → (xs.getD k noEv).text.size ≤ 1024) :
    Calls Try.prog 23 #[.int .i64 ep, .slice ev n c] w (TalkRes w ep) := by
  have HI := Lib.hid hI
  have HS := Lib.hid hs
  clear hI hs
  go_enter Try.func23, Try.ntmps23
  go_wp2_with fail
  refine (new_any ep w hep.1 (by omega)).mono ?_
  rintro r w1 ⟨a, rfl, hA, b1⟩
  have HA := Lib.hid hA
  have B1 := Lib.hid b1
  clear hA b1
  go_wp2_with fail
  refine (new_any ep w1 hep.1 (by omega)).mono ?_
  rintro r w2 ⟨b, rfl, hB, b2⟩
  have H := Lib.hid (tq_new (two_new HA.out B1.out hB b2))
  have IV : Hid (Inv ep (newT ep)) := Lib.hid (inv_new hep.1 (by omega))
  have LN : Hid (Lens (newT ep) 0) := Lib.hid ⟨Nat.le_refl _, Nat.le_refl _, Nat.le_refl _⟩
  have d0 := H.out.blk.cell 0
  have d1 := H.out.blk.cell 1
  clear hB b2 HA B1
  go_wp2_with fail
  generalize hGen : w2.alloc (.cells #[.pointer (some ⟨a, 0, none⟩), .pointer (some ⟨b, 0, none⟩), .slice none 0 0, .slice none 0 0, .slice none 0 0, .slice none 0 0, .slice none 0 0] 60) = W3 at H d0 d1 ⊢
  clear hGen
  generalize w2.heap.size = tp at *
  clear d0 d1
  go_loopw [7] (fun i wr => ∃ (k : Nat) (V : Nat → Value) (t : TS), k ≤ 120 ∧ k ≤ n ∧ i = .int .i64 (k : Int) ∧ Hid (TQ w wr tp a b (3 * k) V (fun _ => False) t) ∧ Hid (Inv ep t) ∧ Hid (Lens t k)) (fun i _ => 120 - (intOf i).toNat)
  case atStart => exact ⟨0, _, _, Nat.zero_le _, Nat.zero_le _, rfl, H, IV, LN⟩
  case round =>
    obtain ⟨k, V, t, hk, hkn, rfl, HQ, HV, HL⟩ := hrel
    clear H IV LN
    rcases (show (k < n ∧ k < 120) ∨ (k < n ∧ k = 120) ∨ k = n by omega) with ⟨hlt, hlt2⟩ | ⟨hlt, h⟩ | h
    · have hB := HQ.out.bel
      obtain ⟨bz, off, x, rfl, hbz, hxe, hx, hg⟩ := HI.out.at_ hlt
      have hsz := HS.out k hlt hlt2
      rw [hxe] at hsz
      obtain ⟨zk, zn, zt⟩ := x
      obtain ⟨x0, x1, x2⟩ := hx
      obtain ⟨g1, g2, g3, g4, g5⟩ := hg
      simp only at x0 x1 x2 g1 g2 g3 g4 g5 hsz
      have x0 := (hB.cell (p := ⟨bz, off + k * 3, none⟩) hbz).trans x0
      have x1 := (hB.cell (p := ⟨bz, off + k * 3 + 1, none⟩) hbz).trans x1
      have x2 := (hB.cell (p := ⟨bz, off + k * 3 + 1 + 1, none⟩) hbz).trans x2
      have h1i : (k : Int) < 120 := by omega
      have h1d : decide ((k : Int) < 120) = true := decide_eq_true h1i
      have hbb := below_box wr (.cells #[.int .i64 zk, .int .i64 zn, .string zt] 49)
      have HQ1 := Lib.hid ((HQ.out.below hbb).guard (Y := fun j => j = wr.heap.size) ((HQ.out.two.below hbb).less (fun j hj => hj.elim (fun x => .inl (.inl x)) (fun x => .inr ⟨by omega, by simp; omega⟩))) (fun j hj ht => by have := (HQ.out.tm j ht).2; omega) (fun j hj => by have := HQ.out.bel.size; omega))
      clear hbb
      have hbx := Blk.new wr 49 #[.int .i64 zk, .int .i64 zn, .string zt]
      clear hB hxe HS
      go_upto_block 2 with (fail)
      generalize hGen : wr.alloc (.cells #[.int .i64 zk, .int .i64 zn, .string zt] 49) = W at HQ1 hbx ⊢
      clear hGen
      have e0 : W.cell? ⟨wr.heap.size, 0, none⟩ = some (.int .i64 zk) := hbx.cell 0
      have e1 : W.cell? ⟨wr.heap.size, 1, none⟩ = some (.int .i64 zn) := hbx.cell 1
      have e2 : W.cell? ⟨wr.heap.size, 2, none⟩ = some (.string zt) := hbx.cell 2
      have HBX := Lib.hid hbx
      clear hbx x0 x1 x2 HQ
      go_cut [] (fun wx => ∃ V' t', TQ w wx tp a b (3 * (k + 1)) V' (fun _ => False) t' ∧ Inv ep t' ∧ Lens t' (k + 1))
      case first =>
        have d0 : W.cell? ⟨tp, 0, none⟩ = some (.pointer (some ⟨a, 0, none⟩)) := HQ1.out.blk.cell 0
        have d1 : W.cell? ⟨tp, 1, none⟩ = some (.pointer (some ⟨b, 0, none⟩)) := HQ1.out.blk.cell 1
        by_cases k1 : zk = 1
        · subst k1
          by_cases hs0 : sendX t.A zt = 0
          · have HC : Hid (∀ W', Below W.heap.size W W' → Calls Try.prog 11 #[.pointer (some ⟨a, 0, none⟩), .string zt] W' fun r w' => r = .returned (.int .i64 0) ∧ TQ w w' tp a b (3 * k + 1) V (fun j => j = wr.heap.size) { t with A := sendE t.A zt } ∧ w'.cell? ⟨wr.heap.size, 2, none⟩ = some (.string zt)) :=
              Lib.hid fun W' hb => ((HQ1.out.below hb).sendA zt).mono fun r w' ⟨h1, h2, h3⟩ => ⟨by rw [← hs0]; exact h1, h2, (h3.cell (p := ⟨wr.heap.size, 2, none⟩) rfl).trans ((hb.cell (p := ⟨wr.heap.size, 2, none⟩) (Blk.lt HBX.out)).trans e2)⟩
            have HF : Hid (∀ wx V', TQ w wx tp a b (3 * k + 1) V' (fun j => j = wr.heap.size) { t with A := sendE t.A zt, tB := t.tB ++ [zt] } → ∃ V' t', TQ w wx tp a b (3 * (k + 1)) V' (fun _ => False) t' ∧ Inv ep t' ∧ Lens t' (k + 1)) := Lib.hid fun wx V' h =>
              ⟨V', _, (h.less (fun _ x => x.elim)).mono (by omega), HV.out.giveA1 hsz hs0, ⟨Nat.le_succ_of_le HL.out.tA, by have := HL.out.tB; simp; omega, Nat.le_trans HL.out.pl (by omega)⟩⟩
            have HLT := Lib.hid HL.out.tB
            clear HV HL HI
            go_wp2_with fail
            go_region_law (go_simp; go_at_call 11; (with_reducible refine (HC.out _ ?_).mono ?_); (first | assumption | exact (Below.refl _ _).drew | exact Below.refl _ _); rintro r w5 ⟨rfl, h5, x5⟩; have H5 := Lib.hid h5; clear h5)
            all_goals
              clear d0 d1 e0 e1 e2
              obtain ⟨ai, ci, hVi⟩ := own_shape H5.out.r1
              have q5 : w5.cell? ⟨tp, 3, none⟩ = some (.slice ai t.tB.length ci) := by rw [← hVi]; exact H5.out.blk.cell 3
              have q6 : (w5.alloc (.cells #[.string zt] 9)).cell? ⟨tp, 3, none⟩ = some (.slice ai t.tB.length ci) := ((below_box w5 _).cell (p := ⟨tp, 3, none⟩) H5.out.blk.lt).trans q5
              have q7 : (w5.alloc (.cells #[.string zt] 9)).drew.cell? ⟨tp, 3, none⟩ = some (.slice ai t.tB.length ci) := q6
              have HVI := Lib.hid hVi
              have HLL := Lib.hid (show t.tB.length ≤ 30000 by have := HLT.out; omega)
              clear HC HQ1 hVi
              go_wp2_with fail
              go_region_law (refine step_tB (wr := w5) H5.out rfl (.tmp 58) (.tmp 61) rfl (by rw [HVI.out]; simp [Act.eval]) w5.heap.size zt (by simp [Act.eval]) ?hp HLL.out ?_; (case hp => first | exact ⟨(below_box w5 _).drew, Blk.new w5 _ _⟩ | exact ⟨below_box w5 _, Blk.new w5 _ _⟩); intro a6 n6 c6 w6 h6; have HE6 := Lib.hid (HF.out _ _ (Classical.choose_spec h6.2.2)); have k6 := h6.1; rw [HVI.out] at k6; have f6 := h6.2.1; clear h6)
              all_goals
                clear H5 HF q5 q6 q7
                go_wp2_with fail
                go_meet
                exact HE6.out
          · have hn1 : (sendX t.A zt == 0) = false := by rw [beq_eq_false_iff_ne]; exact hs0
            have HC : Hid (∀ W', Below W.heap.size W W' → Calls Try.prog 11 #[.pointer (some ⟨a, 0, none⟩), .string zt] W' fun r w' => r = .returned (.int .i64 (sendX t.A zt)) ∧ ∃ V' t', TQ w w' tp a b (3 * (k + 1)) V' (fun _ => False) t' ∧ Inv ep t' ∧ Lens t' (k + 1)) :=
              Lib.hid fun W' hb => ((HQ1.out.below hb).sendA zt).mono fun r w' ⟨h1, h2, h3⟩ => ⟨h1, V, t, by rw [send_none hs0] at h2; exact (h2.less (fun _ x => x.elim)).mono (by omega), HV.out, HL.out.more (by omega)⟩
            clear HV HL HQ1 HI hs0
            generalize sendX t.A zt = sx at HC hn1
            go_wp2_with fail
            go_region_law (go_simp; go_at_call 11; (with_reducible refine (HC.out _ ?_).mono ?_); (first | assumption | exact (Below.refl _ _).drew | exact Below.refl _ _); rintro r w5 ⟨rfl, h5⟩; have H5 := Lib.hid h5; clear h5)
            all_goals
              clear d0 d1 e0 e1 e2 HC
              go_wp2_with fail
              go_meet
              exact H5.out
        · have n1 : (zk == 1) = false := by rw [beq_eq_false_iff_ne]; exact k1
          by_cases k2 : zk = 2
          · subst k2
            by_cases hs0 : sendX t.B zt = 0
            · have HC : Hid (∀ W', Below W.heap.size W W' → Calls Try.prog 11 #[.pointer (some ⟨b, 0, none⟩), .string zt] W' fun r w' => r = .returned (.int .i64 0) ∧ TQ w w' tp a b (3 * k + 1) V (fun j => j = wr.heap.size) { t with B := sendE t.B zt } ∧ w'.cell? ⟨wr.heap.size, 2, none⟩ = some (.string zt)) :=
                Lib.hid fun W' hb => ((HQ1.out.below hb).sendB zt).mono fun r w' ⟨h1, h2, h3⟩ => ⟨by rw [← hs0]; exact h1, h2, (h3.cell (p := ⟨wr.heap.size, 2, none⟩) rfl).trans ((hb.cell (p := ⟨wr.heap.size, 2, none⟩) (Blk.lt HBX.out)).trans e2)⟩
              have HF : Hid (∀ wx V', TQ w wx tp a b (3 * k + 1) V' (fun j => j = wr.heap.size) { t with B := sendE t.B zt, tA := t.tA ++ [zt] } → ∃ V' t', TQ w wx tp a b (3 * (k + 1)) V' (fun _ => False) t' ∧ Inv ep t' ∧ Lens t' (k + 1)) := Lib.hid fun wx V' h =>
                ⟨V', _, (h.less (fun _ x => x.elim)).mono (by omega), HV.out.giveB hsz hs0, ⟨by have := HL.out.tA; simp; omega, Nat.le_succ_of_le HL.out.tB, Nat.le_trans HL.out.pl (by omega)⟩⟩
              have HLT := Lib.hid HL.out.tA
              clear HV HL HI
              go_wp2_with fail
              go_region_law (go_simp; go_at_call 11; (with_reducible refine (HC.out _ ?_).mono ?_); (first | assumption | exact (Below.refl _ _).drew | exact Below.refl _ _); rintro r w5 ⟨rfl, h5, x5⟩; have H5 := Lib.hid h5; clear h5)
              all_goals
                clear d0 d1 e0 e1 e2
                obtain ⟨ai, ci, hVi⟩ := own_shape H5.out.r0
                have q5 : w5.cell? ⟨tp, 2, none⟩ = some (.slice ai t.tA.length ci) := by rw [← hVi]; exact H5.out.blk.cell 2
                have q6 : (w5.alloc (.cells #[.string zt] 9)).cell? ⟨tp, 2, none⟩ = some (.slice ai t.tA.length ci) := ((below_box w5 _).cell (p := ⟨tp, 2, none⟩) H5.out.blk.lt).trans q5
                have q7 : (w5.alloc (.cells #[.string zt] 9)).drew.cell? ⟨tp, 2, none⟩ = some (.slice ai t.tA.length ci) := q6
                have HVI := Lib.hid hVi
                have HLL := Lib.hid (show t.tA.length ≤ 30000 by have := HLT.out; omega)
                clear HC HQ1 hVi
                go_wp2_with fail
                go_region_law (refine step_tA (wr := w5) H5.out rfl (.tmp 79) (.tmp 82) rfl (by rw [HVI.out]; simp [Act.eval]) w5.heap.size zt (by simp [Act.eval]) ?hp HLL.out ?_; (case hp => first | exact ⟨(below_box w5 _).drew, Blk.new w5 _ _⟩ | exact ⟨below_box w5 _, Blk.new w5 _ _⟩); intro a6 n6 c6 w6 h6; have HE6 := Lib.hid (HF.out _ _ (Classical.choose_spec h6.2.2)); have k6 := h6.1; rw [HVI.out] at k6; have f6 := h6.2.1; clear h6)
                all_goals
                  clear H5 HF q5 q6 q7
                  go_wp2_with fail
                  go_meet
                  exact HE6.out
            · have hn1 : (sendX t.B zt == 0) = false := by rw [beq_eq_false_iff_ne]; exact hs0
              have HC : Hid (∀ W', Below W.heap.size W W' → Calls Try.prog 11 #[.pointer (some ⟨b, 0, none⟩), .string zt] W' fun r w' => r = .returned (.int .i64 (sendX t.B zt)) ∧ ∃ V' t', TQ w w' tp a b (3 * (k + 1)) V' (fun _ => False) t' ∧ Inv ep t' ∧ Lens t' (k + 1)) :=
                Lib.hid fun W' hb => ((HQ1.out.below hb).sendB zt).mono fun r w' ⟨h1, h2, h3⟩ => ⟨h1, V, t, by rw [send_none hs0] at h2; exact (h2.less (fun _ x => x.elim)).mono (by omega), HV.out, HL.out.more (by omega)⟩
              clear HV HL HQ1 HI hs0
              generalize sendX t.B zt = sx at HC hn1
              go_wp2_with fail
              go_region_law (go_simp; go_at_call 11; (with_reducible refine (HC.out _ ?_).mono ?_); (first | assumption | exact (Below.refl _ _).drew | exact Below.refl _ _); rintro r w5 ⟨rfl, h5⟩; have H5 := Lib.hid h5; clear h5)
              all_goals
                clear d0 d1 e0 e1 e2 HC
                go_wp2_with fail
                go_meet
                exact H5.out
          · have n2 : (zk == 2) = false := by rw [beq_eq_false_iff_ne]; exact k2
            by_cases k3 : zk = 3 ∨ zk = 4
            · have HCT : Hid (∀ fi W', Below W.heap.size W W' → Calls Try.prog 24 #[.pointer (some ⟨tp, 0, none⟩), .bool fi] W' fun r w' => (∃ v m q, r = .returned (.slice v m q)) ∧ ∃ V' t', TQ w w' tp a b (3 * (k + 1)) V' (fun _ => False) t' ∧ Inv ep t' ∧ Lens t' (k + 1)) :=
                Lib.hid fun fi W' hb => (sends_any w W' tp a b (3 * k) V _ t fi (HQ1.out.below hb) (by omega) (by have := HL.out.pl; omega)).mono fun r w' ⟨V', v, q, h1, _, h3⟩ => ⟨⟨_, _, _, h1⟩, V', _, (h3.less (fun _ x => x.elim)).mono (by omega), HV.out.sends fi, HL.out.sends HV.out fi⟩
              clear HQ1 HV HL HI
              rcases k3 with rfl | rfl
              · have HC := Lib.hid (HCT.out true)
                clear HCT
                go_wp2_with fail
                refine (HC.out W (Below.refl _ _)).mono ?_
                rintro r w5 ⟨⟨v5, m5, q5, rfl⟩, h5⟩
                have H5 := Lib.hid h5
                clear h5 HC d0 d1 e0 e1 e2
                go_wp2_with fail
                go_meet
                exact H5.out
              · have HC := Lib.hid (HCT.out false)
                clear HCT
                go_wp2_with fail
                refine (HC.out W (Below.refl _ _)).mono ?_
                rintro r w5 ⟨⟨v5, m5, q5, rfl⟩, h5⟩
                have H5 := Lib.hid h5
                clear h5 HC d0 d1 e0 e1 e2
                go_wp2_with fail
                go_meet
                exact H5.out
            · have n3 : (zk == 3) = false := by rw [beq_eq_false_iff_ne]; omega
              have n4 : (zk == 4) = false := by rw [beq_eq_false_iff_ne]; omega
              by_cases k5 : zk = 5
              · subst k5
                have d6 : W.cell? ⟨tp, 6, none⟩ = some (V 4) := HQ1.out.blk.cell 6
                by_cases hp0 : t.pl.length = 0
                · obtain ⟨a4, c4, hV4⟩ := own_shape HQ1.out.r4
                  rw [hV4, hp0] at d6
                  have HE : Hid (∃ V' t', TQ w W tp a b (3 * (k + 1)) V' (fun _ => False) t' ∧ Inv ep t' ∧ Lens t' (k + 1)) := Lib.hid ⟨V, t, (HQ1.out.less (fun _ x => x.elim)).mono (by omega), HV.out, HL.out.more (by omega)⟩
                  clear HQ1 HV HL HI hV4
                  go_wp2_with fail
                  go_quiet (fail)
                  have HE2 : Hid (∃ V' t', TQ w (W.drewN nq) tp a b (3 * (k + 1)) V' (fun _ => False) t' ∧ Inv ep t' ∧ Lens t' (k + 1)) := Lib.hid (by
                    obtain ⟨V', t', h1, h2⟩ := HE.out
                    exact ⟨V', t', h1.below (below_drewN (Below.refl _ _) nq), h2⟩)
                  clear HE
                  go_wp2_with fail
                  go_meet
                  exact HE2.out
                · obtain ⟨K, hKe, hK⟩ := cut_of zn t.pl.length (by omega) (by have := HL.out.pl; omega)
                  obtain ⟨gp, cp, x, hV4, hcp, hx, p0, p1, p2, p3, p4, p5, p6⟩ := HQ1.out.pool (K := K) (by omega)
                  rw [hV4] at d6
                  have hmn : 0 < t.pl.length := by omega
                  have hKe2 : IntKind.i64.wrap ((IntKind.u64.wrap zn).tmod (t.pl.length : Int)) = (K : Int) := by have := hKe; unfold wrap64 at this; rw [IntKind.wrap_i64]; omega
                  have hpi : (0 : Int) < (t.pl.length : Int) := by omega
                  have hpd : decide ((0 : Int) < (t.pl.length : Int)) = true := decide_eq_true hpi
                  obtain ⟨hcx, hci⟩ := HV.out.comes (List.mem_of_getElem? hx)
                  have HC : Hid (∀ W', Below W.heap.size W W' → Calls Try.prog 25 #[.pointer (some ⟨tp, 0, none⟩), .agg #[.int .i64 x.1.cl, .bool x.1.up, .int .i64 x.1.ep, .int .i64 x.1.sq, .int .i64 x.1.ak, .string x.1.bd, .bool x.2]] W' fun r w' => r = .returned (.bool true) ∧ ∃ V' t', TQ w w' tp a b (3 * (k + 1)) V' (fun _ => False) t' ∧ Inv ep t' ∧ Lens t' (k + 1)) :=
                    Lib.hid fun W' hb => (comes_any w W' tp a b (3 * k) V _ t x (HQ1.out.below hb) (by omega) (by have := at_len HV.out HL.out; omega)).mono fun r w' ⟨V', h1, h3, _⟩ => ⟨by rw [h1, hcx]; rfl, V', _, (h3.less (fun _ x => x.elim)).mono (by omega), hci, (HL.out.comes x).more (by omega)⟩
                  have HPL := Lib.hid HL.out.pl
                  have hKn : K < t.pl.length := by omega
                  have hKi : (K : Int) < (t.pl.length : Int) := by omega
                  have hK0 : (0 : Int) ≤ (K : Int) := by omega
                  have hum : IntKind.u64.wrap (t.pl.length : Int) = (t.pl.length : Int) := by rw [IntKind.wrap_u64]; have := HL.out.pl; omega
                  have hm0 : ¬ ((t.pl.length : Int) = 0) := by omega
                  have hm1 : ((t.pl.length : Int) == 0) = false := by rw [beq_eq_false_iff_ne]; exact hm0
                  clear HQ1 HV HL HI hV4 hx hcx hci hK
                  generalize t.pl.length = m at *
                  obtain ⟨⟨xcl, xup, xep, xsq, xak, xbd⟩, xfi⟩ := x
                  dsimp only at *
                  go_wp2_with fail
                  go_still_tail 25, (by kernel_rfl)
                  change wpList _ _ _ _ _ W.drew
                  have HCW := Lib.hid (HC.out W.drew (Below.refl _ _).drew)
                  generalize W.drew = W7 at HCW ⊢
                  go_wp2_with fail
                  refine HCW.out.mono ?_
                  rintro r w8 ⟨rfl, h8⟩
                  have H8 := Lib.hid h8
                  clear h8 HC HCW d0 d1 e0 e1 e2 p0 p1 p2 p3 p4 p5 p6
                  go_wp2_with fail
                  go_meet
                  exact H8.out
              · have n5 : (zk == 5) = false := by rw [beq_eq_false_iff_ne]; omega
                have HE : Hid (∃ V' t', TQ w W tp a b (3 * (k + 1)) V' (fun _ => False) t' ∧ Inv ep t' ∧ Lens t' (k + 1)) := Lib.hid ⟨V, t, (HQ1.out.less (fun _ x => x.elim)).mono (by omega), HV.out, HL.out.more (by omega)⟩
                clear HQ1 HV HL HI
                go_wp2_with fail
                go_meet
                exact HE.out
      case rest =>
        obtain ⟨V', t', hq, hv, hl⟩ := hcut
        obtain ⟨a0, c0, hV0⟩ := own_shape hq.r0
        obtain ⟨a1, c1, hV1⟩ := own_shape hq.r1
        obtain ⟨a2, c2, hV2⟩ := own_shape hq.r2
        obtain ⟨a3, c3, hV3⟩ := own_shape hq.r3
        have d2 : wc.cell? ⟨tp, 2, none⟩ = some (.slice a0 t'.tA.length c0) := by rw [← hV0]; exact hq.blk.cell 2
        have d3 : wc.cell? ⟨tp, 3, none⟩ = some (.slice a1 t'.tB.length c1) := by rw [← hV1]; exact hq.blk.cell 3
        have d4 : wc.cell? ⟨tp, 4, none⟩ = some (.slice a2 t'.aA.length c2) := by rw [← hV2]; exact hq.blk.cell 4
        have d5 : wc.cell? ⟨tp, 5, none⟩ = some (.slice a3 t'.aB.length c3) := by rw [← hV3]; exact hq.blk.cell 5
        have hgA := hv.ba.got
        have hgB := hv.ab.got
        have HLB := Lib.hid hl.tB
        have HLA := Lib.hid hl.tA
        have HCB : Hid (∀ W', Below wc.heap.size wc W' → Calls Try.prog 31 #[.slice a3 t'.aB.length c3, .slice a1 t'.tB.length c1] W' fun r w' => r = .returned (.bool true) ∧ Below W'.heap.size W' w') := Lib.hid fun W' hb => by
          have hw := hq.below hb
          have h1 : t'.aB.length ≤ t'.tB.length := by rw [hv.ab.at_is, List.length_take]; omega
          have s3 : Strs W' a3 t'.aB.length t'.aB := strs_of (by have := hw.r3; rwa [hV3] at this) rfl
          have s1 : Strs W' a1 t'.tB.length t'.tB := strs_of (by have := hw.r1; rwa [hV1] at this) rfl
          have he : t'.tB.take t'.aB.length = t'.aB := by rw [hv.ab.at_is, List.length_take, Nat.min_eq_left hv.ab.got]
          exact (begins_same a3 a1 _ _ c3 c1 t'.tB W' (by rw [he]; exact s3) s1 h1 (row_cap (by have := hw.r1; rwa [hV1] at this)) (by have := HLB.out; omega))
        have HCA : Hid (∀ W', Below wc.heap.size wc W' → Calls Try.prog 31 #[.slice a2 t'.aA.length c2, .slice a0 t'.tA.length c0] W' fun r w' => r = .returned (.bool true) ∧ Below W'.heap.size W' w') := Lib.hid fun W' hb => by
          have hw := hq.below hb
          have h1 : t'.aA.length ≤ t'.tA.length := by rw [hv.ba.at_is, List.length_take]; omega
          have s3 : Strs W' a2 t'.aA.length t'.aA := strs_of (by have := hw.r2; rwa [hV2] at this) rfl
          have s1 : Strs W' a0 t'.tA.length t'.tA := strs_of (by have := hw.r0; rwa [hV0] at this) rfl
          have he : t'.tA.take t'.aA.length = t'.aA := by rw [hv.ba.at_is, List.length_take, Nat.min_eq_left hv.ba.got]
          exact (begins_same a2 a0 _ _ c2 c0 t'.tA W' (by rw [he]; exact s3) s1 h1 (row_cap (by have := hw.r0; rwa [hV0] at this)) (by have := HLA.out; omega))
        have HQ2 := Lib.hid hq
        have HV2 := Lib.hid hv
        have HL2 := Lib.hid hl
        clear hq hv hl hV0 hV1 hV2 hV3 hgA hgB
        go_wp2_with fail
        have q2 := cell_regrown d2
        have q3 := cell_regrown d3
        have q4 := cell_regrown d4
        have q5 := cell_regrown d5
        have cB : ∀ dd os, Calls Try.prog 31 #[.slice a3 t'.aB.length c3, .slice a1 t'.tB.length c1] (grow (redrawn wc dd) os) fun e w'' => e = .returned (.bool true) ∧ ∃ p : Regrown, w'' = grow (redrawn wc p.d) p.os := fun dd os => Calls.regrown_of (HCB.out _ (below_regrown wc dd os))
        have cA : ∀ dd os, Calls Try.prog 31 #[.slice a2 t'.aA.length c2, .slice a0 t'.tA.length c0] (grow (redrawn wc dd) os) fun e w'' => e = .returned (.bool true) ∧ ∃ p : Regrown, w'' = grow (redrawn wc p.d) p.os := fun dd os => Calls.regrown_of (HCA.out _ (below_regrown wc dd os))
        refine wp_region_quiet_below (by kernel_rfl) (by kernel_rfl) ?_
        repeat (go_big_quiet_step (first | (with_reducible exact cB _ _) | (with_reducible exact cA _ _)))
        refine wpQuiet_nil ?_
        intro _ hw'
        obtain ⟨⟨dq, osq⟩, hw''⟩ := hw'
        subst hw''
        have b5 := below_regrown wc dq osq
        generalize grow (redrawn wc dq) osq = W5 at b5 ⊢
        have HQ3 : Hid (TQ w W5 tp a b (3 * (k + 1)) V' (fun _ => False) t') := Lib.hid (HQ2.out.below b5)
        clear b5 q2 q3 q4 q5 cA cB d2 d3 d4 d5 HCA HCB HQ2
        go_wp2
        go_roundw
        case rel => exact ⟨k + 1, V', t', by omega, by omega, by go_num, HQ3, HV2, HL2⟩
        case measure => simp [intOf]; omega
    all_goals
      have HE : Hid (TalkRes w ep (.returned (.tuple #[.pointer (some ⟨tp, 0, none⟩), .bool true])) wr) := Lib.hid ⟨tp, a, b, V, t, rfl, HQ.out.mono (by omega), HV.out, HL.out.more hk⟩
      clear HQ HV HL HI HS
      first | (have h9 : ¬ k < n := by omega) | (have h9 : ¬ k < 120 := by omega)
      clear h
      go_wp2_with fail
      refine bodyPost_ret (v := .tuple #[.pointer (some ⟨tp, 0, none⟩), .bool true]) (by simp [results, Try.results23, go_sem]) rfl ?_
      exact HE.out
end Go.Proofs.Ytbbikibkijncgaa.Cord
