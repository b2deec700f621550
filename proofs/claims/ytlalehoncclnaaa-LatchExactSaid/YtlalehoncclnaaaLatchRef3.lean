/- The document's own locks: Call. -/
import Derived.Test.YtlalehoncclnaaaLatchRef2
namespace Go.Proofs.Ytlalehoncclnaaa.LRef
set_option maxRecDepth 100000
open Go.RowKit
open Go.Proofs.Ytlalehoncclnaaa.Mem
open Go.Proofs.Ytlalehoncclnaaa.Latch
set_option maxRecDepth 100000 in
set_option maxHeartbeats 8000000 in
theorem call_any (u : Nat) (M : Nat → Prop) (L : LS) (p : Int) (all : Bool) (w : World) (h : UQ w u M L) (hn : L.length ≤ 1000000) (hU : Up L) :
    Calls Try.prog 14 #[.pointer (some ⟨u, 0, none⟩), .int .i64 p, .bool all] w fun e w' => e = .returned (.int .i64 (callE p all L)) ∧ UQ w' u M (callL p all L) ∧ Keep M w w' := by
  have hq := h
  obtain ⟨v, h⟩ := h
  unfold callE
  cases ha : atL p L with
  | none =>
    have HC := Lib.hid (at_not h hn ha)
    have HE : Hid (UQ w u M (callL p all L) ∧ Keep M w w) := Lib.hid (by
      rw [show callL p all L = L from upd_none (at_none_iff.1 ha)]
      exact ⟨hq, Keep.refl _ _⟩)
    clear h hq ha
    cases all
    all_goals
      go_enter Try.func14, Try.ntmps14
      go_wp2_with fail
      refine HC.out.mono ?_
      rintro e w1 ⟨rfl, rfl⟩
      go_wp2
      go_ret
      exact ⟨rfl, HE.out⟩
  | some k =>
    obtain ⟨i, hi, hil⟩ := at_index ha
    have HC := Lib.hid (at_is h hn hU hi (at_pg ha))
    have eU : ∀ {k' : Lk}, callF all k = some k' → callL p all L = L.set i k' := fun {k'} e => upd_set hU hi (at_pg ha) e
    have c0 := h.blk.cell 0
    obtain ⟨g, c, rfl, -, hgl, -, d0, d1, d2, d3, f1, f2, f3⟩ := h.row hi
    have hgu : g ≠ u := fun e => h.n0 (by rw [← e]; rfl)
    have HSM : Hid (callF all k = some k → UQ w u M (callL p all L) ∧ Keep M w w) := Lib.hid fun e => by
      rw [eU e, set_self hi]
      exact ⟨hq, Keep.refl _ _⟩
    have HTN : Hid (∀ (k' : Lk) (j : Nat) (x : Value), j < 4 → callF all k = some k' → lkV k' = (lkV k).set j x → UQ (w.setCell ⟨g, i * 4 + j, none⟩ x) u M (callL p all L) ∧ Keep M w (w.setCell ⟨g, i * 4 + j, none⟩ x)) := Lib.hid fun k' j x hj e1 e2 => by
      rw [eU e1]
      have := h.turn hi (k' := k') (j := j) hj (x := x) e2
      exact ⟨⟨_, this.1⟩, this.2⟩
    have HDR : Hid (callF all k = none → Calls Try.prog 28 #[.pointer (some ⟨u, 0, none⟩), .int .i64 p] w fun e w' => e = .returned (.tuple #[]) ∧ UQ w' u M (callL p all L) ∧ Keep M w w') := Lib.hid fun e => by
      have h9 := drop_any u M L p w hq hn
      rw [show callL p all L = L.filter fun k => decide (k.pg ≠ p) from upd_drop fun k' hk' e' => by
        have := at_of_mem hU hk'
        rw [e', ha] at this
        injection this with this
        rw [← this]; exact e]
      exact h9
    clear h ha eU hq
    obtain ⟨pg, kx, us, wt⟩ := k
    dsimp only at d0 d1 d2 d3
    cases all with
    | true =>
      by_cases hz : 0 < us
      · have HE := Lib.hid (HTN.out ⟨pg, kx, us, 2⟩ 3 (.int .i64 2) (by decide) (by simp [callF, hz]) rfl)
        have e0 : callK true ⟨pg, kx, us, wt⟩ = 3 := by simp [callK, hz]
        have hd : decide ((us : Int) > 0) = true := decide_eq_true (by omega)
        have hd2 : decide (0 < us) = true := decide_eq_true hz
        dsimp only
        rw [e0]
        clear e0 hz HTN HSM HDR
        cases kx
        all_goals
          go_enter Try.func14, Try.ntmps14
          go_wp2_with fail
          refine HC.out.mono ?_
          rintro e w1 ⟨rfl, rfl⟩
          go_wp2
          go_ret
          exact ⟨rfl, HE.out⟩
      · have hz0 : us = 0 := by omega
        subst hz0
        have HE := Lib.hid (HDR.out (by simp [callF]))
        have e0 : callK true ⟨pg, kx, 0, wt⟩ = 1 := by simp [callK]
        dsimp only
        rw [e0]
        clear e0 hz HTN HSM HDR
        cases kx
        all_goals
          go_enter Try.func14, Try.ntmps14
          go_wp2_with fail
          refine HC.out.mono ?_
          rintro e w1 ⟨rfl, rfl⟩
          go_wp2_with fail
          refine HE.out.mono ?_
          rintro e w9 ⟨rfl, h9⟩
          have HF := Lib.hid h9
          clear h9
          go_wp2
          go_ret
          exact ⟨rfl, HF.out⟩
    | false =>
      cases kx with
      | false =>
        have HE := Lib.hid (HSM.out (by simp [callF]))
        have e0 : callK false ⟨pg, false, us, wt⟩ = 0 := by simp [callK]
        dsimp only
        rw [e0]
        clear e0 HTN HSM HDR
        have hone : True := trivial
        all_goals
          go_enter Try.func14, Try.ntmps14
          go_wp2_with fail
          refine HC.out.mono ?_
          rintro e w1 ⟨rfl, rfl⟩
          go_wp2
          go_ret
          exact ⟨rfl, HE.out⟩
      | true =>
        by_cases h2 : us = 2
        · subst h2
          have e0 : callK false ⟨pg, true, 2, wt⟩ = 3 := by simp [callK]
          dsimp only
          rw [e0]
          by_cases hw : wt = 0
          · subst hw
            have HE := Lib.hid (HTN.out ⟨pg, true, 2, 1⟩ 3 (.int .i64 1) (by decide) (by simp [callF]) rfl)
            clear e0 HTN HSM HDR
            all_goals
              go_enter Try.func14, Try.ntmps14
              go_wp2_with fail
              refine HC.out.mono ?_
              rintro e w1 ⟨rfl, rfl⟩
              go_wp2
              go_ret
              exact ⟨rfl, HE.out⟩
          · have HE := Lib.hid (HSM.out (by simp [callF, hw]))
            have hd : ((wt : Int) == 0) = false := by simpa using hw
            clear e0 HTN HSM HDR hw
            all_goals
              go_enter Try.func14, Try.ntmps14
              go_wp2_with fail
              refine HC.out.mono ?_
              rintro e w1 ⟨rfl, rfl⟩
              go_wp2
              go_ret
              exact ⟨rfl, HE.out⟩
        · have HE := Lib.hid (HTN.out ⟨pg, false, us, wt⟩ 1 (.bool false) (by decide) (by simp [callF, h2]) rfl)
          have e0 : callK false ⟨pg, true, us, wt⟩ = 2 := by simp [callK, h2]
          have hd : ((us : Int) == 2) = false := by rw [beq_eq_false_iff_ne]; omega
          dsimp only
          rw [e0]
          clear e0 HTN HSM HDR h2
          all_goals
            go_enter Try.func14, Try.ntmps14
            go_wp2_with fail
            refine HC.out.mono ?_
            rintro e w1 ⟨rfl, rfl⟩
            go_wp2
            go_ret
            exact ⟨rfl, HE.out⟩
end Go.Proofs.Ytlalehoncclnaaa.LRef
