/- The walk of the statement KnotExact. -/
import Derived.Test.YthodggkpkjfggaaKnotLaw0
namespace Go.Proofs.Ythodggkpkjfggaa.Knot
set_option maxRecDepth 100000
open Go.RowKit
open Go.Proofs.Ythodggkpkjfggaa.Mem
set_option maxRecDepth 100000 in
set_option maxHeartbeats 8000000 in
theorem exact_walk (a : Option Addr) (n c : Nat) (xs : List Ed) (w : World) (hI : Prs w a n xs) :
    Calls Try.prog 4 #[.slice a n c] w fun e w' => e = .returned (.bool true) ∧ Below w.heap.size w w' := by
  have HI := Lib.hid hI
  clear hI
  go_enter Try.func4, Try.ntmps4
  go_wp2_with fail
  refine (awake_any w).mono ?_
  rintro e w1 ⟨rfl, b1⟩
  have HB1 := Lib.hid b1
  clear b1
  by_cases hn : n ≤ 60
  · have HM : Hid (xs.length = n) := Lib.hid HI.out.1
    have HED := Lib.hid (edges_any a n c xs w1 (HI.out.below HB1.out) (by omega))
    have g0 : decide ((60 : Int) < (n : Int)) = false := by simp; omega
    clear HI
    go_wp2_with fail
    refine HED.out.mono ?_
    rintro e w2 ⟨va, vb, rfl, hEE, hb2⟩
    have HB2 := Lib.hid (HB1.out.trans (hb2.mono HB1.out.size))
    have HEE := Lib.hid hEE
    obtain ⟨aa, ca, rfl⟩ := own_shape hEE.a
    obtain ⟨ab, cb, rfl⟩ := own_shape hEE.b
    have HS := Lib.hid (sref_any _ xs w2 (ER.of_own hEE.b) (by rw [HM.out]; omega))
    clear hEE hb2 HED g0
    go_wp2_with fail
    refine HS.out.mono ?_
    rintro e w3 ⟨vs, R, rfl, hS3, hRl, ho3, hb3⟩
    have HB3 := Lib.hid (HB2.out.trans (hb3.mono HB2.out.size))
    have HEE3 : Hid (EE w3 w1.heap.size _ _ xs) := Lib.hid ⟨own_below HEE.out.a hb3, own_below HEE.out.b hb3⟩
    have HS3 := Lib.hid hS3
    have HO3 := Lib.hid (IR.of_own ho3)
    have HRL := Lib.hid hRl
    have HV := Lib.hid (victim_any _ xs w3 (ER.of_own HEE3.out.a) (by rw [HM.out]; omega))
    obtain ⟨as_, cs, rfl⟩ := own_shape ho3
    clear hS3 hRl ho3 hb3 HS HEE
    go_wp2_with fail
    refine HV.out.mono ?_
    rintro e w4 ⟨⟨R', hS4, rfl⟩, hb4⟩
    obtain rfl : R' = R := hS4.uniq HS3.out
    have HB4 := Lib.hid (HB3.out.trans (hb4.mono HB3.out.size))
    have HEE4 : Hid (EE w4 w1.heap.size _ _ xs) := Lib.hid ⟨own_below HEE3.out.a hb4, own_below HEE3.out.b hb4⟩
    have HO4 := Lib.hid (HO3.out.below hb4)
    have HST := Lib.hid (stuck_any _ xs w4 (ER.of_own HEE4.out.a) (by rw [HM.out]; omega))
    clear hS4 hb4 HV HEE3
    obtain ⟨nr, hnr⟩ : ∃ nr, R'.length = nr := ⟨_, rfl⟩
    have HNR := Lib.hid hnr
    have HO4 : Hid (IR w4 (.slice as_ nr cs) R') := Lib.hid (by rw [← hnr]; exact HO4.out)
    rw [hnr]
    clear hnr
    rcases List.eq_nil_or_concat R' with hR0 | ⟨R0, x, hRx⟩
    · subst hR0
      have e1 : ([] : List Int).getLastD 0 = 0 := rfl
      have e2 : decide (([] : List Int) ≠ []) = false := rfl
      obtain rfl : nr = 0 := HNR.out.symm
      rw [e1, e2]
      clear e1 e2 HNR
      go_upto_region 10 with (fail)
      all_goals
        go_wp2_with fail
        refine HST.out.mono ?_
        rintro e w5 ⟨v5, R5, rfl, hS5, hRl5, ho5, hb5⟩
        obtain rfl := hS5.uniq HS3.out
        have HB5 := Lib.hid (HB4.out.trans (hb5.mono HB4.out.size))
        have HEE5 : Hid (EE w5 w1.heap.size _ _ xs) := Lib.hid ⟨own_below HEE4.out.a hb5, own_below HEE4.out.b hb5⟩
        have HSM := Lib.hid (same_any v5 _ _ _ w5 (IR.of_own ho5) (HO4.out.below hb5) (by rw [HM.out] at hRl5; omega))
        have HVC : Hid (∀ W', Below w5.heap.size w5 W' → Calls Try.prog 21 _ W' (VicsRes xs W')) := Lib.hid fun W' hb => victims_any _ xs W' (ER.of_own (own_below HEE5.out.a hb)) (by rw [HM.out]; omega)
        obtain ⟨a5, c5, e5⟩ := own_shape ho5
        obtain ⟨n5, e5'⟩ : ∃ n5, v5 = .slice a5 n5 c5 := ⟨_, e5⟩
        clear e5
        subst e5'
        clear hS5 hRl5 ho5 hb5 HST HEE4 HO4
        go_wp2_with fail
        refine HSM.out.mono ?_
        rintro e w6 ⟨rfl, hb6⟩
        rw [decide_eq_true rfl]
        have HB6 := Lib.hid (HB5.out.trans (hb6.mono HB5.out.size))
        have HEE6 : Hid (EE w6 w1.heap.size _ _ xs) := Lib.hid ⟨own_below HEE5.out.a hb6, own_below HEE5.out.b hb6⟩
        have HVD := Lib.hid (HVC.out w6 hb6)
        clear hb6 HSM HVC HEE5
        go_wp2_with fail
        refine HVD.out.mono ?_
        rintro e w7 ⟨v7, R7, rfl, hV7, hRl7, ho7, hb7⟩
        have HB7 := Lib.hid (HB6.out.trans (hb7.mono HB6.out.size))
        have HEE7 : Hid (EE w7 w1.heap.size _ _ xs) := Lib.hid ⟨own_below HEE6.out.a hb7, own_below HEE6.out.b hb7⟩
        have HO7 := Lib.hid (IR.of_own ho7)
        have HVR := Lib.hid (vref_any _ xs w7 (own_base HEE7.out.b (Nat.zero_le _)) (by rw [HM.out]; omega))
        have HV7 := Lib.hid hV7
        have HL7 := Lib.hid hRl7
        obtain ⟨n7, hn7⟩ : ∃ n7, R7.length = n7 := ⟨_, rfl⟩
        obtain ⟨a7, c7, e7⟩ := own_shape ho7
        rw [hn7] at e7
        subst e7
        clear hV7 hRl7 ho7 hb7 HVD HEE6 hn7
        go_wp2_with fail
        refine HVR.out.mono ?_
        rintro e w8 ⟨v8, R8, rfl, hV8, hRl8, ho8, hb8⟩
        obtain rfl : R8 = R7 := hV8.uniq HV7.out
        have HB8 := Lib.hid (HB7.out.trans (hb8.mono HB7.out.size))
        have HSM := Lib.hid (same_any _ v8 R8 R8 w8 (HO7.out.below hb8) (IR.of_own ho8) (by have := HL7.out; rw [HM.out] at this; omega))
        obtain ⟨n8, hn8⟩ : ∃ n8, R8.length = n8 := ⟨_, rfl⟩
        obtain ⟨a8, c8, e8⟩ := own_shape ho8
        rw [hn8] at e8
        subst e8
        clear hV8 hRl8 ho8 hb8 HVR HEE7 hn8
        go_wp2_with fail
        refine HSM.out.mono ?_
        rintro e w9 ⟨rfl, hb9⟩
        rw [decide_eq_true rfl]
        have HB9 := Lib.hid (HB8.out.trans (hb9.mono HB8.out.size))
        clear hb9 HSM
        go_wp2
        go_ret
        exact ⟨rfl, HB9.out⟩
    · have hRx : R' = R0 ++ [x] := by simpa using hRx
      subst hRx
      have e1 : (R0 ++ [x]).getLastD 0 = x := by simp
      have e2 : decide ((R0 ++ [x]) ≠ []) = true := by simp
      rw [e1, e2]
      have hx : (R0 ++ [x])[R0.length]? = some x := by simp
      have hl : (R0 ++ [x]).length = R0.length + 1 := by simp
      obtain ⟨b, off, c9, g1, -, -, d0⟩ := HO4.out.at_ hx
      injection g1 with g1 g2 g3
      clear g2
      subst g1; subst g3
      have hk : R0.length < 100000 := by have h1 := HRL.out; rw [hl, HM.out] at h1; omega
      have hnr : nr = R0.length + 1 := by rw [← HNR.out]; exact hl
      obtain ⟨k, hk0⟩ : ∃ k, R0.length = k := ⟨_, rfl⟩
      rw [hk0] at d0 hk hnr
      subst hnr
      have hws : IntKind.i64.wrap (((k + 1 : Nat) : Int) - 1) = (k : Int) := by rw [IntKind.wrap_i64]; omega
      clear e1 e2 hx hk0 hl HNR
      go_upto_region 10 with (fail)
      all_goals clear hws d0 hk HRL
      all_goals
        go_wp2_with fail
        refine HST.out.mono ?_
        rintro e w5 ⟨v5, R5, rfl, hS5, hRl5, ho5, hb5⟩
        obtain rfl := hS5.uniq HS3.out
        have HB5 := Lib.hid (HB4.out.trans (hb5.mono HB4.out.size))
        have HEE5 : Hid (EE w5 w1.heap.size _ _ xs) := Lib.hid ⟨own_below HEE4.out.a hb5, own_below HEE4.out.b hb5⟩
        have HSM := Lib.hid (same_any v5 _ _ _ w5 (IR.of_own ho5) (HO4.out.below hb5) (by rw [HM.out] at hRl5; omega))
        have HVC : Hid (∀ W', Below w5.heap.size w5 W' → Calls Try.prog 21 _ W' (VicsRes xs W')) := Lib.hid fun W' hb => victims_any _ xs W' (ER.of_own (own_below HEE5.out.a hb)) (by rw [HM.out]; omega)
        obtain ⟨a5, c5, e5⟩ := own_shape ho5
        obtain ⟨n5, e5'⟩ : ∃ n5, v5 = .slice a5 n5 c5 := ⟨_, e5⟩
        clear e5
        subst e5'
        clear hS5 hRl5 ho5 hb5 HST HEE4 HO4
        go_wp2_with fail
        refine HSM.out.mono ?_
        rintro e w6 ⟨rfl, hb6⟩
        rw [decide_eq_true rfl]
        have HB6 := Lib.hid (HB5.out.trans (hb6.mono HB5.out.size))
        have HEE6 : Hid (EE w6 w1.heap.size _ _ xs) := Lib.hid ⟨own_below HEE5.out.a hb6, own_below HEE5.out.b hb6⟩
        have HVD := Lib.hid (HVC.out w6 hb6)
        clear hb6 HSM HVC HEE5
        go_wp2_with fail
        refine HVD.out.mono ?_
        rintro e w7 ⟨v7, R7, rfl, hV7, hRl7, ho7, hb7⟩
        have HB7 := Lib.hid (HB6.out.trans (hb7.mono HB6.out.size))
        have HEE7 : Hid (EE w7 w1.heap.size _ _ xs) := Lib.hid ⟨own_below HEE6.out.a hb7, own_below HEE6.out.b hb7⟩
        have HO7 := Lib.hid (IR.of_own ho7)
        have HVR := Lib.hid (vref_any _ xs w7 (own_base HEE7.out.b (Nat.zero_le _)) (by rw [HM.out]; omega))
        have HV7 := Lib.hid hV7
        have HL7 := Lib.hid hRl7
        obtain ⟨n7, hn7⟩ : ∃ n7, R7.length = n7 := ⟨_, rfl⟩
        obtain ⟨a7, c7, e7⟩ := own_shape ho7
        rw [hn7] at e7
        subst e7
        clear hV7 hRl7 ho7 hb7 HVD HEE6 hn7
        go_wp2_with fail
        refine HVR.out.mono ?_
        rintro e w8 ⟨v8, R8, rfl, hV8, hRl8, ho8, hb8⟩
        obtain rfl : R8 = R7 := hV8.uniq HV7.out
        have HB8 := Lib.hid (HB7.out.trans (hb8.mono HB7.out.size))
        have HSM := Lib.hid (same_any _ v8 R8 R8 w8 (HO7.out.below hb8) (IR.of_own ho8) (by have := HL7.out; rw [HM.out] at this; omega))
        obtain ⟨n8, hn8⟩ : ∃ n8, R8.length = n8 := ⟨_, rfl⟩
        obtain ⟨a8, c8, e8⟩ := own_shape ho8
        rw [hn8] at e8
        subst e8
        clear hV8 hRl8 ho8 hb8 HVR HEE7 hn8
        go_wp2_with fail
        refine HSM.out.mono ?_
        rintro e w9 ⟨rfl, hb9⟩
        rw [decide_eq_true rfl]
        have HB9 := Lib.hid (HB8.out.trans (hb9.mono HB8.out.size))
        clear hb9 HSM
        go_wp2
        go_ret
        exact ⟨rfl, HB9.out⟩
  · have g0 : decide ((60 : Int) < (n : Int)) = true := by simp; omega
    clear HI
    go_wp2_with fail
    go_ret
    exact ⟨rfl, HB1.out⟩
end Go.Proofs.Ythodggkpkjfggaa.Knot
