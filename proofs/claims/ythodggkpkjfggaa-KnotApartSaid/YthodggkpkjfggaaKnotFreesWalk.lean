/- The walk of the statement KnotFrees. -/
import Derived.Test.YthodggkpkjfggaaKnotLaw0
namespace Go.Proofs.Ythodggkpkjfggaa.Knot
set_option maxRecDepth 100000
open Go.RowKit
open Go.Proofs.Ythodggkpkjfggaa.Mem
theorem vics_len {L : List Ed} {R : List Int} (h : IsVics L R) : R.length ≤ L.length := by
  have h2 := nodup_len R (L.map Ed.f) (h.1.imp fun h => by omega) fun v hv => by
    obtain ⟨t, h3, _⟩ := ((h.2 v).1 hv).cyc
    exact List.mem_map.2 ⟨_, h3, rfl⟩
  simpa using h2
theorem leftL_len (L : List Ed) (V : List Int) : (leftL L V).length ≤ L.length := List.length_filter_le _ _
set_option maxRecDepth 100000 in
set_option maxHeartbeats 8000000 in
theorem frees_walk (a : Option Addr) (n c : Nat) (xs : List Ed) (w : World) (hI : Prs w a n xs) :
    Calls Try.prog 5 #[.slice a n c] w fun e w' => e = .returned (.bool true) ∧ Below w.heap.size w w' := by
  have HI := Lib.hid hI
  clear hI
  go_enter Try.func5, Try.ntmps5
  go_wp2_with fail
  refine (awake_any w).mono ?_
  rintro e w1 ⟨rfl, b1⟩
  have HB1 := Lib.hid b1
  clear b1
  by_cases hn : n ≤ 60
  · have HM : Hid (xs.length = n) := Lib.hid HI.out.1
    have HED := Lib.hid (edges_any a n c xs w1 (HI.out.below HB1.out) (by omega))
    have g0 : decide ((60 : Int) < (n : Int)) = false := by simp; omega
    clear HI
    go_wp2_with fail
    refine HED.out.mono ?_
    rintro e w2 ⟨va, vb, rfl, hEE, hb2⟩
    have HB2 := Lib.hid (HB1.out.trans (hb2.mono HB1.out.size))
    have HE2 := Lib.hid (ER.of_own hEE.a)
    obtain ⟨aa, ca, rfl⟩ := own_shape hEE.a
    obtain ⟨ab, cb, rfl⟩ := own_shape hEE.b
    have HV := Lib.hid (victims_any _ xs w2 (ER.of_own hEE.a) (by rw [HM.out]; omega))
    clear hEE hb2 HED g0
    go_wp2_with fail
    refine HV.out.mono ?_
    rintro e w3 ⟨v3, V, rfl, hV3, hVl, ho3, hb3⟩
    have HB3 := Lib.hid (HB2.out.trans (hb3.mono HB2.out.size))
    have HE3 := Lib.hid (HE2.out.below hb3)
    have HV3 := Lib.hid hV3
    have hIV := IR.of_own ho3
    obtain ⟨nv9, hnv⟩ : ∃ nv9, V.length = nv9 := ⟨_, rfl⟩
    have HNV := Lib.hid hnv
    obtain ⟨av, cv, ev9⟩ := own_shape ho3
    rw [hnv] at ev9
    subst ev9
    have hcv : nv9 ≤ cv := by have := own_capI ho3; omega
    have HIV := Lib.hid hIV
    have HLF := Lib.hid (left_any _ _ xs V w3 HE3.out hIV (by rw [HM.out]; omega) (by rw [HM.out] at hVl; omega))
    have hvl : nv9 ≤ 60 := by rw [← hnv]; rw [HM.out] at hVl; omega
    clear hV3 hVl ho3 hb3 HV HE2 hIV hnv
    go_wp2_with fail
    refine HLF.out.mono ?_
    rintro e w4 ⟨v4, rfl, ho4, hb4⟩
    have HB4 := Lib.hid (HB3.out.trans (hb4.mono HB3.out.size))
    have HE4 := Lib.hid (HE3.out.below hb4)
    have HIV4 := Lib.hid (HIV.out.below hb4)
    have HST := Lib.hid (stuck_any _ (leftL xs V) w4 (ER.of_own ho4) (Nat.le_trans (leftL_len _ _) (by rw [HM.out]; omega)))
    obtain ⟨a4, c4, e4⟩ := own_shape ho4
    obtain ⟨n4, e4'⟩ : ∃ n4, v4 = .slice a4 n4 c4 := ⟨_, e4⟩
    clear e4
    subst e4'
    clear ho4 hb4 HLF HIV HE3
    go_wp2_with fail
    refine HST.out.mono ?_
    rintro e w5 ⟨v5, R5, rfl, hS5, -, ho5, hb5⟩
    obtain rfl : R5 = [] := List.eq_nil_iff_forall_not_mem.2 fun v hv => vic_least HV3.out _ (fun e => mem_leftL e) v hS5 hv
    have HB5 := Lib.hid (HB4.out.trans (hb5.mono HB4.out.size))
    have HE5 := Lib.hid (HE4.out.below hb5)
    have HIV5 := Lib.hid (HIV4.out.below hb5)
    obtain ⟨a5, c5, rfl⟩ := own_shape ho5
    clear hS5 ho5 hb5 HST HE4 HIV4
    rcases List.eq_nil_or_concat V with hR0 | ⟨V0, x, hRx⟩
    · subst hR0
      obtain rfl : nv9 = 0 := HNV.out.symm
      clear HNV HIV5 HV3 HE5
      go_wp2_with fail
      go_ret
      exact ⟨rfl, HB5.out⟩
    · have hRx : V = V0 ++ [x] := by simpa using hRx
      subst hRx
      have hl : (V0 ++ [x]).length = V0.length + 1 := by simp
      obtain ⟨k, hk0⟩ : ∃ k, V0.length = k := ⟨_, rfl⟩
      have hnv : nv9 = k + 1 := by rw [← HNV.out, hl, hk0]
      subst hnv
      obtain ⟨bv, ov, cv', g1, -, -, -⟩ := HIV5.out.at_ (i := 0) (z := (V0 ++ [x]).getD 0 0) (by simp [List.getD])
      injection g1 with g1 g2 g3
      clear g2
      subst g1; subst g3
      have hIT := ir_take HIV5.out (k := k) (by omega)
      have e9 : (V0 ++ [x]).take k = V0 := by rw [← hk0]; simp
      rw [e9] at hIT
      have HLF := Lib.hid (left_any _ _ xs V0 w5 HE5.out hIT (by rw [HM.out]; omega) (by rw [hk0]; omega))
      have hws : IntKind.i64.wrap (((k + 1 : Nat) : Int) - 1) = (k : Int) := by rw [IntKind.wrap_i64]; omega
      have hws2 : IntKind.i64.wrap (k : Int) = (k : Int) := by rw [IntKind.wrap_i64]; omega
      have u1 : (k : Int) ≤ (cv : Int) := by omega
      have g1 : ((k : Int) + 1 == 0) = false := by simp; omega
      have g2 : (k + 1 == 0) = false := by simp
      clear hl hk0 HNV HIV5 hIT e9
      go_wp2_with fail
      refine HLF.out.mono ?_
      rintro e w6 ⟨v6, rfl, ho6, hb6⟩
      have HB6 := Lib.hid (HB5.out.trans (hb6.mono HB5.out.size))
      have HST := Lib.hid (stuck_any _ (leftL xs V0) w6 (ER.of_own ho6) (Nat.le_trans (leftL_len _ _) (by rw [HM.out]; omega)))
      obtain ⟨a6, c6, e6⟩ := own_shape ho6
      obtain ⟨n6, e6'⟩ : ∃ n6, v6 = .slice a6 n6 c6 := ⟨_, e6⟩
      clear e6
      subst e6'
      clear ho6 hb6 HLF hws hws2 u1
      go_wp2_with fail
      refine HST.out.mono ?_
      rintro e w7 ⟨v7, R7, rfl, hS7, -, ho7, hb7⟩
      have hin : x ∈ R7 := (hS7.2 x).2 (vic_stays HV3.out _ (fun e => mem_leftL e))
      obtain ⟨k7, hk7⟩ : ∃ k7, R7.length = k7 + 1 := ⟨R7.length - 1, by have := List.length_pos_of_mem hin; omega⟩
      have HB7 := Lib.hid (HB6.out.trans (hb7.mono HB6.out.size))
      obtain ⟨a7, c7, e7⟩ := own_shape ho7
      rw [hk7] at e7
      subst e7
      have u2 : decide ((0 : Int) < (k7 : Int) + 1) = true := decide_eq_true (by omega)
      clear hS7 ho7 hb7 HST hin hk7
      go_wp2_with fail
      go_ret
      exact ⟨rfl, HB7.out⟩
  · have g0 : decide ((60 : Int) < (n : Int)) = true := by simp; omega
    clear HI
    go_wp2_with fail
    go_ret
    exact ⟨rfl, HB1.out⟩
end Go.Proofs.Ythodggkpkjfggaa.Knot
