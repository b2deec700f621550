/- The walk of the statement SlabBack. -/
import Derived.Test.YtnhdeebhkiemgaaSlabBackMath
import Derived.Test.YtnhdeebhkiemgaaSlabDecode
import Derived.Test.YtnhdeebhkiemgaaSlabAwake
import Derived.Test.YtnhdeebhkiemgaaSlabKeepsWalk
namespace Go.Proofs.Ytnhdeebhkiemgaa.Slab
open Go.RowKit Go.Sort

theorem dec_back {lsn : Int} {z : List Slot} (hg : goodB lsn z = true) : decR (encS' lsn z).data.toList = (lsn, z, 0) := by
  unfold encS'
  rw [if_pos hg]
  obtain ⟨L, rfl⟩ := Int.eq_ofNat_of_zero_le (good_parts hg).1
  rw [Int.toNat_natCast]
  exact dec_enc hg
theorem enc_back {s : ByteArray} {L : Nat} {z : List Slot} (hg : goodB (L : Int) z = true) (h : encB L z = s.data.toList) : encS' L z = s := by
  unfold encS'
  rw [if_pos hg, Int.toNat_natCast, h]

theorem decode_to {s : ByteArray} {l c : Int} {z : List Slot} (h : decR s.data.toList = (l, z, c)) (w : World) : Calls Try.prog 20 #[.string s] w (PageRes l z c w) := by
  have := decode_any s w
  rw [h] at this
  exact this

set_option maxRecDepth 100000 in
set_option maxHeartbeats 8000000 in
theorem back_walk (l1 : Int) (a1 : Option Addr) (n1 c1 : Nat) (z1 : List Slot) (l2 : Int) (a2 : Option Addr) (n2 c2 : Nat) (z2 : List Slot) (s : ByteArray) (w : World)
    (hl1 : -9223372036854775808 ≤ l1 ∧ l1 ≤ 9223372036854775807) (h1 : Slots w a1 n1 z1) (hl2 : -9223372036854775808 ≤ l2 ∧ l2 ≤ 9223372036854775807) (h2 : Slots w a2 n2 z2) (_hs : s.size ≤ 140737488351232) :
    Calls Try.prog 6 #[.agg #[.int .i64 l1, .slice a1 n1 c1], .agg #[.int .i64 l2, .slice a2 n2 c2], .string s] w fun e w' => e = .returned (.bool true) ∧ Below w.heap.size w w' := by
  have H0 := ((Hold.nil (Below.refl w.heap.size w)).box2 (.int .i64 l1) (.slice a1 n1 c1) 24).box2 (.int .i64 l2) (.slice a2 n2 c2) 24
  rw [World.size_alloc] at H0
  have HO1 := Lib.hid h1
  have HO2 := Lib.hid h2
  have HL := Lib.hid (And.intro hl1 hl2)
  clear h1 h2 hl1 hl2
  go_enter Try.func6, Try.ntmps6
  go_wp2_with fail
  generalize hGen : (w.alloc (.cells #[.int .i64 l1, .slice a1 n1 c1] 24)).alloc (.cells #[.int .i64 l2, .slice a2 n2 c2] 24) = W at H0 ⊢
  clear hGen
  refine (awake_any _).mono ?_
  rintro e w1 ⟨rfl, b1⟩
  have H1 := H0.next b1
  obtain ⟨Q0, Q1, P0, P1⟩ := H1.get4
  clear H0 b1
  cases hg1 : greatB z1 with
  | true =>
    have HG1 := Lib.hid hg1
    clear hg1
    go_wp2_with fail
    refine (great_any l1 a1 n1 c1 z1 _ (HO1.out.below H1.b)).mono ?_
    rw [HG1.out]
    rintro e w2 ⟨rfl, b2⟩
    go_wp2
    go_ret
    exact ⟨rfl, (H1.next b2).b⟩
  | false =>
    have hn1 : n1 ≤ 1000000 := by have := HO1.out.len; simp [greatB] at hg1; omega
    have HG1 := Lib.hid hg1
    clear hg1
    cases hg2 : greatB z2 with
    | true =>
      have HG2 := Lib.hid hg2
      clear hg2
      go_wp2_with fail
      refine (great_any l1 a1 n1 c1 z1 _ (HO1.out.below H1.b)).mono ?_
      rw [HG1.out]
      rintro e w2 ⟨rfl, b2⟩
      have H2 := H1.next b2
      obtain ⟨Q0b, Q1b, P0b, P1b⟩ := H2.get4
      clear Q0 Q1 P0 P1
      go_wp2_with fail
      refine (great_any l2 a2 n2 c2 z2 _ (HO2.out.below H2.b)).mono ?_
      rw [HG2.out]
      rintro e w3 ⟨rfl, b3⟩
      go_wp2
      go_ret
      exact ⟨rfl, (H2.next b3).b⟩
    | false =>
      have hn2 : n2 ≤ 1000000 := by have := HO2.out.len; simp [greatB] at hg2; omega
      have HG2 := Lib.hid hg2
      clear hg2
      go_wp2_with fail
      refine (great_any l1 a1 n1 c1 z1 _ (HO1.out.below H1.b)).mono ?_
      rw [HG1.out]
      rintro e w2 ⟨rfl, b2⟩
      have H2 := H1.next b2
      obtain ⟨Q0b, Q1b, P0b, P1b⟩ := H2.get4
      clear Q0 Q1 P0 P1
      go_wp2_with fail
      refine (great_any l2 a2 n2 c2 z2 _ (HO2.out.below H2.b)).mono ?_
      rw [HG2.out]
      rintro e w3 ⟨rfl, b3⟩
      have H3 := H2.next b3
      obtain ⟨Q0, Q1, P0, P1⟩ := H3.get4
      clear Q0b Q1b P0b P1b b2 b3 H1 H2
      cases hA : goodB l1 z1 with
      | false =>
        have HA := Lib.hid hA
        clear hA
        have e1 := enc_any l1 a1 n1 c1 z1 w3 (HO1.out.below H3.b) hn1
        rw [show encCode l1 z1 = 1 by unfold encCode; rw [HA.out]; rfl] at e1
        have E1 := Lib.hid e1
        clear e1
        go_wp2_with fail
        refine E1.out.mono ?_
        rintro e w4 ⟨rfl, b4⟩
        have H4 := H3.next b4
        clear P0 P1 Q0 Q1 b4 H3
        obtain ⟨Q0, Q1, P0, P1⟩ := H4.get4
        go_wp2_with fail
        have e2 := enc_any l2 a2 n2 c2 z2 w4 (HO2.out.below H4.b) hn2
        generalize encCode l2 z2 = f at e2
        refine e2.mono ?_
        clear e2
        rintro e w5 ⟨rfl, b5⟩
        have H5 := H4.next b5
        clear P0 P1 Q0 Q1 b5 H4
        obtain ⟨Q0, Q1, P0, P1⟩ := H5.get4
        go_wp2_with fail
        refine (good_any l1 a1 n1 c1 z1 _ (HO1.out.below H5.b) hn1).mono ?_
        rw [HA.out]
        rintro e w6 ⟨rfl, b6⟩
        have B9 := Lib.hid (H5.next b6).b
        clear P0 P1 Q0 Q1 b6 H5
        rcases dec_is s.data.toList with ⟨L, z, hd, hg, he⟩ | hd
        · have hE := enc_back hg he
          have HD := Lib.hid hd
          have HGD := Lib.hid hg
          have HE := Lib.hid hE
          clear hd hg he hE
          go_wp2_with fail
          refine (decode_to HD.out _).mono ?_
          rintro e w9 ⟨a9, n9, c9, rfl, s9, b9, _⟩
          have hn9 : n9 ≤ 32 := by have := s9.len; have h2 := (good_parts HGD.out).2.2.1; omega
          have K9 := ((Hold.nil (B9.out.trans (b9.mono B9.out.size))).box2 (.int .i64 (L : Int)) (.slice a9 n9 c9) 24)
          have S9 := Lib.hid (s9.below ((Below.refl _ _).alloc (Nat.le_refl _) (.cells #[.int .i64 (L : Int), .slice a9 n9 c9] 24)))
          clear s9 b9
          go_upto_region 14 with (fail)
          generalize hGen : w9.alloc (.cells #[.int .i64 (L : Int), .slice a9 n9 c9] 24) = X9 at K9 S9 ⊢
          clear hGen
          generalize hGen : w9.heap.size = g9 at K9 ⊢
          clear hGen
          obtain ⟨G0, G1⟩ := K9.get2
          go_wp2_with fail
          have hen := enc_any (L : Int) a9 n9 c9 z X9 S9.out (by omega)
          rw [HE.out, show encCode (L : Int) z = 0 by unfold encCode; rw [HGD.out]; rfl] at hen
          refine hen.mono ?_
          clear hen
          rintro e w10 ⟨rfl, b10⟩
          go_wp2
          go_ret
          exact ⟨rfl, (K9.next b10).b⟩
        · have HD := Lib.hid hd
          clear hd
          go_wp2_with fail
          refine (decode_to HD.out _).mono ?_
          rintro e w9 ⟨a9, n9, c9, rfl, s9, b9, _⟩
          have hn9 : n9 = 0 := by have := s9.len; simpa using this.symm
          subst hn9
          have K9 := ((Hold.nil (B9.out.trans (b9.mono B9.out.size))).box2 (.int .i64 0) (.slice a9 0 c9) 24)
          clear s9 b9
          go_upto_region 14 with (fail)
          generalize hGen : w9.alloc (.cells #[.int .i64 0, .slice a9 0 c9] 24) = X9 at K9 ⊢
          clear hGen
          generalize hGen : w9.heap.size = g9 at K9 ⊢
          clear hGen
          obtain ⟨G0, G1⟩ := K9.get2
          go_wp2_with fail
          refine (same_any 0 0 a9 none 0 0 c9 0 [] [] true _ (Slots.nil _ _) (Slots.nil _ _) (by omega) (by simp)).mono ?_
          rintro e w10 ⟨rfl, b10⟩
          go_wp2
          go_ret
          exact ⟨rfl, (K9.next b10).b⟩
      | true =>
        have HA := Lib.hid hA
        clear hA
        cases hB : goodB l2 z2 with
        | false =>
          have HB := Lib.hid hB
          clear hB
          have e1 := enc_any l1 a1 n1 c1 z1 w3 (HO1.out.below H3.b) hn1
          rw [show encCode l1 z1 = 0 by unfold encCode; rw [HA.out]; rfl] at e1
          have hdb := dec_back HA.out
          generalize encS' l1 z1 = s1 at e1 hdb
          have HDB := Lib.hid hdb
          have E1 := Lib.hid e1
          clear e1 hdb
          go_wp2_with fail
          refine E1.out.mono ?_
          rintro e w4 ⟨rfl, b4⟩
          have H4 := H3.next b4
          clear P0 P1 Q0 Q1 b4 H3
          obtain ⟨Q0, Q1, P0, P1⟩ := H4.get4
          go_wp2_with fail
          have e2 := enc_any l2 a2 n2 c2 z2 w4 (HO2.out.below H4.b) hn2
          rw [show encCode l2 z2 = 1 by unfold encCode; rw [HB.out]; rfl] at e2
          refine e2.mono ?_
          clear e2
          rintro e w5 ⟨rfl, b5⟩
          have H5 := H4.next b5
          clear P0 P1 Q0 Q1 b5 H4
          obtain ⟨Q0, Q1, P0, P1⟩ := H5.get4
          go_wp2_with fail
          refine (good_any l1 a1 n1 c1 z1 _ (HO1.out.below H5.b) hn1).mono ?_
          rw [HA.out]
          rintro e w6 ⟨rfl, b6⟩
          have H7 := H5.next b6
          clear P0 P1 Q0 Q1 b6 H5
          obtain ⟨Q0, Q1, P0, P1⟩ := H7.get4
          go_wp2_with fail
          refine (decode_to HDB.out _).mono ?_
          rintro e w7 ⟨a7, n7, c7, rfl, s7, b7, _⟩
          have hn7 : n7 ≤ 32 := by have := s7.len; have h2 := (good_parts HA.out).2.2.1; omega
          have H8 := (H7.next b7).box2 (.int .i64 l1) (.slice a7 n7 c7) 24
          have S8 := Lib.hid (s7.below ((Below.refl _ _).alloc (Nat.le_refl _) (.cells #[.int .i64 l1, .slice a7 n7 c7] 24)))
          clear s7 b7 P0 P1 Q0 Q1 H7
          go_upto_region 11 with (fail)
          generalize hGen : w7.alloc (.cells #[.int .i64 l1, .slice a7 n7 c7] 24) = X8 at H8 S8 ⊢
          clear hGen
          generalize hGen : w7.heap.size = g8 at H8 ⊢
          clear hGen
          obtain ⟨G0, G1, Q0, Q1, P0, P1⟩ := H8.get6
          go_wp2_with fail
          refine (same_any l1 l1 a7 a1 n7 n1 c7 c1 z1 z1 true _ S8.out (HO1.out.below H8.b) (by omega) (by simp)).mono ?_
          rintro e w8 ⟨rfl, b8⟩
          clear G0 G1
          have B9 := Lib.hid (H8.next b8).b
          clear P0 P1 Q0 Q1 b8 H8
          rcases dec_is s.data.toList with ⟨L, z, hd, hg, he⟩ | hd
          · have hE := enc_back hg he
            have HD := Lib.hid hd
            have HGD := Lib.hid hg
            have HE := Lib.hid hE
            clear hd hg he hE
            go_wp2_with fail
            refine (decode_to HD.out _).mono ?_
            rintro e w9 ⟨a9, n9, c9, rfl, s9, b9, _⟩
            have hn9 : n9 ≤ 32 := by have := s9.len; have h2 := (good_parts HGD.out).2.2.1; omega
            have K9 := ((Hold.nil (B9.out.trans (b9.mono B9.out.size))).box2 (.int .i64 (L : Int)) (.slice a9 n9 c9) 24)
            have S9 := Lib.hid (s9.below ((Below.refl _ _).alloc (Nat.le_refl _) (.cells #[.int .i64 (L : Int), .slice a9 n9 c9] 24)))
            clear s9 b9
            go_upto_region 14 with (fail)
            generalize hGen : w9.alloc (.cells #[.int .i64 (L : Int), .slice a9 n9 c9] 24) = X9 at K9 S9 ⊢
            clear hGen
            generalize hGen : w9.heap.size = g9 at K9 ⊢
            clear hGen
            obtain ⟨G0, G1⟩ := K9.get2
            go_wp2_with fail
            have hen := enc_any (L : Int) a9 n9 c9 z X9 S9.out (by omega)
            rw [HE.out, show encCode (L : Int) z = 0 by unfold encCode; rw [HGD.out]; rfl] at hen
            refine hen.mono ?_
            clear hen
            rintro e w10 ⟨rfl, b10⟩
            go_wp2
            go_ret
            exact ⟨rfl, (K9.next b10).b⟩
          · have HD := Lib.hid hd
            clear hd
            go_wp2_with fail
            refine (decode_to HD.out _).mono ?_
            rintro e w9 ⟨a9, n9, c9, rfl, s9, b9, _⟩
            have hn9 : n9 = 0 := by have := s9.len; simpa using this.symm
            subst hn9
            have K9 := ((Hold.nil (B9.out.trans (b9.mono B9.out.size))).box2 (.int .i64 0) (.slice a9 0 c9) 24)
            clear s9 b9
            go_upto_region 14 with (fail)
            generalize hGen : w9.alloc (.cells #[.int .i64 0, .slice a9 0 c9] 24) = X9 at K9 ⊢
            clear hGen
            generalize hGen : w9.heap.size = g9 at K9 ⊢
            clear hGen
            obtain ⟨G0, G1⟩ := K9.get2
            go_wp2_with fail
            refine (same_any 0 0 a9 none 0 0 c9 0 [] [] true _ (Slots.nil _ _) (Slots.nil _ _) (by omega) (by simp)).mono ?_
            rintro e w10 ⟨rfl, b10⟩
            go_wp2
            go_ret
            exact ⟨rfl, (K9.next b10).b⟩
        | true =>
          have HB := Lib.hid hB
          clear hB
          obtain ⟨sb, hsb⟩ : ∃ sb : Bool, sb = true ↔ l1 = l2 ∧ z1 = z2 := (Classical.em (l1 = l2 ∧ z1 = z2)).elim (fun h => ⟨true, fun _ => h, fun _ => rfl⟩) (fun h => ⟨false, fun e => Bool.noConfusion e, fun e => absurd e h⟩)
          have hst : ((encS' l1 z1).toList == (encS' l2 z2).toList) = sb := by
            rw [Bool.eq_iff_iff, hsb, ← enc_inj HA.out HB.out, beq_iff_eq]
            exact ⟨list_inj, fun h => by rw [h]⟩
          have HSB := Lib.hid hsb
          clear hsb
          have e1 := enc_any l1 a1 n1 c1 z1 w3 (HO1.out.below H3.b) hn1
          rw [show encCode l1 z1 = 0 by unfold encCode; rw [HA.out]; rfl] at e1
          have hdb := dec_back HA.out
          generalize encS' l1 z1 = s1 at e1 hdb hst
          have HDB := Lib.hid hdb
          have E1 := Lib.hid e1
          clear e1 hdb
          go_wp2_with fail
          refine E1.out.mono ?_
          rintro e w4 ⟨rfl, b4⟩
          have H4 := H3.next b4
          clear P0 P1 Q0 Q1 b4 H3
          obtain ⟨Q0, Q1, P0, P1⟩ := H4.get4
          go_wp2_with fail
          have e2 := enc_any l2 a2 n2 c2 z2 w4 (HO2.out.below H4.b) hn2
          rw [show encCode l2 z2 = 0 by unfold encCode; rw [HB.out]; rfl] at e2
          generalize encS' l2 z2 = s2 at e2 hst
          refine e2.mono ?_
          clear e2
          rintro e w5 ⟨rfl, b5⟩
          have H5 := H4.next b5
          clear P0 P1 Q0 Q1 b5 H4
          obtain ⟨Q0, Q1, P0, P1⟩ := H5.get4
          go_wp2_with fail
          refine (good_any l1 a1 n1 c1 z1 _ (HO1.out.below H5.b) hn1).mono ?_
          rw [HA.out]
          rintro e w6 ⟨rfl, b6⟩
          have H6 := H5.next b6
          clear P0 P1 Q0 Q1 b6 H5
          obtain ⟨Q0, Q1, P0, P1⟩ := H6.get4
          go_wp2_with fail
          refine (same_any l1 l2 a1 a2 n1 n2 c1 c2 z1 z2 sb _ (HO1.out.below H6.b) (HO2.out.below H6.b) hn1 HSB.out).mono ?_
          rintro e w6b ⟨rfl, b6b⟩
          have H7 := H6.next b6b
          clear P0 P1 Q0 Q1 b6b H6
          obtain ⟨Q0, Q1, P0, P1⟩ := H7.get4
          go_wp2_with fail
          refine (decode_to HDB.out _).mono ?_
          rintro e w7 ⟨a7, n7, c7, rfl, s7, b7, _⟩
          have hn7 : n7 ≤ 32 := by have := s7.len; have h2 := (good_parts HA.out).2.2.1; omega
          have H8 := (H7.next b7).box2 (.int .i64 l1) (.slice a7 n7 c7) 24
          have S8 := Lib.hid (s7.below ((Below.refl _ _).alloc (Nat.le_refl _) (.cells #[.int .i64 l1, .slice a7 n7 c7] 24)))
          clear s7 b7 P0 P1 Q0 Q1 H7
          go_upto_region 11 with (fail)
          generalize hGen : w7.alloc (.cells #[.int .i64 l1, .slice a7 n7 c7] 24) = X8 at H8 S8 ⊢
          clear hGen
          generalize hGen : w7.heap.size = g8 at H8 ⊢
          clear hGen
          obtain ⟨G0, G1, Q0, Q1, P0, P1⟩ := H8.get6
          go_wp2_with fail
          refine (same_any l1 l1 a7 a1 n7 n1 c7 c1 z1 z1 true _ S8.out (HO1.out.below H8.b) (by omega) (by simp)).mono ?_
          rintro e w8 ⟨rfl, b8⟩
          clear G0 G1
          have B9 := Lib.hid (H8.next b8).b
          clear P0 P1 Q0 Q1 b8 H8
          rcases dec_is s.data.toList with ⟨L, z, hd, hg, he⟩ | hd
          · have hE := enc_back hg he
            have HD := Lib.hid hd
            have HGD := Lib.hid hg
            have HE := Lib.hid hE
            clear hd hg he hE
            go_wp2_with fail
            refine (decode_to HD.out _).mono ?_
            rintro e w9 ⟨a9, n9, c9, rfl, s9, b9, _⟩
            have hn9 : n9 ≤ 32 := by have := s9.len; have h2 := (good_parts HGD.out).2.2.1; omega
            have K9 := ((Hold.nil (B9.out.trans (b9.mono B9.out.size))).box2 (.int .i64 (L : Int)) (.slice a9 n9 c9) 24)
            have S9 := Lib.hid (s9.below ((Below.refl _ _).alloc (Nat.le_refl _) (.cells #[.int .i64 (L : Int), .slice a9 n9 c9] 24)))
            clear s9 b9
            go_upto_region 14 with (fail)
            generalize hGen : w9.alloc (.cells #[.int .i64 (L : Int), .slice a9 n9 c9] 24) = X9 at K9 S9 ⊢
            clear hGen
            generalize hGen : w9.heap.size = g9 at K9 ⊢
            clear hGen
            obtain ⟨G0, G1⟩ := K9.get2
            go_wp2_with fail
            have hen := enc_any (L : Int) a9 n9 c9 z X9 S9.out (by omega)
            rw [HE.out, show encCode (L : Int) z = 0 by unfold encCode; rw [HGD.out]; rfl] at hen
            refine hen.mono ?_
            clear hen
            rintro e w10 ⟨rfl, b10⟩
            go_wp2
            go_ret
            exact ⟨rfl, (K9.next b10).b⟩
          · have HD := Lib.hid hd
            clear hd
            go_wp2_with fail
            refine (decode_to HD.out _).mono ?_
            rintro e w9 ⟨a9, n9, c9, rfl, s9, b9, _⟩
            have hn9 : n9 = 0 := by have := s9.len; simpa using this.symm
            subst hn9
            have K9 := ((Hold.nil (B9.out.trans (b9.mono B9.out.size))).box2 (.int .i64 0) (.slice a9 0 c9) 24)
            clear s9 b9
            go_upto_region 14 with (fail)
            generalize hGen : w9.alloc (.cells #[.int .i64 0, .slice a9 0 c9] 24) = X9 at K9 ⊢
            clear hGen
            generalize hGen : w9.heap.size = g9 at K9 ⊢
            clear hGen
            obtain ⟨G0, G1⟩ := K9.get2
            go_wp2_with fail
            refine (same_any 0 0 a9 none 0 0 c9 0 [] [] true _ (Slots.nil _ _) (Slots.nil _ _) (by omega) (by simp)).mono ?_
            rintro e w10 ⟨rfl, b10⟩
            go_wp2
            go_ret
            exact ⟨rfl, (K9.next b10).b⟩
end Go.Proofs.Ytnhdeebhkiemgaa.Slab
