/- The walk of the statement PastLess. -/
import Derived.Test.YtcpkngkeechjeaaPastAwake
namespace Go.Proofs.Ytcpkngkeechjeaa.Past
set_option maxRecDepth 100000
open Go.RowKit Go.Sort
open Go.Proofs.Ytcpkngkeechjeaa.Mem
set_option maxRecDepth 100000 in
set_option maxHeartbeats 4000000 in
theorem less_walk (a b c : T3) (w : World) (_ha : SmT a) (_hb : SmT b) (_hc : SmT c) :
    Calls Try.prog 6 #[.agg #[.int .i64 a.cl, .int .i64 a.ep, .int .i64 a.n], .agg #[.int .i64 b.cl, .int .i64 b.ep, .int .i64 b.n], .agg #[.int .i64 c.cl, .int .i64 c.ep, .int .i64 c.n]] w fun e w' => e = .returned (.bool true) ∧ Below w.heap.size w w' := by
  have hb1 := Ent.below_box w (.cells #[.int .i64 a.cl, .int .i64 a.ep, .int .i64 a.n] 24)
  have hA1 := Blk.new w 24 #[.int .i64 a.cl, .int .i64 a.ep, .int .i64 a.n]
  have hb2 := below_go hb1 (Ent.below_box (w.alloc (.cells #[.int .i64 a.cl, .int .i64 a.ep, .int .i64 a.n] 24)) (.cells #[.int .i64 b.cl, .int .i64 b.ep, .int .i64 b.n] 24))
  have hB2 := Blk.new (w.alloc (.cells #[.int .i64 a.cl, .int .i64 a.ep, .int .i64 a.n] 24)) 24 #[.int .i64 b.cl, .int .i64 b.ep, .int .i64 b.n]
  have hA2 := hA1.alloc (.cells #[.int .i64 b.cl, .int .i64 b.ep, .int .i64 b.n] 24)
  have hb3 := below_go hb2 (Ent.below_box ((w.alloc (.cells #[.int .i64 a.cl, .int .i64 a.ep, .int .i64 a.n] 24)).alloc (.cells #[.int .i64 b.cl, .int .i64 b.ep, .int .i64 b.n] 24)) (.cells #[.int .i64 c.cl, .int .i64 c.ep, .int .i64 c.n] 24))
  have hC3 := Blk.new ((w.alloc (.cells #[.int .i64 a.cl, .int .i64 a.ep, .int .i64 a.n] 24)).alloc (.cells #[.int .i64 b.cl, .int .i64 b.ep, .int .i64 b.n] 24)) 24 #[.int .i64 c.cl, .int .i64 c.ep, .int .i64 c.n]
  have hA3 := hA2.alloc (.cells #[.int .i64 c.cl, .int .i64 c.ep, .int .i64 c.n] 24)
  have hB3 := hB2.alloc (.cells #[.int .i64 c.cl, .int .i64 c.ep, .int .i64 c.n] 24)
  have e1 : (w.alloc (.cells #[.int .i64 a.cl, .int .i64 a.ep, .int .i64 a.n] 24)).heap.size = w.heap.size + 1 := by simp
  have e2 : ((w.alloc (.cells #[.int .i64 a.cl, .int .i64 a.ep, .int .i64 a.n] 24)).alloc (.cells #[.int .i64 b.cl, .int .i64 b.ep, .int .i64 b.n] 24)).heap.size = w.heap.size + 1 + 1 := by simp
  rw [e1] at hB3
  rw [e2] at hC3
  clear hb1 hA1 hb2 hB2 hA2 e1 e2
  have HLAW := Lib.hid (less_law a b c)
  have HTRI := Lib.hid (order_less.tri a b)
  have HASY := Lib.hid (And.intro (fun h => order_less.asym (a := a) (b := b) h) (fun h => order_less.asym (a := b) (b := a) h))
  go_enter Try.func6, Try.ntmps6
  go_wp2_with fail
  generalize hGen : ((w.alloc (.cells #[.int .i64 a.cl, .int .i64 a.ep, .int .i64 a.n] 24)).alloc (.cells #[.int .i64 b.cl, .int .i64 b.ep, .int .i64 b.n] 24)).alloc (.cells #[.int .i64 c.cl, .int .i64 c.ep, .int .i64 c.n] 24) = W at hb3 hA3 hB3 hC3 ⊢
  clear hGen
  refine (awake_any _).mono ?_
  rintro e w1 ⟨rfl, b1⟩
  have HB1 := Lib.hid (below_go hb3 b1)
  have HA := Lib.hid (hA3.below b1 hA3.lt)
  have HBB := Lib.hid (hB3.below b1 hB3.lt)
  have HCC := Lib.hid (hC3.below b1 hC3.lt)
  clear hb3 hA3 hB3 hC3 b1
  obtain ⟨a0, a1, a2⟩ := tx_cells HA.out
  obtain ⟨b0, b1, b2⟩ := tx_cells HBB.out
  have q0 := cell_regrown a0
  have q1 := cell_regrown a1
  have q2 := cell_regrown a2
  have q3 := cell_regrown b0
  have q4 := cell_regrown b1
  have q5 := cell_regrown b2
  have cAA : ∀ dd os, Calls Try.prog 17 #[.agg #[.int .i64 a.cl, .int .i64 a.ep, .int .i64 a.n], .agg #[.int .i64 a.cl, .int .i64 a.ep, .int .i64 a.n]] (grow (redrawn w1 dd) os) fun e w'' => e = .returned (.bool (lessT a a)) ∧ ∃ p : Regrown, w'' = grow (redrawn w1 p.d) p.os := fun dd os => Calls.regrown_of (less_any a a _)
  have cAB : ∀ dd os, Calls Try.prog 17 #[.agg #[.int .i64 a.cl, .int .i64 a.ep, .int .i64 a.n], .agg #[.int .i64 b.cl, .int .i64 b.ep, .int .i64 b.n]] (grow (redrawn w1 dd) os) fun e w'' => e = .returned (.bool (lessT a b)) ∧ ∃ p : Regrown, w'' = grow (redrawn w1 p.d) p.os := fun dd os => Calls.regrown_of (less_any a b _)
  have cBA : ∀ dd os, Calls Try.prog 17 #[.agg #[.int .i64 b.cl, .int .i64 b.ep, .int .i64 b.n], .agg #[.int .i64 a.cl, .int .i64 a.ep, .int .i64 a.n]] (grow (redrawn w1 dd) os) fun e w'' => e = .returned (.bool (lessT b a)) ∧ ∃ p : Regrown, w'' = grow (redrawn w1 p.d) p.os := fun dd os => Calls.regrown_of (less_any b a _)
  have hq := fun W => run_eq_txn a b W
  have hgd := fun (A B : Operand) xs ys W => run_guard_txn .eql A B xs ys W
  rw [HLAW.out.1] at cAA
  rw [sameT_eq] at hq
  have HL5 : Hid (∀ W, Calls Try.prog 17 #[.agg #[.int .i64 a.cl, .int .i64 a.ep, .int .i64 a.n], .agg #[.int .i64 b.cl, .int .i64 b.ep, .int .i64 b.n]] W fun e w' => e = .returned (.bool (lessT a b)) ∧ Below W.heap.size W w') := Lib.hid fun W => less_any a b W
  have HL6 : Hid (∀ W, Calls Try.prog 17 #[.agg #[.int .i64 b.cl, .int .i64 b.ep, .int .i64 b.n], .agg #[.int .i64 c.cl, .int .i64 c.ep, .int .i64 c.n]] W fun e w' => e = .returned (.bool (lessT b c)) ∧ Below W.heap.size W w') := Lib.hid fun W => less_any b c W
  have HL7 : Hid (∀ W, Calls Try.prog 17 #[.agg #[.int .i64 a.cl, .int .i64 a.ep, .int .i64 a.n], .agg #[.int .i64 c.cl, .int .i64 c.ep, .int .i64 c.n]] W fun e w' => e = .returned (.bool (lessT a c)) ∧ Below W.heap.size W w') := Lib.hid fun W => less_any a c W
  obtain ⟨lab, hlab⟩ : ∃ l, lessT a b = l := ⟨_, rfl⟩
  obtain ⟨lba, hlba⟩ : ∃ l, lessT b a = l := ⟨_, rfl⟩
  obtain ⟨eab, heab⟩ : ∃ l, decide (a = b) = l := ⟨_, rfl⟩
  have HL4 : Hid ((lab = true ∧ lba = false ∧ eab = false) ∨ (lab = false ∧ lba = false ∧ eab = true) ∨ (lab = false ∧ lba = true ∧ eab = false)) := Lib.hid (by
    rcases HTRI.out with h | h | h
    · exact .inl ⟨hlab ▸ h, hlba ▸ HASY.out.1 h, heab ▸ decide_eq_false (order_less.ne h)⟩
    · refine .inr (.inl ⟨?_, ?_, heab ▸ decide_eq_true h⟩)
      · rw [← hlab, h]; exact order_less.irr _
      · rw [← hlba, h]; exact order_less.irr _
    · exact .inr (.inr ⟨hlab ▸ HASY.out.2 h, hlba ▸ h, heab ▸ decide_eq_false (fun e => order_less.ne h e.symm)⟩))
  rw [hlab] at cAB HL5
  rw [hlba] at cBA
  rw [heab] at hq
  have HTRA := Lib.hid (HLAW.out.2.2.2)
  rw [hlab] at HTRA
  clear hlab hlba heab HLAW HTRI HASY
  go_upto_region 3 with (fail)
  rcases HL4.out with ⟨rfl, rfl, rfl⟩ | ⟨rfl, rfl, rfl⟩ | ⟨rfl, rfl, rfl⟩
  · refine wp_region_quiet_below (by kernel_rfl) (by kernel_rfl) ?_
    repeat (go_big_quiet_step ((first | (with_reducible exact cAA _ _) | (with_reducible exact cAB _ _) | (with_reducible exact cBA _ _))))
    refine wpQuiet_nil ?_
    intro _ hw'
    obtain ⟨⟨dq, osq⟩, hw''⟩ := hw'
    subst hw''
    have c2 := below_regrown w1 dq osq
    generalize grow (redrawn w1 dq) osq = w2 at c2 ⊢
    have HB2 := Lib.hid (below_go HB1.out c2)
    have HA2 := Lib.hid (HA.out.below c2 HA.out.lt)
    have HB3 := Lib.hid (HBB.out.below c2 HBB.out.lt)
    have HC2 := Lib.hid (HCC.out.below c2 HCC.out.lt)
    clear c2 cAA cAB cBA q0 q1 q2 q3 q4 q5 a0 a1 a2 b0 b1 b2 hq hgd HL4 HA HBB HCC HB1
    obtain ⟨a0, a1, a2⟩ := tx_cells HA2.out
    obtain ⟨b0, b1, b2⟩ := tx_cells HB3.out
    go_wp2_with fail
    refine (HL5.out _).mono ?_
    rintro e w3 ⟨rfl, c3⟩
    have HB4 := Lib.hid (below_go HB2.out c3)
    have HA4 := Lib.hid (HA2.out.below c3 HA2.out.lt)
    have HB5 := Lib.hid (HB3.out.below c3 HB3.out.lt)
    have HC4 := Lib.hid (HC2.out.below c3 HC2.out.lt)
    clear c3 a0 a1 a2 b0 b1 b2 HL5 HA2 HB3 HC2 HB2
    obtain ⟨b0, b1, b2⟩ := tx_cells HB5.out
    obtain ⟨c0, c1, c2⟩ := tx_cells HC4.out
    obtain ⟨lbc, hlbc⟩ : ∃ l, lessT b c = l := ⟨_, rfl⟩
    obtain ⟨lac, hlac⟩ : ∃ l, lessT a c = l := ⟨_, rfl⟩
    rw [hlbc] at HL6 HTRA
    rw [hlac] at HL7 HTRA
    clear hlbc hlac
    cases lbc with
    | false =>
      go_wp2_with fail
      refine (HL6.out _).mono ?_
      rintro e w4 ⟨rfl, d4⟩
      have HB6 := Lib.hid (below_go HB4.out d4)
      clear d4 b0 b1 b2 c0 c1 c2 HL6 HL7 HTRA HA4 HB5 HC4 HB4
      go_wp2
      go_ret
      exact ⟨rfl, HB6.out⟩
    | true =>
      obtain rfl : lac = true := by have h := HTRA.out; simpa using h
      go_wp2_with fail
      refine (HL6.out _).mono ?_
      rintro e w4 ⟨rfl, d4⟩
      have HB6 := Lib.hid (below_go HB4.out d4)
      have HA6 := Lib.hid (HA4.out.below d4 HA4.out.lt)
      have HC6 := Lib.hid (HC4.out.below d4 HC4.out.lt)
      clear d4 b0 b1 b2 c0 c1 c2 HL6 HTRA HA4 HB5 HC4 HB4
      obtain ⟨a0, a1, a2⟩ := tx_cells HA6.out
      obtain ⟨c0, c1, c2⟩ := tx_cells HC6.out
      go_wp2_with fail
      refine (HL7.out _).mono ?_
      rintro e w5 ⟨rfl, d5⟩
      have HB7 := Lib.hid (below_go HB6.out d5)
      clear d5 a0 a1 a2 c0 c1 c2 HL7 HA6 HC6 HB6
      go_wp2
      go_ret
      exact ⟨rfl, HB7.out⟩
  · refine wp_region_quiet_below (by kernel_rfl) (by kernel_rfl) ?_
    repeat (go_big_quiet_step ((first | (with_reducible exact cAA _ _) | (with_reducible exact cAB _ _) | (with_reducible exact cBA _ _))))
    refine wpQuiet_nil ?_
    intro _ hw'
    obtain ⟨⟨dq, osq⟩, hw''⟩ := hw'
    subst hw''
    have c2 := below_regrown w1 dq osq
    generalize grow (redrawn w1 dq) osq = w2 at c2 ⊢
    have HB2 := Lib.hid (below_go HB1.out c2)
    have HA2 := Lib.hid (HA.out.below c2 HA.out.lt)
    have HB3 := Lib.hid (HBB.out.below c2 HBB.out.lt)
    have HC2 := Lib.hid (HCC.out.below c2 HCC.out.lt)
    clear c2 cAA cAB cBA q0 q1 q2 q3 q4 q5 a0 a1 a2 b0 b1 b2 hq hgd HL4 HA HBB HCC HB1
    obtain ⟨a0, a1, a2⟩ := tx_cells HA2.out
    obtain ⟨b0, b1, b2⟩ := tx_cells HB3.out
    go_wp2_with fail
    refine (HL5.out _).mono ?_
    rintro e w3 ⟨rfl, c3⟩
    have HB4 := Lib.hid (below_go HB2.out c3)
    clear c3 a0 a1 a2 b0 b1 b2 HL5 HL6 HL7 HTRA HA2 HB3 HC2 HB2
    go_wp2
    go_ret
    exact ⟨rfl, HB4.out⟩
  · refine wp_region_quiet_below (by kernel_rfl) (by kernel_rfl) ?_
    repeat (go_big_quiet_step ((first | (with_reducible exact cAA _ _) | (with_reducible exact cAB _ _) | (with_reducible exact cBA _ _))))
    refine wpQuiet_nil ?_
    intro _ hw'
    obtain ⟨⟨dq, osq⟩, hw''⟩ := hw'
    subst hw''
    have c2 := below_regrown w1 dq osq
    generalize grow (redrawn w1 dq) osq = w2 at c2 ⊢
    have HB2 := Lib.hid (below_go HB1.out c2)
    have HA2 := Lib.hid (HA.out.below c2 HA.out.lt)
    have HB3 := Lib.hid (HBB.out.below c2 HBB.out.lt)
    have HC2 := Lib.hid (HCC.out.below c2 HCC.out.lt)
    clear c2 cAA cAB cBA q0 q1 q2 q3 q4 q5 a0 a1 a2 b0 b1 b2 hq hgd HL4 HA HBB HCC HB1
    obtain ⟨a0, a1, a2⟩ := tx_cells HA2.out
    obtain ⟨b0, b1, b2⟩ := tx_cells HB3.out
    go_wp2_with fail
    refine (HL5.out _).mono ?_
    rintro e w3 ⟨rfl, c3⟩
    have HB4 := Lib.hid (below_go HB2.out c3)
    clear c3 a0 a1 a2 b0 b1 b2 HL5 HL6 HL7 HTRA HA2 HB3 HC2 HB2
    go_wp2
    go_ret
    exact ⟨rfl, HB4.out⟩
end Go.Proofs.Ytcpkngkeechjeaa.Past
