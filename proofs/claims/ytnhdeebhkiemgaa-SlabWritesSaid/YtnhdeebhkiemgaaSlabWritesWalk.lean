/- The walk of the statement SlabWrites. -/
import Derived.Test.YtnhdeebhkiemgaaSlabREnc
import Derived.Test.YtnhdeebhkiemgaaSlabAwake
namespace Go.Proofs.Ytnhdeebhkiemgaa.Slab
open Go.RowKit Go.Sort

set_option maxRecDepth 100000 in
set_option maxHeartbeats 4000000 in
theorem writes_walk (lsn : Int) (a : Option Addr) (n c : Nat) (zs : List Slot) (w : World) (hl : -9223372036854775808 ≤ lsn ∧ lsn ≤ 9223372036854775807) (h : Slots w a n zs) :
    Calls Try.prog 3 #[.agg #[.int .i64 lsn, .slice a n c]] w fun e w' => e = .returned (.bool true) ∧ Below w.heap.size w w' := by
  have H0 := (Hold.nil (Below.refl w.heap.size w)).box2 (.int .i64 lsn) (.slice a n c) 24
  have HO := Lib.hid h
  have HL := Lib.hid hl
  clear h hl
  go_enter Try.func3, Try.ntmps3
  go_wp2_with fail
  generalize hGen : w.alloc (.cells #[.int .i64 lsn, .slice a n c] 24) = W at H0 ⊢
  clear hGen
  refine (awake_any _).mono ?_
  rintro e w1 ⟨rfl, b1⟩
  have H1 := H0.next b1
  obtain ⟨P0, P1⟩ := H1.get2
  clear H0 b1
  cases hgr : greatB zs with
  | true =>
    have HGR := Lib.hid hgr
    clear hgr
    go_wp2_with fail
    refine (great_any lsn a n c zs _ (HO.out.below H1.b)).mono ?_
    rw [HGR.out]
    rintro e w2 ⟨rfl, b2⟩
    go_wp2
    go_ret
    exact ⟨rfl, (H1.next b2).b⟩
  | false =>
    have hn : n ≤ 1000000 := by have := HO.out.len; simp [greatB] at hgr; omega
    have HGR := Lib.hid hgr
    clear hgr
    go_wp2_with fail
    refine (great_any lsn a n c zs _ (HO.out.below H1.b)).mono ?_
    rw [HGR.out]
    rintro e w2 ⟨rfl, b2⟩
    have H2 := H1.next b2
    clear P0 P1 b2 H1
    obtain ⟨P0, P1⟩ := H2.get2
    go_wp2_with fail
    refine (enc_any lsn a n c zs _ (HO.out.below H2.b) hn).mono ?_
    rintro e w3 ⟨rfl, b3⟩
    have H3 := H2.next b3
    clear P0 P1 b3 H2
    obtain ⟨P0, P1⟩ := H3.get2
    go_wp2_with fail
    refine (renc_any lsn a n c zs _ (HO.out.below H3.b) hn).mono ?_
    generalize encS' lsn zs = S
    generalize encCode lsn zs = C
    rintro e w4 ⟨rfl, b4⟩
    have H4 := H3.next b4
    clear P0 P1 b4 H3
    obtain ⟨P0, P1⟩ := H4.get2
    have kP0 := cell_regrown P0
    have kP1 := cell_regrown P1
    have cG : ∀ dd os, Calls Try.prog 16 #[.agg #[.int .i64 lsn, .slice a n c]] (grow (redrawn w4 dd) os) fun e w'' => e = .returned (.bool (goodB lsn zs)) ∧ ∃ p : Regrown, w'' = grow (redrawn w4 p.d) p.os := fun dd os => Calls.regrown_of (good_any lsn a n c zs _ ((HO.out.below H4.b).below (below_regrown w4 dd os)) hn)
    have cRG : ∀ dd os, Calls Try.prog 17 #[.agg #[.int .i64 lsn, .slice a n c]] (grow (redrawn w4 dd) os) fun e w'' => e = .returned (.bool (goodB lsn zs)) ∧ ∃ p : Regrown, w'' = grow (redrawn w4 p.d) p.os := fun dd os => Calls.regrown_of (rgood_any lsn a n c zs _ ((HO.out.below H4.b).below (below_regrown w4 dd os)) hn)
    have cS : ∀ dd os, Calls Try.prog 18 #[.agg #[.int .i64 lsn, .slice a n c]] (grow (redrawn w4 dd) os) fun e w'' => e = .returned (.int .i64 (sizeV lsn zs)) ∧ ∃ p : Regrown, w'' = grow (redrawn w4 p.d) p.os := fun dd os => Calls.regrown_of (sizes_any lsn a n c zs _ ((HO.out.below H4.b).below (below_regrown w4 dd os)) hn)
    have cRS : ∀ dd os, Calls Try.prog 19 #[.agg #[.int .i64 lsn, .slice a n c]] (grow (redrawn w4 dd) os) fun e w'' => e = .returned (.int .i64 (sizeV lsn zs)) ∧ ∃ p : Regrown, w'' = grow (redrawn w4 p.d) p.os := fun dd os => Calls.regrown_of (rsizes_any lsn a n c zs _ ((HO.out.below H4.b).below (below_regrown w4 dd os)) hn)
    generalize goodB lsn zs = gb at cG cRG
    generalize sizeV lsn zs = sv at cS cRS
    go_upto_region 7 with (fail)
    refine wp_region_quiet_below (by kernel_rfl) (by kernel_rfl) ?_
    repeat (go_big_quiet_step (first | (with_reducible exact cG _ _) | (with_reducible exact cRG _ _) | (with_reducible exact cS _ _) | (with_reducible exact cRS _ _)))
    refine wpQuiet_nil ?_
    intro _ hw'
    obtain ⟨⟨dq, osq⟩, hw''⟩ := hw'
    subst hw''
    have b5 := below_regrown w4 dq osq
    generalize grow (redrawn w4 dq) osq = W5 at b5 ⊢
    clear cG cRG cS cRS kP0 kP1
    go_wp2
    go_ret
    exact ⟨ret_bool' (by simp), (H4.next b5).b⟩
end Go.Proofs.Ytnhdeebhkiemgaa.Slab
