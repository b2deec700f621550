/- The walk of the statement EntryWrites. -/
import Derived.Test.YtjaafdkmhkhehaaEntLaws
import Derived.Test.YtjaafdkmhkhehaaEntRefEnc
namespace Go.Proofs.Ytjaafdkmhkhehaa.Ent
open Go.RowKit Go.Sort
open Go.Proofs.Ytjaafdkmhkhehaa.Slab (Blk ret_int' ret_bool')
open Go.Proofs.Ytjaafdkmhkhehaa.Nib (below_next below_drew)
set_option maxRecDepth 100000 in
set_option maxHeartbeats 8000000 in
theorem writes_walk (x : Ent) (w : World) (hx : Small x) :
    Calls Try.prog 6 #[.agg #[.int .i64 x.kind, .int .i64 x.cl, .int .i64 x.ep, .int .i64 x.n, .int .i64 x.lsn, .int .i64 x.prev, .int .i64 x.page, .int .i64 x.slot, .bool x.wu, .string x.wd, .bool x.iu, .string x.id, .int .i64 x.next]] w fun e w' => e = .returned (.bool true) ∧ Below w.heap.size w w' := by
  have hb := below_box w (.cells #[.int .i64 x.kind, .int .i64 x.cl, .int .i64 x.ep, .int .i64 x.n, .int .i64 x.lsn, .int .i64 x.prev, .int .i64 x.page, .int .i64 x.slot, .bool x.wu, .string x.wd, .bool x.iu, .string x.id, .int .i64 x.next] 47)
  have hg := alloc_lt w (.cells #[.int .i64 x.kind, .int .i64 x.cl, .int .i64 x.ep, .int .i64 x.n, .int .i64 x.lsn, .int .i64 x.prev, .int .i64 x.page, .int .i64 x.slot, .bool x.wu, .string x.wd, .bool x.iu, .string x.id, .int .i64 x.next] 47)
  have hB := Blk.new w 47 #[.int .i64 x.kind, .int .i64 x.cl, .int .i64 x.ep, .int .i64 x.n, .int .i64 x.lsn, .int .i64 x.prev, .int .i64 x.page, .int .i64 x.slot, .bool x.wu, .string x.wd, .bool x.iu, .string x.id, .int .i64 x.next]
  have hE := fun w => encode_any x w hx
  have hR := fun w => renc_any x w hx
  have hG := fun w => good_any x w hx
  have hRG := fun w => rgood_any x w hx
  have hC := fun w => cost_any x w hx
  have hRC := fun w => rcost_any x w hx
  have hK := fun w => known_any x.cl x.ep x.n w
  have hRK := fun w => rknown_any x.cl x.ep x.n w
  generalize encE x = S at hE hR
  generalize codeE x = C at hE hR
  generalize goodB x = G at hG hRG
  generalize costE x = T at hC hRC
  generalize knownB x.cl x.ep x.n = K at hK hRK
  have HE := Lib.hid hE
  have HR := Lib.hid hR
  have HG := Lib.hid hG
  have HRG := Lib.hid hRG
  have HC := Lib.hid hC
  have HRC := Lib.hid hRC
  have HK := Lib.hid hK
  have HRK := Lib.hid hRK
  have HS := Lib.hid hx
  clear hE hR hG hRG hC hRC hK hRK hx
  go_enter Try.func6, Try.ntmps6
  go_upto_region 1 with (fail)
  generalize hGen : w.alloc (.cells #[.int .i64 x.kind, .int .i64 x.cl, .int .i64 x.ep, .int .i64 x.n, .int .i64 x.lsn, .int .i64 x.prev, .int .i64 x.page, .int .i64 x.slot, .bool x.wu, .string x.wd, .bool x.iu, .string x.id, .int .i64 x.next] 47) = W at hb hg hB ⊢
  clear hGen
  have HB := Lib.hid hb
  have HX := Lib.hid hB
  clear hb hB
  go_wp2_with fail
  refine (awake_any _).mono ?_
  rintro e w1 ⟨rfl, b1⟩
  have hX1 := HX.out.below b1 hg
  have HB1 := Lib.hid (below_next HB.out b1)
  have hg1 : w.heap.size < w1.heap.size := Nat.lt_of_lt_of_le hg b1.size
  clear b1 HB HX hg
  obtain ⟨c0, c1, c2, c3, c4, c5, c6, c7, c8, c9, c10, c11, c12⟩ := ent_cells hX1
  go_wp2_with fail
  refine (great_any x _ HS.out).mono ?_
  rintro e w2 ⟨rfl, b2⟩
  have hX2 := hX1.below b2 hg1
  have HB2 := Lib.hid (below_next HB1.out b2)
  have hg2 : w.heap.size < w2.heap.size := Nat.lt_of_lt_of_le hg1 b2.size
  clear b2 HB1 hg1 hX1 c0 c1 c2 c3 c4 c5 c6 c7 c8 c9 c10 c11 c12
  obtain ⟨c0, c1, c2, c3, c4, c5, c6, c7, c8, c9, c10, c11, c12⟩ := ent_cells hX2
  cases hgr : greatB x with
  | true =>
    go_wp2
    go_ret
    exact ⟨rfl, HB2.out⟩
  | false =>
    clear hgr
    go_wp2_with fail
    refine (HE.out _).mono ?_
    rintro e w3 ⟨rfl, b3⟩
    have hX3 := hX2.below b3 hg2
    have HB3 := Lib.hid (below_next HB2.out b3)
    have hg3 : w.heap.size < w3.heap.size := Nat.lt_of_lt_of_le hg2 b3.size
    clear b3 HB2 hg2 hX2 c0 c1 c2 c3 c4 c5 c6 c7 c8 c9 c10 c11 c12
    obtain ⟨c0, c1, c2, c3, c4, c5, c6, c7, c8, c9, c10, c11, c12⟩ := ent_cells hX3
    go_wp2_with fail
    refine (HR.out _).mono ?_
    rintro e w4 ⟨rfl, b4⟩
    have hX4 := hX3.below b4 hg3
    have HB4 := Lib.hid (below_next HB3.out b4)
    clear b4 HB3 hg3 hX3 c0 c1 c2 c3 c4 c5 c6 c7 c8 c9 c10 c11 c12
    obtain ⟨c0, c1, c2, c3, c4, c5, c6, c7, c8, c9, c10, c11, c12⟩ := ent_cells hX4
    have q0 := cell_regrown c0
    have q1 := cell_regrown c1
    have q2 := cell_regrown c2
    have q3 := cell_regrown c3
    have q4 := cell_regrown c4
    have q5 := cell_regrown c5
    have q6 := cell_regrown c6
    have q7 := cell_regrown c7
    have q8 := cell_regrown c8
    have q9 := cell_regrown c9
    have q10 := cell_regrown c10
    have q11 := cell_regrown c11
    have q12 := cell_regrown c12
    have cG : ∀ dd os, Calls Try.prog 28 #[.agg #[.int .i64 x.kind, .int .i64 x.cl, .int .i64 x.ep, .int .i64 x.n, .int .i64 x.lsn, .int .i64 x.prev, .int .i64 x.page, .int .i64 x.slot, .bool x.wu, .string x.wd, .bool x.iu, .string x.id, .int .i64 x.next]] (grow (redrawn w4 dd) os) fun e w'' => e = .returned (.bool G) ∧ ∃ p : Regrown, w'' = grow (redrawn w4 p.d) p.os := fun dd os => Calls.regrown_of (HG.out _)
    have cRG : ∀ dd os, Calls Try.prog 29 #[.agg #[.int .i64 x.kind, .int .i64 x.cl, .int .i64 x.ep, .int .i64 x.n, .int .i64 x.lsn, .int .i64 x.prev, .int .i64 x.page, .int .i64 x.slot, .bool x.wu, .string x.wd, .bool x.iu, .string x.id, .int .i64 x.next]] (grow (redrawn w4 dd) os) fun e w'' => e = .returned (.bool G) ∧ ∃ p : Regrown, w'' = grow (redrawn w4 p.d) p.os := fun dd os => Calls.regrown_of (HRG.out _)
    have cC : ∀ dd os, Calls Try.prog 30 #[.agg #[.int .i64 x.kind, .int .i64 x.cl, .int .i64 x.ep, .int .i64 x.n, .int .i64 x.lsn, .int .i64 x.prev, .int .i64 x.page, .int .i64 x.slot, .bool x.wu, .string x.wd, .bool x.iu, .string x.id, .int .i64 x.next]] (grow (redrawn w4 dd) os) fun e w'' => e = .returned (.int .i64 T) ∧ ∃ p : Regrown, w'' = grow (redrawn w4 p.d) p.os := fun dd os => Calls.regrown_of (HC.out _)
    have cRC : ∀ dd os, Calls Try.prog 31 #[.agg #[.int .i64 x.kind, .int .i64 x.cl, .int .i64 x.ep, .int .i64 x.n, .int .i64 x.lsn, .int .i64 x.prev, .int .i64 x.page, .int .i64 x.slot, .bool x.wu, .string x.wd, .bool x.iu, .string x.id, .int .i64 x.next]] (grow (redrawn w4 dd) os) fun e w'' => e = .returned (.int .i64 T) ∧ ∃ p : Regrown, w'' = grow (redrawn w4 p.d) p.os := fun dd os => Calls.regrown_of (HRC.out _)
    have cK : ∀ dd os, Calls Try.prog 32 #[.agg #[.int .i64 x.cl, .int .i64 x.ep, .int .i64 x.n]] (grow (redrawn w4 dd) os) fun e w'' => e = .returned (.bool K) ∧ ∃ p : Regrown, w'' = grow (redrawn w4 p.d) p.os := fun dd os => Calls.regrown_of (HK.out _)
    have cRK : ∀ dd os, Calls Try.prog 33 #[.agg #[.int .i64 x.cl, .int .i64 x.ep, .int .i64 x.n]] (grow (redrawn w4 dd) os) fun e w'' => e = .returned (.bool K) ∧ ∃ p : Regrown, w'' = grow (redrawn w4 p.d) p.os := fun dd os => Calls.regrown_of (HRK.out _)
    go_upto_region 7 with (fail)
    refine wp_region_quiet_below (by kernel_rfl) (by kernel_rfl) ?_
    repeat (go_big_quiet_step (first | (with_reducible exact cG _ _) | (with_reducible exact cRG _ _) | (with_reducible exact cC _ _) | (with_reducible exact cRC _ _) | (with_reducible exact cK _ _) | (with_reducible exact cRK _ _)))
    refine wpQuiet_nil ?_
    intro _ hw'
    obtain ⟨⟨dq, osq⟩, hw''⟩ := hw'
    subst hw''
    have b5 := below_regrown w4 dq osq
    generalize grow (redrawn w4 dq) osq = W5 at b5 ⊢
    clear cG cRG cC cRC cK cRK q0 q1 q2 q3 q4 q5 q6 q7 q8 q9 q10 q11 q12
    go_wp2
    go_ret
    exact ⟨ret_bool' (by simp), below_next HB4.out b5⟩
end Go.Proofs.Ytjaafdkmhkhehaa.Ent
