/- The walk of the statement NoteWrites. -/
import Derived.Test.YtnoplekjdbakkaaQNoteRefEnc
namespace Go.Proofs.Ytnoplekjdbakkaa.Note
set_option maxRecDepth 100000
open Go.RowKit Go.Sort
open Go.Proofs.Ytnoplekjdbakkaa.Nib (enc below_next below_drew Fits takeInt)
open Go.Proofs.Ytnoplekjdbakkaa.Slab (Slot Slots Blk ret_bool' ret_int')
open Go.Proofs.Ytnoplekjdbakkaa.Ent (Ent Ents EntAt SmallE withinB knownB noE entA below_box alloc_lt arr arr_list list_arr arr_size ent_cells)
set_option maxRecDepth 100000 in
set_option maxHeartbeats 2000000 in
theorem writes_walk (m : Ms) (h : Hd) (w : World) (hi : In w m h) :
    Calls Try.prog 3 #[.agg #[.int .i64 m.kind, .int .i64 m.page, .bool m.x, .bool m.need, .int .i64 m.n, .int .i64 m.cl, .int .i64 m.ep, .int .i64 m.tn, .int .i64 m.lsn, .slice h.a h.an h.ac, .slice h.b h.bn h.bc]] w fun e w' => e = .returned (.bool true) ∧ Below w.heap.size w w' := by
  have hb := below_box w (.cells #[.int .i64 m.kind, .int .i64 m.page, .bool m.x, .bool m.need, .int .i64 m.n, .int .i64 m.cl, .int .i64 m.ep, .int .i64 m.tn, .int .i64 m.lsn, .slice h.a h.an h.ac, .slice h.b h.bn h.bc] 29)
  have hM := Blk.new w 29 #[.int .i64 m.kind, .int .i64 m.page, .bool m.x, .bool m.need, .int .i64 m.n, .int .i64 m.cl, .int .i64 m.ep, .int .i64 m.tn, .int .i64 m.lsn, .slice h.a h.an h.ac, .slice h.b h.bn h.bc]
  have hs := alloc_lt w (.cells #[.int .i64 m.kind, .int .i64 m.page, .bool m.x, .bool m.need, .int .i64 m.n, .int .i64 m.cl, .int .i64 m.ep, .int .i64 m.tn, .int .i64 m.lsn, .slice h.a h.an h.ac, .slice h.b h.bn h.bc] 29)
  have HI := Lib.hid (hi.below hb)
  clear hi
  go_enter Try.func3, Try.ntmps3
  try dsimp only [List.append]
  go_upto_region 1 with (fail)
  generalize hGen : w.alloc (.cells #[.int .i64 m.kind, .int .i64 m.page, .bool m.x, .bool m.need, .int .i64 m.n, .int .i64 m.cl, .int .i64 m.ep, .int .i64 m.tn, .int .i64 m.lsn, .slice h.a h.an h.ac, .slice h.b h.bn h.bc] 29) = W at hb hM hs HI ⊢
  clear hGen
  go_wp2_with fail
  refine (awake_any _).mono ?_
  rintro e w1 ⟨rfl, b1⟩
  have hM1 := hM.below b1 hs
  have hb1 := below_next hb b1
  have hs1 := Nat.lt_of_lt_of_le hs b1.size
  have HI1 := Lib.hid (HI.out.below b1)
  clear hM hb hs HI b1
  obtain ⟨c0, c1, c2, c3, c4, c5, c6, c7, c8, c9, c10⟩ := msg_cells hM1
  go_wp2_with fail
  refine (great_any m h _ HI1.out).mono ?_
  rintro e w2 ⟨g, rfl, hg, b2⟩
  have hM2 := hM1.below b2 hs1
  have hb2 := below_next hb1 b2
  have hs2 := Nat.lt_of_lt_of_le hs1 b2.size
  have HI2 := Lib.hid (HI1.out.below b2)
  clear c0 c1 c2 c3 c4 c5 c6 c7 c8 c9 c10 hM1 hb1 hs1 HI1 b2
  cases g with
  | true =>
    go_wp2
    go_ret
    exact ⟨rfl, hb2⟩
  | false =>
    obtain ⟨hga, hgb⟩ := hg rfl
    have HE := Lib.hid (fun w (hj : In w m h) => encode_any m h w hj (by omega) (by omega))
    have HR := Lib.hid (fun w (hj : In w m h) => rencode_any m h w hj (by omega) (by omega))
    have HG := Lib.hid (fun w (hj : In w m h) => good_any m h w hj (by omega) (by omega))
    have HQ := Lib.hid (fun w (hj : In w m h) => rgood_any m h w hj (by omega) (by omega))
    clear hg hga hgb
    generalize encMsg m = S at HE HR
    generalize codeM m = C at HE HR
    generalize goodM m = G at HG HQ
    have hS : (S.toList == S.toList) = true := beq_self_eq_true _
    obtain ⟨c0, c1, c2, c3, c4, c5, c6, c7, c8, c9, c10⟩ := msg_cells hM2
    go_wp2_with fail
    refine (HE.out _ HI2.out).mono ?_
    rintro e w3 ⟨rfl, b3⟩
    have hM3 := hM2.below b3 hs2
    have hb3 := below_next hb2 b3
    have hs3 := Nat.lt_of_lt_of_le hs2 b3.size
    have HI3 := Lib.hid (HI2.out.below b3)
    clear c0 c1 c2 c3 c4 c5 c6 c7 c8 c9 c10 hM2 hb2 hs2 HI2 b3
    obtain ⟨c0, c1, c2, c3, c4, c5, c6, c7, c8, c9, c10⟩ := msg_cells hM3
    go_wp2_with fail
    refine (HR.out _ HI3.out).mono ?_
    rintro e w4 ⟨rfl, b4⟩
    have hM4 := hM3.below b4 hs3
    have hb4 := below_next hb3 b4
    have hs4 := Nat.lt_of_lt_of_le hs3 b4.size
    have HI4 := Lib.hid (HI3.out.below b4)
    clear c0 c1 c2 c3 c4 c5 c6 c7 c8 c9 c10 hM3 hb3 hs3 HI3 b4
    obtain ⟨c0, c1, c2, c3, c4, c5, c6, c7, c8, c9, c10⟩ := msg_cells hM4
    go_upto_region 7 with (fail)
    have k0 := cell_regrown c0
    have k1 := cell_regrown c1
    have k2 := cell_regrown c2
    have k3 := cell_regrown c3
    have k4 := cell_regrown c4
    have k5 := cell_regrown c5
    have k6 := cell_regrown c6
    have k7 := cell_regrown c7
    have k8 := cell_regrown c8
    have k9 := cell_regrown c9
    have k10 := cell_regrown c10
    have cG : ∀ dd os, Calls Try.prog 13 #[.agg #[.int .i64 m.kind, .int .i64 m.page, .bool m.x, .bool m.need, .int .i64 m.n, .int .i64 m.cl, .int .i64 m.ep, .int .i64 m.tn, .int .i64 m.lsn, .slice h.a h.an h.ac, .slice h.b h.bn h.bc]] (grow (redrawn w4 dd) os) fun e w'' => e = .returned (.bool G) ∧ ∃ p : Regrown, w'' = grow (redrawn w4 p.d) p.os := fun dd os => Calls.regrown_of (HG.out _ (HI4.out.below (below_regrown w4 dd os)))
    have cQ : ∀ dd os, Calls Try.prog 14 #[.agg #[.int .i64 m.kind, .int .i64 m.page, .bool m.x, .bool m.need, .int .i64 m.n, .int .i64 m.cl, .int .i64 m.ep, .int .i64 m.tn, .int .i64 m.lsn, .slice h.a h.an h.ac, .slice h.b h.bn h.bc]] (grow (redrawn w4 dd) os) fun e w'' => e = .returned (.bool G) ∧ ∃ p : Regrown, w'' = grow (redrawn w4 p.d) p.os := fun dd os => Calls.regrown_of (HQ.out _ (HI4.out.below (below_regrown w4 dd os)))
    cases G
    · refine wp_region_quiet_below (by kernel_rfl) (by kernel_rfl) ?_
      repeat (go_big_quiet_step (first | (with_reducible exact cG _ _) | (with_reducible exact cQ _ _)))
      refine wpQuiet_nil ?_
      intro _ hw'
      obtain ⟨⟨dq, osq⟩, hw''⟩ := hw'
      subst hw''
      have b5 := below_regrown w4 dq osq
      generalize grow (redrawn w4 dq) osq = w5 at b5 ⊢
      go_wp2
      go_ret
      exact ⟨rfl, below_next hb4 b5⟩
    · refine wp_region_quiet_below (by kernel_rfl) (by kernel_rfl) ?_
      repeat (go_big_quiet_step (first | (with_reducible exact cG _ _) | (with_reducible exact cQ _ _)))
      refine wpQuiet_nil ?_
      intro _ hw'
      obtain ⟨⟨dq, osq⟩, hw''⟩ := hw'
      subst hw''
      have b5 := below_regrown w4 dq osq
      generalize grow (redrawn w4 dq) osq = w5 at b5 ⊢
      go_wp2
      go_ret
      exact ⟨rfl, below_next hb4 b5⟩
end Go.Proofs.Ytnoplekjdbakkaa.Note
