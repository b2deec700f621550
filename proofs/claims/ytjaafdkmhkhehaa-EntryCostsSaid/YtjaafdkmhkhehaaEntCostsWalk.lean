/- The walk of the statement EntryCosts. -/
import Derived.Test.YtjaafdkmhkhehaaEntLaws
namespace Go.Proofs.Ytjaafdkmhkhehaa.Ent
open Go.RowKit
open Go.Proofs.Ytjaafdkmhkhehaa.Slab (Blk ret_int' ret_bool')
open Go.Proofs.Ytjaafdkmhkhehaa.Nib (below_next below_drew enc encStr Fits)

/-- what undoes a change -/
def undo (x : Ent) : Ent := ⟨2, x.cl, x.ep, x.n, x.lsn + 1, x.lsn, x.page, x.slot, x.iu, x.id, x.wu, x.wd, x.prev⟩
theorem undo_good {x : Ent} (h : goodB x = true) (hk : x.kind = 1) (hl : x.lsn ≠ 1099511627776) : goodB (undo x) = true := by
  obtain ⟨hh, hc, hn⟩ := good_long h (decide_eq_true (.inl hk))
  obtain ⟨h1, h2, h3, h4, h5, h6⟩ := head_parts hh
  obtain ⟨c1, c2, c3, c4⟩ := ch_parts hc
  have hk2 : knownB x.cl x.ep x.n = true := by unfold knownB withinB; simp; omega
  have hw1 : withinB (x.lsn + 1) 1 1099511627776 = true := decide_eq_true (by omega)
  have hw2 : withinB x.prev 0 x.lsn = true := decide_eq_true (by omega)
  have hp1 : withinB x.page 0 1023 = true := decide_eq_true c1
  have hp2 : withinB x.slot 0 31 = true := decide_eq_true c2
  unfold goodB headB chB undo
  simp only [hk2, hw1, hw2, hp1, hp2, c3, c4]
  simp
  omega
set_option maxRecDepth 100000 in
set_option maxHeartbeats 4000000 in
theorem costs_walk (x : Ent) (w : World) (hx : Small x) :
    Calls Try.prog 10 #[.agg #[.int .i64 x.kind, .int .i64 x.cl, .int .i64 x.ep, .int .i64 x.n, .int .i64 x.lsn, .int .i64 x.prev, .int .i64 x.page, .int .i64 x.slot, .bool x.wu, .string x.wd, .bool x.iu, .string x.id, .int .i64 x.next]] w fun e w' => e = .returned (.bool true) ∧ Below w.heap.size w w' := by
  have hb := below_box w (.cells #[.int .i64 x.kind, .int .i64 x.cl, .int .i64 x.ep, .int .i64 x.n, .int .i64 x.lsn, .int .i64 x.prev, .int .i64 x.page, .int .i64 x.slot, .bool x.wu, .string x.wd, .bool x.iu, .string x.id, .int .i64 x.next] 47)
  have hg := alloc_lt w (.cells #[.int .i64 x.kind, .int .i64 x.cl, .int .i64 x.ep, .int .i64 x.n, .int .i64 x.lsn, .int .i64 x.prev, .int .i64 x.page, .int .i64 x.slot, .bool x.wu, .string x.wd, .bool x.iu, .string x.id, .int .i64 x.next] 47)
  have hB := Blk.new w 47 #[.int .i64 x.kind, .int .i64 x.cl, .int .i64 x.ep, .int .i64 x.n, .int .i64 x.lsn, .int .i64 x.prev, .int .i64 x.page, .int .i64 x.slot, .bool x.wu, .string x.wd, .bool x.iu, .string x.id, .int .i64 x.next]
  have HS := Lib.hid hx
  clear hx
  go_enter Try.func10, Try.ntmps10
  go_upto_region 1 with (fail)
  generalize hGen : w.alloc (.cells #[.int .i64 x.kind, .int .i64 x.cl, .int .i64 x.ep, .int .i64 x.n, .int .i64 x.lsn, .int .i64 x.prev, .int .i64 x.page, .int .i64 x.slot, .bool x.wu, .string x.wd, .bool x.iu, .string x.id, .int .i64 x.next] 47) = W at hb hg hB ⊢
  clear hGen
  have HB := Lib.hid hb
  have HX := Lib.hid hB
  clear hb hB
  go_wp2_with fail
  refine (awake_any _).mono ?_
  rintro e w1 ⟨rfl, b1⟩
  have hX1 := HX.out.below b1 hg
  have HB1 := Lib.hid (below_next HB.out b1)
  have hg1 : w.heap.size < w1.heap.size := Nat.lt_of_lt_of_le hg b1.size
  clear b1 HB HX hg
  obtain ⟨c0, c1, c2, c3, c4, c5, c6, c7, c8, c9, c10, c11, c12⟩ := ent_cells hX1
  go_wp2_with fail
  refine (great_any x _ HS.out).mono ?_
  rintro e w2 ⟨rfl, b2⟩
  have hX2 := hX1.below b2 hg1
  have HB2 := Lib.hid (below_next HB1.out b2)
  have hg2 : w.heap.size < w2.heap.size := Nat.lt_of_lt_of_le hg1 b2.size
  clear b2 HB1 hg1 hX1 c0 c1 c2 c3 c4 c5 c6 c7 c8 c9 c10 c11 c12
  obtain ⟨c0, c1, c2, c3, c4, c5, c6, c7, c8, c9, c10, c11, c12⟩ := ent_cells hX2
  cases hgr : greatB x with
  | true =>
    go_wp2
    go_ret
    exact ⟨rfl, HB2.out⟩
  | false =>
    clear hgr
    go_wp2_with fail
    refine (good_any x _ HS.out).mono ?_
    rintro e w3 ⟨rfl, b3⟩
    have hX3 := hX2.below b3 hg2
    have HB3 := Lib.hid (below_next HB2.out b3)
    have hg3 : w.heap.size < w3.heap.size := Nat.lt_of_lt_of_le hg2 b3.size
    clear b3 HB2 hg2 hX2 c0 c1 c2 c3 c4 c5 c6 c7 c8 c9 c10 c11 c12
    obtain ⟨c0, c1, c2, c3, c4, c5, c6, c7, c8, c9, c10, c11, c12⟩ := ent_cells hX3
    cases hgd : goodB x with
    | false =>
      clear hgd
      go_wp2
      go_ret
      exact ⟨rfl, HB3.out⟩
    | true =>
      have HG := Lib.hid hgd
      obtain ⟨n2, n3⟩ := cost_bd hgd
      have hC := fun w => cost_any x w HS.out
      generalize costE x = n at hC n2 n3
      have HC := Lib.hid hC
      clear hgd hC
      go_wp2_with fail
      refine (HC.out _).mono ?_
      rintro e w4 ⟨rfl, b4⟩
      have hX4 := hX3.below b4 hg3
      have HB4 := Lib.hid (below_next HB3.out b4)
      have hg4 : w.heap.size < w4.heap.size := Nat.lt_of_lt_of_le hg3 b4.size
      clear b4 HB3 hg3 hX3 c0 c1 c2 c3 c4 c5 c6 c7 c8 c9 c10 c11 c12
      obtain ⟨c0, c1, c2, c3, c4, c5, c6, c7, c8, c9, c10, c11, c12⟩ := ent_cells hX4
      by_cases hk : x.kind = 1
      · have t1 : (x.kind != 1) = false := by rw [hk]; rfl
        by_cases hl : x.lsn = 1099511627776
        · have t2 : (x.lsn == 1099511627776) = true := by rw [hl]; rfl
          clear hk hl
          go_wp2
          go_ret
          exact ⟨rfl, HB4.out⟩
        · have t2 : (x.lsn == 1099511627776) = false := not_eq_of hl
          have hu := undo_good HG.out hk hl
          obtain ⟨m2, m3⟩ := cost_bd hu
          have hsu : Small (undo x) := ⟨HS.out.2, HS.out.1⟩
          have hCu := fun w => cost_any (undo x) w hsu
          have hGu := fun w => good_any (undo x) w hsu
          rw [hu] at hGu
          generalize hm : costE (undo x) = m at hCu m2 m3
          clear hm
          simp only [undo] at hCu hGu
          have HCU := Lib.hid hCu
          have HGU := Lib.hid hGu
          obtain ⟨l1, l2⟩ := (head_parts (good_long HG.out (decide_eq_true (.inl hk))).1).2.2.2.1
          clear hk hl hCu hGu hu
          go_upto_region 10 with (fail)
          go_upto_region 11 with (fail)
          have hY := Blk.new w4 47 #[.int .i64 x.kind, .int .i64 x.cl, .int .i64 x.ep, .int .i64 x.n, .int .i64 x.lsn, .int .i64 x.prev, .int .i64 x.page, .int .i64 x.slot, .bool x.wu, .string x.wd, .bool x.iu, .string x.id, .int .i64 x.next]
          have hXY := hX4.alloc (.cells #[.int .i64 x.kind, .int .i64 x.cl, .int .i64 x.ep, .int .i64 x.n, .int .i64 x.lsn, .int .i64 x.prev, .int .i64 x.page, .int .i64 x.slot, .bool x.wu, .string x.wd, .bool x.iu, .string x.id, .int .i64 x.next] 47)
          have hbY := below_next HB4.out (below_box w4 (.cells #[.int .i64 x.kind, .int .i64 x.cl, .int .i64 x.ep, .int .i64 x.n, .int .i64 x.lsn, .int .i64 x.prev, .int .i64 x.page, .int .i64 x.slot, .bool x.wu, .string x.wd, .bool x.iu, .string x.id, .int .i64 x.next] 47))
          have hgY := alloc_lt w4 (.cells #[.int .i64 x.kind, .int .i64 x.cl, .int .i64 x.ep, .int .i64 x.n, .int .i64 x.lsn, .int .i64 x.prev, .int .i64 x.page, .int .i64 x.slot, .bool x.wu, .string x.wd, .bool x.iu, .string x.id, .int .i64 x.next] 47)
          clear c0 c1 c2 c3 c4 c5 c6 c7 c8 c9 c10 c11 c12 hX4
          generalize hGen : w4.alloc (.cells #[.int .i64 x.kind, .int .i64 x.cl, .int .i64 x.ep, .int .i64 x.n, .int .i64 x.lsn, .int .i64 x.prev, .int .i64 x.page, .int .i64 x.slot, .bool x.wu, .string x.wd, .bool x.iu, .string x.id, .int .i64 x.next] 47) = W4 at hY hXY hbY hgY ⊢
          clear hGen
          generalize hGen : w4.heap.size = gy at hY hgY hg4 ⊢
          clear hGen
          have hwy : w.heap.size ≤ gy := Nat.le_of_lt hg4
          obtain ⟨c0, c1, c2, c3, c4, c5, c6, c7, c8, c9, c10, c11, c12⟩ := ent_cells hXY
          obtain ⟨d0, d1, d2, d3, d4, d5, d6, d7, d8, d9, d10, d11, d12⟩ := ent_cells hY
          obtain ⟨q0, q1, q2, q3, q4, q5, q6, q7, q8, q9, q10, q11, q12⟩ := ent_frozen hY
          have hn1 : w.heap.size ≠ gy := by omega
          have hn2 : gy ≠ w.heap.size := by omega
          have HBX := Lib.hid (show Below w.heap.size w ((((((((W4.setCell ⟨gy, 0, none⟩ (.int .i64 2)).setCell ⟨gy, 8, none⟩ (.bool x.iu)).setCell ⟨gy, 9, none⟩ (.string x.id)).setCell ⟨gy, 10, none⟩ (.bool x.wu)).setCell ⟨gy, 11, none⟩ (.string x.wd)).setCell ⟨gy, 4, none⟩ (.int .i64 (x.lsn + 1))).setCell ⟨gy, 5, none⟩ (.int .i64 x.lsn)).setCell ⟨gy, 12, none⟩ (.int .i64 x.prev)) from ((((((((hbY.setCell (p := ⟨gy, 0, none⟩) hwy (.int .i64 2)).setCell (p := ⟨gy, 8, none⟩) hwy (.bool x.iu)).setCell (p := ⟨gy, 9, none⟩) hwy (.string x.id)).setCell (p := ⟨gy, 10, none⟩) hwy (.bool x.wu)).setCell (p := ⟨gy, 11, none⟩) hwy (.string x.wd)).setCell (p := ⟨gy, 4, none⟩) hwy (.int .i64 (x.lsn + 1))).setCell (p := ⟨gy, 5, none⟩) hwy (.int .i64 x.lsn)).setCell (p := ⟨gy, 12, none⟩) hwy (.int .i64 x.prev)))
          have HYX := Lib.hid (show Blk ((((((((W4.setCell ⟨gy, 0, none⟩ (.int .i64 2)).setCell ⟨gy, 8, none⟩ (.bool x.iu)).setCell ⟨gy, 9, none⟩ (.string x.id)).setCell ⟨gy, 10, none⟩ (.bool x.wu)).setCell ⟨gy, 11, none⟩ (.string x.wd)).setCell ⟨gy, 4, none⟩ (.int .i64 (x.lsn + 1))).setCell ⟨gy, 5, none⟩ (.int .i64 x.lsn)).setCell ⟨gy, 12, none⟩ (.int .i64 x.prev)) gy 47 #[.int .i64 2, .int .i64 x.cl, .int .i64 x.ep, .int .i64 x.n, .int .i64 (x.lsn + 1), .int .i64 x.lsn, .int .i64 x.page, .int .i64 x.slot, .bool x.iu, .string x.id, .bool x.wu, .string x.wd, .int .i64 x.prev] by simpa using (Slab.Blk.set_ (Slab.Blk.set_ (Slab.Blk.set_ (Slab.Blk.set_ (Slab.Blk.set_ (Slab.Blk.set_ (Slab.Blk.set_ (Slab.Blk.set_ hY 0 (.int .i64 2)) 8 (.bool x.iu)) 9 (.string x.id)) 10 (.bool x.wu)) 11 (.string x.wd)) 4 (.int .i64 (x.lsn + 1))) 5 (.int .i64 x.lsn)) 12 (.int .i64 x.prev)))
          have hgX : gy < ((((((((W4.setCell ⟨gy, 0, none⟩ (.int .i64 2)).setCell ⟨gy, 8, none⟩ (.bool x.iu)).setCell ⟨gy, 9, none⟩ (.string x.id)).setCell ⟨gy, 10, none⟩ (.bool x.wu)).setCell ⟨gy, 11, none⟩ (.string x.wd)).setCell ⟨gy, 4, none⟩ (.int .i64 (x.lsn + 1))).setCell ⟨gy, 5, none⟩ (.int .i64 x.lsn)).setCell ⟨gy, 12, none⟩ (.int .i64 x.prev)).heap.size := HYX.out.lt
          clear hY hXY hbY hgY
          go_wp2_with fail
          refine (HCU.out _).mono ?_
          rintro e w5 ⟨rfl, b5⟩
          clear c0 c1 c2 c3 c4 c5 c6 c7 c8 c9 c10 c11 c12 d0 d1 d2 d3 d4 d5 d6 d7 d8 d9 d10 d11 d12 q0 q1 q2 q3 q4 q5 q6 q7 q8 q9 q10 q11 q12
          have hYX : Blk w5 gy 47 #[.int .i64 (undo x).kind, .int .i64 (undo x).cl, .int .i64 (undo x).ep, .int .i64 (undo x).n, .int .i64 (undo x).lsn, .int .i64 (undo x).prev, .int .i64 (undo x).page, .int .i64 (undo x).slot, .bool (undo x).wu, .string (undo x).wd, .bool (undo x).iu, .string (undo x).id, .int .i64 (undo x).next] := HYX.out.below b5 hgX
          have HB5 := Lib.hid (below_next HBX.out b5)
          clear b5 HBX HYX hgX
          obtain ⟨c0, c1, c2, c3, c4, c5, c6, c7, c8, c9, c10, c11, c12⟩ := ent_cells hYX
          simp only [undo] at c0 c1 c2 c3 c4 c5 c6 c7 c8 c9 c10 c11 c12
          go_wp2_with fail
          refine (HGU.out _).mono ?_
          rintro e w6 ⟨rfl, b6⟩
          go_wp2
          go_ret
          exact ⟨by first | rfl | exact ret_bool' (by simp; omega), below_next HB5.out b6⟩
      · have t1 : (x.kind != 1) = true := bne_iff_ne.2 hk
        clear hk
        go_wp2
        go_ret
        exact ⟨rfl, HB4.out⟩
end Go.Proofs.Ytjaafdkmhkhehaa.Ent
