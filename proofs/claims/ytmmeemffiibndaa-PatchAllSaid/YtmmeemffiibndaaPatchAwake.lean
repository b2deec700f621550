/- The walk of the statements' own beginning. -/
import Derived.Test.YtmmeemffiibndaaPatchAll
import Derived.Test.YtmmeemffiibndaaPatchGreat
namespace Go.Proofs.Ytmmeemffiibndaa.Patch
open Go.RowKit Go.Sort
open Go.Proofs.Ytmmeemffiibndaa.Slab (Slot nos atL putN putZ putL putCode sameB Blk Slots PageRes sameB_refl ret_bool')
open Go.Proofs.Ytmmeemffiibndaa.Ent (Ent noE longB SmallE Small ent_cells alloc_lt below_box Ents EntAt)
open Go.Proofs.Ytmmeemffiibndaa.Nib (below_next below_drew)
def X1 : Ent := ⟨1, 1, 1, 1, 5, 0, 0, 0, false, ⟨#[]⟩, true, ⟨#[97]⟩, 0⟩
def Y1 : Ent := ⟨2, 1, 1, 1, 6, 5, 0, 0, true, ⟨#[97]⟩, false, ⟨#[]⟩, 0⟩
def A1 : Slot := ⟨true, ⟨#[97]⟩⟩
theorem x1 : longB X1.kind = true ∧ Ent.goodB X1 = true ∧ longB Y1.kind = true ∧ Ent.goodB Y1 = true := by decide
theorem g1 : Slab.goodB 0 [] = true ∧ Slab.goodB 5 [A1] = true ∧ putCode 0 [] 0 A1 = 0 ∧ putCode 5 [A1] 0 nos = 0 := by decide +kernel
theorem first1 : redoCode 0 [] X1 = 0 ∧ redoD 0 [] X1 = true ∧ redoN 0 [] X1 = 5 ∧ redoZ 0 [] X1 = [A1] := by
  have h4 : ¬ X1.lsn ≤ 0 := by decide
  have h := redo_put (lsn := 0) (l := []) (x := X1) g1.1 x1.1 x1.2.1 h4 (sameB_refl nos)
  have hc : redoCode 0 [] X1 = 0 := h.trans g1.2.2.1
  obtain ⟨h1, h2, h3⟩ := redo_new h4 hc
  exact ⟨hc, h1, h2, h3⟩
theorem again1 : redoCode 5 [A1] X1 = 0 ∧ redoD 5 [A1] X1 = false ∧ redoN 5 [A1] X1 = 5 ∧ redoZ 5 [A1] X1 = [A1] := redo_old g1.2.1 x1.1 x1.2.1 (by decide)
theorem turn1 : turnX X1 6 5 = Y1 ∧ turnC X1 6 5 = 0 := turn_ok (x := X1) (lsn := 6) (prev := 5) (by unfold turnB; rw [x1.2.1, show Ent.goodB (turnY X1 6 5) = true from x1.2.2.2]; decide)
theorem back1 : redoCode 5 [A1] Y1 = 0 ∧ redoN 5 [A1] Y1 = 6 ∧ redoZ 5 [A1] Y1 = [] := by
  have h4 : ¬ Y1.lsn ≤ 5 := by decide
  have h := redo_put (lsn := 5) (l := [A1]) (x := Y1) g1.2.1 x1.2.2.1 x1.2.2.2 h4 (sameB_refl A1)
  have hc : redoCode 5 [A1] Y1 = 0 := h.trans g1.2.2.2
  obtain ⟨_, h2, h3⟩ := redo_new h4 hc
  exact ⟨hc, h2, h3⟩
theorem all1 : allR 0 5 [A1] [X1, Y1] = (0, 6, []) := by
  unfold allR
  rw [if_pos g1.2.1, allF, if_pos ⟨x1.1, rfl⟩, if_pos again1.1, again1.2.2.1, again1.2.2.2, allF, if_pos ⟨x1.2.2.1, rfl⟩, if_pos back1.1, back1.2.1, back1.2.2, allF]
theorem small1 : SmallE X1 ∧ SmallE Y1 := by unfold SmallE X1 Y1; decide
theorem cells1 : (Ent.cellsE [X1, Y1]).toArray = #[.int .i64 1, .int .i64 1, .int .i64 1, .int .i64 1, .int .i64 5, .int .i64 0, .int .i64 0, .int .i64 0, .bool false, .string ⟨#[]⟩, .bool true, .string ⟨#[97]⟩, .int .i64 0, .int .i64 2, .int .i64 1, .int .i64 1, .int .i64 1, .int .i64 6, .int .i64 5, .int .i64 0, .int .i64 0, .bool true, .string ⟨#[97]⟩, .bool false, .string ⟨#[]⟩, .int .i64 0] := by rfl

set_option maxRecDepth 100000 in
set_option maxHeartbeats 1000000 in
theorem insert_any (w : World) : Calls Try.prog 40 #[] w fun e w' => e = .returned (.agg #[.int .i64 1, .int .i64 1, .int .i64 1, .int .i64 1, .int .i64 5, .int .i64 0, .int .i64 0, .int .i64 0, .bool false, .string ⟨#[]⟩, .bool true, .string ⟨#[97]⟩, .int .i64 0]) ∧ Below w.heap.size w w' := by
  have hb := below_box w (.cells #[.int .i64 0, .int .i64 0, .int .i64 0, .int .i64 0, .int .i64 0, .int .i64 0, .int .i64 0, .int .i64 0, .bool false, .string ⟨#[]⟩, .bool false, .string ⟨#[]⟩, .int .i64 0] 45)
  have hR := Blk.new w 45 #[.int .i64 0, .int .i64 0, .int .i64 0, .int .i64 0, .int .i64 0, .int .i64 0, .int .i64 0, .int .i64 0, .bool false, .string ⟨#[]⟩, .bool false, .string ⟨#[]⟩, .int .i64 0]
  go_enter Try.func40, Try.ntmps40
  go_wp2
  refine bodyPost_ret (v := .agg #[.int .i64 1, .int .i64 1, .int .i64 1, .int .i64 1, .int .i64 5, .int .i64 0, .int .i64 0, .int .i64 0, .bool false, .string ⟨#[]⟩, .bool true, .string ⟨#[97]⟩, .int .i64 0]) (by simp [results, Try.results40, go_sem]) rfl ?_
  exact ⟨rfl, below_box _ _⟩

set_option maxRecDepth 100000 in
set_option maxHeartbeats 8000000 in
theorem awake_any (w : World) :
    Calls Try.prog 21 #[] w fun e w' => e = .returned (.bool true) ∧ Below w.heap.size w w' := by
  have r1 := fun w => redo_any 0 none 0 0 [] X1 w (Slots.nil _ _) (by omega) small1.1
  rw [first1.1, first1.2.1, first1.2.2.1, first1.2.2.2] at r1
  have r2 := fun a n c w (h : Slots w a n [A1]) (hn : n ≤ 1000000) => redo_any 5 a n c [A1] X1 w h hn small1.1
  rw [again1.1, again1.2.1, again1.2.2.1, again1.2.2.2] at r2
  have r3 := fun w => turn_any X1 6 5 w small1.1
  rw [turn1.1, turn1.2] at r3
  have r4 := fun a n c g w (h : Slots w a n [A1]) (hn : n ≤ 1000000) (hl : Ents w (some ⟨g, 0, none⟩) 2 [X1, Y1]) => all_any 5 a n c [A1] 0 (some ⟨g, 0, none⟩) 2 2 [X1, Y1] w h hn hl (by omega)
  rw [all1] at r4
  simp only [X1, Y1] at r1 r2 r3 r4
  have R1 := Lib.hid r1
  have R2 := Lib.hid r2
  have R3 := Lib.hid r3
  have R4 := Lib.hid r4
  clear r1 r2 r3 r4
  go_enter Try.func21, Try.ntmps21
  go_wp2_with fail
  refine (insert_any _).mono ?_
  rintro e w1 ⟨rfl, b1⟩
  have hb1 := below_next b1 (below_box w1 (.cells #[.int .i64 1, .int .i64 1, .int .i64 1, .int .i64 1, .int .i64 5, .int .i64 0, .int .i64 0, .int .i64 0, .bool false, .string ⟨#[]⟩, .bool true, .string ⟨#[97]⟩, .int .i64 0] 45))
  have hX := Blk.new w1 45 #[.int .i64 1, .int .i64 1, .int .i64 1, .int .i64 1, .int .i64 5, .int .i64 0, .int .i64 0, .int .i64 0, .bool false, .string ⟨#[]⟩, .bool true, .string ⟨#[97]⟩, .int .i64 0]
  have hz := alloc_lt w1 (.cells #[.int .i64 1, .int .i64 1, .int .i64 1, .int .i64 1, .int .i64 5, .int .i64 0, .int .i64 0, .int .i64 0, .bool false, .string ⟨#[]⟩, .bool true, .string ⟨#[97]⟩, .int .i64 0] 45)
  go_upto_region 2 with (fail)
  generalize hGen : w1.alloc (.cells #[.int .i64 1, .int .i64 1, .int .i64 1, .int .i64 1, .int .i64 5, .int .i64 0, .int .i64 0, .int .i64 0, .bool false, .string ⟨#[]⟩, .bool true, .string ⟨#[97]⟩, .int .i64 0] 45) = W1 at hb1 hX hz ⊢
  clear hGen
  generalize hGen : w1.heap.size = gx at hX hz ⊢
  clear hGen
  have hcx : Blk W1 gx 45 #[.int .i64 X1.kind, .int .i64 X1.cl, .int .i64 X1.ep, .int .i64 X1.n, .int .i64 X1.lsn, .int .i64 X1.prev, .int .i64 X1.page, .int .i64 X1.slot, .bool X1.wu, .string X1.wd, .bool X1.iu, .string X1.id, .int .i64 X1.next] := hX
  obtain ⟨c0, c1, c2, c3, c4, c5, c6, c7, c8, c9, c10, c11, c12⟩ := ent_cells hcx
  simp only [X1] at c0 c1 c2 c3 c4 c5 c6 c7 c8 c9 c10 c11 c12
  clear hcx
  go_wp2_with fail
  refine (R1.out _).mono ?_
  rintro e w2 ⟨a2, n2, cc2, rfl, s2, b2, _⟩
  have hn2 : n2 = 1 := s2.len.symm
  subst hn2
  have bP := below_box w2 (.cells #[.int .i64 5, .slice a2 1 cc2] 24)
  have hb2 := below_next (below_next hb1 b2) bP
  have hX2 := (hX.below b2 hz).below bP (Nat.lt_of_lt_of_le hz b2.size)
  have hS2 := s2.below bP
  have hP := Blk.new w2 24 #[.int .i64 5, .slice a2 1 cc2]
  have hzp := alloc_lt w2 (.cells #[.int .i64 5, .slice a2 1 cc2] 24)
  clear c0 c1 c2 c3 c4 c5 c6 c7 c8 c9 c10 c11 c12 s2
  go_upto_region 3 with (fail)
  generalize hGen : w2.alloc (.cells #[.int .i64 5, .slice a2 1 cc2] 24) = W2 at hb2 hX2 hS2 hP hzp bP ⊢
  clear hGen
  generalize hGen : w2.heap.size = gp at hP hzp ⊢
  clear hGen
  clear bP
  have hcx : Blk W2 gx 45 #[.int .i64 X1.kind, .int .i64 X1.cl, .int .i64 X1.ep, .int .i64 X1.n, .int .i64 X1.lsn, .int .i64 X1.prev, .int .i64 X1.page, .int .i64 X1.slot, .bool X1.wu, .string X1.wd, .bool X1.iu, .string X1.id, .int .i64 X1.next] := hX2
  obtain ⟨c0, c1, c2, c3, c4, c5, c6, c7, c8, c9, c10, c11, c12⟩ := ent_cells hcx
  simp only [X1] at c0 c1 c2 c3 c4 c5 c6 c7 c8 c9 c10 c11 c12
  clear hcx
  have p0 := hP.cell 0
  have p1 := hP.cell 1
  go_wp2_with fail
  refine (R2.out _ _ _ _ hS2 (by omega)).mono ?_
  rintro e w3 ⟨a3, n3, cc3, rfl, s3, b3, _⟩
  have bQ := below_next b3 (below_box w3 (.cells #[.int .i64 5, .slice a3 n3 cc3] 24))
  have hX3 := hX2.below bQ hX2.lt
  have hP3 := hP.below bQ hP.lt
  have hS3 := hS2.below bQ
  have hb3 := below_next hb2 bQ
  clear c0 c1 c2 c3 c4 c5 c6 c7 c8 c9 c10 c11 c12 s3 p0 p1 b3
  go_upto_region 4 with (fail)
  generalize hGen : w3.alloc (.cells #[.int .i64 5, .slice a3 n3 cc3] 24) = W3 at bQ hX3 hP3 hS3 hb3 ⊢
  clear hGen
  have hcx : Blk W3 gx 45 #[.int .i64 X1.kind, .int .i64 X1.cl, .int .i64 X1.ep, .int .i64 X1.n, .int .i64 X1.lsn, .int .i64 X1.prev, .int .i64 X1.page, .int .i64 X1.slot, .bool X1.wu, .string X1.wd, .bool X1.iu, .string X1.id, .int .i64 X1.next] := hX3
  obtain ⟨c0, c1, c2, c3, c4, c5, c6, c7, c8, c9, c10, c11, c12⟩ := ent_cells hcx
  simp only [X1] at c0 c1 c2 c3 c4 c5 c6 c7 c8 c9 c10 c11 c12
  clear hcx bQ
  go_wp2_with fail
  refine (R3.out _).mono ?_
  rintro e w4 ⟨rfl, b4⟩
  have bY := below_next b4 (below_box w4 (.cells #[.int .i64 2, .int .i64 1, .int .i64 1, .int .i64 1, .int .i64 6, .int .i64 5, .int .i64 0, .int .i64 0, .bool true, .string ⟨#[97]⟩, .bool false, .string ⟨#[]⟩, .int .i64 0] 45))
  have hX4 := hX3.below bY hX3.lt
  have hP4 := hP3.below bY hP3.lt
  have hS4 := hS3.below bY
  have hY4 := Blk.new w4 45 #[.int .i64 2, .int .i64 1, .int .i64 1, .int .i64 1, .int .i64 6, .int .i64 5, .int .i64 0, .int .i64 0, .bool true, .string ⟨#[97]⟩, .bool false, .string ⟨#[]⟩, .int .i64 0]
  have hb4 := below_next hb3 bY
  clear c0 c1 c2 c3 c4 c5 c6 c7 c8 c9 c10 c11 c12 b4
  go_upto_region 5 with (fail)
  generalize hGen : w4.alloc (.cells #[.int .i64 2, .int .i64 1, .int .i64 1, .int .i64 1, .int .i64 6, .int .i64 5, .int .i64 0, .int .i64 0, .bool true, .string ⟨#[97]⟩, .bool false, .string ⟨#[]⟩, .int .i64 0] 45) = W4 at bY hX4 hP4 hS4 hY4 hb4 ⊢
  clear hGen
  generalize hGen : w4.heap.size = gy at hY4 ⊢
  clear hGen
  have hcx : Blk W4 gx 45 #[.int .i64 X1.kind, .int .i64 X1.cl, .int .i64 X1.ep, .int .i64 X1.n, .int .i64 X1.lsn, .int .i64 X1.prev, .int .i64 X1.page, .int .i64 X1.slot, .bool X1.wu, .string X1.wd, .bool X1.iu, .string X1.id, .int .i64 X1.next] := hX4
  obtain ⟨c0, c1, c2, c3, c4, c5, c6, c7, c8, c9, c10, c11, c12⟩ := ent_cells hcx
  simp only [X1] at c0 c1 c2 c3 c4 c5 c6 c7 c8 c9 c10 c11 c12
  clear hcx
  have hcx : Blk W4 gy 45 #[.int .i64 Y1.kind, .int .i64 Y1.cl, .int .i64 Y1.ep, .int .i64 Y1.n, .int .i64 Y1.lsn, .int .i64 Y1.prev, .int .i64 Y1.page, .int .i64 Y1.slot, .bool Y1.wu, .string Y1.wd, .bool Y1.iu, .string Y1.id, .int .i64 Y1.next] := hY4
  obtain ⟨d0, d1, d2, d3, d4, d5, d6, d7, d8, d9, d10, d11, d12⟩ := ent_cells hcx
  simp only [Y1] at d0 d1 d2 d3 d4 d5 d6 d7 d8 d9 d10 d11 d12
  clear hcx bY
  have p0 := hP4.cell 0
  have p1 := hP4.cell 1
  have hx4 := hX4.lt
  have hy4 := hY4.lt
  have hp4 := hP4.lt
  go_wp2_with fail
  have bL := below_box W4 (.cells #[.int .i64 1, .int .i64 1, .int .i64 1, .int .i64 1, .int .i64 5, .int .i64 0, .int .i64 0, .int .i64 0, .bool false, .string ⟨#[]⟩, .bool true, .string ⟨#[97]⟩, .int .i64 0, .int .i64 2, .int .i64 1, .int .i64 1, .int .i64 1, .int .i64 6, .int .i64 5, .int .i64 0, .int .i64 0, .bool true, .string ⟨#[97]⟩, .bool false, .string ⟨#[]⟩, .int .i64 0] 45)
  have hL := Blk.new W4 45 #[.int .i64 1, .int .i64 1, .int .i64 1, .int .i64 1, .int .i64 5, .int .i64 0, .int .i64 0, .int .i64 0, .bool false, .string ⟨#[]⟩, .bool true, .string ⟨#[97]⟩, .int .i64 0, .int .i64 2, .int .i64 1, .int .i64 1, .int .i64 1, .int .i64 6, .int .i64 5, .int .i64 0, .int .i64 0, .bool true, .string ⟨#[97]⟩, .bool false, .string ⟨#[]⟩, .int .i64 0]
  have hE := Ent.ents_of_blk (zs := [X1, Y1]) (show Blk _ _ 45 _ by rw [cells1]; exact hL) (by intro z hz; simp at hz; rcases hz with rfl | rfl; exact small1.1; exact small1.2)
  refine (R4.out _ _ _ _ _ (hS4.below bL) (by omega) hE).mono ?_
  rintro e w5 ⟨a5, n5, cc5, rfl, s5, b5, _⟩
  have hn5 : n5 = 0 := s5.len.symm
  subst hn5
  have bR := below_next (below_next bL b5) (below_box w5 (.cells #[.int .i64 6, .slice a5 0 cc5] 24))
  have hP5 := hP4.below bR hP4.lt
  have hS5 := hS4.below bR
  have hY5 := hY4.below bR hY4.lt
  have hQ5 := Blk.new w5 24 #[.int .i64 6, .slice a5 0 cc5]
  have hb5 := below_next hb4 bR
  clear c0 c1 c2 c3 c4 c5 c6 c7 c8 c9 c10 c11 c12 d0 d1 d2 d3 d4 d5 d6 d7 d8 d9 d10 d11 d12 p0 p1 s5 hx4 hy4 hp4 hE bL hL
  go_upto_region 6 with (fail)
  generalize hGen : w5.alloc (.cells #[.int .i64 6, .slice a5 0 cc5] 24) = W5 at bR hP5 hS5 hY5 hQ5 hb5 ⊢
  clear hGen
  generalize hGen : w5.heap.size = gq at hQ5 ⊢
  clear hGen
  have p0 := hP5.cell 0
  have p1 := hP5.cell 1
  have q0 := hQ5.cell 0
  have q1 := hQ5.cell 1
  have y0 := hY5.cell 0
  obtain ⟨bk, off, u, d, rfl, hbl, hx, x0, x1', _⟩ := hS5.at_ (k := 0) (by omega)
  have hd : d = ⟨#[97]⟩ := by simp [A1] at hx; exact hx.2.symm
  subst hd
  clear hx
  rw [Nat.zero_mul, Nat.add_zero] at x1'
  go_wp2
  go_ret
  exact ⟨rfl, hb5⟩
end Go.Proofs.Ytmmeemffiibndaa.Patch
