/- The walk of the statement PatchDoes. -/
import Derived.Test.YtmmeemffiibndaaPatchApartWalk
import Derived.Test.YtmmeemffiibndaaPatchRRedo
namespace Go.Proofs.Ytmmeemffiibndaa.Patch
open Go.RowKit Go.Sort
open Go.Proofs.Ytmmeemffiibndaa.Slab (Slot nos atL putN putZ putL putCode sameB Blk Slots PageRes sameB_refl ret_bool' run_ne_slot run_guard_slot)
open Go.Proofs.Ytmmeemffiibndaa.Ent (Ent noE longB SmallE Small ent_cells alloc_lt below_box Ents EntAt run_eq_ent run_guard_ent sameE_refl)
open Go.Proofs.Ytmmeemffiibndaa.Nib (below_next below_drew)
set_option maxRecDepth 100000 in
set_option maxHeartbeats 8000000 in
theorem does_walk (lsn : Int) (a : Option Addr) (n c : Nat) (zs : List Slot) (x : Ent) (i0 i1 : Int) (w : World) (_hl : -9223372036854775808 ≤ lsn ∧ lsn ≤ 9223372036854775807) (h : Slots w a n zs) (hx : SmallE x) :
    Calls Try.prog 5 #[.agg #[.int .i64 lsn, .slice a n c], .agg #[.int .i64 x.kind, .int .i64 x.cl, .int .i64 x.ep, .int .i64 x.n, .int .i64 x.lsn, .int .i64 x.prev, .int .i64 x.page, .int .i64 x.slot, .bool x.wu, .string x.wd, .bool x.iu, .string x.id, .int .i64 x.next], .agg #[.int .i64 i0, .int .i64 i1]] w fun e w' => e = .returned (.bool true) ∧ Below w.heap.size w w' := by
  have H0 := (pe_at w lsn a n c zs x h).next (below_box _ (.cells #[.int .i64 i0, .int .i64 i1] 46))
  have hT := Blk.new ((w.alloc (.cells #[.int .i64 lsn, .slice a n c] 24)).alloc (.cells #[.int .i64 x.kind, .int .i64 x.cl, .int .i64 x.ep, .int .i64 x.n, .int .i64 x.lsn, .int .i64 x.prev, .int .i64 x.page, .int .i64 x.slot, .bool x.wu, .string x.wd, .bool x.iu, .string x.id, .int .i64 x.next] 45)) 46 #[.int .i64 i0, .int .i64 i1]
  rw [World.size_alloc, World.size_alloc] at hT
  have HX := Lib.hid hx
  clear h hx
  go_enter Try.func5, Try.ntmps5
  go_wp2_with fail
  generalize hGen : ((w.alloc (.cells #[.int .i64 lsn, .slice a n c] 24)).alloc (.cells #[.int .i64 x.kind, .int .i64 x.cl, .int .i64 x.ep, .int .i64 x.n, .int .i64 x.lsn, .int .i64 x.prev, .int .i64 x.page, .int .i64 x.slot, .bool x.wu, .string x.wd, .bool x.iu, .string x.id, .int .i64 x.next] 45)).alloc (.cells #[.int .i64 i0, .int .i64 i1] 46) = W at H0 hT ⊢
  clear hGen
  refine (awake_any _).mono ?_
  rintro e w1 ⟨rfl, b1⟩
  have H1 := H0.next b1
  have hT1 := hT.below b1 hT.lt
  clear H0 b1 hT
  have p0 := H1.p.cell 0
  have p1 := H1.p.cell 1
  obtain ⟨c0, c1, c2, c3, c4, c5, c6, c7, c8, c9, c10, c11, c12⟩ := ent_cells H1.x
  go_wp2_with fail
  have hL := Blk.new w1 45 #[.int .i64 x.kind, .int .i64 x.cl, .int .i64 x.ep, .int .i64 x.n, .int .i64 x.lsn, .int .i64 x.prev, .int .i64 x.page, .int .i64 x.slot, .bool x.wu, .string x.wd, .bool x.iu, .string x.id, .int .i64 x.next]
  have bL := below_box w1 (.cells #[.int .i64 x.kind, .int .i64 x.cl, .int .i64 x.ep, .int .i64 x.n, .int .i64 x.lsn, .int .i64 x.prev, .int .i64 x.page, .int .i64 x.slot, .bool x.wu, .string x.wd, .bool x.iu, .string x.id, .int .i64 x.next] 45)
  refine (great_any lsn a n c zs _ 1 1 [x] _ (H1.s.below bL) (one_ent hL HX.out)).mono ?_
  rintro e w2 ⟨G, rfl, hG, b2⟩
  have H2 := H1.next (below_next bL b2)
  have hT2 := hT1.below (below_next bL b2) hT1.lt
  clear p0 p1 c0 c1 c2 c3 c4 c5 c6 c7 c8 c9 c10 c11 c12 hL bL b2 H1 hT1
  cases G with
  | true =>
    go_wp2
    go_ret
    exact ⟨rfl, H2.b⟩
  | false =>
    have hn : n ≤ 100 := (hG rfl).1
    clear hG
    have k1 := fun w (h : Slots w a n zs) => redo_any lsn a n c zs x w h (by omega) HX.out
    have k2 := fun w (h : Slots w a n zs) => rredo_any lsn a n c zs x w h (by omega) HX.out
    have hlen := redo_len (lsn := lsn) (l := zs) x
    generalize redoN lsn zs x = N at k1 k2
    generalize redoZ lsn zs x = Z at k1 k2 hlen
    generalize redoD lsn zs x = D at k1 k2
    generalize redoCode lsn zs x = cd at k1 k2
    have k3 := fun w => turn_any x i0 i1 w HX.out
    have k4 := fun w => rturn_any x i0 i1 w HX.out
    generalize turnX x i0 i1 = y at k3 k4
    generalize turnC x i0 i1 = tc at k3 k4
    have K1 := Lib.hid k1
    have K2 := Lib.hid k2
    have K3 := Lib.hid k3
    have K4 := Lib.hid k4
    have HLEN := Lib.hid hlen
    clear k1 k2 k3 k4 hlen
    have p0 := H2.p.cell 0
    have p1 := H2.p.cell 1
    obtain ⟨c0, c1, c2, c3, c4, c5, c6, c7, c8, c9, c10, c11, c12⟩ := ent_cells H2.x
    go_wp2_with fail
    refine (K1.out _ H2.s).mono ?_
    rintro e w3 ⟨a3, n3, cc3, rfl, s3, b3, _⟩
    have bQ := below_next b3 (below_box w3 (.cells #[.int .i64 N, .slice a3 n3 cc3] 24))
    have H3 := H2.next bQ
    have hT3 := hT2.below bQ hT2.lt
    have S3 := s3.below (below_box w3 (.cells #[.int .i64 N, .slice a3 n3 cc3] 24))
    have hQ := Blk.new w3 24 #[.int .i64 N, .slice a3 n3 cc3]
    clear p0 p1 c0 c1 c2 c3 c4 c5 c6 c7 c8 c9 c10 c11 c12 H2 s3 b3 hT2
    go_upto_region 6 with (fail)
    generalize hGen : w3.alloc (.cells #[.int .i64 N, .slice a3 n3 cc3] 24) = W3 at bQ H3 S3 hQ hT3 ⊢
    clear hGen
    generalize hGen : w3.heap.size = gq at hQ ⊢
    clear hGen
    clear bQ
    have p0 := H3.p.cell 0
    have p1 := H3.p.cell 1
    obtain ⟨c0, c1, c2, c3, c4, c5, c6, c7, c8, c9, c10, c11, c12⟩ := ent_cells H3.x
    go_wp2_with fail
    refine (K2.out _ H3.s).mono ?_
    rintro e w4 ⟨a4, n4, cc4, rfl, s4, b4, _⟩
    have bQ := below_next b4 (below_box w4 (.cells #[.int .i64 N, .slice a4 n4 cc4] 24))
    have H4 := H3.next bQ
    have hT4 := hT3.below bQ hT3.lt
    have hQ4 := hQ.below bQ hQ.lt
    have S34 := S3.below bQ
    have S4 := s4.below (below_box w4 (.cells #[.int .i64 N, .slice a4 n4 cc4] 24))
    have hR := Blk.new w4 24 #[.int .i64 N, .slice a4 n4 cc4]
    clear p0 p1 c0 c1 c2 c3 c4 c5 c6 c7 c8 c9 c10 c11 c12 H3 s4 b4 hT3 hQ S3
    go_upto_region 7 with (fail)
    generalize hGen : w4.alloc (.cells #[.int .i64 N, .slice a4 n4 cc4] 24) = W4 at bQ H4 S4 S34 hQ4 hR hT4 ⊢
    clear hGen
    generalize hGen : w4.heap.size = gr at hR ⊢
    clear hGen
    clear bQ
    obtain ⟨c0, c1, c2, c3, c4, c5, c6, c7, c8, c9, c10, c11, c12⟩ := ent_cells H4.x
    have t0 := hT4.cell 0
    have t1 := hT4.cell 1
    go_wp2_with fail
    refine (K3.out _).mono ?_
    rintro e w5 ⟨rfl, b5⟩
    have bQ := below_next b5 (below_box w5 (.cells #[.int .i64 y.kind, .int .i64 y.cl, .int .i64 y.ep, .int .i64 y.n, .int .i64 y.lsn, .int .i64 y.prev, .int .i64 y.page, .int .i64 y.slot, .bool y.wu, .string y.wd, .bool y.iu, .string y.id, .int .i64 y.next] 45))
    have H5 := H4.next bQ
    have hT5 := hT4.below bQ hT4.lt
    have hQ5 := hQ4.below bQ hQ4.lt
    have hR5 := hR.below bQ hR.lt
    have S35 := S34.below bQ
    have S45 := S4.below bQ
    have hY := Blk.new w5 45 #[.int .i64 y.kind, .int .i64 y.cl, .int .i64 y.ep, .int .i64 y.n, .int .i64 y.lsn, .int .i64 y.prev, .int .i64 y.page, .int .i64 y.slot, .bool y.wu, .string y.wd, .bool y.iu, .string y.id, .int .i64 y.next]
    clear t0 t1 c0 c1 c2 c3 c4 c5 c6 c7 c8 c9 c10 c11 c12 H4 b5 hT4 hQ4 hR S34 S4
    go_upto_region 8 with (fail)
    generalize hGen : w5.alloc (.cells #[.int .i64 y.kind, .int .i64 y.cl, .int .i64 y.ep, .int .i64 y.n, .int .i64 y.lsn, .int .i64 y.prev, .int .i64 y.page, .int .i64 y.slot, .bool y.wu, .string y.wd, .bool y.iu, .string y.id, .int .i64 y.next] 45) = W5 at bQ H5 S35 S45 hQ5 hR5 hT5 hY ⊢
    clear hGen
    generalize hGen : w5.heap.size = gy at hY ⊢
    clear hGen
    clear bQ
    obtain ⟨c0, c1, c2, c3, c4, c5, c6, c7, c8, c9, c10, c11, c12⟩ := ent_cells H5.x
    have t0 := hT5.cell 0
    have t1 := hT5.cell 1
    go_wp2_with fail
    refine (K4.out _).mono ?_
    rintro e w6 ⟨rfl, b6⟩
    have bQ := below_next b6 (below_box w6 (.cells #[.int .i64 y.kind, .int .i64 y.cl, .int .i64 y.ep, .int .i64 y.n, .int .i64 y.lsn, .int .i64 y.prev, .int .i64 y.page, .int .i64 y.slot, .bool y.wu, .string y.wd, .bool y.iu, .string y.id, .int .i64 y.next] 45))
    have H6 := H5.next bQ
    have hQ6 := hQ5.below bQ hQ5.lt
    have hR6 := hR5.below bQ hR5.lt
    have hY6 := hY.below bQ hY.lt
    have S36 := S35.below bQ
    have S46 := S45.below bQ
    have hV := Blk.new w6 45 #[.int .i64 y.kind, .int .i64 y.cl, .int .i64 y.ep, .int .i64 y.n, .int .i64 y.lsn, .int .i64 y.prev, .int .i64 y.page, .int .i64 y.slot, .bool y.wu, .string y.wd, .bool y.iu, .string y.id, .int .i64 y.next]
    clear t0 t1 c0 c1 c2 c3 c4 c5 c6 c7 c8 c9 c10 c11 c12 H5 b6 hT5 hQ5 hR5 S35 S45 hY
    go_upto_region 9 with (fail)
    generalize hGen : w6.alloc (.cells #[.int .i64 y.kind, .int .i64 y.cl, .int .i64 y.ep, .int .i64 y.n, .int .i64 y.lsn, .int .i64 y.prev, .int .i64 y.page, .int .i64 y.slot, .bool y.wu, .string y.wd, .bool y.iu, .string y.id, .int .i64 y.next] 45) = W6 at bQ H6 S36 S46 hQ6 hR6 hY6 hV ⊢
    clear hGen
    generalize hGen : w6.heap.size = gv at hV ⊢
    clear hGen
    clear bQ
    have q0 := hQ6.cell 0
    have q1 := hQ6.cell 1
    have r0 := hR6.cell 0
    have r1 := hR6.cell 1
    go_wp2_with fail
    refine (Slab.same_any N N a3 a4 n3 n4 cc3 cc4 Z Z true _ S36 S46 (by have h1 := S36.len; have h2 := HLEN.out; omega) (by simp)).mono ?_
    rintro e w7 ⟨rfl, b7⟩
    have hY7 := hY6.below b7 hY6.lt
    have hV7 := hV.below b7 hV.lt
    have HB := Lib.hid (H6.next b7).b
    clear q0 q1 r0 r1 b7 H6 hQ6 hR6 hY6 hV S36 S46
    obtain ⟨c0, c1, c2, c3, c4, c5, c6, c7, c8, c9, c10, c11, c12⟩ := ent_cells hY7
    obtain ⟨d0, d1, d2, d3, d4, d5, d6, d7, d8, d9, d10, d11, d12⟩ := ent_cells hV7
    have hq := fun w => run_eq_ent y y w
    simp only [sameE_refl] at hq
    have hgd := fun (A B : Operand) xs ys w => run_guard_ent .eql A B xs ys w
    go_wp2
    go_ret
    exact ⟨rfl, HB.out⟩
end Go.Proofs.Ytmmeemffiibndaa.Patch
