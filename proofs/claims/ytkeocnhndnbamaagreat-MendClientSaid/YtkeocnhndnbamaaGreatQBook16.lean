/- The walks of patch.Turn and of the document's own Turn. The walk of patch.All. -/
import Derived.Test.YtkeocnhndnbamaaGreatQPatchRedo
namespace Go.Proofs.YtkeocnhndnbamaaGreat.Patch
set_option maxRecDepth 100000
open Go.RowKit Go.Sort
open Go.Proofs.YtkeocnhndnbamaaGreat.Slab (Slot Blk)
open Go.Proofs.YtkeocnhndnbamaaGreat.Ent (Ent noE longB SmallE Small ent_cells alloc_lt below_box)
open Go.Proofs.YtkeocnhndnbamaaGreat.Nib (below_next below_drew)
theorem turn_bad {x : Ent} {lsn prev : Int} (h : turnB x lsn prev = false) : turnX x lsn prev = noE ∧ turnC x lsn prev = 1 := by
  unfold turnX turnC; rw [h]; exact ⟨rfl, rfl⟩
theorem turn_ok {x : Ent} {lsn prev : Int} (h : turnB x lsn prev = true) : turnX x lsn prev = turnY x lsn prev ∧ turnC x lsn prev = 0 := by
  unfold turnX turnC; rw [h]; exact ⟨rfl, rfl⟩
/-- the world behind Turn's boxes -/
structure TAt (w W : World) (x : Ent) : Prop where
  x : Blk W w.heap.size 58 #[.int .i64 x.kind, .int .i64 x.cl, .int .i64 x.ep, .int .i64 x.n, .int .i64 x.lsn, .int .i64 x.prev, .int .i64 x.page, .int .i64 x.slot, .bool x.wu, .string x.wd, .bool x.iu, .string x.id, .int .i64 x.next]
  r : Blk W (w.heap.size + 1) 58 #[.int .i64 noE.kind, .int .i64 noE.cl, .int .i64 noE.ep, .int .i64 noE.n, .int .i64 noE.lsn, .int .i64 noE.prev, .int .i64 noE.page, .int .i64 noE.slot, .bool noE.wu, .string noE.wd, .bool noE.iu, .string noE.id, .int .i64 noE.next]
  b : Below w.heap.size w W
  z : w.heap.size + 1 < W.heap.size
theorem TAt.next {w W W' : World} {x : Ent} (h : TAt w W x) (hb : Below W.heap.size W W') : TAt w W' x := by
  have hz := h.z
  exact ⟨h.x.below hb (by omega), h.r.below hb hz, below_next h.b hb, Nat.lt_of_lt_of_le hz hb.size⟩
theorem t_at (w : World) (x : Ent) : TAt w ((w.alloc (.cells #[.int .i64 x.kind, .int .i64 x.cl, .int .i64 x.ep, .int .i64 x.n, .int .i64 x.lsn, .int .i64 x.prev, .int .i64 x.page, .int .i64 x.slot, .bool x.wu, .string x.wd, .bool x.iu, .string x.id, .int .i64 x.next] 58)).alloc (.cells #[.int .i64 0, .int .i64 0, .int .i64 0, .int .i64 0, .int .i64 0, .int .i64 0, .int .i64 0, .int .i64 0, .bool false, .string ⟨#[]⟩, .bool false, .string ⟨#[]⟩, .int .i64 0] 58)) x := by
  refine ⟨(Blk.new w _ _).alloc _, ?_, ((Below.refl _ _).alloc (Nat.le_refl _) _).alloc (by simp) _, by simp⟩
  have := Blk.new (w.alloc (.cells #[.int .i64 x.kind, .int .i64 x.cl, .int .i64 x.ep, .int .i64 x.n, .int .i64 x.lsn, .int .i64 x.prev, .int .i64 x.page, .int .i64 x.slot, .bool x.wu, .string x.wd, .bool x.iu, .string x.id, .int .i64 x.next] 58)) 58 #[.int .i64 0, .int .i64 0, .int .i64 0, .int .i64 0, .int .i64 0, .int .i64 0, .int .i64 0, .int .i64 0, .bool false, .string ⟨#[]⟩, .bool false, .string ⟨#[]⟩, .int .i64 0]
  rw [World.size_alloc] at this; exact this

set_option maxRecDepth 100000 in
set_option maxHeartbeats 8000000 in
theorem turn_any (x : Ent) (lsn prev : Int) (w : World) (hx : SmallE x) :
    Calls Tryz.prog 19 #[.agg #[.int .i64 x.kind, .int .i64 x.cl, .int .i64 x.ep, .int .i64 x.n, .int .i64 x.lsn, .int .i64 x.prev, .int .i64 x.page, .int .i64 x.slot, .bool x.wu, .string x.wd, .bool x.iu, .string x.id, .int .i64 x.next], .int .i64 lsn, .int .i64 prev] w fun e w' => e = .returned (.tuple #[.agg #[.int .i64 (turnX x lsn prev).kind, .int .i64 (turnX x lsn prev).cl, .int .i64 (turnX x lsn prev).ep, .int .i64 (turnX x lsn prev).n, .int .i64 (turnX x lsn prev).lsn, .int .i64 (turnX x lsn prev).prev, .int .i64 (turnX x lsn prev).page, .int .i64 (turnX x lsn prev).slot, .bool (turnX x lsn prev).wu, .string (turnX x lsn prev).wd, .bool (turnX x lsn prev).iu, .string (turnX x lsn prev).id, .int .i64 (turnX x lsn prev).next], .int .i64 (turnC x lsn prev)]) ∧ Below w.heap.size w w' := by
  have H0 := t_at w x
  have HX := Lib.hid (show Small x from hx)
  have HX2 := Lib.hid (show Small (turnY x lsn prev) from ⟨hx.2, hx.1⟩)
  clear hx
  by_cases hk : x.kind = 1
  rotate_left
  · have HB := Lib.hid (turn_bad (lsn := lsn) (prev := prev) (show turnB x lsn prev = false by unfold turnB; rw [decide_eq_false hk]; rfl))
    have t1 : (x.kind != 1) = true := by simp [hk]
    clear hk
    go_enter Tryz.func19, Tryz.ntmps19
    go_upto_region 1 with (fail)
    generalize hGen : (w.alloc (.cells #[.int .i64 x.kind, .int .i64 x.cl, .int .i64 x.ep, .int .i64 x.n, .int .i64 x.lsn, .int .i64 x.prev, .int .i64 x.page, .int .i64 x.slot, .bool x.wu, .string x.wd, .bool x.iu, .string x.id, .int .i64 x.next] 58)).alloc (.cells #[.int .i64 0, .int .i64 0, .int .i64 0, .int .i64 0, .int .i64 0, .int .i64 0, .int .i64 0, .int .i64 0, .bool false, .string ⟨#[]⟩, .bool false, .string ⟨#[]⟩, .int .i64 0] 58) = W at H0 ⊢
    clear hGen
    have hw : w.heap.size ≤ w.heap.size + 1 := by omega
    obtain ⟨c0, c1, c2, c3, c4, c5, c6, c7, c8, c9, c10, c11, c12⟩ := ent_cells H0.x
    clear c1 c2 c3 c4 c5 c6 c7 c8 c9 c10 c11 c12
    obtain ⟨z0, z1, z2, z3, z4, z5, z6, z7, z8, z9, z10, z11, z12⟩ := ent_cells H0.r
    simp only [noE] at z0 z1 z2 z3 z4 z5 z6 z7 z8 z9 z10 z11 z12
    obtain ⟨f0, f1, f2, f3, f4, f5, f6, f7, f8, f9, f10, f11, f12⟩ := Ent.ent_frozen H0.r
    go_wp2
    refine bodyPost_ret (v := .tuple #[.agg #[.int .i64 0, .int .i64 0, .int .i64 0, .int .i64 0, .int .i64 0, .int .i64 0, .int .i64 0, .int .i64 0, .bool false, .string ⟨#[]⟩, .bool false, .string ⟨#[]⟩, .int .i64 0], .int .i64 1]) (by simp [results, Tryz.results19, go_sem, z0, z1, z2, z3, z4, z5, z6, z7, z8, z9, z10, z11, z12]) rfl ?_
    exact ⟨by rw [HB.out.1, HB.out.2]; rfl, Ent.below13 H0.b (by omega) _ _ _ _ _ _ _ _ _ _ _ _ _⟩
  have t1 : (x.kind != 1) = false := by simp [hk]
  have HK := Lib.hid hk
  clear hk
  cases he : Ent.goodB x with
  | false =>
    have HB := Lib.hid (turn_bad (lsn := lsn) (prev := prev) (show turnB x lsn prev = false by unfold turnB; rw [he]; simp))
    have HE := Lib.hid he
    clear he
    go_enter Tryz.func19, Tryz.ntmps19
    go_upto_region 1 with (fail)
    generalize hGen : (w.alloc (.cells #[.int .i64 x.kind, .int .i64 x.cl, .int .i64 x.ep, .int .i64 x.n, .int .i64 x.lsn, .int .i64 x.prev, .int .i64 x.page, .int .i64 x.slot, .bool x.wu, .string x.wd, .bool x.iu, .string x.id, .int .i64 x.next] 58)).alloc (.cells #[.int .i64 0, .int .i64 0, .int .i64 0, .int .i64 0, .int .i64 0, .int .i64 0, .int .i64 0, .int .i64 0, .bool false, .string ⟨#[]⟩, .bool false, .string ⟨#[]⟩, .int .i64 0] 58) = W at H0 ⊢
    clear hGen
    have hw : w.heap.size ≤ w.heap.size + 1 := by omega
    obtain ⟨c0, c1, c2, c3, c4, c5, c6, c7, c8, c9, c10, c11, c12⟩ := ent_cells H0.x
    go_wp2_with fail
    refine (Ent.good_any x _ HX.out).mono ?_
    rw [HE.out]
    rintro e w1 ⟨rfl, b1⟩
    have H1 := H0.next b1
    clear c0 c1 c2 c3 c4 c5 c6 c7 c8 c9 c10 c11 c12
    obtain ⟨z0, z1, z2, z3, z4, z5, z6, z7, z8, z9, z10, z11, z12⟩ := ent_cells H1.r
    simp only [noE] at z0 z1 z2 z3 z4 z5 z6 z7 z8 z9 z10 z11 z12
    obtain ⟨f0, f1, f2, f3, f4, f5, f6, f7, f8, f9, f10, f11, f12⟩ := Ent.ent_frozen H1.r
    go_wp2
    refine bodyPost_ret (v := .tuple #[.agg #[.int .i64 0, .int .i64 0, .int .i64 0, .int .i64 0, .int .i64 0, .int .i64 0, .int .i64 0, .int .i64 0, .bool false, .string ⟨#[]⟩, .bool false, .string ⟨#[]⟩, .int .i64 0], .int .i64 1]) (by simp [results, Tryz.results19, go_sem, z0, z1, z2, z3, z4, z5, z6, z7, z8, z9, z10, z11, z12]) rfl ?_
    exact ⟨by rw [HB.out.1, HB.out.2]; rfl, Ent.below13 H1.b (by omega) _ _ _ _ _ _ _ _ _ _ _ _ _⟩
  | true =>
    have HE := Lib.hid he
    clear he
    cases hy : Ent.goodB (turnY x lsn prev) with
    | false =>
      have HB := Lib.hid (turn_bad (lsn := lsn) (prev := prev) (show turnB x lsn prev = false by unfold turnB; rw [hy]; simp))
      have HY := Lib.hid hy
      clear hy
      go_enter Tryz.func19, Tryz.ntmps19
      go_upto_region 1 with (fail)
      generalize hGen : (w.alloc (.cells #[.int .i64 x.kind, .int .i64 x.cl, .int .i64 x.ep, .int .i64 x.n, .int .i64 x.lsn, .int .i64 x.prev, .int .i64 x.page, .int .i64 x.slot, .bool x.wu, .string x.wd, .bool x.iu, .string x.id, .int .i64 x.next] 58)).alloc (.cells #[.int .i64 0, .int .i64 0, .int .i64 0, .int .i64 0, .int .i64 0, .int .i64 0, .int .i64 0, .int .i64 0, .bool false, .string ⟨#[]⟩, .bool false, .string ⟨#[]⟩, .int .i64 0] 58) = W at H0 ⊢
      clear hGen
      have hw : w.heap.size ≤ w.heap.size + 1 := by omega
      obtain ⟨c0, c1, c2, c3, c4, c5, c6, c7, c8, c9, c10, c11, c12⟩ := ent_cells H0.x
      go_wp2_with fail
      refine (Ent.good_any x _ HX.out).mono ?_
      rw [HE.out]
      rintro e w1 ⟨rfl, b1⟩
      have H1 := H0.next b1
      clear c0 c1 c2 c3 c4 c5 c6 c7 c8 c9 c10 c11 c12
      obtain ⟨c0, c1, c2, c3, c4, c5, c6, c7, c8, c9, c10, c11, c12⟩ := ent_cells H1.x
      go_upto_region 4 with (fail)
      have H2 := H1.next (below_box w1 (.cells #[.int .i64 2, .int .i64 x.cl, .int .i64 x.ep, .int .i64 x.n, .int .i64 lsn, .int .i64 prev, .int .i64 x.page, .int .i64 x.slot, .bool x.iu, .string x.id, .bool x.wu, .string x.wd, .int .i64 x.prev] 58))
      have hY := Blk.new w1 58 #[.int .i64 2, .int .i64 x.cl, .int .i64 x.ep, .int .i64 x.n, .int .i64 lsn, .int .i64 prev, .int .i64 x.page, .int .i64 x.slot, .bool x.iu, .string x.id, .bool x.wu, .string x.wd, .int .i64 x.prev]
      have hyz := alloc_lt w1 (.cells #[.int .i64 2, .int .i64 x.cl, .int .i64 x.ep, .int .i64 x.n, .int .i64 lsn, .int .i64 prev, .int .i64 x.page, .int .i64 x.slot, .bool x.iu, .string x.id, .bool x.wu, .string x.wd, .int .i64 x.prev] 58)
      have hz1 := H1.z
      generalize hGen : w1.alloc (.cells #[.int .i64 2, .int .i64 x.cl, .int .i64 x.ep, .int .i64 x.n, .int .i64 lsn, .int .i64 prev, .int .i64 x.page, .int .i64 x.slot, .bool x.iu, .string x.id, .bool x.wu, .string x.wd, .int .i64 x.prev] 58) = W2 at H2 hY hyz ⊢
      clear hGen
      generalize hGen : w1.heap.size = gy at hY hyz hz1 ⊢
      clear hGen
      clear c0 c1 c2 c3 c4 c5 c6 c7 c8 c9 c10 c11 c12
      have hcx : Blk W2 gy 58 #[.int .i64 (turnY x lsn prev).kind, .int .i64 (turnY x lsn prev).cl, .int .i64 (turnY x lsn prev).ep, .int .i64 (turnY x lsn prev).n, .int .i64 (turnY x lsn prev).lsn, .int .i64 (turnY x lsn prev).prev, .int .i64 (turnY x lsn prev).page, .int .i64 (turnY x lsn prev).slot, .bool (turnY x lsn prev).wu, .string (turnY x lsn prev).wd, .bool (turnY x lsn prev).iu, .string (turnY x lsn prev).id, .int .i64 (turnY x lsn prev).next] := hY
      obtain ⟨c0, c1, c2, c3, c4, c5, c6, c7, c8, c9, c10, c11, c12⟩ := ent_cells hcx
      clear hcx
      simp only [turnY] at c0 c1 c2 c3 c4 c5 c6 c7 c8 c9 c10 c11 c12
      go_wp2_with fail
      have hgd := Ent.good_any (turnY x lsn prev) W2 HX2.out
      rw [HY.out] at hgd
      refine hgd.mono ?_
      clear hgd
      rintro e w3 ⟨rfl, b3⟩
      have H3 := H2.next b3
      have hY3 := hY.below b3 hyz
      clear c0 c1 c2 c3 c4 c5 c6 c7 c8 c9 c10 c11 c12
      obtain ⟨z0, z1, z2, z3, z4, z5, z6, z7, z8, z9, z10, z11, z12⟩ := ent_cells H3.r
      simp only [noE] at z0 z1 z2 z3 z4 z5 z6 z7 z8 z9 z10 z11 z12
      obtain ⟨f0, f1, f2, f3, f4, f5, f6, f7, f8, f9, f10, f11, f12⟩ := Ent.ent_frozen H3.r
      go_wp2
      refine bodyPost_ret (v := .tuple #[.agg #[.int .i64 0, .int .i64 0, .int .i64 0, .int .i64 0, .int .i64 0, .int .i64 0, .int .i64 0, .int .i64 0, .bool false, .string ⟨#[]⟩, .bool false, .string ⟨#[]⟩, .int .i64 0], .int .i64 1]) (by simp [results, Tryz.results19, go_sem, z0, z1, z2, z3, z4, z5, z6, z7, z8, z9, z10, z11, z12]) rfl ?_
      exact ⟨by rw [HB.out.1, HB.out.2]; rfl, Ent.below13 H3.b (by omega) _ _ _ _ _ _ _ _ _ _ _ _ _⟩
    | true =>
      have HB := Lib.hid (turn_ok (lsn := lsn) (prev := prev) (show turnB x lsn prev = true by unfold turnB; rw [hy, HE.out, decide_eq_true HK.out]; rfl))
      have HY := Lib.hid hy
      clear hy
      go_enter Tryz.func19, Tryz.ntmps19
      go_upto_region 1 with (fail)
      generalize hGen : (w.alloc (.cells #[.int .i64 x.kind, .int .i64 x.cl, .int .i64 x.ep, .int .i64 x.n, .int .i64 x.lsn, .int .i64 x.prev, .int .i64 x.page, .int .i64 x.slot, .bool x.wu, .string x.wd, .bool x.iu, .string x.id, .int .i64 x.next] 58)).alloc (.cells #[.int .i64 0, .int .i64 0, .int .i64 0, .int .i64 0, .int .i64 0, .int .i64 0, .int .i64 0, .int .i64 0, .bool false, .string ⟨#[]⟩, .bool false, .string ⟨#[]⟩, .int .i64 0] 58) = W at H0 ⊢
      clear hGen
      have hw : w.heap.size ≤ w.heap.size + 1 := by omega
      obtain ⟨c0, c1, c2, c3, c4, c5, c6, c7, c8, c9, c10, c11, c12⟩ := ent_cells H0.x
      go_wp2_with fail
      refine (Ent.good_any x _ HX.out).mono ?_
      rw [HE.out]
      rintro e w1 ⟨rfl, b1⟩
      have H1 := H0.next b1
      clear c0 c1 c2 c3 c4 c5 c6 c7 c8 c9 c10 c11 c12
      obtain ⟨c0, c1, c2, c3, c4, c5, c6, c7, c8, c9, c10, c11, c12⟩ := ent_cells H1.x
      go_upto_region 4 with (fail)
      have H2 := H1.next (below_box w1 (.cells #[.int .i64 2, .int .i64 x.cl, .int .i64 x.ep, .int .i64 x.n, .int .i64 lsn, .int .i64 prev, .int .i64 x.page, .int .i64 x.slot, .bool x.iu, .string x.id, .bool x.wu, .string x.wd, .int .i64 x.prev] 58))
      have hY := Blk.new w1 58 #[.int .i64 2, .int .i64 x.cl, .int .i64 x.ep, .int .i64 x.n, .int .i64 lsn, .int .i64 prev, .int .i64 x.page, .int .i64 x.slot, .bool x.iu, .string x.id, .bool x.wu, .string x.wd, .int .i64 x.prev]
      have hyz := alloc_lt w1 (.cells #[.int .i64 2, .int .i64 x.cl, .int .i64 x.ep, .int .i64 x.n, .int .i64 lsn, .int .i64 prev, .int .i64 x.page, .int .i64 x.slot, .bool x.iu, .string x.id, .bool x.wu, .string x.wd, .int .i64 x.prev] 58)
      have hz1 := H1.z
      generalize hGen : w1.alloc (.cells #[.int .i64 2, .int .i64 x.cl, .int .i64 x.ep, .int .i64 x.n, .int .i64 lsn, .int .i64 prev, .int .i64 x.page, .int .i64 x.slot, .bool x.iu, .string x.id, .bool x.wu, .string x.wd, .int .i64 x.prev] 58) = W2 at H2 hY hyz ⊢
      clear hGen
      generalize hGen : w1.heap.size = gy at hY hyz hz1 ⊢
      clear hGen
      clear c0 c1 c2 c3 c4 c5 c6 c7 c8 c9 c10 c11 c12
      have hcx : Blk W2 gy 58 #[.int .i64 (turnY x lsn prev).kind, .int .i64 (turnY x lsn prev).cl, .int .i64 (turnY x lsn prev).ep, .int .i64 (turnY x lsn prev).n, .int .i64 (turnY x lsn prev).lsn, .int .i64 (turnY x lsn prev).prev, .int .i64 (turnY x lsn prev).page, .int .i64 (turnY x lsn prev).slot, .bool (turnY x lsn prev).wu, .string (turnY x lsn prev).wd, .bool (turnY x lsn prev).iu, .string (turnY x lsn prev).id, .int .i64 (turnY x lsn prev).next] := hY
      obtain ⟨c0, c1, c2, c3, c4, c5, c6, c7, c8, c9, c10, c11, c12⟩ := ent_cells hcx
      clear hcx
      simp only [turnY] at c0 c1 c2 c3 c4 c5 c6 c7 c8 c9 c10 c11 c12
      go_wp2_with fail
      have hgd := Ent.good_any (turnY x lsn prev) W2 HX2.out
      rw [HY.out] at hgd
      refine hgd.mono ?_
      clear hgd
      rintro e w3 ⟨rfl, b3⟩
      have H3 := H2.next b3
      have hY3 := hY.below b3 hyz
      clear c0 c1 c2 c3 c4 c5 c6 c7 c8 c9 c10 c11 c12
      have hcx : Blk w3 gy 58 #[.int .i64 (turnY x lsn prev).kind, .int .i64 (turnY x lsn prev).cl, .int .i64 (turnY x lsn prev).ep, .int .i64 (turnY x lsn prev).n, .int .i64 (turnY x lsn prev).lsn, .int .i64 (turnY x lsn prev).prev, .int .i64 (turnY x lsn prev).page, .int .i64 (turnY x lsn prev).slot, .bool (turnY x lsn prev).wu, .string (turnY x lsn prev).wd, .bool (turnY x lsn prev).iu, .string (turnY x lsn prev).id, .int .i64 (turnY x lsn prev).next] := hY3
      obtain ⟨c0, c1, c2, c3, c4, c5, c6, c7, c8, c9, c10, c11, c12⟩ := ent_cells hcx
      clear hcx
      simp only [turnY] at c0 c1 c2 c3 c4 c5 c6 c7 c8 c9 c10 c11 c12
      obtain ⟨z0, z1, z2, z3, z4, z5, z6, z7, z8, z9, z10, z11, z12⟩ := ent_cells H3.r
      simp only [noE] at z0 z1 z2 z3 z4 z5 z6 z7 z8 z9 z10 z11 z12
      obtain ⟨f0, f1, f2, f3, f4, f5, f6, f7, f8, f9, f10, f11, f12⟩ := Ent.ent_frozen H3.r
      have hne : ¬ w.heap.size + 1 = gy := by omega
      go_wp2
      refine bodyPost_ret (v := .tuple #[.agg #[.int .i64 2, .int .i64 x.cl, .int .i64 x.ep, .int .i64 x.n, .int .i64 lsn, .int .i64 prev, .int .i64 x.page, .int .i64 x.slot, .bool x.iu, .string x.id, .bool x.wu, .string x.wd, .int .i64 x.prev], .int .i64 0]) (by simp [results, Tryz.results19, go_sem, z0, z1, z2, z3, z4, z5, z6, z7, z8, z9, z10, z11, z12]) rfl ?_
      exact ⟨by rw [HB.out.1, HB.out.2]; rfl, Ent.below13 H3.b (by omega) _ _ _ _ _ _ _ _ _ _ _ _ _⟩

end Go.Proofs.YtkeocnhndnbamaaGreat.Patch
namespace Go.Proofs.YtkeocnhndnbamaaGreat.Patch
set_option maxRecDepth 100000
open Go.RowKit Go.Sort
open Go.Proofs.YtkeocnhndnbamaaGreat.Slab (Slot nos atL putN putZ putL putCode sameB Blk Slots PageRes SlotsRes page_cells ret_bool' run_ne_slot run_guard_slot)
open Go.Proofs.YtkeocnhndnbamaaGreat.Ent (Ent noE longB SmallE Small ent_cells alloc_lt below_box Ents EntAt)
open Go.Proofs.YtkeocnhndnbamaaGreat.Nib (below_next below_drew)

theorem take_next' {xs : List Ent} {k : Nat} {x : Ent} (h : xs[k]? = some x) : xs.take (k + 1) = xs.take k ++ [x] := by
  obtain ⟨hl, rfl⟩ := List.getElem?_eq_some_iff.1 h
  exact List.take_succ_eq_append_getElem hl
theorem allF_skip {page lsn L : Int} {l Z : List Slot} {xs : List Ent} {k : Nat} {x : Ent} (h : allF page (xs.take k) lsn l = (0, L, Z)) (hx : xs[k]? = some x) (hp : ¬ (longB x.kind = true ∧ x.page = page)) : allF page (xs.take (k + 1)) lsn l = (0, L, Z) := by
  rw [take_next' hx, allF_append h, allF, if_neg hp]; rfl
theorem allF_step {page lsn L : Int} {l Z : List Slot} {xs : List Ent} {k : Nat} {x : Ent} (h : allF page (xs.take k) lsn l = (0, L, Z)) (hx : xs[k]? = some x) (hp : longB x.kind = true ∧ x.page = page) (hc : redoCode L Z x = 0) : allF page (xs.take (k + 1)) lsn l = (0, redoN L Z x, redoZ L Z x) := by
  rw [take_next' hx, allF_append h, allF, if_pos hp, if_pos hc]; rfl
theorem allF_fail {page lsn L : Int} {l Z : List Slot} {xs : List Ent} {k : Nat} {x : Ent} (h : allF page (xs.take k) lsn l = (0, L, Z)) (hx : xs[k]? = some x) (hp : longB x.kind = true ∧ x.page = page) (hc : redoCode L Z x ≠ 0) : allF page xs lsn l = (redoCode L Z x, 0, []) := by
  have h2 := allF_append (ys := xs.drop k) h
  rw [List.take_append_drop] at h2
  obtain ⟨hl, rfl⟩ := List.getElem?_eq_some_iff.1 hx
  rw [h2, List.drop_eq_getElem_cons hl, allF, if_pos hp, if_neg hc]
theorem all_res {page lsn : Int} {l : List Slot} {xs : List Ent} {L code : Int} {Z : List Slot} {w : World} {e : Ending} {w' : World} (hg : Slab.goodB lsn l = true) (h : allF page xs lsn l = (code, L, Z)) (hr : PageRes L Z code w e w') :
    PageRes (allR page lsn l xs).2.1 (allR page lsn l xs).2.2 (allR page lsn l xs).1 w e w' := by
  unfold allR; rw [if_pos hg, h]; exact hr

/-- the page at hand in its box, its slots beside it -/
structure AAt (w W0 W : World) (gq : Nat) (L : Int) (a : Option Addr) (n c : Nat) (Z : List Slot) : Prop where
  q : Blk W gq 52 #[.int .i64 L, .slice a n c]
  b : Below W0.heap.size W0 W
  s : Slots W a n Z
  ne : ∀ b off, a = some ⟨b, off, none⟩ → 0 < n → b ≠ gq
  fr : ∀ b off e, a = some ⟨b, off, e⟩ → w.heap.size + 1 < b
theorem AAt.next {w W0 W W' : World} {gq : Nat} {L : Int} {a : Option Addr} {n c : Nat} {Z : List Slot} (h : AAt w W0 W gq L a n c Z) (hb : Below W.heap.size W W') : AAt w W0 W' gq L a n c Z :=
  ⟨h.q.below hb h.q.lt, h.b.trans (hb.mono h.b.size), h.s.below hb, h.ne, h.fr⟩
theorem AAt.new {w W0 W : World} {gq : Nat} {L L' : Int} {a a' : Option Addr} {n n' c c' : Nat} {Z Z' : List Slot} (h : AAt w W0 W gq L a n c Z) (hg : W0.heap.size ≤ gq) (hs : Slots W a' n' Z') (hn : ∀ b off e, a' = some ⟨b, off, e⟩ → gq < b) (hw : w.heap.size + 1 < W0.heap.size) :
    AAt w W0 ((W.setCell ⟨gq, 0, none⟩ (.int .i64 L')).setCell ⟨gq, 1, none⟩ (.slice a' n' c')) gq L' a' n' c' Z' := by
  refine ⟨?_, (h.b.setCell (p := ⟨gq, 0, none⟩) hg _).setCell (p := ⟨gq, 1, none⟩) hg _, (hs.setCell _ ?_).setCell _ ?_, ?_, ?_⟩
  · have := (h.q.set_ 0 (.int .i64 L')).set_ 1 (.slice a' n' c')
    simpa using this
  · intro b off e _; have := hn _ _ _ e; omega
  · intro b off e _; have := hn _ _ _ e; omega
  · intro b off e _; have := hn _ _ _ e; omega
  · intro b off e he; have := hn _ _ _ he; omega
theorem AAt.len {w W0 W : World} {gq : Nat} {L : Int} {a : Option Addr} {n c : Nat} {Z : List Slot} (h : AAt w W0 W gq L a n c Z) (hg : Slab.goodB L Z = true) : n ≤ 32 := by
  have h1 := h.s.len
  have h2 := (Slab.good_parts hg).2.2.1
  omega

set_option maxRecDepth 100000 in
set_option maxHeartbeats 8000000 in
theorem all_any (lsn : Int) (a : Option Addr) (n c : Nat) (zs : List Slot) (page : Int) (la : Option Addr) (ln lc : Nat) (xs : List Ent) (w : World) (h : Slots w a n zs) (hn : n ≤ 1000000) (hl : Ents w la ln xs) (hln : ln ≤ 1000000) :
    Calls Tryz.prog 42 #[.agg #[.int .i64 lsn, .slice a n c], .int .i64 page, .slice la ln lc] w (PageRes (allR page lsn zs xs).2.1 (allR page lsn zs xs).2.2 (allR page lsn zs xs).1 w) := by
  have hb0 : Below w.heap.size w ((w.alloc (.cells #[.int .i64 lsn, .slice a n c] 52)).alloc (.cells #[.int .i64 0, .slice none 0 0] 52)) := ((Below.refl _ _).alloc (Nat.le_refl _) _).alloc (by simp) _
  have hP := (Blk.new w 52 #[.int .i64 lsn, .slice a n c]).alloc (.cells #[.int .i64 0, .slice none 0 0] 52)
  have hR := Blk.new (w.alloc (.cells #[.int .i64 lsn, .slice a n c] 52)) 52 #[.int .i64 0, .slice none 0 0]
  have hz : w.heap.size + 1 < ((w.alloc (.cells #[.int .i64 lsn, .slice a n c] 52)).alloc (.cells #[.int .i64 0, .slice none 0 0] 52)).heap.size := by simp
  rw [World.size_alloc] at hR
  have HS := Lib.hid h
  have HLS := Lib.hid hl
  clear h hl
  cases hg : Slab.goodB lsn zs with
  | false =>
    have HA := Lib.hid (show allR page lsn zs xs = (1, 0, []) by unfold allR; rw [hg]; rfl)
    have HG := Lib.hid hg
    clear hg
    go_enter Tryz.func42, Tryz.ntmps42
    go_wp2_with fail
    generalize hGen : (w.alloc (.cells #[.int .i64 lsn, .slice a n c] 52)).alloc (.cells #[.int .i64 0, .slice none 0 0] 52) = W at hb0 hP hR hz ⊢
    clear hGen
    refine (Slab.good_any lsn a n c zs _ (HS.out.below hb0) (by omega)).mono ?_
    rw [HG.out]
    rintro e w1 ⟨rfl, b1⟩
    have hR1 := hR.below b1 hz
    have q0 := hR1.cell 0
    have q1 := hR1.cell 1
    have f0 := hR1.frozen 0
    have f1 := hR1.frozen 1
    go_wp2
    exact bodyPost_ret (v := .tuple #[.agg #[.int .i64 0, .slice none 0 0], .int .i64 1]) (by simp [results, Tryz.results42, go_sem, q0, q1]) rfl (by
      rw [HA.out]
      exact ⟨none, 0, 0, rfl, Slots.nil _ _, ((below_next hb0 b1).setCell (p := ⟨w.heap.size + 1, 0, none⟩) (by simp) _).setCell (p := ⟨w.heap.size + 1, 1, none⟩) (by simp) _, fun _ _ _ h => by cases h⟩)
  | true =>
    have HG := Lib.hid hg
    have hn32 : n ≤ 32 := by have := HS.out.len; have := (Slab.good_parts hg).2.2.1; omega
    clear hg
    go_enter Tryz.func42, Tryz.ntmps42
    go_wp2_with fail
    generalize hGen : (w.alloc (.cells #[.int .i64 lsn, .slice a n c] 52)).alloc (.cells #[.int .i64 0, .slice none 0 0] 52) = W at hb0 hP hR hz ⊢
    clear hGen
    refine (Slab.good_any lsn a n c zs _ (HS.out.below hb0) (by omega)).mono ?_
    rw [HG.out]
    rintro e w1 ⟨rfl, b1⟩
    have hP1 := hP.below b1 (by omega)
    have hR1 := hR.below b1 hz
    have hb1 := below_next hb0 b1
    have hz1 := Nat.lt_of_lt_of_le hz b1.size
    have p0 := hP1.cell 0
    have p1 := hP1.cell 1
    go_wp2_with fail
    refine (another_any lsn a n c zs _ (HS.out.below hb1) (by omega)).mono ?_
    rintro e w2 ⟨a2, n2, cc2, rfl, s2, b2, g2⟩
    have hR2 := hR1.below b2 hz1
    have hb2 := below_next hb1 b2
    have hz2 := Nat.lt_of_lt_of_le hz1 b2.size
    have hA2 : AAt w w2 (w2.alloc (.cells #[.int .i64 lsn, .slice a2 n2 cc2] 52)) w2.heap.size lsn a2 n2 cc2 zs := by
      refine ⟨Blk.new w2 _ _, below_box _ _, s2.below (below_box _ _), fun b off e h0 => ?_, fun b off e he => ?_⟩
      · obtain ⟨b', off', e', hlt, _⟩ := s2.2.2 h0
        rw [e] at e'; cases e'; omega
      · have := g2 _ _ _ he; omega
    have HA2 := Lib.hid hA2
    have HR2 := Lib.hid hR2
    have HB2 := Lib.hid hb2
    clear p0 p1 hP1 hR1 hb1 hP hR hb0 b1 b2 s2 g2 hA2 hR2 hb2
    go_wp2
    go_loopw [22] (fun i wr => ∃ (k : Nat) (L : Int) (a3 : Option Addr) (n3 cc3 : Nat) (Z : List Slot), k ≤ ln ∧ i = .int .i64 (k : Int) ∧ AAt w w2 wr w2.heap.size L a3 n3 cc3 Z ∧ Slab.goodB L Z = true ∧ allF page (xs.take k) lsn zs = (0, L, Z)) (fun i _ => ln - (intOf i).toNat)
    case atStart => exact ⟨0, lsn, a2, n2, cc2, zs, Nat.zero_le _, rfl, HA2.out, HG.out, rfl⟩
    case round =>
      obtain ⟨k, L, a3, n3, cc3, Z, hk, rfl, hA, hgd, hF⟩ := hrel
      have HA := Lib.hid hA
      have HGD := Lib.hid hgd
      have HF := Lib.hid hF
      have hn3 := hA.len hgd
      have hqw : w2.heap.size < wr.heap.size := hA.q.lt
      clear hA hgd hF
      by_cases hlt : k < ln
      · obtain ⟨z1, z2, z3⟩ := HLS.out
        obtain ⟨b, off, rfl, hbw, hat⟩ := z3 (by omega)
        have hAt := (hat k hlt).next (below_next HB2.out HA.out.b) hbw
        have hxk : xs[k]? = some (xs.getD k noE) := by simp [List.getD, show k < xs.length by omega]
        have hsm : SmallE (xs.getD k noE) := z2 _ (List.mem_of_getElem? hxk)
        have HXK := Lib.hid hxk
        clear z1 z2 z3 hat hxk
        generalize xs.getD k noE = x at hAt hsm HXK
        have HSM := Lib.hid hsm
        obtain ⟨c0, c1, c2, c3, c4, c5, c6, c7, c8, c9, c10, c11, c12⟩ := hAt.cells
        clear hsm
        go_upto_region 7 with (fail)
        have hA3 := HA.out.next (below_box wr (.cells #[.int .i64 x.kind, .int .i64 x.cl, .int .i64 x.ep, .int .i64 x.n, .int .i64 x.lsn, .int .i64 x.prev, .int .i64 x.page, .int .i64 x.slot, .bool x.wu, .string x.wd, .bool x.iu, .string x.id, .int .i64 x.next] 58))
        have hX3 := Blk.new wr 58 #[.int .i64 x.kind, .int .i64 x.cl, .int .i64 x.ep, .int .i64 x.n, .int .i64 x.lsn, .int .i64 x.prev, .int .i64 x.page, .int .i64 x.slot, .bool x.wu, .string x.wd, .bool x.iu, .string x.id, .int .i64 x.next]
        have hx3 := alloc_lt wr (.cells #[.int .i64 x.kind, .int .i64 x.cl, .int .i64 x.ep, .int .i64 x.n, .int .i64 x.lsn, .int .i64 x.prev, .int .i64 x.page, .int .i64 x.slot, .bool x.wu, .string x.wd, .bool x.iu, .string x.id, .int .i64 x.next] 58)
        generalize hGen : wr.alloc (.cells #[.int .i64 x.kind, .int .i64 x.cl, .int .i64 x.ep, .int .i64 x.n, .int .i64 x.lsn, .int .i64 x.prev, .int .i64 x.page, .int .i64 x.slot, .bool x.wu, .string x.wd, .bool x.iu, .string x.id, .int .i64 x.next] 58) = W3 at hA3 hX3 hx3 ⊢
        clear hGen
        generalize hGen : wr.heap.size = gx at hX3 hx3 hqw ⊢
        clear hGen
        clear c0 c1 c2 c3 c4 c5 c6 c7 c8 c9 c10 c11 c12 hAt
        obtain ⟨c0, c1, c2, c3, c4, c5, c6, c7, c8, c9, c10, c11, c12⟩ := ent_cells hX3
        go_wp2_with fail
        refine (changes_any x _).mono ?_
        rintro e w4 ⟨rfl, b4⟩
        have HA4 := Lib.hid (hA3.next b4)
        have hX4 := hX3.below b4 hx3
        have hx4 : gx < w4.heap.size := Nat.lt_of_lt_of_le hx3 b4.size
        clear c0 c1 c2 c3 c4 c5 c6 c7 c8 c9 c10 c11 c12 hA3 hX3 hx3 b4
        cases hk1 : longB x.kind with
        | false =>
          have HFK := Lib.hid (allF_skip HF.out HXK.out (by rw [hk1]; simp))
          clear hk1
          go_wp2
          go_roundw
          case rel => exact ⟨k + 1, L, a3, n3, cc3, Z, by omega, by go_num, HA4.out, HGD.out, HFK.out⟩
          case measure => simp [intOf]; omega
        | true =>
          obtain ⟨c0, c1, c2, c3, c4, c5, c6, c7, c8, c9, c10, c11, c12⟩ := ent_cells hX4
          by_cases hp : x.page = page
          · have HPG := Lib.hid (show longB x.kind = true ∧ x.page = page from ⟨hk1, hp⟩)
            have tp : (x.page != page) = false := by simp [hp]
            clear hk1 hp
            have q0 := HA4.out.q.cell 0
            have q1 := HA4.out.q.cell 1
            go_wp2_with fail
            refine (redo_any L a3 n3 cc3 Z x _ HA4.out.s (by omega) HSM.out).mono ?_
            by_cases hc : redoCode L Z x = 0
            · have HGD5 := Lib.hid (redo_good hc).1
              have HFK := Lib.hid (allF_step HF.out HXK.out HPG.out hc)
              rw [hc]
              clear hc HGD HF
              generalize redoN L Z x = N5 at HGD5 HFK ⊢
              generalize redoZ L Z x = Z5 at HGD5 HFK ⊢
              generalize redoD L Z x = D5
              rintro e w5 ⟨a5, n5, cc5, rfl, s5, b5, g5⟩
              have hA5 := (HA4.out.next b5).next (below_box w5 (.cells #[.int .i64 N5, .slice a5 n5 cc5] 52))
              have S5 := Lib.hid (s5.below (below_box w5 (.cells #[.int .i64 N5, .slice a5 n5 cc5] 52)))
              have hY := Blk.new w5 52 #[.int .i64 N5, .slice a5 n5 cc5]
              have hq5 : w2.heap.size < w5.heap.size := Nat.lt_of_lt_of_le HA4.out.q.lt b5.size
              have G5 : Hid (∀ b off e, a5 = some ⟨b, off, e⟩ → w2.heap.size < b) := Lib.hid fun b off e he => by
                rcases g5 with rfl | g5
                · cases he
                · have := g5 _ _ _ he; have := HA4.out.q.lt; omega
              clear c0 c1 c2 c3 c4 c5 c6 c7 c8 c9 c10 c11 c12 q0 q1 hX4 hx4 s5 b5 g5 HA4
              go_upto_region 9 with (fail)
              generalize hGen : w5.alloc (.cells #[.int .i64 N5, .slice a5 n5 cc5] 52) = W5 at hA5 S5 hY ⊢
              clear hGen
              generalize hGen : w5.heap.size = gy at hY hq5 ⊢
              clear hGen
              have y0 := hY.cell 0
              have y1 := hY.cell 1
              have q0 := hA5.q.cell 0
              have q1 := hA5.q.cell 1
              have qf0 := hA5.q.frozen 0
              have qf1 := hA5.q.frozen 1
              have HA6 := Lib.hid (hA5.new (L' := N5) (a' := a5) (n' := n5) (c' := cc5) (Z' := Z5) (Nat.le_refl _) S5.out G5.out hz2)
              clear hA5 hY
              go_wp2
              go_roundw
              case rel => exact ⟨k + 1, N5, a5, n5, cc5, Z5, by omega, by go_num, HA6.out, HGD5.out, HFK.out⟩
              case measure => simp [intOf]; omega
            · have HFF := Lib.hid (allF_fail HF.out HXK.out HPG.out hc)
              obtain ⟨e1, e2, e3⟩ := redo_err hc
              rw [e1, e2, e3]
              clear e1 e2 e3
              generalize redoCode L Z x = cd at hc HFF ⊢
              have hne : (cd != 0) = true := by rw [bne_iff_ne]; exact hc
              clear hc HF
              rintro e w5 ⟨a5, n5, cc5, rfl, s5, b5, g5⟩
              have hA5 := (HA4.out.next b5).next (below_box w5 (.cells #[.int .i64 0, .slice a5 n5 cc5] 52))
              clear c0 c1 c2 c3 c4 c5 c6 c7 c8 c9 c10 c11 c12 q0 q1 hX4 hx4 s5 b5 g5 HA4
              go_upto_region 9 with (fail)
              generalize hGen : w5.alloc (.cells #[.int .i64 0, .slice a5 n5 cc5] 52) = W5 at hA5 ⊢
              clear hGen
              have hR6 := HR2.out.below hA5.b hz2
              have r0 := hR6.cell 0
              have r1 := hR6.cell 1
              have rf0 := hR6.frozen 0
              have rf1 := hR6.frozen 1
              go_wp2
              exact bodyPost_ret (v := .tuple #[.agg #[.int .i64 0, .slice none 0 0], .int .i64 cd]) (by simp [results, Tryz.results42, go_sem, r0, r1]) rfl (all_res HG.out HFF.out ⟨none, 0, 0, rfl, Slots.nil _ _, ((below_next HB2.out hA5.b).setCell (p := ⟨w.heap.size + 1, 0, none⟩) (by simp) _).setCell (p := ⟨w.heap.size + 1, 1, none⟩) (by simp) _, fun _ _ _ h => by cases h⟩)
          · have HFK := Lib.hid (allF_skip HF.out HXK.out (fun h => hp h.2))
            have tp : (x.page != page) = true := by simp [hp]
            clear hk1 hp
            go_wp2
            go_roundw
            case rel => exact ⟨k + 1, L, a3, n3, cc3, Z, by omega, by go_num, HA4.out, HGD.out, HFK.out⟩
            case measure => simp [intOf]; omega
      · obtain rfl : ln = k := by omega
        have HFE := Lib.hid (show allF page xs lsn zs = (0, L, Z) by have := HF.out; rwa [List.take_of_length_le (by rw [HLS.out.1]; exact Nat.le_refl _)] at this)
        have q0 := HA.out.q.cell 0
        have q1 := HA.out.q.cell 1
        have hR6 := HR2.out.below HA.out.b hz2
        have r0 := hR6.cell 0
        have r1 := hR6.cell 1
        have rf0 := hR6.frozen 0
        have rf1 := hR6.frozen 1
        have hne : ∀ b off, a3 = some ⟨b, off, none⟩ → 0 < n3 → b ≠ w.heap.size + 1 := fun b off e _ => by have := HA.out.fr _ _ _ e; omega
        have HNE := Lib.hid hne
        clear hne HF
        go_wp2
        exact bodyPost_ret (v := .tuple #[.agg #[.int .i64 L, .slice a3 n3 cc3], .int .i64 0]) (by simp [results, Tryz.results42, go_sem, r0, r1]) rfl (all_res HG.out HFE.out ⟨a3, n3, cc3, rfl, (HA.out.s.setCell _ HNE.out).setCell _ HNE.out, ((below_next HB2.out HA.out.b).setCell (p := ⟨w.heap.size + 1, 0, none⟩) (by simp) _).setCell (p := ⟨w.heap.size + 1, 1, none⟩) (by simp) _, fun b off e h => by have := HA.out.fr _ _ _ h; omega⟩)
end Go.Proofs.YtkeocnhndnbamaaGreat.Patch
