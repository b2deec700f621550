/- The walks of patch.Turn and of the document's own Turn. -/
import Derived.Test.YtmmeemffiibndaaPatchRedo
namespace Go.Proofs.Ytmmeemffiibndaa.Patch
open Go.RowKit Go.Sort
open Go.Proofs.Ytmmeemffiibndaa.Slab (Slot Blk)
open Go.Proofs.Ytmmeemffiibndaa.Ent (Ent noE longB SmallE Small ent_cells alloc_lt below_box)
open Go.Proofs.Ytmmeemffiibndaa.Nib (below_next below_drew)
theorem turn_bad {x : Ent} {lsn prev : Int} (h : turnB x lsn prev = false) : turnX x lsn prev = noE ∧ turnC x lsn prev = 1 := by
  unfold turnX turnC; rw [h]; exact ⟨rfl, rfl⟩
theorem turn_ok {x : Ent} {lsn prev : Int} (h : turnB x lsn prev = true) : turnX x lsn prev = turnY x lsn prev ∧ turnC x lsn prev = 0 := by
  unfold turnX turnC; rw [h]; exact ⟨rfl, rfl⟩
/-- the world behind Turn's boxes -/
structure TAt (w W : World) (x : Ent) : Prop where
  x : Blk W w.heap.size 45 #[.int .i64 x.kind, .int .i64 x.cl, .int .i64 x.ep, .int .i64 x.n, .int .i64 x.lsn, .int .i64 x.prev, .int .i64 x.page, .int .i64 x.slot, .bool x.wu, .string x.wd, .bool x.iu, .string x.id, .int .i64 x.next]
  r : Blk W (w.heap.size + 1) 45 #[.int .i64 noE.kind, .int .i64 noE.cl, .int .i64 noE.ep, .int .i64 noE.n, .int .i64 noE.lsn, .int .i64 noE.prev, .int .i64 noE.page, .int .i64 noE.slot, .bool noE.wu, .string noE.wd, .bool noE.iu, .string noE.id, .int .i64 noE.next]
  b : Below w.heap.size w W
  z : w.heap.size + 1 < W.heap.size
theorem TAt.next {w W W' : World} {x : Ent} (h : TAt w W x) (hb : Below W.heap.size W W') : TAt w W' x := by
  have hz := h.z
  exact ⟨h.x.below hb (by omega), h.r.below hb hz, below_next h.b hb, Nat.lt_of_lt_of_le hz hb.size⟩
theorem t_at (w : World) (x : Ent) : TAt w ((w.alloc (.cells #[.int .i64 x.kind, .int .i64 x.cl, .int .i64 x.ep, .int .i64 x.n, .int .i64 x.lsn, .int .i64 x.prev, .int .i64 x.page, .int .i64 x.slot, .bool x.wu, .string x.wd, .bool x.iu, .string x.id, .int .i64 x.next] 45)).alloc (.cells #[.int .i64 0, .int .i64 0, .int .i64 0, .int .i64 0, .int .i64 0, .int .i64 0, .int .i64 0, .int .i64 0, .bool false, .string ⟨#[]⟩, .bool false, .string ⟨#[]⟩, .int .i64 0] 45)) x := by
  refine ⟨(Blk.new w _ _).alloc _, ?_, ((Below.refl _ _).alloc (Nat.le_refl _) _).alloc (by simp) _, by simp⟩
  have := Blk.new (w.alloc (.cells #[.int .i64 x.kind, .int .i64 x.cl, .int .i64 x.ep, .int .i64 x.n, .int .i64 x.lsn, .int .i64 x.prev, .int .i64 x.page, .int .i64 x.slot, .bool x.wu, .string x.wd, .bool x.iu, .string x.id, .int .i64 x.next] 45)) 45 #[.int .i64 0, .int .i64 0, .int .i64 0, .int .i64 0, .int .i64 0, .int .i64 0, .int .i64 0, .int .i64 0, .bool false, .string ⟨#[]⟩, .bool false, .string ⟨#[]⟩, .int .i64 0]
  rw [World.size_alloc] at this; exact this

set_option maxRecDepth 100000 in
set_option maxHeartbeats 8000000 in
theorem turn_any (x : Ent) (lsn prev : Int) (w : World) (hx : SmallE x) :
    Calls Try.prog 25 #[.agg #[.int .i64 x.kind, .int .i64 x.cl, .int .i64 x.ep, .int .i64 x.n, .int .i64 x.lsn, .int .i64 x.prev, .int .i64 x.page, .int .i64 x.slot, .bool x.wu, .string x.wd, .bool x.iu, .string x.id, .int .i64 x.next], .int .i64 lsn, .int .i64 prev] w fun e w' => e = .returned (.tuple #[.agg #[.int .i64 (turnX x lsn prev).kind, .int .i64 (turnX x lsn prev).cl, .int .i64 (turnX x lsn prev).ep, .int .i64 (turnX x lsn prev).n, .int .i64 (turnX x lsn prev).lsn, .int .i64 (turnX x lsn prev).prev, .int .i64 (turnX x lsn prev).page, .int .i64 (turnX x lsn prev).slot, .bool (turnX x lsn prev).wu, .string (turnX x lsn prev).wd, .bool (turnX x lsn prev).iu, .string (turnX x lsn prev).id, .int .i64 (turnX x lsn prev).next], .int .i64 (turnC x lsn prev)]) ∧ Below w.heap.size w w' := by
  have H0 := t_at w x
  have HX := Lib.hid (show Small x from hx)
  have HX2 := Lib.hid (show Small (turnY x lsn prev) from ⟨hx.2, hx.1⟩)
  clear hx
  by_cases hk : x.kind = 1
  rotate_left
  · have HB := Lib.hid (turn_bad (lsn := lsn) (prev := prev) (show turnB x lsn prev = false by unfold turnB; rw [decide_eq_false hk]; rfl))
    have t1 : (x.kind != 1) = true := by simp [hk]
    clear hk
    go_enter Try.func25, Try.ntmps25
    go_upto_region 1 with (fail)
    generalize hGen : (w.alloc (.cells #[.int .i64 x.kind, .int .i64 x.cl, .int .i64 x.ep, .int .i64 x.n, .int .i64 x.lsn, .int .i64 x.prev, .int .i64 x.page, .int .i64 x.slot, .bool x.wu, .string x.wd, .bool x.iu, .string x.id, .int .i64 x.next] 45)).alloc (.cells #[.int .i64 0, .int .i64 0, .int .i64 0, .int .i64 0, .int .i64 0, .int .i64 0, .int .i64 0, .int .i64 0, .bool false, .string ⟨#[]⟩, .bool false, .string ⟨#[]⟩, .int .i64 0] 45) = W at H0 ⊢
    clear hGen
    have hw : w.heap.size ≤ w.heap.size + 1 := by omega
    obtain ⟨c0, c1, c2, c3, c4, c5, c6, c7, c8, c9, c10, c11, c12⟩ := ent_cells H0.x
    clear c1 c2 c3 c4 c5 c6 c7 c8 c9 c10 c11 c12
    obtain ⟨z0, z1, z2, z3, z4, z5, z6, z7, z8, z9, z10, z11, z12⟩ := ent_cells H0.r
    simp only [noE] at z0 z1 z2 z3 z4 z5 z6 z7 z8 z9 z10 z11 z12
    obtain ⟨f0, f1, f2, f3, f4, f5, f6, f7, f8, f9, f10, f11, f12⟩ := Ent.ent_frozen H0.r
    go_wp2
    refine bodyPost_ret (v := .tuple #[.agg #[.int .i64 0, .int .i64 0, .int .i64 0, .int .i64 0, .int .i64 0, .int .i64 0, .int .i64 0, .int .i64 0, .bool false, .string ⟨#[]⟩, .bool false, .string ⟨#[]⟩, .int .i64 0], .int .i64 1]) (by simp [results, Try.results25, go_sem, z0, z1, z2, z3, z4, z5, z6, z7, z8, z9, z10, z11, z12]) rfl ?_
    exact ⟨by rw [HB.out.1, HB.out.2]; rfl, Ent.below13 H0.b (by omega) _ _ _ _ _ _ _ _ _ _ _ _ _⟩
  have t1 : (x.kind != 1) = false := by simp [hk]
  have HK := Lib.hid hk
  clear hk
  cases he : Ent.goodB x with
  | false =>
    have HB := Lib.hid (turn_bad (lsn := lsn) (prev := prev) (show turnB x lsn prev = false by unfold turnB; rw [he]; simp))
    have HE := Lib.hid he
    clear he
    go_enter Try.func25, Try.ntmps25
    go_upto_region 1 with (fail)
    generalize hGen : (w.alloc (.cells #[.int .i64 x.kind, .int .i64 x.cl, .int .i64 x.ep, .int .i64 x.n, .int .i64 x.lsn, .int .i64 x.prev, .int .i64 x.page, .int .i64 x.slot, .bool x.wu, .string x.wd, .bool x.iu, .string x.id, .int .i64 x.next] 45)).alloc (.cells #[.int .i64 0, .int .i64 0, .int .i64 0, .int .i64 0, .int .i64 0, .int .i64 0, .int .i64 0, .int .i64 0, .bool false, .string ⟨#[]⟩, .bool false, .string ⟨#[]⟩, .int .i64 0] 45) = W at H0 ⊢
    clear hGen
    have hw : w.heap.size ≤ w.heap.size + 1 := by omega
    obtain ⟨c0, c1, c2, c3, c4, c5, c6, c7, c8, c9, c10, c11, c12⟩ := ent_cells H0.x
    go_wp2_with fail
    refine (Ent.good_any x _ HX.out).mono ?_
    rw [HE.out]
    rintro e w1 ⟨rfl, b1⟩
    have H1 := H0.next b1
    clear c0 c1 c2 c3 c4 c5 c6 c7 c8 c9 c10 c11 c12
    obtain ⟨z0, z1, z2, z3, z4, z5, z6, z7, z8, z9, z10, z11, z12⟩ := ent_cells H1.r
    simp only [noE] at z0 z1 z2 z3 z4 z5 z6 z7 z8 z9 z10 z11 z12
    obtain ⟨f0, f1, f2, f3, f4, f5, f6, f7, f8, f9, f10, f11, f12⟩ := Ent.ent_frozen H1.r
    go_wp2
    refine bodyPost_ret (v := .tuple #[.agg #[.int .i64 0, .int .i64 0, .int .i64 0, .int .i64 0, .int .i64 0, .int .i64 0, .int .i64 0, .int .i64 0, .bool false, .string ⟨#[]⟩, .bool false, .string ⟨#[]⟩, .int .i64 0], .int .i64 1]) (by simp [results, Try.results25, go_sem, z0, z1, z2, z3, z4, z5, z6, z7, z8, z9, z10, z11, z12]) rfl ?_
    exact ⟨by rw [HB.out.1, HB.out.2]; rfl, Ent.below13 H1.b (by omega) _ _ _ _ _ _ _ _ _ _ _ _ _⟩
  | true =>
    have HE := Lib.hid he
    clear he
    cases hy : Ent.goodB (turnY x lsn prev) with
    | false =>
      have HB := Lib.hid (turn_bad (lsn := lsn) (prev := prev) (show turnB x lsn prev = false by unfold turnB; rw [hy]; simp))
      have HY := Lib.hid hy
      clear hy
      go_enter Try.func25, Try.ntmps25
      go_upto_region 1 with (fail)
      generalize hGen : (w.alloc (.cells #[.int .i64 x.kind, .int .i64 x.cl, .int .i64 x.ep, .int .i64 x.n, .int .i64 x.lsn, .int .i64 x.prev, .int .i64 x.page, .int .i64 x.slot, .bool x.wu, .string x.wd, .bool x.iu, .string x.id, .int .i64 x.next] 45)).alloc (.cells #[.int .i64 0, .int .i64 0, .int .i64 0, .int .i64 0, .int .i64 0, .int .i64 0, .int .i64 0, .int .i64 0, .bool false, .string ⟨#[]⟩, .bool false, .string ⟨#[]⟩, .int .i64 0] 45) = W at H0 ⊢
      clear hGen
      have hw : w.heap.size ≤ w.heap.size + 1 := by omega
      obtain ⟨c0, c1, c2, c3, c4, c5, c6, c7, c8, c9, c10, c11, c12⟩ := ent_cells H0.x
      go_wp2_with fail
      refine (Ent.good_any x _ HX.out).mono ?_
      rw [HE.out]
      rintro e w1 ⟨rfl, b1⟩
      have H1 := H0.next b1
      clear c0 c1 c2 c3 c4 c5 c6 c7 c8 c9 c10 c11 c12
      obtain ⟨c0, c1, c2, c3, c4, c5, c6, c7, c8, c9, c10, c11, c12⟩ := ent_cells H1.x
      go_upto_region 4 with (fail)
      have H2 := H1.next (below_box w1 (.cells #[.int .i64 2, .int .i64 x.cl, .int .i64 x.ep, .int .i64 x.n, .int .i64 lsn, .int .i64 prev, .int .i64 x.page, .int .i64 x.slot, .bool x.iu, .string x.id, .bool x.wu, .string x.wd, .int .i64 x.prev] 45))
      have hY := Blk.new w1 45 #[.int .i64 2, .int .i64 x.cl, .int .i64 x.ep, .int .i64 x.n, .int .i64 lsn, .int .i64 prev, .int .i64 x.page, .int .i64 x.slot, .bool x.iu, .string x.id, .bool x.wu, .string x.wd, .int .i64 x.prev]
      have hyz := alloc_lt w1 (.cells #[.int .i64 2, .int .i64 x.cl, .int .i64 x.ep, .int .i64 x.n, .int .i64 lsn, .int .i64 prev, .int .i64 x.page, .int .i64 x.slot, .bool x.iu, .string x.id, .bool x.wu, .string x.wd, .int .i64 x.prev] 45)
      have hz1 := H1.z
      generalize hGen : w1.alloc (.cells #[.int .i64 2, .int .i64 x.cl, .int .i64 x.ep, .int .i64 x.n, .int .i64 lsn, .int .i64 prev, .int .i64 x.page, .int .i64 x.slot, .bool x.iu, .string x.id, .bool x.wu, .string x.wd, .int .i64 x.prev] 45) = W2 at H2 hY hyz ⊢
      clear hGen
      generalize hGen : w1.heap.size = gy at hY hyz hz1 ⊢
      clear hGen
      clear c0 c1 c2 c3 c4 c5 c6 c7 c8 c9 c10 c11 c12
      have hcx : Blk W2 gy 45 #[.int .i64 (turnY x lsn prev).kind, .int .i64 (turnY x lsn prev).cl, .int .i64 (turnY x lsn prev).ep, .int .i64 (turnY x lsn prev).n, .int .i64 (turnY x lsn prev).lsn, .int .i64 (turnY x lsn prev).prev, .int .i64 (turnY x lsn prev).page, .int .i64 (turnY x lsn prev).slot, .bool (turnY x lsn prev).wu, .string (turnY x lsn prev).wd, .bool (turnY x lsn prev).iu, .string (turnY x lsn prev).id, .int .i64 (turnY x lsn prev).next] := hY
      obtain ⟨c0, c1, c2, c3, c4, c5, c6, c7, c8, c9, c10, c11, c12⟩ := ent_cells hcx
      clear hcx
      simp only [turnY] at c0 c1 c2 c3 c4 c5 c6 c7 c8 c9 c10 c11 c12
      go_wp2_with fail
      have hgd := Ent.good_any (turnY x lsn prev) W2 HX2.out
      rw [HY.out] at hgd
      refine hgd.mono ?_
      clear hgd
      rintro e w3 ⟨rfl, b3⟩
      have H3 := H2.next b3
      have hY3 := hY.below b3 hyz
      clear c0 c1 c2 c3 c4 c5 c6 c7 c8 c9 c10 c11 c12
      obtain ⟨z0, z1, z2, z3, z4, z5, z6, z7, z8, z9, z10, z11, z12⟩ := ent_cells H3.r
      simp only [noE] at z0 z1 z2 z3 z4 z5 z6 z7 z8 z9 z10 z11 z12
      obtain ⟨f0, f1, f2, f3, f4, f5, f6, f7, f8, f9, f10, f11, f12⟩ := Ent.ent_frozen H3.r
      go_wp2
      refine bodyPost_ret (v := .tuple #[.agg #[.int .i64 0, .int .i64 0, .int .i64 0, .int .i64 0, .int .i64 0, .int .i64 0, .int .i64 0, .int .i64 0, .bool false, .string ⟨#[]⟩, .bool false, .string ⟨#[]⟩, .int .i64 0], .int .i64 1]) (by simp [results, Try.results25, go_sem, z0, z1, z2, z3, z4, z5, z6, z7, z8, z9, z10, z11, z12]) rfl ?_
      exact ⟨by rw [HB.out.1, HB.out.2]; rfl, Ent.below13 H3.b (by omega) _ _ _ _ _ _ _ _ _ _ _ _ _⟩
    | true =>
      have HB := Lib.hid (turn_ok (lsn := lsn) (prev := prev) (show turnB x lsn prev = true by unfold turnB; rw [hy, HE.out, decide_eq_true HK.out]; rfl))
      have HY := Lib.hid hy
      clear hy
      go_enter Try.func25, Try.ntmps25
      go_upto_region 1 with (fail)
      generalize hGen : (w.alloc (.cells #[.int .i64 x.kind, .int .i64 x.cl, .int .i64 x.ep, .int .i64 x.n, .int .i64 x.lsn, .int .i64 x.prev, .int .i64 x.page, .int .i64 x.slot, .bool x.wu, .string x.wd, .bool x.iu, .string x.id, .int .i64 x.next] 45)).alloc (.cells #[.int .i64 0, .int .i64 0, .int .i64 0, .int .i64 0, .int .i64 0, .int .i64 0, .int .i64 0, .int .i64 0, .bool false, .string ⟨#[]⟩, .bool false, .string ⟨#[]⟩, .int .i64 0] 45) = W at H0 ⊢
      clear hGen
      have hw : w.heap.size ≤ w.heap.size + 1 := by omega
      obtain ⟨c0, c1, c2, c3, c4, c5, c6, c7, c8, c9, c10, c11, c12⟩ := ent_cells H0.x
      go_wp2_with fail
      refine (Ent.good_any x _ HX.out).mono ?_
      rw [HE.out]
      rintro e w1 ⟨rfl, b1⟩
      have H1 := H0.next b1
      clear c0 c1 c2 c3 c4 c5 c6 c7 c8 c9 c10 c11 c12
      obtain ⟨c0, c1, c2, c3, c4, c5, c6, c7, c8, c9, c10, c11, c12⟩ := ent_cells H1.x
      go_upto_region 4 with (fail)
      have H2 := H1.next (below_box w1 (.cells #[.int .i64 2, .int .i64 x.cl, .int .i64 x.ep, .int .i64 x.n, .int .i64 lsn, .int .i64 prev, .int .i64 x.page, .int .i64 x.slot, .bool x.iu, .string x.id, .bool x.wu, .string x.wd, .int .i64 x.prev] 45))
      have hY := Blk.new w1 45 #[.int .i64 2, .int .i64 x.cl, .int .i64 x.ep, .int .i64 x.n, .int .i64 lsn, .int .i64 prev, .int .i64 x.page, .int .i64 x.slot, .bool x.iu, .string x.id, .bool x.wu, .string x.wd, .int .i64 x.prev]
      have hyz := alloc_lt w1 (.cells #[.int .i64 2, .int .i64 x.cl, .int .i64 x.ep, .int .i64 x.n, .int .i64 lsn, .int .i64 prev, .int .i64 x.page, .int .i64 x.slot, .bool x.iu, .string x.id, .bool x.wu, .string x.wd, .int .i64 x.prev] 45)
      have hz1 := H1.z
      generalize hGen : w1.alloc (.cells #[.int .i64 2, .int .i64 x.cl, .int .i64 x.ep, .int .i64 x.n, .int .i64 lsn, .int .i64 prev, .int .i64 x.page, .int .i64 x.slot, .bool x.iu, .string x.id, .bool x.wu, .string x.wd, .int .i64 x.prev] 45) = W2 at H2 hY hyz ⊢
      clear hGen
      generalize hGen : w1.heap.size = gy at hY hyz hz1 ⊢
      clear hGen
      clear c0 c1 c2 c3 c4 c5 c6 c7 c8 c9 c10 c11 c12
      have hcx : Blk W2 gy 45 #[.int .i64 (turnY x lsn prev).kind, .int .i64 (turnY x lsn prev).cl, .int .i64 (turnY x lsn prev).ep, .int .i64 (turnY x lsn prev).n, .int .i64 (turnY x lsn prev).lsn, .int .i64 (turnY x lsn prev).prev, .int .i64 (turnY x lsn prev).page, .int .i64 (turnY x lsn prev).slot, .bool (turnY x lsn prev).wu, .string (turnY x lsn prev).wd, .bool (turnY x lsn prev).iu, .string (turnY x lsn prev).id, .int .i64 (turnY x lsn prev).next] := hY
      obtain ⟨c0, c1, c2, c3, c4, c5, c6, c7, c8, c9, c10, c11, c12⟩ := ent_cells hcx
      clear hcx
      simp only [turnY] at c0 c1 c2 c3 c4 c5 c6 c7 c8 c9 c10 c11 c12
      go_wp2_with fail
      have hgd := Ent.good_any (turnY x lsn prev) W2 HX2.out
      rw [HY.out] at hgd
      refine hgd.mono ?_
      clear hgd
      rintro e w3 ⟨rfl, b3⟩
      have H3 := H2.next b3
      have hY3 := hY.below b3 hyz
      clear c0 c1 c2 c3 c4 c5 c6 c7 c8 c9 c10 c11 c12
      have hcx : Blk w3 gy 45 #[.int .i64 (turnY x lsn prev).kind, .int .i64 (turnY x lsn prev).cl, .int .i64 (turnY x lsn prev).ep, .int .i64 (turnY x lsn prev).n, .int .i64 (turnY x lsn prev).lsn, .int .i64 (turnY x lsn prev).prev, .int .i64 (turnY x lsn prev).page, .int .i64 (turnY x lsn prev).slot, .bool (turnY x lsn prev).wu, .string (turnY x lsn prev).wd, .bool (turnY x lsn prev).iu, .string (turnY x lsn prev).id, .int .i64 (turnY x lsn prev).next] := hY3
      obtain ⟨c0, c1, c2, c3, c4, c5, c6, c7, c8, c9, c10, c11, c12⟩ := ent_cells hcx
      clear hcx
      simp only [turnY] at c0 c1 c2 c3 c4 c5 c6 c7 c8 c9 c10 c11 c12
      obtain ⟨z0, z1, z2, z3, z4, z5, z6, z7, z8, z9, z10, z11, z12⟩ := ent_cells H3.r
      simp only [noE] at z0 z1 z2 z3 z4 z5 z6 z7 z8 z9 z10 z11 z12
      obtain ⟨f0, f1, f2, f3, f4, f5, f6, f7, f8, f9, f10, f11, f12⟩ := Ent.ent_frozen H3.r
      have hne : ¬ w.heap.size + 1 = gy := by omega
      go_wp2
      refine bodyPost_ret (v := .tuple #[.agg #[.int .i64 2, .int .i64 x.cl, .int .i64 x.ep, .int .i64 x.n, .int .i64 lsn, .int .i64 prev, .int .i64 x.page, .int .i64 x.slot, .bool x.iu, .string x.id, .bool x.wu, .string x.wd, .int .i64 x.prev], .int .i64 0]) (by simp [results, Try.results25, go_sem, z0, z1, z2, z3, z4, z5, z6, z7, z8, z9, z10, z11, z12]) rfl ?_
      exact ⟨by rw [HB.out.1, HB.out.2]; rfl, Ent.below13 H3.b (by omega) _ _ _ _ _ _ _ _ _ _ _ _ _⟩

set_option maxRecDepth 100000 in
set_option maxHeartbeats 8000000 in
theorem rturn_any (x : Ent) (lsn prev : Int) (w : World) (hx : SmallE x) :
    Calls Try.prog 26 #[.agg #[.int .i64 x.kind, .int .i64 x.cl, .int .i64 x.ep, .int .i64 x.n, .int .i64 x.lsn, .int .i64 x.prev, .int .i64 x.page, .int .i64 x.slot, .bool x.wu, .string x.wd, .bool x.iu, .string x.id, .int .i64 x.next], .int .i64 lsn, .int .i64 prev] w fun e w' => e = .returned (.tuple #[.agg #[.int .i64 (turnX x lsn prev).kind, .int .i64 (turnX x lsn prev).cl, .int .i64 (turnX x lsn prev).ep, .int .i64 (turnX x lsn prev).n, .int .i64 (turnX x lsn prev).lsn, .int .i64 (turnX x lsn prev).prev, .int .i64 (turnX x lsn prev).page, .int .i64 (turnX x lsn prev).slot, .bool (turnX x lsn prev).wu, .string (turnX x lsn prev).wd, .bool (turnX x lsn prev).iu, .string (turnX x lsn prev).id, .int .i64 (turnX x lsn prev).next], .int .i64 (turnC x lsn prev)]) ∧ Below w.heap.size w w' := by
  have H0 := t_at w x
  have HX := Lib.hid (show Small x from hx)
  have HX2 := Lib.hid (show Small (turnY x lsn prev) from ⟨hx.2, hx.1⟩)
  clear hx
  cases he : Ent.goodB x with
  | false =>
    have HB := Lib.hid (turn_bad (lsn := lsn) (prev := prev) (show turnB x lsn prev = false by unfold turnB; rw [he]; simp))
    have HE := Lib.hid he
    clear he
    go_enter Try.func26, Try.ntmps26
    go_upto_region 1 with (fail)
    generalize hGen : (w.alloc (.cells #[.int .i64 x.kind, .int .i64 x.cl, .int .i64 x.ep, .int .i64 x.n, .int .i64 x.lsn, .int .i64 x.prev, .int .i64 x.page, .int .i64 x.slot, .bool x.wu, .string x.wd, .bool x.iu, .string x.id, .int .i64 x.next] 45)).alloc (.cells #[.int .i64 0, .int .i64 0, .int .i64 0, .int .i64 0, .int .i64 0, .int .i64 0, .int .i64 0, .int .i64 0, .bool false, .string ⟨#[]⟩, .bool false, .string ⟨#[]⟩, .int .i64 0] 45) = W at H0 ⊢
    clear hGen
    have hw : w.heap.size ≤ w.heap.size + 1 := by omega
    obtain ⟨c0, c1, c2, c3, c4, c5, c6, c7, c8, c9, c10, c11, c12⟩ := ent_cells H0.x
    go_wp2_with fail
    refine (Ent.rgood_any x _ HX.out).mono ?_
    rw [HE.out]
    rintro e w1 ⟨rfl, b1⟩
    have H1 := H0.next b1
    clear c0 c1 c2 c3 c4 c5 c6 c7 c8 c9 c10 c11 c12
    obtain ⟨z0, z1, z2, z3, z4, z5, z6, z7, z8, z9, z10, z11, z12⟩ := ent_cells H1.r
    simp only [noE] at z0 z1 z2 z3 z4 z5 z6 z7 z8 z9 z10 z11 z12
    obtain ⟨f0, f1, f2, f3, f4, f5, f6, f7, f8, f9, f10, f11, f12⟩ := Ent.ent_frozen H1.r
    go_wp2
    refine bodyPost_ret (v := .tuple #[.agg #[.int .i64 0, .int .i64 0, .int .i64 0, .int .i64 0, .int .i64 0, .int .i64 0, .int .i64 0, .int .i64 0, .bool false, .string ⟨#[]⟩, .bool false, .string ⟨#[]⟩, .int .i64 0], .int .i64 1]) (by simp [results, Try.results26, go_sem, z0, z1, z2, z3, z4, z5, z6, z7, z8, z9, z10, z11, z12]) rfl ?_
    exact ⟨by rw [HB.out.1, HB.out.2]; rfl, Ent.below13 H1.b (by omega) _ _ _ _ _ _ _ _ _ _ _ _ _⟩
  | true =>
    have HE := Lib.hid he
    by_cases hk : x.kind = 1
    rotate_left
    · have HB := Lib.hid (turn_bad (lsn := lsn) (prev := prev) (show turnB x lsn prev = false by unfold turnB; rw [decide_eq_false hk]; rfl))
      have t1 : (x.kind != 1) = true := by simp [hk]
      clear hk he
      go_enter Try.func26, Try.ntmps26
      go_upto_region 1 with (fail)
      generalize hGen : (w.alloc (.cells #[.int .i64 x.kind, .int .i64 x.cl, .int .i64 x.ep, .int .i64 x.n, .int .i64 x.lsn, .int .i64 x.prev, .int .i64 x.page, .int .i64 x.slot, .bool x.wu, .string x.wd, .bool x.iu, .string x.id, .int .i64 x.next] 45)).alloc (.cells #[.int .i64 0, .int .i64 0, .int .i64 0, .int .i64 0, .int .i64 0, .int .i64 0, .int .i64 0, .int .i64 0, .bool false, .string ⟨#[]⟩, .bool false, .string ⟨#[]⟩, .int .i64 0] 45) = W at H0 ⊢
      clear hGen
      have hw : w.heap.size ≤ w.heap.size + 1 := by omega
      obtain ⟨c0, c1, c2, c3, c4, c5, c6, c7, c8, c9, c10, c11, c12⟩ := ent_cells H0.x
      go_wp2_with fail
      refine (Ent.rgood_any x _ HX.out).mono ?_
      rw [HE.out]
      rintro e w1 ⟨rfl, b1⟩
      have H1 := H0.next b1
      clear c0 c1 c2 c3 c4 c5 c6 c7 c8 c9 c10 c11 c12
      obtain ⟨c0, c1, c2, c3, c4, c5, c6, c7, c8, c9, c10, c11, c12⟩ := ent_cells H1.x
      obtain ⟨z0, z1, z2, z3, z4, z5, z6, z7, z8, z9, z10, z11, z12⟩ := ent_cells H1.r
      simp only [noE] at z0 z1 z2 z3 z4 z5 z6 z7 z8 z9 z10 z11 z12
      obtain ⟨f0, f1, f2, f3, f4, f5, f6, f7, f8, f9, f10, f11, f12⟩ := Ent.ent_frozen H1.r
      go_wp2
      refine bodyPost_ret (v := .tuple #[.agg #[.int .i64 0, .int .i64 0, .int .i64 0, .int .i64 0, .int .i64 0, .int .i64 0, .int .i64 0, .int .i64 0, .bool false, .string ⟨#[]⟩, .bool false, .string ⟨#[]⟩, .int .i64 0], .int .i64 1]) (by simp [results, Try.results26, go_sem, z0, z1, z2, z3, z4, z5, z6, z7, z8, z9, z10, z11, z12]) rfl ?_
      exact ⟨by rw [HB.out.1, HB.out.2]; rfl, Ent.below13 H1.b (by omega) _ _ _ _ _ _ _ _ _ _ _ _ _⟩
    have t1 : (x.kind != 1) = false := by simp [hk]
    have HK := Lib.hid hk
    clear hk
    clear he
    cases hy : Ent.goodB (turnY x lsn prev) with
    | false =>
      have HB := Lib.hid (turn_bad (lsn := lsn) (prev := prev) (show turnB x lsn prev = false by unfold turnB; rw [hy]; simp))
      have HY := Lib.hid hy
      clear hy
      go_enter Try.func26, Try.ntmps26
      go_upto_region 1 with (fail)
      generalize hGen : (w.alloc (.cells #[.int .i64 x.kind, .int .i64 x.cl, .int .i64 x.ep, .int .i64 x.n, .int .i64 x.lsn, .int .i64 x.prev, .int .i64 x.page, .int .i64 x.slot, .bool x.wu, .string x.wd, .bool x.iu, .string x.id, .int .i64 x.next] 45)).alloc (.cells #[.int .i64 0, .int .i64 0, .int .i64 0, .int .i64 0, .int .i64 0, .int .i64 0, .int .i64 0, .int .i64 0, .bool false, .string ⟨#[]⟩, .bool false, .string ⟨#[]⟩, .int .i64 0] 45) = W at H0 ⊢
      clear hGen
      have hw : w.heap.size ≤ w.heap.size + 1 := by omega
      obtain ⟨c0, c1, c2, c3, c4, c5, c6, c7, c8, c9, c10, c11, c12⟩ := ent_cells H0.x
      go_wp2_with fail
      refine (Ent.rgood_any x _ HX.out).mono ?_
      rw [HE.out]
      rintro e w1 ⟨rfl, b1⟩
      have H1 := H0.next b1
      clear c0 c1 c2 c3 c4 c5 c6 c7 c8 c9 c10 c11 c12
      obtain ⟨c0, c1, c2, c3, c4, c5, c6, c7, c8, c9, c10, c11, c12⟩ := ent_cells H1.x
      go_upto_region 4 with (fail)
      have H2 := H1.next (below_box w1 (.cells #[.int .i64 2, .int .i64 x.cl, .int .i64 x.ep, .int .i64 x.n, .int .i64 lsn, .int .i64 prev, .int .i64 x.page, .int .i64 x.slot, .bool x.iu, .string x.id, .bool x.wu, .string x.wd, .int .i64 x.prev] 45))
      have hY := Blk.new w1 45 #[.int .i64 2, .int .i64 x.cl, .int .i64 x.ep, .int .i64 x.n, .int .i64 lsn, .int .i64 prev, .int .i64 x.page, .int .i64 x.slot, .bool x.iu, .string x.id, .bool x.wu, .string x.wd, .int .i64 x.prev]
      have hyz := alloc_lt w1 (.cells #[.int .i64 2, .int .i64 x.cl, .int .i64 x.ep, .int .i64 x.n, .int .i64 lsn, .int .i64 prev, .int .i64 x.page, .int .i64 x.slot, .bool x.iu, .string x.id, .bool x.wu, .string x.wd, .int .i64 x.prev] 45)
      have hz1 := H1.z
      generalize hGen : w1.alloc (.cells #[.int .i64 2, .int .i64 x.cl, .int .i64 x.ep, .int .i64 x.n, .int .i64 lsn, .int .i64 prev, .int .i64 x.page, .int .i64 x.slot, .bool x.iu, .string x.id, .bool x.wu, .string x.wd, .int .i64 x.prev] 45) = W2 at H2 hY hyz ⊢
      clear hGen
      generalize hGen : w1.heap.size = gy at hY hyz hz1 ⊢
      clear hGen
      clear c0 c1 c2 c3 c4 c5 c6 c7 c8 c9 c10 c11 c12
      have hcx : Blk W2 gy 45 #[.int .i64 (turnY x lsn prev).kind, .int .i64 (turnY x lsn prev).cl, .int .i64 (turnY x lsn prev).ep, .int .i64 (turnY x lsn prev).n, .int .i64 (turnY x lsn prev).lsn, .int .i64 (turnY x lsn prev).prev, .int .i64 (turnY x lsn prev).page, .int .i64 (turnY x lsn prev).slot, .bool (turnY x lsn prev).wu, .string (turnY x lsn prev).wd, .bool (turnY x lsn prev).iu, .string (turnY x lsn prev).id, .int .i64 (turnY x lsn prev).next] := hY
      obtain ⟨c0, c1, c2, c3, c4, c5, c6, c7, c8, c9, c10, c11, c12⟩ := ent_cells hcx
      clear hcx
      simp only [turnY] at c0 c1 c2 c3 c4 c5 c6 c7 c8 c9 c10 c11 c12
      go_wp2_with fail
      have hgd := Ent.rgood_any (turnY x lsn prev) W2 HX2.out
      rw [HY.out] at hgd
      refine hgd.mono ?_
      clear hgd
      rintro e w3 ⟨rfl, b3⟩
      have H3 := H2.next b3
      have hY3 := hY.below b3 hyz
      clear c0 c1 c2 c3 c4 c5 c6 c7 c8 c9 c10 c11 c12
      obtain ⟨z0, z1, z2, z3, z4, z5, z6, z7, z8, z9, z10, z11, z12⟩ := ent_cells H3.r
      simp only [noE] at z0 z1 z2 z3 z4 z5 z6 z7 z8 z9 z10 z11 z12
      obtain ⟨f0, f1, f2, f3, f4, f5, f6, f7, f8, f9, f10, f11, f12⟩ := Ent.ent_frozen H3.r
      go_wp2
      refine bodyPost_ret (v := .tuple #[.agg #[.int .i64 0, .int .i64 0, .int .i64 0, .int .i64 0, .int .i64 0, .int .i64 0, .int .i64 0, .int .i64 0, .bool false, .string ⟨#[]⟩, .bool false, .string ⟨#[]⟩, .int .i64 0], .int .i64 1]) (by simp [results, Try.results26, go_sem, z0, z1, z2, z3, z4, z5, z6, z7, z8, z9, z10, z11, z12]) rfl ?_
      exact ⟨by rw [HB.out.1, HB.out.2]; rfl, Ent.below13 H3.b (by omega) _ _ _ _ _ _ _ _ _ _ _ _ _⟩
    | true =>
      have HB := Lib.hid (turn_ok (lsn := lsn) (prev := prev) (show turnB x lsn prev = true by unfold turnB; rw [hy, HE.out, decide_eq_true HK.out]; rfl))
      have HY := Lib.hid hy
      clear hy
      go_enter Try.func26, Try.ntmps26
      go_upto_region 1 with (fail)
      generalize hGen : (w.alloc (.cells #[.int .i64 x.kind, .int .i64 x.cl, .int .i64 x.ep, .int .i64 x.n, .int .i64 x.lsn, .int .i64 x.prev, .int .i64 x.page, .int .i64 x.slot, .bool x.wu, .string x.wd, .bool x.iu, .string x.id, .int .i64 x.next] 45)).alloc (.cells #[.int .i64 0, .int .i64 0, .int .i64 0, .int .i64 0, .int .i64 0, .int .i64 0, .int .i64 0, .int .i64 0, .bool false, .string ⟨#[]⟩, .bool false, .string ⟨#[]⟩, .int .i64 0] 45) = W at H0 ⊢
      clear hGen
      have hw : w.heap.size ≤ w.heap.size + 1 := by omega
      obtain ⟨c0, c1, c2, c3, c4, c5, c6, c7, c8, c9, c10, c11, c12⟩ := ent_cells H0.x
      go_wp2_with fail
      refine (Ent.rgood_any x _ HX.out).mono ?_
      rw [HE.out]
      rintro e w1 ⟨rfl, b1⟩
      have H1 := H0.next b1
      clear c0 c1 c2 c3 c4 c5 c6 c7 c8 c9 c10 c11 c12
      obtain ⟨c0, c1, c2, c3, c4, c5, c6, c7, c8, c9, c10, c11, c12⟩ := ent_cells H1.x
      go_upto_region 4 with (fail)
      have H2 := H1.next (below_box w1 (.cells #[.int .i64 2, .int .i64 x.cl, .int .i64 x.ep, .int .i64 x.n, .int .i64 lsn, .int .i64 prev, .int .i64 x.page, .int .i64 x.slot, .bool x.iu, .string x.id, .bool x.wu, .string x.wd, .int .i64 x.prev] 45))
      have hY := Blk.new w1 45 #[.int .i64 2, .int .i64 x.cl, .int .i64 x.ep, .int .i64 x.n, .int .i64 lsn, .int .i64 prev, .int .i64 x.page, .int .i64 x.slot, .bool x.iu, .string x.id, .bool x.wu, .string x.wd, .int .i64 x.prev]
      have hyz := alloc_lt w1 (.cells #[.int .i64 2, .int .i64 x.cl, .int .i64 x.ep, .int .i64 x.n, .int .i64 lsn, .int .i64 prev, .int .i64 x.page, .int .i64 x.slot, .bool x.iu, .string x.id, .bool x.wu, .string x.wd, .int .i64 x.prev] 45)
      have hz1 := H1.z
      generalize hGen : w1.alloc (.cells #[.int .i64 2, .int .i64 x.cl, .int .i64 x.ep, .int .i64 x.n, .int .i64 lsn, .int .i64 prev, .int .i64 x.page, .int .i64 x.slot, .bool x.iu, .string x.id, .bool x.wu, .string x.wd, .int .i64 x.prev] 45) = W2 at H2 hY hyz ⊢
      clear hGen
      generalize hGen : w1.heap.size = gy at hY hyz hz1 ⊢
      clear hGen
      clear c0 c1 c2 c3 c4 c5 c6 c7 c8 c9 c10 c11 c12
      have hcx : Blk W2 gy 45 #[.int .i64 (turnY x lsn prev).kind, .int .i64 (turnY x lsn prev).cl, .int .i64 (turnY x lsn prev).ep, .int .i64 (turnY x lsn prev).n, .int .i64 (turnY x lsn prev).lsn, .int .i64 (turnY x lsn prev).prev, .int .i64 (turnY x lsn prev).page, .int .i64 (turnY x lsn prev).slot, .bool (turnY x lsn prev).wu, .string (turnY x lsn prev).wd, .bool (turnY x lsn prev).iu, .string (turnY x lsn prev).id, .int .i64 (turnY x lsn prev).next] := hY
      obtain ⟨c0, c1, c2, c3, c4, c5, c6, c7, c8, c9, c10, c11, c12⟩ := ent_cells hcx
      clear hcx
      simp only [turnY] at c0 c1 c2 c3 c4 c5 c6 c7 c8 c9 c10 c11 c12
      go_wp2_with fail
      have hgd := Ent.rgood_any (turnY x lsn prev) W2 HX2.out
      rw [HY.out] at hgd
      refine hgd.mono ?_
      clear hgd
      rintro e w3 ⟨rfl, b3⟩
      have H3 := H2.next b3
      have hY3 := hY.below b3 hyz
      clear c0 c1 c2 c3 c4 c5 c6 c7 c8 c9 c10 c11 c12
      have hcx : Blk w3 gy 45 #[.int .i64 (turnY x lsn prev).kind, .int .i64 (turnY x lsn prev).cl, .int .i64 (turnY x lsn prev).ep, .int .i64 (turnY x lsn prev).n, .int .i64 (turnY x lsn prev).lsn, .int .i64 (turnY x lsn prev).prev, .int .i64 (turnY x lsn prev).page, .int .i64 (turnY x lsn prev).slot, .bool (turnY x lsn prev).wu, .string (turnY x lsn prev).wd, .bool (turnY x lsn prev).iu, .string (turnY x lsn prev).id, .int .i64 (turnY x lsn prev).next] := hY3
      obtain ⟨c0, c1, c2, c3, c4, c5, c6, c7, c8, c9, c10, c11, c12⟩ := ent_cells hcx
      clear hcx
      simp only [turnY] at c0 c1 c2 c3 c4 c5 c6 c7 c8 c9 c10 c11 c12
      obtain ⟨z0, z1, z2, z3, z4, z5, z6, z7, z8, z9, z10, z11, z12⟩ := ent_cells H3.r
      simp only [noE] at z0 z1 z2 z3 z4 z5 z6 z7 z8 z9 z10 z11 z12
      obtain ⟨f0, f1, f2, f3, f4, f5, f6, f7, f8, f9, f10, f11, f12⟩ := Ent.ent_frozen H3.r
      have hne : ¬ w.heap.size + 1 = gy := by omega
      go_wp2
      refine bodyPost_ret (v := .tuple #[.agg #[.int .i64 2, .int .i64 x.cl, .int .i64 x.ep, .int .i64 x.n, .int .i64 lsn, .int .i64 prev, .int .i64 x.page, .int .i64 x.slot, .bool x.iu, .string x.id, .bool x.wu, .string x.wd, .int .i64 x.prev], .int .i64 0]) (by simp [results, Try.results26, go_sem, z0, z1, z2, z3, z4, z5, z6, z7, z8, z9, z10, z11, z12]) rfl ?_
      exact ⟨by rw [HB.out.1, HB.out.2]; rfl, Ent.below13 H3.b (by omega) _ _ _ _ _ _ _ _ _ _ _ _ _⟩
end Go.Proofs.Ytmmeemffiibndaa.Patch
