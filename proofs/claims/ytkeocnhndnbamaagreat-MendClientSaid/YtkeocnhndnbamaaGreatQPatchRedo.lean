/- The walks of patch.changes, another, Redo. -/
import Derived.Test.YtkeocnhndnbamaaGreatQBook7
import Derived.Test.YtkeocnhndnbamaaGreatQBook2
import Derived.Test.YtkeocnhndnbamaaGreatQBook15
import Derived.Test.YtkeocnhndnbamaaGreatQBook4
import Derived.RegionCalls
import Derived.Deep.RegionWith
namespace Go.Proofs.YtkeocnhndnbamaaGreat.Patch
set_option maxRecDepth 100000
open Go.RowKit Go.Sort
open Go.Proofs.YtkeocnhndnbamaaGreat.Slab (Slot nos atL putN putZ putL putCode sameB Blk Slots PageRes SlotsRes page_cells ret_bool' run_ne_slot run_guard_slot)
open Go.Proofs.YtkeocnhndnbamaaGreat.Ent (Ent noE longB SmallE Small ent_cells alloc_lt below_box)
open Go.Proofs.YtkeocnhndnbamaaGreat.Nib (below_next below_drew)

set_option maxRecDepth 100000 in
set_option maxHeartbeats 800000 in
theorem changes_any (x : Ent) (w : World) :
    Calls Tryz.prog 61 #[.agg #[.int .i64 x.kind, .int .i64 x.cl, .int .i64 x.ep, .int .i64 x.n, .int .i64 x.lsn, .int .i64 x.prev, .int .i64 x.page, .int .i64 x.slot, .bool x.wu, .string x.wd, .bool x.iu, .string x.id, .int .i64 x.next]] w fun e w' => e = .returned (.bool (longB x.kind)) ∧ Below w.heap.size w w' := by
  have hb := below_box w (.cells #[.int .i64 x.kind, .int .i64 x.cl, .int .i64 x.ep, .int .i64 x.n, .int .i64 x.lsn, .int .i64 x.prev, .int .i64 x.page, .int .i64 x.slot, .bool x.wu, .string x.wd, .bool x.iu, .string x.id, .int .i64 x.next] 58)
  have hB := Blk.new w 58 #[.int .i64 x.kind, .int .i64 x.cl, .int .i64 x.ep, .int .i64 x.n, .int .i64 x.lsn, .int .i64 x.prev, .int .i64 x.page, .int .i64 x.slot, .bool x.wu, .string x.wd, .bool x.iu, .string x.id, .int .i64 x.next]
  by_cases h1 : x.kind = 1
  · have H := Lib.hid (show longB x.kind = true from decide_eq_true (.inl h1))
    have t1 : (x.kind == 1) = true := by simp [h1]
    clear h1
    go_enter Tryz.func61, Tryz.ntmps61
    go_upto_region 1 with (fail)
    generalize hGen : w.alloc (.cells #[.int .i64 x.kind, .int .i64 x.cl, .int .i64 x.ep, .int .i64 x.n, .int .i64 x.lsn, .int .i64 x.prev, .int .i64 x.page, .int .i64 x.slot, .bool x.wu, .string x.wd, .bool x.iu, .string x.id, .int .i64 x.next] 58) = W at hb hB ⊢
    clear hGen
    obtain ⟨c0, c1, c2, c3, c4, c5, c6, c7, c8, c9, c10, c11, c12⟩ := ent_cells hB
    go_wp2
    go_ret
    exact ⟨ret_bool' H.out.symm, hb⟩
  · have t1 : (x.kind == 1) = false := by simp [h1]
    by_cases h2 : x.kind = 2
    · have H := Lib.hid (show longB x.kind = true from decide_eq_true (.inr h2))
      have t2 : (x.kind == 2) = true := by simp [h2]
      clear h1 h2
      go_enter Tryz.func61, Tryz.ntmps61
      go_upto_region 1 with (fail)
      generalize hGen : w.alloc (.cells #[.int .i64 x.kind, .int .i64 x.cl, .int .i64 x.ep, .int .i64 x.n, .int .i64 x.lsn, .int .i64 x.prev, .int .i64 x.page, .int .i64 x.slot, .bool x.wu, .string x.wd, .bool x.iu, .string x.id, .int .i64 x.next] 58) = W at hb hB ⊢
      clear hGen
      obtain ⟨c0, c1, c2, c3, c4, c5, c6, c7, c8, c9, c10, c11, c12⟩ := ent_cells hB
      go_wp2
      go_ret
      exact ⟨ret_bool' H.out.symm, hb⟩
    · have H := Lib.hid (show longB x.kind = false from decide_eq_false (by omega))
      have t2 : (x.kind == 2) = false := by simp [h2]
      clear h1 h2
      go_enter Tryz.func61, Tryz.ntmps61
      go_upto_region 1 with (fail)
      generalize hGen : w.alloc (.cells #[.int .i64 x.kind, .int .i64 x.cl, .int .i64 x.ep, .int .i64 x.n, .int .i64 x.lsn, .int .i64 x.prev, .int .i64 x.page, .int .i64 x.slot, .bool x.wu, .string x.wd, .bool x.iu, .string x.id, .int .i64 x.next] 58) = W at hb hB ⊢
      clear hGen
      obtain ⟨c0, c1, c2, c3, c4, c5, c6, c7, c8, c9, c10, c11, c12⟩ := ent_cells hB
      go_wp2
      go_ret
      exact ⟨ret_bool' H.out.symm, hb⟩

/-- a page handed back in new memory -/
def OnePage (L : Int) (Z : List Slot) (w : World) (e : Ending) (w' : World) : Prop :=
  ∃ a n c, e = .returned (.agg #[.int .i64 L, .slice a n c]) ∧ Slots w' a n Z ∧ Below w.heap.size w w' ∧ ∀ b off e, a = some ⟨b, off, e⟩ → w.heap.size ≤ b
set_option maxRecDepth 100000 in
set_option maxHeartbeats 1000000 in
theorem another_any (lsn : Int) (a : Option Addr) (n c : Nat) (zs : List Slot) (w : World) (h : Slots w a n zs) (hn : n ≤ 1000000) :
    Calls Tryz.prog 62 #[.agg #[.int .i64 lsn, .slice a n c]] w (OnePage lsn zs w) := by
  have hb : Below w.heap.size w ((w.alloc (.cells #[.int .i64 lsn, .slice a n c] 52)).alloc (.cells #[.int .i64 0, .slice none 0 0] 52)) := ((Below.refl _ _).alloc (Nat.le_refl _) _).alloc (by simp) _
  have hP := (Blk.new w 52 #[.int .i64 lsn, .slice a n c]).alloc (.cells #[.int .i64 0, .slice none 0 0] 52)
  have hR := Blk.new (w.alloc (.cells #[.int .i64 lsn, .slice a n c] 52)) 52 #[.int .i64 0, .slice none 0 0]
  have hz : w.heap.size + 1 < ((w.alloc (.cells #[.int .i64 lsn, .slice a n c] 52)).alloc (.cells #[.int .i64 0, .slice none 0 0] 52)).heap.size := by simp
  rw [World.size_alloc] at hR
  have HS := Lib.hid (h.below hb)
  clear h
  go_enter Tryz.func62, Tryz.ntmps62
  go_upto_region 1 with (fail)
  generalize hGen : (w.alloc (.cells #[.int .i64 lsn, .slice a n c] 52)).alloc (.cells #[.int .i64 0, .slice none 0 0] 52) = W at hb hP hR hz HS ⊢
  clear hGen
  have p0 := hP.cell 0
  have p1 := hP.cell 1
  go_region_with (first
    | (go_at_call 46
       (with_reducible refine (Slab.clone_any a n c zs _ ?_ hn).mono ?_)
       · exact HS.out
       rintro e w2 ⟨a2, c2, rfl, s2, b2, f2⟩
       have b2' : Below W.heap.size W w2 := ⟨b2.os, b2.tape, b2.output, b2.size, b2.block⟩
       have hP2 := hP.below b2' (by omega)
       have hR2 := hR.below b2' hz
       have p02 := hP2.cell 0
       have q0 := hR2.cell 0
       have q1 := hR2.cell 1
       have g0 := hR2.frozen 0
       have g1 := hR2.frozen 1))
  all_goals
    go_wp2
    exact bodyPost_ret (v := .agg #[.int .i64 lsn, .slice a2 n c2]) (by simp [results, Tryz.results62, go_sem, q0, q1]) rfl ⟨a2, n, c2, rfl, (s2.setCell _ (fun b off e _ => by have h1 := f2 _ _ _ e; simp at h1; omega)).setCell _ (fun b off e _ => by have h1 := f2 _ _ _ e; simp at h1; omega), ((below_next hb b2').setCell (p := ⟨w.heap.size + 1, 0, none⟩) (by simp) _).setCell (p := ⟨w.heap.size + 1, 1, none⟩) (by simp) _, fun b off e h => by have h1 := f2 _ _ _ h; simp at h1; omega⟩

/-- the world behind Redo's boxes -/
structure RAt (w W : World) (lsn : Int) (a : Option Addr) (n c : Nat) (zs : List Slot) (x : Ent) : Prop where
  p : Blk W w.heap.size 52 #[.int .i64 lsn, .slice a n c]
  x : Blk W (w.heap.size + 1) 58 #[.int .i64 x.kind, .int .i64 x.cl, .int .i64 x.ep, .int .i64 x.n, .int .i64 x.lsn, .int .i64 x.prev, .int .i64 x.page, .int .i64 x.slot, .bool x.wu, .string x.wd, .bool x.iu, .string x.id, .int .i64 x.next]
  r : Blk W (w.heap.size + 2) 52 #[.int .i64 0, .slice none 0 0]
  b : Below w.heap.size w W
  z : w.heap.size + 2 < W.heap.size
  o : Slots w a n zs
theorem RAt.s {w W : World} {lsn : Int} {a : Option Addr} {n c : Nat} {zs : List Slot} {x : Ent} (h : RAt w W lsn a n c zs x) : Slots W a n zs := h.o.below h.b
theorem RAt.next {w W W' : World} {lsn : Int} {a : Option Addr} {n c : Nat} {zs : List Slot} {x : Ent} (h : RAt w W lsn a n c zs x) (hb : Below W.heap.size W W') : RAt w W' lsn a n c zs x := by
  have hz := h.z
  exact ⟨h.p.below hb (by omega), h.x.below hb (by omega), h.r.below hb hz, below_next h.b hb, Nat.lt_of_lt_of_le hz hb.size, h.o⟩
theorem r_at (w : World) (lsn : Int) (a : Option Addr) (n c : Nat) (zs : List Slot) (x : Ent) (h : Slots w a n zs) : RAt w (((w.alloc (.cells #[.int .i64 lsn, .slice a n c] 52)).alloc (.cells #[.int .i64 x.kind, .int .i64 x.cl, .int .i64 x.ep, .int .i64 x.n, .int .i64 x.lsn, .int .i64 x.prev, .int .i64 x.page, .int .i64 x.slot, .bool x.wu, .string x.wd, .bool x.iu, .string x.id, .int .i64 x.next] 58)).alloc (.cells #[.int .i64 0, .slice none 0 0] 52)) lsn a n c zs x := by
  refine ⟨((Blk.new w _ _).alloc _).alloc _, ?_, ?_, (((Below.refl _ _).alloc (Nat.le_refl _) _).alloc (by simp) _).alloc (by simp; omega) _, by simp, h⟩
  · have := (Blk.new (w.alloc (.cells #[.int .i64 lsn, .slice a n c] 52)) 58 #[.int .i64 x.kind, .int .i64 x.cl, .int .i64 x.ep, .int .i64 x.n, .int .i64 x.lsn, .int .i64 x.prev, .int .i64 x.page, .int .i64 x.slot, .bool x.wu, .string x.wd, .bool x.iu, .string x.id, .int .i64 x.next]).alloc (.cells #[.int .i64 0, .slice none 0 0] 52)
    rwa [World.size_alloc] at this
  · have := Blk.new ((w.alloc (.cells #[.int .i64 lsn, .slice a n c] 52)).alloc (.cells #[.int .i64 x.kind, .int .i64 x.cl, .int .i64 x.ep, .int .i64 x.n, .int .i64 x.lsn, .int .i64 x.prev, .int .i64 x.page, .int .i64 x.slot, .bool x.wu, .string x.wd, .bool x.iu, .string x.id, .int .i64 x.next] 58)) 52 #[.int .i64 0, .slice none 0 0]
    rw [World.size_alloc, World.size_alloc] at this; exact this

/-- a page, whether it was changed, an error's number: the slots in new memory, or those that came in -/
def RedoRes (ain : Option Addr) (L : Int) (Z : List Slot) (D : Bool) (code : Int) (w : World) (e : Ending) (w' : World) : Prop :=
  ∃ a n c, e = .returned (.tuple #[.agg #[.int .i64 L, .slice a n c], .bool D, .int .i64 code]) ∧ Slots w' a n Z ∧ Below w.heap.size w w' ∧ (a = ain ∨ ∀ b off e, a = some ⟨b, off, e⟩ → w.heap.size ≤ b)
theorem redo_bad {ain : Option Addr} {w w' : World} {lsn : Int} {l : List Slot} {x : Ent} {code : Int} (h : redoCode lsn l x = code) (hc : code ≠ 0) (hb : Below w.heap.size w w') :
    RedoRes ain (redoN lsn l x) (redoZ lsn l x) (redoD lsn l x) (redoCode lsn l x) w (.returned (.tuple #[.agg #[.int .i64 0, .slice none 0 0], .bool false, .int .i64 code])) w' := by
  obtain ⟨h1, h2, h3⟩ := redo_err (by rw [h]; exact hc)
  rw [h1, h2, h3, h]
  exact ⟨none, 0, 0, rfl, Slots.nil _ _, hb, .inr fun _ _ _ h => by cases h⟩
set_option maxRecDepth 100000 in
set_option maxHeartbeats 8000000 in
theorem redo_any (lsn : Int) (a : Option Addr) (n c : Nat) (zs : List Slot) (x : Ent) (w : World) (h : Slots w a n zs) (hn : n ≤ 1000000) (hx : SmallE x) :
    Calls Tryz.prog 36 #[.agg #[.int .i64 lsn, .slice a n c], .agg #[.int .i64 x.kind, .int .i64 x.cl, .int .i64 x.ep, .int .i64 x.n, .int .i64 x.lsn, .int .i64 x.prev, .int .i64 x.page, .int .i64 x.slot, .bool x.wu, .string x.wd, .bool x.iu, .string x.id, .int .i64 x.next]] w (RedoRes none (redoN lsn zs x) (redoZ lsn zs x) (redoD lsn zs x) (redoCode lsn zs x) w) := by
  have H0 := r_at w lsn a n c zs x h
  have HX := Lib.hid (show Small x from hx)
  clear h hx
  cases hg : Slab.goodB lsn zs with
  | false =>
    have HC := Lib.hid (redo_arg (x := x) (.inl hg))
    have HG := Lib.hid hg
    clear hg
    go_enter Tryz.func36, Tryz.ntmps36
    go_wp2_with fail
    generalize hGen : ((w.alloc (.cells #[.int .i64 lsn, .slice a n c] 52)).alloc (.cells #[.int .i64 x.kind, .int .i64 x.cl, .int .i64 x.ep, .int .i64 x.n, .int .i64 x.lsn, .int .i64 x.prev, .int .i64 x.page, .int .i64 x.slot, .bool x.wu, .string x.wd, .bool x.iu, .string x.id, .int .i64 x.next] 58)).alloc (.cells #[.int .i64 0, .slice none 0 0] 52) = W at H0 ⊢
    clear hGen
    refine (Slab.good_any lsn a n c zs _ H0.s (by omega)).mono ?_
    rw [HG.out]
    rintro e w1 ⟨rfl, b1⟩
    have H1 := H0.next b1
    have q0 := H1.r.cell 0
    have q1 := H1.r.cell 1
    have f0 := H1.r.frozen 0
    have f1 := H1.r.frozen 1
    go_wp2
    exact bodyPost_ret (v := .tuple #[.agg #[.int .i64 0, .slice none 0 0], .bool false, .int .i64 1]) (by simp [results, Tryz.results36, go_sem, q0, q1]) rfl (redo_bad HC.out (by decide) ((H1.b.setCell (p := ⟨w.heap.size + 2, 0, none⟩) (by simp) _).setCell (p := ⟨w.heap.size + 2, 1, none⟩) (by simp) _))
  | true =>
    have hn32 : n ≤ 32 := by have := H0.o.len; simp [Slab.goodB] at hg; omega
    have HG := Lib.hid hg
    cases hk : longB x.kind with
    | false =>
      have HC := Lib.hid (redo_arg (lsn := lsn) (l := zs) (x := x) (.inr (.inl hk)))
      have HK := Lib.hid hk
      clear hg hk
      go_enter Tryz.func36, Tryz.ntmps36
      go_wp2_with fail
      generalize hGen : ((w.alloc (.cells #[.int .i64 lsn, .slice a n c] 52)).alloc (.cells #[.int .i64 x.kind, .int .i64 x.cl, .int .i64 x.ep, .int .i64 x.n, .int .i64 x.lsn, .int .i64 x.prev, .int .i64 x.page, .int .i64 x.slot, .bool x.wu, .string x.wd, .bool x.iu, .string x.id, .int .i64 x.next] 58)).alloc (.cells #[.int .i64 0, .slice none 0 0] 52) = W at H0 ⊢
      clear hGen
      refine (Slab.good_any lsn a n c zs _ H0.s (by omega)).mono ?_
      rw [HG.out]
      rintro e w1 ⟨rfl, b1⟩
      have H1 := H0.next b1
      obtain ⟨c0, c1, c2, c3, c4, c5, c6, c7, c8, c9, c10, c11, c12⟩ := ent_cells H1.x
      go_wp2_with fail
      refine (changes_any x _).mono ?_
      rw [HK.out]
      rintro e w2 ⟨rfl, b2⟩
      have H2 := H1.next b2
      clear c0 c1 c2 c3 c4 c5 c6 c7 c8 c9 c10 c11 c12
      obtain ⟨c0, c1, c2, c3, c4, c5, c6, c7, c8, c9, c10, c11, c12⟩ := ent_cells H2.x
      clear c0 c1 c2 c3 c4 c5 c6 c7 c8 c9 c10 c11 c12
      have q0 := H2.r.cell 0
      have q1 := H2.r.cell 1
      have f0 := H2.r.frozen 0
      have f1 := H2.r.frozen 1
      go_wp2
      exact bodyPost_ret (v := .tuple #[.agg #[.int .i64 0, .slice none 0 0], .bool false, .int .i64 1]) (by simp [results, Tryz.results36, go_sem, q0, q1]) rfl (redo_bad HC.out (by decide) ((H2.b.setCell (p := ⟨w.heap.size + 2, 0, none⟩) (by simp) _).setCell (p := ⟨w.heap.size + 2, 1, none⟩) (by simp) _))
    | true =>
      have HK := Lib.hid hk
      cases he : Ent.goodB x with
      | false =>
        have HC := Lib.hid (redo_arg (lsn := lsn) (l := zs) (x := x) (.inr (.inr he)))
        have HE := Lib.hid he
        clear hg hk he
        go_enter Tryz.func36, Tryz.ntmps36
        go_wp2_with fail
        generalize hGen : ((w.alloc (.cells #[.int .i64 lsn, .slice a n c] 52)).alloc (.cells #[.int .i64 x.kind, .int .i64 x.cl, .int .i64 x.ep, .int .i64 x.n, .int .i64 x.lsn, .int .i64 x.prev, .int .i64 x.page, .int .i64 x.slot, .bool x.wu, .string x.wd, .bool x.iu, .string x.id, .int .i64 x.next] 58)).alloc (.cells #[.int .i64 0, .slice none 0 0] 52) = W at H0 ⊢
        clear hGen
        refine (Slab.good_any lsn a n c zs _ H0.s (by omega)).mono ?_
        rw [HG.out]
        rintro e w1 ⟨rfl, b1⟩
        have H1 := H0.next b1
        obtain ⟨c0, c1, c2, c3, c4, c5, c6, c7, c8, c9, c10, c11, c12⟩ := ent_cells H1.x
        go_wp2_with fail
        refine (changes_any x _).mono ?_
        rw [HK.out]
        rintro e w2 ⟨rfl, b2⟩
        have H2 := H1.next b2
        clear c0 c1 c2 c3 c4 c5 c6 c7 c8 c9 c10 c11 c12
        obtain ⟨c0, c1, c2, c3, c4, c5, c6, c7, c8, c9, c10, c11, c12⟩ := ent_cells H2.x
        go_wp2_with fail
        refine (Ent.good_any x _ HX.out).mono ?_
        rw [HE.out]
        rintro e w3 ⟨rfl, b3⟩
        have H3 := H2.next b3
        clear c0 c1 c2 c3 c4 c5 c6 c7 c8 c9 c10 c11 c12
        have q0 := H3.r.cell 0
        have q1 := H3.r.cell 1
        have f0 := H3.r.frozen 0
        have f1 := H3.r.frozen 1
        go_wp2
        exact bodyPost_ret (v := .tuple #[.agg #[.int .i64 0, .slice none 0 0], .bool false, .int .i64 1]) (by simp [results, Tryz.results36, go_sem, q0, q1]) rfl (redo_bad HC.out (by decide) ((H3.b.setCell (p := ⟨w.heap.size + 2, 0, none⟩) (by simp) _).setCell (p := ⟨w.heap.size + 2, 1, none⟩) (by simp) _))
      | true =>
        have HE := Lib.hid he
        clear hg hk he
        by_cases hl : x.lsn ≤ lsn
        · have HR := Lib.hid (redo_old HG.out HK.out HE.out hl)
          go_enter Tryz.func36, Tryz.ntmps36
          go_wp2_with fail
          generalize hGen : ((w.alloc (.cells #[.int .i64 lsn, .slice a n c] 52)).alloc (.cells #[.int .i64 x.kind, .int .i64 x.cl, .int .i64 x.ep, .int .i64 x.n, .int .i64 x.lsn, .int .i64 x.prev, .int .i64 x.page, .int .i64 x.slot, .bool x.wu, .string x.wd, .bool x.iu, .string x.id, .int .i64 x.next] 58)).alloc (.cells #[.int .i64 0, .slice none 0 0] 52) = W at H0 ⊢
          clear hGen
          refine (Slab.good_any lsn a n c zs _ H0.s (by omega)).mono ?_
          rw [HG.out]
          rintro e w1 ⟨rfl, b1⟩
          have H1 := H0.next b1
          obtain ⟨c0, c1, c2, c3, c4, c5, c6, c7, c8, c9, c10, c11, c12⟩ := ent_cells H1.x
          go_wp2_with fail
          refine (changes_any x _).mono ?_
          rw [HK.out]
          rintro e w2 ⟨rfl, b2⟩
          have H2 := H1.next b2
          clear c0 c1 c2 c3 c4 c5 c6 c7 c8 c9 c10 c11 c12
          obtain ⟨c0, c1, c2, c3, c4, c5, c6, c7, c8, c9, c10, c11, c12⟩ := ent_cells H2.x
          go_wp2_with fail
          refine (Ent.good_any x _ HX.out).mono ?_
          rw [HE.out]
          rintro e w3 ⟨rfl, b3⟩
          have H3 := H2.next b3
          clear c0 c1 c2 c3 c4 c5 c6 c7 c8 c9 c10 c11 c12
          have p0 := H3.p.cell 0
          have p1 := H3.p.cell 1
          obtain ⟨c0, c1, c2, c3, c4, c5, c6, c7, c8, c9, c10, c11, c12⟩ := ent_cells H3.x
          go_wp2_with fail
          refine (another_any lsn a n c zs _ H3.s (by omega)).mono ?_
          rintro e w4 ⟨a4, n4, cc4, rfl, s4, b4, g4⟩
          have H4 := H3.next b4
          have hz3 := H3.z
          have q0 := H4.r.cell 0
          have q1 := H4.r.cell 1
          have f0 := H4.r.frozen 0
          have f1 := H4.r.frozen 1
          clear p0 p1 c0 c1 c2 c3 c4 c5 c6 c7 c8 c9 c10 c11 c12
          go_wp2
          exact bodyPost_ret (v := .tuple #[.agg #[.int .i64 lsn, .slice a4 n4 cc4], .bool false, .int .i64 0]) (by simp [results, Tryz.results36, go_sem, q0, q1]) rfl (by
            obtain ⟨e0, e1, e2, e3⟩ := HR.out
            rw [e0, e1, e2, e3]
            exact ⟨a4, n4, cc4, rfl, (s4.setCell _ (fun b off e _ => by have h1 := g4 _ _ _ e; omega)).setCell _ (fun b off e _ => by have h1 := g4 _ _ _ e; omega), (H4.b.setCell (p := ⟨w.heap.size + 2, 0, none⟩) (by simp) _).setCell (p := ⟨w.heap.size + 2, 1, none⟩) (by simp) _, .inr fun b off e h => by have h1 := g4 _ _ _ h; omega⟩)
        · have HL := Lib.hid hl
          cases hs : sameB (atL lsn zs x.slot) ⟨x.wu, x.wd⟩ with
          | false =>
            have HC := Lib.hid (redo_slot HG.out HK.out HE.out hl hs)
            have HS := Lib.hid hs
            clear hs
            go_enter Tryz.func36, Tryz.ntmps36
            go_wp2_with fail
            generalize hGen : ((w.alloc (.cells #[.int .i64 lsn, .slice a n c] 52)).alloc (.cells #[.int .i64 x.kind, .int .i64 x.cl, .int .i64 x.ep, .int .i64 x.n, .int .i64 x.lsn, .int .i64 x.prev, .int .i64 x.page, .int .i64 x.slot, .bool x.wu, .string x.wd, .bool x.iu, .string x.id, .int .i64 x.next] 58)).alloc (.cells #[.int .i64 0, .slice none 0 0] 52) = W at H0 ⊢
            clear hGen
            refine (Slab.good_any lsn a n c zs _ H0.s (by omega)).mono ?_
            rw [HG.out]
            rintro e w1 ⟨rfl, b1⟩
            have H1 := H0.next b1
            obtain ⟨c0, c1, c2, c3, c4, c5, c6, c7, c8, c9, c10, c11, c12⟩ := ent_cells H1.x
            go_wp2_with fail
            refine (changes_any x _).mono ?_
            rw [HK.out]
            rintro e w2 ⟨rfl, b2⟩
            have H2 := H1.next b2
            clear c0 c1 c2 c3 c4 c5 c6 c7 c8 c9 c10 c11 c12
            obtain ⟨c0, c1, c2, c3, c4, c5, c6, c7, c8, c9, c10, c11, c12⟩ := ent_cells H2.x
            go_wp2_with fail
            refine (Ent.good_any x _ HX.out).mono ?_
            rw [HE.out]
            rintro e w3 ⟨rfl, b3⟩
            have H3 := H2.next b3
            clear c0 c1 c2 c3 c4 c5 c6 c7 c8 c9 c10 c11 c12
            have p0 := H3.p.cell 0
            have p1 := H3.p.cell 1
            obtain ⟨c0, c1, c2, c3, c4, c5, c6, c7, c8, c9, c10, c11, c12⟩ := ent_cells H3.x
            go_upto_region 5 with (fail)
            obtain ⟨xu, xd, hxx⟩ : ∃ xu xd, atL lsn zs x.slot = ⟨xu, xd⟩ := ⟨_, _, rfl⟩
            have hc1 : ∀ W, Below w3.heap.size w3 W → Calls Tryz.prog 16 #[.agg #[.int .i64 lsn, .slice a n c], .int .i64 x.slot] W fun e w' => e = .returned (.agg #[.bool xu, .string xd]) ∧ Below W.heap.size W w' := fun W hW => by
              have := Slab.at_any lsn a n c zs x.slot W ((H3.next hW).s) (by omega)
              rw [hxx] at this
              exact this
            have cQ1 : ∀ dd os, Calls Tryz.prog 16 #[.agg #[.int .i64 lsn, .slice a n c], .int .i64 x.slot] (grow (redrawn w3 dd) os) fun e w'' => e = .returned (.agg #[.bool xu, .string xd]) ∧ ∃ p : Regrown, w'' = grow (redrawn w3 p.d) p.os := fun dd os => Calls.regrown_of (hc1 _ (below_regrown w3 dd os))
            have kP0 := cell_regrown p0
            have kP1 := cell_regrown p1
            have k5 := cell_regrown c7
            have k6 := cell_regrown c8
            have k7 := cell_regrown c9
            have he := run_ne_slot xu x.wu xd x.wd
            rw [show sameB ⟨xu, xd⟩ ⟨x.wu, x.wd⟩ = false by rw [← hxx]; exact HS.out] at he
            have hgd := run_guard_slot
            clear hxx
            refine wp_region_quiet_below (by kernel_rfl) (by kernel_rfl) ?_
            repeat (go_big_quiet_step (exact cQ1 _ _))
            refine wpQuiet_nil ?_
            intro _ hw'
            obtain ⟨⟨dq, osq⟩, hw''⟩ := hw'
            subst hw''
            have b4 := below_regrown w3 dq osq
            generalize grow (redrawn w3 dq) osq = w4 at b4 ⊢
            clear cQ1 hc1 he hgd kP0 kP1 k5 k6 k7
            have H4 := H3.next b4
            clear p0 p1 c0 c1 c2 c3 c4 c5 c6 c7 c8 c9 c10 c11 c12
            have q0 := H4.r.cell 0
            have q1 := H4.r.cell 1
            have f0 := H4.r.frozen 0
            have f1 := H4.r.frozen 1
            go_wp2
            exact bodyPost_ret (v := .tuple #[.agg #[.int .i64 0, .slice none 0 0], .bool false, .int .i64 21]) (by simp [results, Tryz.results36, go_sem, q0, q1]) rfl (redo_bad HC.out (by decide) ((H4.b.setCell (p := ⟨w.heap.size + 2, 0, none⟩) (by simp) _).setCell (p := ⟨w.heap.size + 2, 1, none⟩) (by simp) _))
          | true =>
            have HP := Lib.hid (redo_put HG.out HK.out HE.out hl hs)
            have HS := Lib.hid hs
            clear hs
            go_enter Tryz.func36, Tryz.ntmps36
            go_wp2_with fail
            generalize hGen : ((w.alloc (.cells #[.int .i64 lsn, .slice a n c] 52)).alloc (.cells #[.int .i64 x.kind, .int .i64 x.cl, .int .i64 x.ep, .int .i64 x.n, .int .i64 x.lsn, .int .i64 x.prev, .int .i64 x.page, .int .i64 x.slot, .bool x.wu, .string x.wd, .bool x.iu, .string x.id, .int .i64 x.next] 58)).alloc (.cells #[.int .i64 0, .slice none 0 0] 52) = W at H0 ⊢
            clear hGen
            refine (Slab.good_any lsn a n c zs _ H0.s (by omega)).mono ?_
            rw [HG.out]
            rintro e w1 ⟨rfl, b1⟩
            have H1 := H0.next b1
            obtain ⟨c0, c1, c2, c3, c4, c5, c6, c7, c8, c9, c10, c11, c12⟩ := ent_cells H1.x
            go_wp2_with fail
            refine (changes_any x _).mono ?_
            rw [HK.out]
            rintro e w2 ⟨rfl, b2⟩
            have H2 := H1.next b2
            clear c0 c1 c2 c3 c4 c5 c6 c7 c8 c9 c10 c11 c12
            obtain ⟨c0, c1, c2, c3, c4, c5, c6, c7, c8, c9, c10, c11, c12⟩ := ent_cells H2.x
            go_wp2_with fail
            refine (Ent.good_any x _ HX.out).mono ?_
            rw [HE.out]
            rintro e w3 ⟨rfl, b3⟩
            have H3 := H2.next b3
            clear c0 c1 c2 c3 c4 c5 c6 c7 c8 c9 c10 c11 c12
            have p0 := H3.p.cell 0
            have p1 := H3.p.cell 1
            obtain ⟨c0, c1, c2, c3, c4, c5, c6, c7, c8, c9, c10, c11, c12⟩ := ent_cells H3.x
            go_upto_region 5 with (fail)
            obtain ⟨xu, xd, hxx⟩ : ∃ xu xd, atL lsn zs x.slot = ⟨xu, xd⟩ := ⟨_, _, rfl⟩
            have hc1 : ∀ W, Below w3.heap.size w3 W → Calls Tryz.prog 16 #[.agg #[.int .i64 lsn, .slice a n c], .int .i64 x.slot] W fun e w' => e = .returned (.agg #[.bool xu, .string xd]) ∧ Below W.heap.size W w' := fun W hW => by
              have := Slab.at_any lsn a n c zs x.slot W ((H3.next hW).s) (by omega)
              rw [hxx] at this
              exact this
            have cQ1 : ∀ dd os, Calls Tryz.prog 16 #[.agg #[.int .i64 lsn, .slice a n c], .int .i64 x.slot] (grow (redrawn w3 dd) os) fun e w'' => e = .returned (.agg #[.bool xu, .string xd]) ∧ ∃ p : Regrown, w'' = grow (redrawn w3 p.d) p.os := fun dd os => Calls.regrown_of (hc1 _ (below_regrown w3 dd os))
            have kP0 := cell_regrown p0
            have kP1 := cell_regrown p1
            have k5 := cell_regrown c7
            have k6 := cell_regrown c8
            have k7 := cell_regrown c9
            have he := run_ne_slot xu x.wu xd x.wd
            rw [show sameB ⟨xu, xd⟩ ⟨x.wu, x.wd⟩ = true by rw [← hxx]; exact HS.out] at he
            have hgd := run_guard_slot
            clear hxx
            refine wp_region_quiet_below (by kernel_rfl) (by kernel_rfl) ?_
            repeat (go_big_quiet_step (exact cQ1 _ _))
            refine wpQuiet_nil ?_
            intro _ hw'
            obtain ⟨⟨dq, osq⟩, hw''⟩ := hw'
            subst hw''
            have b4 := below_regrown w3 dq osq
            generalize grow (redrawn w3 dq) osq = w4 at b4 ⊢
            clear cQ1 hc1 he hgd kP0 kP1 k5 k6 k7
            have H4 := H3.next b4
            clear p0 p1 c0 c1 c2 c3 c4 c5 c6 c7 c8 c9 c10 c11 c12
            have p0 := H4.p.cell 0
            have p1 := H4.p.cell 1
            obtain ⟨c0, c1, c2, c3, c4, c5, c6, c7, c8, c9, c10, c11, c12⟩ := ent_cells H4.x
            go_wp2_with fail
            refine (Slab.put_any lsn a n c zs x.slot x.iu x.id _ H4.s (by omega) HX.out.2).mono ?_
            by_cases hc : putCode lsn zs x.slot ⟨x.iu, x.id⟩ = 0
            · have hN : putN lsn zs x.slot ⟨x.iu, x.id⟩ = lsn := by unfold putN; rw [if_pos hc]
              have hZ : putZ lsn zs x.slot ⟨x.iu, x.id⟩ = putL zs x.slot.toNat ⟨x.iu, x.id⟩ := by unfold putZ; rw [if_pos hc]
              rw [hN, hZ, hc]
              have HR := Lib.hid (redo_new (lsn := lsn) (l := zs) (x := x) (by have := HL.out; omega) (by rw [HP.out]; exact hc))
              have HC := Lib.hid (show redoCode lsn zs x = 0 by rw [HP.out]; exact hc)
              clear hN hZ hc
              rintro e w5 ⟨a5, n5, cc5, rfl, s5, b5, g5⟩
              have b5' := below_next b5 (below_box w5 (.cells #[.int .i64 lsn, .slice a5 n5 cc5] 52))
              have H5 := H4.next b5'
              have hz4 := H4.z
              have hw5 := b5.size
              have S5 := Lib.hid (s5.below (below_box w5 (.cells #[.int .i64 lsn, .slice a5 n5 cc5] 52)))
              have hY := Blk.new w5 52 #[.int .i64 lsn, .slice a5 n5 cc5]
              have hold : ∀ b off, a5 = some ⟨b, off, none⟩ → 0 < n5 → b ≠ w5.heap.size ∧ b ≠ w.heap.size + 2 := fun b off e hn0 => by
                obtain ⟨b', off', e', hlt, _⟩ := s5.2.2 hn0
                have h1 := g5 _ _ _ e
                rw [e] at e'; cases e'; omega
              have HOLD := Lib.hid hold
              clear p0 p1 c0 c1 c2 c3 c4 c5 c6 c7 c8 c9 c10 c11 c12 hold
              go_upto_region 8 with (fail)
              generalize hGen : w5.alloc (.cells #[.int .i64 lsn, .slice a5 n5 cc5] 52) = W5 at b5' H5 S5 hY ⊢
              clear hGen
              have hgz : w.heap.size + 2 < w5.heap.size := by omega
              generalize hGen : w5.heap.size = g5h at hY HOLD hgz ⊢
              clear hGen
              obtain ⟨c0, c1, c2, c3, c4, c5, c6, c7, c8, c9, c10, c11, c12⟩ := ent_cells H5.x
              have y0 := hY.cell 0
              have y1 := hY.cell 1
              have yf0 := hY.frozen 0
              have q0 := H5.r.cell 0
              have q1 := H5.r.cell 1
              have f0 := H5.r.frozen 0
              have f1 := H5.r.frozen 1
              have hne : ¬ w.heap.size + 2 = g5h := by omega
              go_wp2
              exact bodyPost_ret (v := .tuple #[.agg #[.int .i64 x.lsn, .slice a5 n5 cc5], .bool true, .int .i64 0]) (by simp [results, Tryz.results36, go_sem, q0, q1]) rfl (by
                obtain ⟨e1, e2, e3⟩ := HR.out
                rw [HC.out, e1, e2, e3]
                exact ⟨a5, n5, cc5, rfl, ((S5.out.setCell _ (fun b off e h => (HOLD.out b off e h).1)).setCell _ (fun b off e h => (HOLD.out b off e h).2)).setCell _ (fun b off e h => (HOLD.out b off e h).2), ((H5.b.setCell (p := ⟨g5h, 0, none⟩) (by simp; omega) _).setCell (p := ⟨w.heap.size + 2, 0, none⟩) (by simp) _).setCell (p := ⟨w.heap.size + 2, 1, none⟩) (by simp) _, .inr fun b off e h => by have h1 := g5 _ _ _ h; omega⟩)
            · have hN : putN lsn zs x.slot ⟨x.iu, x.id⟩ = 0 := by unfold putN; rw [if_neg hc]
              have hZ : putZ lsn zs x.slot ⟨x.iu, x.id⟩ = [] := by unfold putZ; rw [if_neg hc]
              rw [hN, hZ]
              have HC := Lib.hid (show redoCode lsn zs x = putCode lsn zs x.slot ⟨x.iu, x.id⟩ from HP.out)
              generalize putCode lsn zs x.slot ⟨x.iu, x.id⟩ = cd at hc HC HP
              have hne : (cd != 0) = true := by rw [bne_iff_ne]; exact hc
              have HCD := Lib.hid hc
              clear hN hZ hc
              rintro e w5 ⟨a5, n5, cc5, rfl, s5, b5, g5⟩
              have b5' := below_next b5 (below_box w5 (.cells #[.int .i64 0, .slice a5 n5 cc5] 52))
              have H5 := H4.next b5'
              clear p0 p1 c0 c1 c2 c3 c4 c5 c6 c7 c8 c9 c10 c11 c12
              go_upto_region 8 with (fail)
              generalize hGen : w5.alloc (.cells #[.int .i64 0, .slice a5 n5 cc5] 52) = W5 at b5' H5 ⊢
              clear hGen
              have q0 := H5.r.cell 0
              have q1 := H5.r.cell 1
              have f0 := H5.r.frozen 0
              have f1 := H5.r.frozen 1
              go_wp2
              exact bodyPost_ret (v := .tuple #[.agg #[.int .i64 0, .slice none 0 0], .bool false, .int .i64 cd]) (by simp [results, Tryz.results36, go_sem, q0, q1]) rfl (redo_bad HC.out HCD.out ((H5.b.setCell (p := ⟨w.heap.size + 2, 0, none⟩) (by simp) _).setCell (p := ⟨w.heap.size + 2, 1, none⟩) (by simp) _))
end Go.Proofs.YtkeocnhndnbamaaGreat.Patch
