/- The walk of slab.Put. -/
import Derived.Test.YtkeocnhndnbamaaGreatQBook2
namespace Go.Proofs.YtkeocnhndnbamaaGreat.Slab
set_option maxRecDepth 100000
open Go.RowKit Go.Sort

/-- the world behind Put's boxes -/
structure PutAt (w W : World) (lsn : Int) (a : Option Addr) (n c : Nat) (u : Bool) (d : ByteArray) (zs : List Slot) : Prop where
  p0 : W.cell? ⟨w.heap.size, 0, none⟩ = some (.int .i64 lsn)
  p1 : W.cell? ⟨w.heap.size, 1, none⟩ = some (.slice a n c)
  s0 : W.cell? ⟨w.heap.size + 1, 0, none⟩ = some (.bool u)
  s1 : W.cell? ⟨w.heap.size + 1, 1, none⟩ = some (.string d)
  r : Blk W (w.heap.size + 2) 52 #[.int .i64 0, .slice none 0 0]
  b : Below w.heap.size w W
  z : w.heap.size + 2 < W.heap.size
  o : Slots w a n zs
theorem PutAt.s {w W : World} {lsn : Int} {a : Option Addr} {n c : Nat} {u : Bool} {d : ByteArray} {zs : List Slot} (h : PutAt w W lsn a n c u d zs) : Slots W a n zs := h.o.below h.b
theorem put_at (w : World) (lsn : Int) (a : Option Addr) (n c : Nat) (u : Bool) (d : ByteArray) (zs : List Slot) (h : Slots w a n zs) : PutAt w (((w.alloc (.cells #[.int .i64 lsn, .slice a n c] 52)).alloc (.cells #[.bool u, .string d] 41)).alloc (.cells #[.int .i64 0, .slice none 0 0] 52)) lsn a n c u d zs := by
  have hb : Below w.heap.size w (((w.alloc (.cells #[.int .i64 lsn, .slice a n c] 52)).alloc (.cells #[.bool u, .string d] 41)).alloc (.cells #[.int .i64 0, .slice none 0 0] 52)) := (((Below.refl _ _).alloc (Nat.le_refl _) _).alloc (by simp) _).alloc (by simp; omega) _
  have t := two_cells w (.int .i64 lsn) (.slice a n c) (.bool u) (.string d) 52 41
  refine ⟨?_, ?_, ?_, ?_, ?_, hb, by simp, h⟩
  · rw [World.cell?_alloc_lt _ _ _ (by simp; omega)]; exact t.1
  · rw [World.cell?_alloc_lt _ _ _ (by simp; omega)]; exact t.2.1
  · rw [World.cell?_alloc_lt _ _ _ (by simp)]; exact t.2.2.1
  · rw [World.cell?_alloc_lt _ _ _ (by simp)]; exact t.2.2.2
  · have := Blk.new ((w.alloc (.cells #[.int .i64 lsn, .slice a n c] 52)).alloc (.cells #[.bool u, .string d] 41)) 52 #[.int .i64 0, .slice none 0 0]
    simpa using this
theorem PutAt.next {w W W' : World} {lsn : Int} {a : Option Addr} {n c : Nat} {u : Bool} {d : ByteArray} {zs : List Slot} (h : PutAt w W lsn a n c u d zs) (hb : Below W.heap.size W W') : PutAt w W' lsn a n c u d zs := by
  have hz := h.z
  refine ⟨(hb.cell (p := ⟨w.heap.size, 0, none⟩) (by simp; omega)).trans h.p0, (hb.cell (p := ⟨w.heap.size, 1, none⟩) (by simp; omega)).trans h.p1, (hb.cell (p := ⟨w.heap.size + 1, 0, none⟩) (by simp; omega)).trans h.s0, (hb.cell (p := ⟨w.heap.size + 1, 1, none⟩) (by simp; omega)).trans h.s1, h.r.below hb hz, h.b.trans (hb.mono h.b.size), Nat.lt_of_lt_of_le hz hb.size, h.o⟩
theorem PutAt.store {w W : World} {lsn : Int} {a : Option Addr} {n c : Nat} {u : Bool} {d : ByteArray} {zs : List Slot} (h : PutAt w W lsn a n c u d zs) {M : Nat} (hM : w.heap.size + 2 < M) (i : Nat) (v : Value) : PutAt w (W.setCell ⟨M, i, none⟩ v) lsn a n c u d zs := by
  have hne : ∀ g j, g ≤ w.heap.size + 2 → (⟨g, j, none⟩ : Addr) ≠ ⟨M, i, none⟩ := fun g j hg e => by cases e; omega
  refine ⟨?_, ?_, ?_, ?_, h.r.far (by simp; omega) v, h.b.setCell (p := ⟨M, i, none⟩) (by simp; omega) v, by simpa using h.z, h.o⟩
  · rw [World.cell?_setCell_other _ _ _ _ (hne _ _ (by omega)).symm]; exact h.p0
  · rw [World.cell?_setCell_other _ _ _ _ (hne _ _ (by omega)).symm]; exact h.p1
  · rw [World.cell?_setCell_other _ _ _ _ (hne _ _ (by omega)).symm]; exact h.s0
  · rw [World.cell?_setCell_other _ _ _ _ (hne _ _ (by omega)).symm]; exact h.s1
theorem put_arg {lsn slot : Int} {l : List Slot} {x : Slot} (h : goodB lsn l = false ∨ slot < 0 ∨ 32 ≤ slot ∨ (x.u = false ∧ ¬ x.d.size = 0)) : putCode lsn l slot x = 1 := by unfold putCode; rw [if_pos h]
theorem put_long {lsn slot : Int} {l : List Slot} {x : Slot} (h : ¬ (goodB lsn l = false ∨ slot < 0 ∨ 32 ≤ slot ∨ (x.u = false ∧ ¬ x.d.size = 0))) (h2 : 200 < x.d.size) : putCode lsn l slot x = 5 := by unfold putCode; rw [if_neg h, if_pos h2]
theorem put_full {lsn slot : Int} {l : List Slot} {x : Slot} (h : ¬ (goodB lsn l = false ∨ slot < 0 ∨ 32 ≤ slot ∨ (x.u = false ∧ ¬ x.d.size = 0))) (h2 : ¬ 200 < x.d.size) (h3 : 240 < 9 + sz (putL l slot.toNat x)) : putCode lsn l slot x = 22 := by unfold putCode; rw [if_neg h, if_neg h2, if_pos h3]
theorem put_ok {lsn slot : Int} {l : List Slot} {x : Slot} (h : ¬ (goodB lsn l = false ∨ slot < 0 ∨ 32 ≤ slot ∨ (x.u = false ∧ ¬ x.d.size = 0))) (h2 : ¬ 200 < x.d.size) (h3 : ¬ 240 < 9 + sz (putL l slot.toNat x)) : putCode lsn l slot x = 0 := by unfold putCode; rw [if_neg h, if_neg h2, if_neg h3]
theorem put_true {lsn slot : Int} {l : List Slot} {d : ByteArray} (h : goodB lsn l = true) (h0 : ¬ slot < 0) (h1 : ¬ 32 ≤ slot) : ¬ (goodB lsn l = false ∨ slot < 0 ∨ 32 ≤ slot ∨ ((⟨true, d⟩ : Slot).u = false ∧ ¬ (⟨true, d⟩ : Slot).d.size = 0)) := by
  rw [h]
  rintro (h2 | h2 | h2 | h2)
  · cases h2
  · exact h0 h2
  · exact h1 h2
  · cases h2.1
/-- an error's answer -/
theorem err_res {w w' : World} {lsn slot : Int} {l : List Slot} {x : Slot} {code : Int} (h : putCode lsn l slot x = code) (hc : code ≠ 0) (hb : Below w.heap.size w w') :
    PageRes (putN lsn l slot x) (putZ lsn l slot x) (putCode lsn l slot x) w (.returned (.tuple #[.agg #[.int .i64 0, .slice none 0 0], .int .i64 code])) w' := by
  unfold putN putZ
  rw [h, if_neg hc, if_neg hc]
  exact ⟨none, 0, 0, rfl, Slots.nil _ _, hb, fun _ _ _ h => by cases h⟩

set_option maxRecDepth 100000 in
set_option maxHeartbeats 4000000 in
theorem put_err (lsn : Int) (a : Option Addr) (n c : Nat) (zs : List Slot) (slot : Int) (u : Bool) (d : ByteArray) (w : World) (h : Slots w a n zs) (hn : n ≤ 1000000) (_hd : d.size ≤ 140737488351232)
    (he : (goodB lsn zs = false ∨ slot < 0 ∨ 32 ≤ slot ∨ (u = false ∧ ¬ d.size = 0)) ∨ 200 < d.size) :
    Calls Tryz.prog 63 #[.agg #[.int .i64 lsn, .slice a n c], .int .i64 slot, .agg #[.bool u, .string d]] w (PageRes (putN lsn zs slot ⟨u, d⟩) (putZ lsn zs slot ⟨u, d⟩) (putCode lsn zs slot ⟨u, d⟩) w) := by
  have H0 := put_at w lsn a n c u d zs h
  clear h
  cases hg : goodB lsn zs with
  | false =>
    have HC := Lib.hid (put_arg (slot := slot) (x := ⟨u, d⟩) (.inl hg))
    have HG := Lib.hid hg
    clear hg he
    go_enter Tryz.func63, Tryz.ntmps63
    go_wp2_with fail
    generalize hGen : ((w.alloc (.cells #[.int .i64 lsn, .slice a n c] 52)).alloc (.cells #[.bool u, .string d] 41)).alloc (.cells #[.int .i64 0, .slice none 0 0] 52) = W at H0 ⊢
    clear hGen
    refine (good_any lsn a n c zs _ H0.s (by omega)).mono ?_
    rw [HG.out]
    rintro e w1 ⟨rfl, b1⟩
    have H1 := H0.next b1
    have p0 := H1.p0
    have p1 := H1.p1
    have s0 := H1.s0
    have s1 := H1.s1
    have q0 := H1.r.cell 0
    have q1 := H1.r.cell 1
    have f0 := H1.r.frozen 0
    have f1 := H1.r.frozen 1
    go_wp2
    exact bodyPost_ret (v := .tuple #[.agg #[.int .i64 0, .slice none 0 0], .int .i64 1]) (by simp [results, Tryz.results63, go_sem, q0, q1]) rfl (err_res HC.out (by decide) ((H1.b.setCell (p := ⟨w.heap.size + 2, 0, none⟩) (by simp) _).setCell (p := ⟨w.heap.size + 2, 1, none⟩) (by simp) _))
  | true =>
    have HG := Lib.hid hg
    clear hg
    by_cases t0 : slot < 0
    · have HC := Lib.hid (put_arg (lsn := lsn) (slot := slot) (l := zs) (x := ⟨u, d⟩) (.inr (.inl t0)))
      clear he
      go_enter Tryz.func63, Tryz.ntmps63
      go_wp2_with fail
      generalize hGen : ((w.alloc (.cells #[.int .i64 lsn, .slice a n c] 52)).alloc (.cells #[.bool u, .string d] 41)).alloc (.cells #[.int .i64 0, .slice none 0 0] 52) = W at H0 ⊢
      clear hGen
      refine (good_any lsn a n c zs _ H0.s (by omega)).mono ?_
      rw [HG.out]
      rintro e w1 ⟨rfl, b1⟩
      have H1 := H0.next b1
      have p0 := H1.p0
      have p1 := H1.p1
      have s0 := H1.s0
      have s1 := H1.s1
      have q0 := H1.r.cell 0
      have q1 := H1.r.cell 1
      have f0 := H1.r.frozen 0
      have f1 := H1.r.frozen 1
      go_wp2
      exact bodyPost_ret (v := .tuple #[.agg #[.int .i64 0, .slice none 0 0], .int .i64 1]) (by simp [results, Tryz.results63, go_sem, q0, q1]) rfl (err_res HC.out (by decide) ((H1.b.setCell (p := ⟨w.heap.size + 2, 0, none⟩) (by simp) _).setCell (p := ⟨w.heap.size + 2, 1, none⟩) (by simp) _))
    · by_cases t1 : 32 ≤ slot
      · have HC := Lib.hid (put_arg (lsn := lsn) (slot := slot) (l := zs) (x := ⟨u, d⟩) (.inr (.inr (.inl t1))))
        clear he
        go_enter Tryz.func63, Tryz.ntmps63
        go_wp2_with fail
        generalize hGen : ((w.alloc (.cells #[.int .i64 lsn, .slice a n c] 52)).alloc (.cells #[.bool u, .string d] 41)).alloc (.cells #[.int .i64 0, .slice none 0 0] 52) = W at H0 ⊢
        clear hGen
        refine (good_any lsn a n c zs _ H0.s (by omega)).mono ?_
        rw [HG.out]
        rintro e w1 ⟨rfl, b1⟩
        have H1 := H0.next b1
        have p0 := H1.p0
        have p1 := H1.p1
        have s0 := H1.s0
        have s1 := H1.s1
        have q0 := H1.r.cell 0
        have q1 := H1.r.cell 1
        have f0 := H1.r.frozen 0
        have f1 := H1.r.frozen 1
        go_wp2
        exact bodyPost_ret (v := .tuple #[.agg #[.int .i64 0, .slice none 0 0], .int .i64 1]) (by simp [results, Tryz.results63, go_sem, q0, q1]) rfl (err_res HC.out (by decide) ((H1.b.setCell (p := ⟨w.heap.size + 2, 0, none⟩) (by simp) _).setCell (p := ⟨w.heap.size + 2, 1, none⟩) (by simp) _))
      · have tt : slot ≤ 31 := by omega
        cases u with
        | false =>
          by_cases t2 : d.size = 0
          · exfalso
            rw [HG.out] at he
            rcases he with (h1 | h1 | h1 | h1) | h1
            · cases h1
            · exact t0 h1
            · exact t1 h1
            · exact h1.2 t2
            · omega
          · have HC := Lib.hid (put_arg (lsn := lsn) (slot := slot) (l := zs) (x := ⟨false, d⟩) (.inr (.inr (.inr ⟨rfl, t2⟩))))
            have hl := list_ne t2
            clear he
            go_enter Tryz.func63, Tryz.ntmps63
            go_wp2_with fail
            generalize hGen : ((w.alloc (.cells #[.int .i64 lsn, .slice a n c] 52)).alloc (.cells #[.bool false, .string d] 41)).alloc (.cells #[.int .i64 0, .slice none 0 0] 52) = W at H0 ⊢
            clear hGen
            refine (good_any lsn a n c zs _ H0.s (by omega)).mono ?_
            rw [HG.out]
            rintro e w1 ⟨rfl, b1⟩
            have H1 := H0.next b1
            have p0 := H1.p0
            have p1 := H1.p1
            have s0 := H1.s0
            have s1 := H1.s1
            have q0 := H1.r.cell 0
            have q1 := H1.r.cell 1
            have f0 := H1.r.frozen 0
            have f1 := H1.r.frozen 1
            go_wp2
            exact bodyPost_ret (v := .tuple #[.agg #[.int .i64 0, .slice none 0 0], .int .i64 1]) (by simp [results, Tryz.results63, go_sem, q0, q1]) rfl (err_res HC.out (by decide) ((H1.b.setCell (p := ⟨w.heap.size + 2, 0, none⟩) (by simp) _).setCell (p := ⟨w.heap.size + 2, 1, none⟩) (by simp) _))
        | true =>
          have t3 : 200 < d.size := by
            rw [HG.out] at he
            rcases he with (h1 | h1 | h1 | h1) | h1
            · cases h1
            · exact absurd h1 t0
            · exact absurd h1 t1
            · cases h1.1
            · exact h1
          have HC := Lib.hid (put_long (lsn := lsn) (slot := slot) (l := zs) (x := ⟨true, d⟩) (put_true HG.out t0 t1) t3)
          clear he
          go_enter Tryz.func63, Tryz.ntmps63
          go_wp2_with fail
          generalize hGen : ((w.alloc (.cells #[.int .i64 lsn, .slice a n c] 52)).alloc (.cells #[.bool true, .string d] 41)).alloc (.cells #[.int .i64 0, .slice none 0 0] 52) = W at H0 ⊢
          clear hGen
          refine (good_any lsn a n c zs _ H0.s (by omega)).mono ?_
          rw [HG.out]
          rintro e w1 ⟨rfl, b1⟩
          have H1 := H0.next b1
          have p0 := H1.p0
          have p1 := H1.p1
          have s0 := H1.s0
          have s1 := H1.s1
          have q0 := H1.r.cell 0
          have q1 := H1.r.cell 1
          have f0 := H1.r.frozen 0
          have f1 := H1.r.frozen 1
          go_wp2
          exact bodyPost_ret (v := .tuple #[.agg #[.int .i64 0, .slice none 0 0], .int .i64 5]) (by simp [results, Tryz.results63, go_sem, q0, q1]) rfl (err_res HC.out (by decide) ((H1.b.setCell (p := ⟨w.heap.size + 2, 0, none⟩) (by simp) _).setCell (p := ⟨w.heap.size + 2, 1, none⟩) (by simp) _))

end Go.Proofs.YtkeocnhndnbamaaGreat.Slab
