/- The walk of the statement PatchApart. -/
import Derived.Test.YtmmeemffiibndaaPatchAwake
import Derived.Test.YtmmeemffiibndaaSlabKeepsWalk
namespace Go.Proofs.Ytmmeemffiibndaa.Patch
open Go.RowKit Go.Sort
open Go.Proofs.Ytmmeemffiibndaa.Slab (Slot nos atL putN putZ putL putCode sameB Blk Slots PageRes sameB_refl ret_bool' run_ne_slot run_guard_slot)
open Go.Proofs.Ytmmeemffiibndaa.Ent (Ent noE longB SmallE Small ent_cells alloc_lt below_box Ents EntAt)
open Go.Proofs.Ytmmeemffiibndaa.Nib (below_next below_drew)
theorem cells_one (x : Ent) : (Ent.cellsE [x]).toArray = #[.int .i64 x.kind, .int .i64 x.cl, .int .i64 x.ep, .int .i64 x.n, .int .i64 x.lsn, .int .i64 x.prev, .int .i64 x.page, .int .i64 x.slot, .bool x.wu, .string x.wd, .bool x.iu, .string x.id, .int .i64 x.next] := by rfl
theorem one_ent {w : World} {g : Nat} {x : Ent} (h : Blk w g 45 #[.int .i64 x.kind, .int .i64 x.cl, .int .i64 x.ep, .int .i64 x.n, .int .i64 x.lsn, .int .i64 x.prev, .int .i64 x.page, .int .i64 x.slot, .bool x.wu, .string x.wd, .bool x.iu, .string x.id, .int .i64 x.next]) (hs : SmallE x) : Ents w (some ⟨g, 0, none⟩) 1 [x] :=
  Ent.ents_of_blk (zs := [x]) (show Blk _ _ 45 _ by rw [cells_one]; exact h) (by intro z hz; simp at hz; subst hz; exact hs)
/-- what an entry leaves in each slot -/
theorem redo_at {lsn : Int} {l : List Slot} {x : Ent} (h : redoCode lsn l x = 0) (i : Nat) : atL (redoN lsn l x) (redoZ lsn l x) (i : Int) = if redoD lsn l x = true ∧ (i : Int) = x.slot then ⟨x.iu, x.id⟩ else atL lsn l (i : Int) := by
  obtain ⟨h1, h2, h3, h4 | ⟨h4, h5, h6⟩⟩ := redo_zero h
  · obtain ⟨_, e0, e1, e2⟩ := redo_old h1 h2 h3 h4
    rw [e0, e1, e2, if_neg (by simp)]
  · obtain ⟨e0, e1, e2⟩ := redo_new h4 h
    have hg := (redo_good h).1
    rw [e1, e2] at hg
    rw [e0, e1, e2, Slab.atL_getD hg, ← Slab.atL_getD (Slab.put_good h6), Slab.at_put h6]
    simp
theorem redo_tells {lsn : Int} {l : List Slot} {x : Ent} (h : redoCode lsn l x = 0) : (redoD lsn l x = true ∧ redoN lsn l x = x.lsn ∧ lsn < x.lsn) ∨ (redoD lsn l x = false ∧ redoN lsn l x = lsn) := by
  obtain ⟨h1, h2, h3, h4 | ⟨h4, h5, h6⟩⟩ := redo_zero h
  · obtain ⟨_, e0, e1, e2⟩ := redo_old h1 h2 h3 h4
    exact .inr ⟨e0, e1⟩
  · obtain ⟨e0, e1, e2⟩ := redo_new h4 h
    exact .inl ⟨e0, e1, by omega⟩

/-- the boxes of a page and an entry that came in -/
structure PE (w W : World) (lsn : Int) (a : Option Addr) (n c : Nat) (zs : List Slot) (x : Ent) : Prop where
  p : Blk W w.heap.size 24 #[.int .i64 lsn, .slice a n c]
  x : Blk W (w.heap.size + 1) 45 #[.int .i64 x.kind, .int .i64 x.cl, .int .i64 x.ep, .int .i64 x.n, .int .i64 x.lsn, .int .i64 x.prev, .int .i64 x.page, .int .i64 x.slot, .bool x.wu, .string x.wd, .bool x.iu, .string x.id, .int .i64 x.next]
  b : Below w.heap.size w W
  z : w.heap.size + 1 < W.heap.size
  o : Slots w a n zs
theorem PE.s {w W : World} {lsn : Int} {a : Option Addr} {n c : Nat} {zs : List Slot} {x : Ent} (h : PE w W lsn a n c zs x) : Slots W a n zs := h.o.below h.b
theorem PE.next {w W W' : World} {lsn : Int} {a : Option Addr} {n c : Nat} {zs : List Slot} {x : Ent} (h : PE w W lsn a n c zs x) (hb : Below W.heap.size W W') : PE w W' lsn a n c zs x := by
  have hz := h.z
  exact ⟨h.p.below hb (by omega), h.x.below hb (by omega), below_next h.b hb, Nat.lt_of_lt_of_le hz hb.size, h.o⟩
theorem pe_at (w : World) (lsn : Int) (a : Option Addr) (n c : Nat) (zs : List Slot) (x : Ent) (h : Slots w a n zs) : PE w ((w.alloc (.cells #[.int .i64 lsn, .slice a n c] 24)).alloc (.cells #[.int .i64 x.kind, .int .i64 x.cl, .int .i64 x.ep, .int .i64 x.n, .int .i64 x.lsn, .int .i64 x.prev, .int .i64 x.page, .int .i64 x.slot, .bool x.wu, .string x.wd, .bool x.iu, .string x.id, .int .i64 x.next] 45)) lsn a n c zs x := by
  refine ⟨(Blk.new w _ _).alloc _, ?_, ((Below.refl _ _).alloc (Nat.le_refl _) _).alloc (by simp) _, by simp, h⟩
  have := Blk.new (w.alloc (.cells #[.int .i64 lsn, .slice a n c] 24)) 45 #[.int .i64 x.kind, .int .i64 x.cl, .int .i64 x.ep, .int .i64 x.n, .int .i64 x.lsn, .int .i64 x.prev, .int .i64 x.page, .int .i64 x.slot, .bool x.wu, .string x.wd, .bool x.iu, .string x.id, .int .i64 x.next]
  rwa [World.size_alloc] at this

set_option maxRecDepth 100000 in
set_option maxHeartbeats 8000000 in
theorem apart_walk (lsn : Int) (a : Option Addr) (n c : Nat) (zs : List Slot) (x : Ent) (w : World) (_hl : -9223372036854775808 ≤ lsn ∧ lsn ≤ 9223372036854775807) (h : Slots w a n zs) (hx : SmallE x) :
    Calls Try.prog 10 #[.agg #[.int .i64 lsn, .slice a n c], .agg #[.int .i64 x.kind, .int .i64 x.cl, .int .i64 x.ep, .int .i64 x.n, .int .i64 x.lsn, .int .i64 x.prev, .int .i64 x.page, .int .i64 x.slot, .bool x.wu, .string x.wd, .bool x.iu, .string x.id, .int .i64 x.next]] w fun e w' => e = .returned (.bool true) ∧ Below w.heap.size w w' := by
  have H0 := pe_at w lsn a n c zs x h
  have HX := Lib.hid hx
  clear h hx
  go_enter Try.func10, Try.ntmps10
  go_wp2_with fail
  generalize hGen : (w.alloc (.cells #[.int .i64 lsn, .slice a n c] 24)).alloc (.cells #[.int .i64 x.kind, .int .i64 x.cl, .int .i64 x.ep, .int .i64 x.n, .int .i64 x.lsn, .int .i64 x.prev, .int .i64 x.page, .int .i64 x.slot, .bool x.wu, .string x.wd, .bool x.iu, .string x.id, .int .i64 x.next] 45) = W at H0 ⊢
  clear hGen
  refine (awake_any _).mono ?_
  rintro e w1 ⟨rfl, b1⟩
  have H1 := H0.next b1
  clear H0 b1
  have p0 := H1.p.cell 0
  have p1 := H1.p.cell 1
  obtain ⟨c0, c1, c2, c3, c4, c5, c6, c7, c8, c9, c10, c11, c12⟩ := ent_cells H1.x
  go_wp2_with fail
  have hL := Blk.new w1 45 #[.int .i64 x.kind, .int .i64 x.cl, .int .i64 x.ep, .int .i64 x.n, .int .i64 x.lsn, .int .i64 x.prev, .int .i64 x.page, .int .i64 x.slot, .bool x.wu, .string x.wd, .bool x.iu, .string x.id, .int .i64 x.next]
  have bL := below_box w1 (.cells #[.int .i64 x.kind, .int .i64 x.cl, .int .i64 x.ep, .int .i64 x.n, .int .i64 x.lsn, .int .i64 x.prev, .int .i64 x.page, .int .i64 x.slot, .bool x.wu, .string x.wd, .bool x.iu, .string x.id, .int .i64 x.next] 45)
  refine (great_any lsn a n c zs _ 1 1 [x] _ (H1.s.below bL) (one_ent hL HX.out)).mono ?_
  rintro e w2 ⟨G, rfl, hG, b2⟩
  have H2 := H1.next (below_next bL b2)
  clear p0 p1 c0 c1 c2 c3 c4 c5 c6 c7 c8 c9 c10 c11 c12 hL bL b2 H1
  cases G with
  | true =>
    go_wp2
    go_ret
    exact ⟨rfl, H2.b⟩
  | false =>
    have hn : n ≤ 100 := (hG rfl).1
    clear hG
    have p0 := H2.p.cell 0
    have p1 := H2.p.cell 1
    obtain ⟨c0, c1, c2, c3, c4, c5, c6, c7, c8, c9, c10, c11, c12⟩ := ent_cells H2.x
    go_wp2_with fail
    refine (redo_any lsn a n c zs x _ H2.s (by omega) HX.out).mono ?_
    by_cases hc : redoCode lsn zs x = 0
    · have hgd := redo_good hc
      have hlen := redo_len (lsn := lsn) (l := zs) x
      have hat := fun i => redo_at hc i
      have htl := redo_tells hc
      rw [hc]
      generalize redoN lsn zs x = N at hgd hat htl ⊢
      generalize redoZ lsn zs x = Z at hgd hat hlen ⊢
      generalize redoD lsn zs x = D at hat htl ⊢
      have HAT := Lib.hid hat
      have HTL := Lib.hid htl
      have HLEN := Lib.hid hlen
      clear hat htl hgd hc hlen
      rintro e w3 ⟨a3, n3, cc3, rfl, s3, b3, _⟩
      have hn3 : n3 ≤ 32 := by have h1 := s3.len; have h2 := HLEN.out; omega
      have bQ := below_next b3 (below_box w3 (.cells #[.int .i64 N, .slice a3 n3 cc3] 24))
      have H3 := H2.next bQ
      have S3 := s3.below (below_box w3 (.cells #[.int .i64 N, .slice a3 n3 cc3] 24))
      have hQ := Blk.new w3 24 #[.int .i64 N, .slice a3 n3 cc3]
      clear p0 p1 c0 c1 c2 c3 c4 c5 c6 c7 c8 c9 c10 c11 c12 H2 s3 b3
      go_wp2
      generalize hGen : w3.alloc (.cells #[.int .i64 N, .slice a3 n3 cc3] 24) = W3 at bQ H3 S3 hQ ⊢
      clear hGen
      generalize hGen : w3.heap.size = gq at hQ ⊢
      clear hGen
      clear bQ
      have S3 := Lib.hid S3
      have hgq := hQ.lt
      go_loopw [8, 9] (fun i _ wr => ∃ k : Nat, k ≤ 32 ∧ i = .int .i64 (k : Int) ∧ Below W3.heap.size W3 wr) (fun i _ _ => 32 - (intOf i).toNat)
      case atStart => exact ⟨0, by omega, rfl, Below.refl _ _⟩
      case round =>
        obtain ⟨k, hk, rfl, hbel⟩ := hrel
        have H5 := H3.next hbel
        have hQ5 := hQ.below hbel hgq
        have HBL := Lib.hid hbel
        clear hbel
        have p0 := H5.p.cell 0
        have p1 := H5.p.cell 1
        by_cases hlt : k < 32
        · obtain ⟨xu, xd, hxx⟩ : ∃ xu xd, atL lsn zs (k : Int) = ⟨xu, xd⟩ := ⟨_, _, rfl⟩
          have hp := Slab.at_any lsn a n c zs (k : Int) wr H5.s (by omega)
          rw [hxx] at hp
          simp only [Slab.slotV] at hp
          have HP := Lib.hid hp
          have hqx := HAT.out k
          rw [hxx] at hqx
          clear hp hxx
          go_wp2_with fail
          refine HP.out.mono ?_
          rintro e w6 ⟨rfl, b6⟩
          clear p0 p1
          by_cases hd : D = true ∧ (k : Int) = x.slot
          · obtain ⟨hd1, hd2⟩ := hd
            subst hd1
            have hks : ((k : Int) == x.slot) = true := by simp [hd2]
            rw [if_pos ⟨rfl, hd2⟩] at hqx
            have HQX := Lib.hid hqx
            clear hqx hd2
            have bX := below_next b6 (below_box w6 (.cells #[.bool xu, .string xd] 26))
            have H6 := H5.next bX
            obtain ⟨c0, c1, c2, c3, c4, c5, c6, c7, c8, c9, c10, c11, c12⟩ := ent_cells H6.x
            clear H6
            go_upto_region 14 with (fail)
            have b6' := below_next b6 (below_box w6 (.cells #[.bool x.iu, .string x.id] 26))
            have H6 := H5.next b6'
            have hQ6 := hQ5.below b6' hQ5.lt
            have hW := Blk.new w6 26 #[.bool x.iu, .string x.id]
            clear c0 c1 c2 c3 c4 c5 c6 c7 c8 c9 c10 c11 c12 bX
            generalize hGen : w6.alloc (.cells #[.bool x.iu, .string x.id] 26) = W6 at b6' H6 hQ6 hW ⊢
            clear hGen
            have kQ0 := cell_regrown (show W6.cell? ⟨gq, 0, none⟩ = some (.int .i64 N) from hQ6.cell 0)
            have kQ1 := cell_regrown (show W6.cell? ⟨gq, 1, none⟩ = some (.slice a3 n3 cc3) from hQ6.cell 1)
            have kW0 := cell_regrown (show W6.cell? ⟨w6.heap.size, 0, none⟩ = some (.bool x.iu) from hW.cell 0)
            have kW1 := cell_regrown (show W6.cell? ⟨w6.heap.size, 1, none⟩ = some (.string x.id) from hW.cell 1)
            have HBW := Lib.hid (HBL.out.trans (b6'.mono HBL.out.size))
            have hcq : ∀ W, Below W6.heap.size W6 W → Calls Try.prog 13 #[.agg #[.int .i64 N, .slice a3 n3 cc3], .int .i64 (k : Int)] W fun e w' => e = .returned (.agg #[.bool x.iu, .string x.id]) ∧ Below W.heap.size W w' := fun W hW => by
              have := Slab.at_any N a3 n3 cc3 Z (k : Int) W ((S3.out.below HBW.out).below hW) (by omega)
              rw [HQX.out] at this
              exact this
            have cQ : ∀ dd os, Calls Try.prog 13 #[.agg #[.int .i64 N, .slice a3 n3 cc3], .int .i64 (k : Int)] (grow (redrawn W6 dd) os) fun e w'' => e = .returned (.agg #[.bool x.iu, .string x.id]) ∧ ∃ p : Regrown, w'' = grow (redrawn W6 p.d) p.os := fun dd os => Calls.regrown_of (hcq _ (below_regrown W6 dd os))
            have he := run_ne_slot x.iu x.iu x.id x.id
            rw [sameB_refl] at he
            have hgd := run_guard_slot
            refine wp_region_quiet_below (by kernel_rfl) (by kernel_rfl) ?_
            repeat (go_big_quiet_step (exact cQ _ _))
            refine wpQuiet_nil ?_
            intro _ hw'
            obtain ⟨⟨dq, osq⟩, hw''⟩ := hw'
            subst hw''
            have b7 := below_regrown W6 dq osq
            generalize grow (redrawn W6 dq) osq = W7 at b7 ⊢
            clear cQ hcq he hgd kQ0 kQ1 kW0 kW1
            go_wp2
            go_roundw
            case rel => exact ⟨k + 1, by omega, by go_num, HBW.out.trans (b7.mono HBW.out.size)⟩
            case measure => simp [intOf]; omega
          · rw [if_neg hd] at hqx
            have HQX := Lib.hid hqx
            have hks : D = false ∨ (D = true ∧ ((k : Int) == x.slot) = false) := by
              cases D with
              | false => exact .inl rfl
              | true => exact .inr ⟨rfl, beq_eq_false_iff_ne.2 fun h => hd ⟨rfl, h⟩⟩
            clear hqx hd
            have b6' := below_next b6 (below_box w6 (.cells #[.bool xu, .string xd] 26))
            have H6 := H5.next b6'
            have hQ6 := hQ5.below b6' hQ5.lt
            have hW := Blk.new w6 26 #[.bool xu, .string xd]
            obtain ⟨c0, c1, c2, c3, c4, c5, c6, c7, c8, c9, c10, c11, c12⟩ := ent_cells H6.x
            rcases hks with rfl | ⟨rfl, hks⟩
            all_goals
              go_upto_region 14 with (fail)
              generalize hGen : w6.alloc (.cells #[.bool xu, .string xd] 26) = W6 at b6' H6 hQ6 hW c0 c1 c2 c3 c4 c5 c6 c7 c8 c9 c10 c11 c12 ⊢
              clear hGen
              clear c0 c1 c2 c3 c4 c5 c6 c7 c8 c9 c10 c11 c12
              have kQ0 := cell_regrown (show W6.cell? ⟨gq, 0, none⟩ = some (.int .i64 N) from hQ6.cell 0)
              have kQ1 := cell_regrown (show W6.cell? ⟨gq, 1, none⟩ = some (.slice a3 n3 cc3) from hQ6.cell 1)
              have kW0 := cell_regrown (show W6.cell? ⟨w6.heap.size, 0, none⟩ = some (.bool xu) from hW.cell 0)
              have kW1 := cell_regrown (show W6.cell? ⟨w6.heap.size, 1, none⟩ = some (.string xd) from hW.cell 1)
              have HBW := Lib.hid (HBL.out.trans (b6'.mono HBL.out.size))
              have hcq : ∀ W, Below W6.heap.size W6 W → Calls Try.prog 13 #[.agg #[.int .i64 N, .slice a3 n3 cc3], .int .i64 (k : Int)] W fun e w' => e = .returned (.agg #[.bool xu, .string xd]) ∧ Below W.heap.size W w' := fun W hW => by
                have := Slab.at_any N a3 n3 cc3 Z (k : Int) W ((S3.out.below HBW.out).below hW) (by omega)
                rw [HQX.out] at this
                exact this
              have cQ : ∀ dd os, Calls Try.prog 13 #[.agg #[.int .i64 N, .slice a3 n3 cc3], .int .i64 (k : Int)] (grow (redrawn W6 dd) os) fun e w'' => e = .returned (.agg #[.bool xu, .string xd]) ∧ ∃ p : Regrown, w'' = grow (redrawn W6 p.d) p.os := fun dd os => Calls.regrown_of (hcq _ (below_regrown W6 dd os))
              have he := run_ne_slot xu xu xd xd
              rw [sameB_refl] at he
              have hgd := run_guard_slot
              refine wp_region_quiet_below (by kernel_rfl) (by kernel_rfl) ?_
              repeat (go_big_quiet_step (exact cQ _ _))
              refine wpQuiet_nil ?_
              intro _ hw'
              obtain ⟨⟨dq, osq⟩, hw''⟩ := hw'
              subst hw''
              have b7 := below_regrown W6 dq osq
              generalize grow (redrawn W6 dq) osq = W7 at b7 ⊢
              clear cQ hcq he hgd kQ0 kQ1 kW0 kW1
              go_wp2
              go_roundw
              case rel => exact ⟨k + 1, by omega, by go_num, HBW.out.trans (b7.mono HBW.out.size)⟩
              case measure => simp [intOf]; omega
        · obtain rfl : k = 32 := by omega
          have q0 := hQ5.cell 0
          have q1 := hQ5.cell 1
          obtain ⟨c0, c1, c2, c3, c4, c5, c6, c7, c8, c9, c10, c11, c12⟩ := ent_cells H5.x
          rcases HTL.out with ⟨rfl, rfl, hlt2⟩ | ⟨rfl, rfl⟩
          · have t1 : decide (lsn < x.lsn) = true := by simp [hlt2]
            go_wp2
            go_ret
            exact ⟨rfl, H5.b⟩
          · go_wp2
            go_ret
            exact ⟨rfl, H5.b⟩
    · obtain ⟨e1, e2, e3⟩ := redo_err hc
      rw [e1, e2, e3]
      clear e1 e2 e3
      generalize redoCode lsn zs x = cd at hc ⊢
      have hne : (cd != 0) = true := by rw [bne_iff_ne]; exact hc
      clear hc
      rintro e w3 ⟨a3, n3, cc3, rfl, s3, b3, _⟩
      have hn3 : n3 = 0 := s3.len.symm
      subst hn3
      have bQ := below_next b3 (below_box w3 (.cells #[.int .i64 0, .slice a3 0 cc3] 24))
      have H3 := H2.next bQ
      clear p0 p1 c0 c1 c2 c3 c4 c5 c6 c7 c8 c9 c10 c11 c12 H2 s3 b3
      go_wp2_with fail
      refine (Slab.same_any 0 0 a3 none 0 0 cc3 0 [] [] true _ (Slots.nil _ _) (Slots.nil _ _) (by omega) (by simp)).mono ?_
      rintro e w5 ⟨rfl, b5⟩
      go_wp2
      go_ret
      exact ⟨rfl, (H3.next b5).b⟩
end Go.Proofs.Ytmmeemffiibndaa.Patch
