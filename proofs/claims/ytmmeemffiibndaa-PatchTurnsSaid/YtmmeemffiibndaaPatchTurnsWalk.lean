/- The walk of the statement PatchTurns. -/
import Derived.Test.YtmmeemffiibndaaPatchApartWalk
namespace Go.Proofs.Ytmmeemffiibndaa.Patch
open Go.RowKit Go.Sort
open Go.Proofs.Ytmmeemffiibndaa.Slab (Slot nos atL putN putZ putL putCode sameB Blk Slots PageRes sameB_refl ret_bool' run_ne_slot run_guard_slot)
open Go.Proofs.Ytmmeemffiibndaa.Ent (Ent noE longB SmallE Small ent_cells alloc_lt below_box Ents EntAt)
open Go.Proofs.Ytmmeemffiibndaa.Nib (below_next below_drew)
theorem head_of {x : Ent} (h : Ent.goodB x = true) : Ent.headB x = true := by unfold Ent.goodB at h; simp only [Bool.and_eq_true] at h; exact h.1
theorem good_one' {x : Ent} (h : Ent.goodB x = true) (hk : x.kind = 1) : Ent.headB x = true ∧ Ent.chB x = true ∧ x.next = 0 := by
  have h2 := h
  unfold Ent.goodB at h2
  simp only [Bool.and_eq_true] at h2
  rw [if_pos hk] at h2
  simp only [Bool.and_eq_true, decide_eq_true_eq] at h2
  exact ⟨h2.1, h2.2.2, h2.2.1⟩
theorem turn_good {x : Ent} {L : Int} (h : Ent.goodB x = true) (hk : x.kind = 1) (h1 : x.lsn < L) (h2 : L ≤ 1099511627776) : Ent.goodB (turnY x L x.lsn) = true := by
  obtain ⟨hh, hc, _⟩ := good_one' h hk
  obtain ⟨p1, p2, p3, p4, p5, p6⟩ := Ent.head_parts hh
  obtain ⟨c1, c2, c3, c4⟩ := Ent.ch_parts hc
  have hh' : Ent.headB (turnY x L x.lsn) = true := by
    show (Ent.knownB x.cl x.ep x.n && Ent.withinB L 1 1099511627776 && decide (0 ≤ x.lsn ∧ x.lsn < L)) = true
    simp only [Ent.knownB, Ent.withinB, Bool.and_eq_true, decide_eq_true_eq]
    omega
  have hc' : Ent.chB (turnY x L x.lsn) = true := by
    show (Ent.withinB x.page 0 1023 && Ent.withinB x.slot 0 31 && Ent.fitsB x.iu x.id && Ent.fitsB x.wu x.wd) = true
    simp only [Ent.withinB, Bool.and_eq_true, decide_eq_true_eq]
    exact ⟨⟨⟨c1, c2⟩, c4⟩, c3⟩
  unfold Ent.goodB
  rw [hh', hc']
  have e : (turnY x L x.lsn).kind = 2 := rfl
  rw [if_neg (by rw [e]; decide), if_pos e]
  show (true && (Ent.withinB x.prev 0 x.lsn && true)) = true
  simp only [Ent.withinB, Bool.and_true, Bool.true_and, decide_eq_true_eq]
  omega
theorem code_lsn {lsn L : Int} {l : List Slot} {slot : Int} {s : Slot} (h1 : Slab.goodB lsn l = true) (h2 : Slab.goodB L l = true) : putCode L l slot s = putCode lsn l slot s := by
  unfold putCode; rw [h1, h2]
theorem at_lsn {lsn L : Int} {l : List Slot} (h1 : Slab.goodB lsn l = true) (h2 : Slab.goodB L l = true) (i : Int) : atL L l i = atL lsn l i := by
  unfold atL; rw [h1, h2]
/-- an entry and its undoing -/
theorem turn_back {lsn L : Int} {l : List Slot} {x : Ent} (h : redoCode lsn l x = 0) (hd : redoD lsn l x = true) (ht : turnB x L x.lsn = true) :
    redoCode (redoN lsn l x) (redoZ lsn l x) (turnY x L x.lsn) = 0 ∧ redoD (redoN lsn l x) (redoZ lsn l x) (turnY x L x.lsn) = true ∧ redoN (redoN lsn l x) (redoZ lsn l x) (turnY x L x.lsn) = L ∧ redoZ (redoN lsn l x) (redoZ lsn l x) (turnY x L x.lsn) = l := by
  unfold turnB at ht
  simp only [Bool.and_eq_true, decide_eq_true_eq] at ht
  obtain ⟨⟨hk, hx⟩, hy⟩ := ht
  obtain ⟨h1, h2, h3, h4 | ⟨h4, h5, h6⟩⟩ := redo_zero h
  · rw [(redo_old h1 h2 h3 h4).2.1] at hd; cases hd
  obtain ⟨_, e1, e2⟩ := redo_new h4 h
  have hat := redo_at h
  have hg := (redo_good h).1
  rw [e1, e2] at hat hg ⊢
  obtain ⟨b1, b2⟩ := Slab.put_back_is h6
  have e3 : atL lsn l x.slot = ⟨x.wu, x.wd⟩ := (Slab.sameB_iff _ _).1 h5
  rw [e3] at b1 b2
  obtain ⟨_, hs0, _⟩ := Slab.code_zero h6
  obtain ⟨k, hk2⟩ := Int.eq_ofNat_of_zero_le hs0
  have hyl := ent_lsn hy
  have h4y : ¬ (turnY x L x.lsn).lsn ≤ x.lsn := by simp only [turnY] at hyl ⊢; omega
  have hs : sameB (atL x.lsn (putL l x.slot.toNat ⟨x.iu, x.id⟩) (turnY x L x.lsn).slot) ⟨(turnY x L x.lsn).wu, (turnY x L x.lsn).wd⟩ = true := by
    have := hat k
    rw [← hk2, hd, if_pos ⟨rfl, rfl⟩] at this
    simp only [turnY]
    rw [this]; exact sameB_refl _
  have hr := redo_put hg (show longB (turnY x L x.lsn).kind = true from rfl) hy h4y hs
  have hc : redoCode x.lsn (putL l x.slot.toNat ⟨x.iu, x.id⟩) (turnY x L x.lsn) = 0 := by
    rw [hr]
    simp only [turnY]
    rw [code_lsn (Slab.put_good h6) hg]; exact b2
  obtain ⟨d1, d2, d3⟩ := redo_new h4y hc
  exact ⟨hc, d1, d2, by rw [d3]; exact b1⟩
theorem turn_none {lsn L : Int} {l : List Slot} {x : Ent} (h : redoCode lsn l x = 0) (hk : x.kind = 1) (ht : turnB x L x.lsn = false) : L ≤ x.lsn ∨ 1099511627776 < L := by
  obtain ⟨_, _, h3, _⟩ := redo_zero h
  by_cases h1 : x.lsn < L
  · by_cases h2 : L ≤ 1099511627776
    · unfold turnB at ht
      rw [decide_eq_true hk, h3, turn_good h3 hk h1 h2] at ht
      cases ht
    · exact .inr (by omega)
  · exact .inl (by omega)

set_option maxRecDepth 100000 in
set_option maxHeartbeats 8000000 in
theorem turns_walk (lsn : Int) (a : Option Addr) (n c : Nat) (zs : List Slot) (x : Ent) (L : Int) (w : World) (_hl : -9223372036854775808 ≤ lsn ∧ lsn ≤ 9223372036854775807) (h : Slots w a n zs) (hx : SmallE x) (_hL : -9223372036854775808 ≤ L ∧ L ≤ 9223372036854775807) :
    Calls Try.prog 8 #[.agg #[.int .i64 lsn, .slice a n c], .agg #[.int .i64 x.kind, .int .i64 x.cl, .int .i64 x.ep, .int .i64 x.n, .int .i64 x.lsn, .int .i64 x.prev, .int .i64 x.page, .int .i64 x.slot, .bool x.wu, .string x.wd, .bool x.iu, .string x.id, .int .i64 x.next], .int .i64 L] w fun e w' => e = .returned (.bool true) ∧ Below w.heap.size w w' := by
  have H0 := pe_at w lsn a n c zs x h
  have HX := Lib.hid hx
  clear h hx
  go_enter Try.func8, Try.ntmps8
  go_wp2_with fail
  generalize hGen : (w.alloc (.cells #[.int .i64 lsn, .slice a n c] 24)).alloc (.cells #[.int .i64 x.kind, .int .i64 x.cl, .int .i64 x.ep, .int .i64 x.n, .int .i64 x.lsn, .int .i64 x.prev, .int .i64 x.page, .int .i64 x.slot, .bool x.wu, .string x.wd, .bool x.iu, .string x.id, .int .i64 x.next] 45) = W at H0 ⊢
  clear hGen
  refine (awake_any _).mono ?_
  rintro e w1 ⟨rfl, b1⟩
  have H1 := H0.next b1
  clear H0 b1
  have p0 := H1.p.cell 0
  have p1 := H1.p.cell 1
  obtain ⟨c0, c1, c2, c3, c4, c5, c6, c7, c8, c9, c10, c11, c12⟩ := ent_cells H1.x
  go_wp2_with fail
  have hL := Blk.new w1 45 #[.int .i64 x.kind, .int .i64 x.cl, .int .i64 x.ep, .int .i64 x.n, .int .i64 x.lsn, .int .i64 x.prev, .int .i64 x.page, .int .i64 x.slot, .bool x.wu, .string x.wd, .bool x.iu, .string x.id, .int .i64 x.next]
  have bL := below_box w1 (.cells #[.int .i64 x.kind, .int .i64 x.cl, .int .i64 x.ep, .int .i64 x.n, .int .i64 x.lsn, .int .i64 x.prev, .int .i64 x.page, .int .i64 x.slot, .bool x.wu, .string x.wd, .bool x.iu, .string x.id, .int .i64 x.next] 45)
  refine (great_any lsn a n c zs _ 1 1 [x] _ (H1.s.below bL) (one_ent hL HX.out)).mono ?_
  rintro e w2 ⟨G, rfl, hG, b2⟩
  have H2 := H1.next (below_next bL b2)
  clear p0 p1 c0 c1 c2 c3 c4 c5 c6 c7 c8 c9 c10 c11 c12 hL bL b2 H1
  cases G with
  | true =>
    go_wp2
    go_ret
    exact ⟨rfl, H2.b⟩
  | false =>
    have hn : n ≤ 100 := (hG rfl).1
    clear hG
    have p0 := H2.p.cell 0
    have p1 := H2.p.cell 1
    obtain ⟨c0, c1, c2, c3, c4, c5, c6, c7, c8, c9, c10, c11, c12⟩ := ent_cells H2.x
    go_wp2_with fail
    refine (redo_any lsn a n c zs x _ H2.s (by omega) HX.out).mono ?_
    rintro e w3 ⟨a3, n3, cc3, rfl, s3, b3, _⟩
    have hlen := redo_len (lsn := lsn) (l := zs) x
    have hback := fun (hc : redoCode lsn zs x = 0) hd ht => turn_back (L := L) hc hd ht
    have hnone := fun (hc : redoCode lsn zs x = 0) hk ht => turn_none (L := L) hc hk ht
    have hgood := fun (hc : redoCode lsn zs x = 0) => (redo_zero hc).1
    generalize redoN lsn zs x = N at hback s3 ⊢
    generalize redoZ lsn zs x = Z at hback s3 hlen ⊢
    generalize redoD lsn zs x = D at hback ⊢
    generalize redoCode lsn zs x = cd at hback hnone hgood ⊢
    have HBK := Lib.hid hback
    have HNO := Lib.hid hnone
    have HGO := Lib.hid hgood
    have HLEN := Lib.hid hlen
    clear hback hnone hgood hlen
    have hn3 : n3 ≤ 32 := by have h1 := s3.len; have h2 := HLEN.out; omega
    have bQ := below_next b3 (below_box w3 (.cells #[.int .i64 N, .slice a3 n3 cc3] 24))
    have H3 := H2.next bQ
    have S3 := s3.below (below_box w3 (.cells #[.int .i64 N, .slice a3 n3 cc3] 24))
    have hQ := Blk.new w3 24 #[.int .i64 N, .slice a3 n3 cc3]
    clear p0 p1 c0 c1 c2 c3 c4 c5 c6 c7 c8 c9 c10 c11 c12 H2 s3 b3
    go_upto_region 6 with (fail)
    generalize hGen : w3.alloc (.cells #[.int .i64 N, .slice a3 n3 cc3] 24) = W3 at bQ H3 S3 hQ ⊢
    clear hGen
    generalize hGen : w3.heap.size = gq at hQ ⊢
    clear hGen
    clear bQ
    obtain ⟨c0, c1, c2, c3, c4, c5, c6, c7, c8, c9, c10, c11, c12⟩ := ent_cells H3.x
    by_cases hc : cd = 0
    rotate_left
    · have hne : (cd != 0) = true := by rw [bne_iff_ne]; exact hc
      clear hc
      go_wp2
      go_ret
      exact ⟨rfl, H3.b⟩
    subst hc
    cases D with
    | false =>
      go_wp2
      go_ret
      exact ⟨rfl, H3.b⟩
    | true =>
      by_cases hk : x.kind = 1
      rotate_left
      · have t1 : (x.kind != 1) = true := by simp [hk]
        clear hk
        go_wp2
        go_ret
        exact ⟨rfl, H3.b⟩
      have t1 : (x.kind != 1) = false := by simp [hk]
      have HK := Lib.hid hk
      clear hk
      cases ht : turnB x L x.lsn with
      | false =>
        have hno := HNO.out rfl HK.out ht
        obtain ⟨e1, e2⟩ := turn_bad ht
        go_wp2_with fail
        have htu := turn_any x L x.lsn W3 HX.out
        rw [e1, e2] at htu
        refine htu.mono ?_
        clear htu ht e1 e2
        rintro e w4 ⟨rfl, b4⟩
        have bY := below_next b4 (below_box w4 (.cells #[.int .i64 0, .int .i64 0, .int .i64 0, .int .i64 0, .int .i64 0, .int .i64 0, .int .i64 0, .int .i64 0, .bool false, .string ⟨#[]⟩, .bool false, .string ⟨#[]⟩, .int .i64 0] 45))
        have H4 := H3.next bY
        clear c0 c1 c2 c3 c4 c5 c6 c7 c8 c9 c10 c11 c12 H3 b4
        go_upto_region 9 with (fail)
        generalize hGen : w4.alloc (.cells #[.int .i64 noE.kind, .int .i64 noE.cl, .int .i64 noE.ep, .int .i64 noE.n, .int .i64 noE.lsn, .int .i64 noE.prev, .int .i64 noE.page, .int .i64 noE.slot, .bool noE.wu, .string noE.wd, .bool noE.iu, .string noE.id, .int .i64 noE.next] 45) = W4 at *
        have H4' : PE w W4 lsn a n c zs x := by rw [← hGen]; exact H4
        clear hGen H4 bY
        obtain ⟨c0, c1, c2, c3, c4, c5, c6, c7, c8, c9, c10, c11, c12⟩ := ent_cells H4'.x
        by_cases hle : L ≤ x.lsn
        · go_wp2
          go_ret
          exact ⟨rfl, H4'.b⟩
        · have hgt : 1099511627776 < L := by omega
          go_wp2
          go_ret
          exact ⟨rfl, H4'.b⟩
      | true =>
        obtain ⟨d1, d2, d3, d4⟩ := HBK.out rfl rfl ht
        obtain ⟨e1, e2⟩ := turn_ok ht
        have hgL : Slab.goodB L zs = true := by
          have := (redo_good d1).1
          rw [d3, d4] at this; exact this
        have HGL := Lib.hid hgL
        have hsy : SmallE (turnY x L x.lsn) := ⟨HX.out.2, HX.out.1⟩
        have k2 := fun w (h : Slots w a3 n3 Z) => redo_any N a3 n3 cc3 Z (turnY x L x.lsn) w h (by omega) hsy
        rw [d1, d2, d3, d4] at k2
        have k1 := turn_any x L x.lsn W3 HX.out
        rw [e1, e2] at k1
        simp only [turnY] at k1 k2
        have K1 := Lib.hid k1
        have K2 := Lib.hid k2
        clear ht d1 d2 d3 d4 e1 e2 hgL hsy k1 k2
        go_wp2_with fail
        refine K1.out.mono ?_
        rintro e w4 ⟨rfl, b4⟩
        have bY := below_next b4 (below_box w4 (.cells #[.int .i64 (turnY x L x.lsn).kind, .int .i64 (turnY x L x.lsn).cl, .int .i64 (turnY x L x.lsn).ep, .int .i64 (turnY x L x.lsn).n, .int .i64 (turnY x L x.lsn).lsn, .int .i64 (turnY x L x.lsn).prev, .int .i64 (turnY x L x.lsn).page, .int .i64 (turnY x L x.lsn).slot, .bool (turnY x L x.lsn).wu, .string (turnY x L x.lsn).wd, .bool (turnY x L x.lsn).iu, .string (turnY x L x.lsn).id, .int .i64 (turnY x L x.lsn).next] 45))
        have H4 := H3.next bY
        have hQ4 := hQ.below bY hQ.lt
        have S4 := S3.below bY
        have hY := Blk.new w4 45 #[.int .i64 (turnY x L x.lsn).kind, .int .i64 (turnY x L x.lsn).cl, .int .i64 (turnY x L x.lsn).ep, .int .i64 (turnY x L x.lsn).n, .int .i64 (turnY x L x.lsn).lsn, .int .i64 (turnY x L x.lsn).prev, .int .i64 (turnY x L x.lsn).page, .int .i64 (turnY x L x.lsn).slot, .bool (turnY x L x.lsn).wu, .string (turnY x L x.lsn).wd, .bool (turnY x L x.lsn).iu, .string (turnY x L x.lsn).id, .int .i64 (turnY x L x.lsn).next]
        simp only [turnY] at bY H4 hQ4 S4 hY
        clear c0 c1 c2 c3 c4 c5 c6 c7 c8 c9 c10 c11 c12 H3 b4 hQ S3
        go_upto_region 11 with (fail)
        generalize hGen : w4.alloc _ = W4 at bY H4 hQ4 S4 hY ⊢
        clear hGen
        generalize hGen : w4.heap.size = gy at hY ⊢
        clear hGen
        clear bY
        have q0 := hQ4.cell 0
        have q1 := hQ4.cell 1
        have hcx : Blk W4 gy 45 #[.int .i64 (turnY x L x.lsn).kind, .int .i64 (turnY x L x.lsn).cl, .int .i64 (turnY x L x.lsn).ep, .int .i64 (turnY x L x.lsn).n, .int .i64 (turnY x L x.lsn).lsn, .int .i64 (turnY x L x.lsn).prev, .int .i64 (turnY x L x.lsn).page, .int .i64 (turnY x L x.lsn).slot, .bool (turnY x L x.lsn).wu, .string (turnY x L x.lsn).wd, .bool (turnY x L x.lsn).iu, .string (turnY x L x.lsn).id, .int .i64 (turnY x L x.lsn).next] := hY
        obtain ⟨c0, c1, c2, c3, c4, c5, c6, c7, c8, c9, c10, c11, c12⟩ := ent_cells hcx
        simp only [turnY] at c0 c1 c2 c3 c4 c5 c6 c7 c8 c9 c10 c11 c12
        clear hcx
        go_wp2_with fail
        refine (K2.out _ S4).mono ?_
        rintro e w5 ⟨a5, n5, cc5, rfl, s5, b5, _⟩
        have bR := below_next b5 (below_box w5 (.cells #[.int .i64 L, .slice a5 n5 cc5] 24))
        have H5 := H4.next bR
        have S5 := s5.below (below_box w5 (.cells #[.int .i64 L, .slice a5 n5 cc5] 24))
        have hR := Blk.new w5 24 #[.int .i64 L, .slice a5 n5 cc5]
        clear q0 q1 c0 c1 c2 c3 c4 c5 c6 c7 c8 c9 c10 c11 c12 H4 s5 b5 hQ4 S4 hY
        go_upto_region 12 with (fail)
        generalize hGen : w5.alloc (.cells #[.int .i64 L, .slice a5 n5 cc5] 24) = W5 at bR H5 S5 hR ⊢
        clear hGen
        generalize hGen : w5.heap.size = gr at hR ⊢
        clear hGen
        clear bR
        have r0 := hR.cell 0
        have r1 := hR.cell 1
        have p0 := H5.p.cell 0
        have p1 := H5.p.cell 1
        have HS5 := Lib.hid S5
        have hrl := hR.lt
        have HN5 := Lib.hid (show n5 = n by rw [← S5.len, H5.o.len])
        have hn5 : n5 ≤ 100 := by have := HN5.out; omega
        clear S5
        go_wp2
        go_loopw [15] (fun i wr => ∃ k : Nat, k ≤ 32 ∧ i = .int .i64 (k : Int) ∧ Below W5.heap.size W5 wr) (fun i _ => 32 - (intOf i).toNat)
        case atStart => exact ⟨0, by omega, rfl, Below.refl _ _⟩
        case round =>
          clear r0 r1 p0 p1
          obtain ⟨k, hk, rfl, hbel⟩ := hrel
          have H6 := H5.next hbel
          have hR6 := hR.below hbel hrl
          have HBL := Lib.hid hbel
          clear hbel
          have r0 := hR6.cell 0
          have r1 := hR6.cell 1
          have p0 := H6.p.cell 0
          have p1 := H6.p.cell 1
          by_cases hlt : k < 32
          · obtain ⟨xu, xd, hxx⟩ : ∃ xu xd, atL lsn zs (k : Int) = ⟨xu, xd⟩ := ⟨_, _, rfl⟩
            go_upto_region 17 with (fail)
            have hc1 : ∀ W, Below wr.heap.size wr W → Calls Try.prog 13 #[.agg #[.int .i64 lsn, .slice a n c], .int .i64 (k : Int)] W fun e w' => e = .returned (.agg #[.bool xu, .string xd]) ∧ Below W.heap.size W w' := fun W hW => by
              have := Slab.at_any lsn a n c zs (k : Int) W (H6.next hW).s (by omega)
              rw [hxx] at this
              exact this
            have hc2 : ∀ W, Below wr.heap.size wr W → Calls Try.prog 13 #[.agg #[.int .i64 L, .slice a5 n5 cc5], .int .i64 (k : Int)] W fun e w' => e = .returned (.agg #[.bool xu, .string xd]) ∧ Below W.heap.size W w' := fun W hW => by
              have := Slab.at_any L a5 n5 cc5 zs (k : Int) W ((HS5.out.below HBL.out).below hW) (by omega)
              rw [at_lsn (HGO.out (by simp)) HGL.out, hxx] at this
              exact this
            have cQ1 : ∀ dd os, Calls Try.prog 13 #[.agg #[.int .i64 lsn, .slice a n c], .int .i64 (k : Int)] (grow (redrawn wr dd) os) fun e w'' => e = .returned (.agg #[.bool xu, .string xd]) ∧ ∃ p : Regrown, w'' = grow (redrawn wr p.d) p.os := fun dd os => Calls.regrown_of (hc1 _ (below_regrown wr dd os))
            have cQ2 : ∀ dd os, Calls Try.prog 13 #[.agg #[.int .i64 L, .slice a5 n5 cc5], .int .i64 (k : Int)] (grow (redrawn wr dd) os) fun e w'' => e = .returned (.agg #[.bool xu, .string xd]) ∧ ∃ p : Regrown, w'' = grow (redrawn wr p.d) p.os := fun dd os => Calls.regrown_of (hc2 _ (below_regrown wr dd os))
            have kR0 := cell_regrown (show wr.cell? ⟨gr, 0, none⟩ = some (.int .i64 L) from hR6.cell 0)
            have kR1 := cell_regrown (show wr.cell? ⟨gr, 1, none⟩ = some (.slice a5 n5 cc5) from hR6.cell 1)
            have kP0 := cell_regrown (show wr.cell? ⟨w.heap.size, 0, none⟩ = some (.int .i64 lsn) from H6.p.cell 0)
            have kP1 := cell_regrown (show wr.cell? ⟨w.heap.size, 1, none⟩ = some (.slice a n c) from H6.p.cell 1)
            have he := run_ne_slot xu xu xd xd
            rw [sameB_refl] at he
            have hgd := run_guard_slot
            clear hxx
            refine wp_region_quiet_below (by kernel_rfl) (by kernel_rfl) ?_
            repeat (go_big_quiet_step (first | (with_reducible exact cQ1 _ _) | (with_reducible exact cQ2 _ _)))
            refine wpQuiet_nil ?_
            intro _ hw'
            obtain ⟨⟨dq, osq⟩, hw''⟩ := hw'
            subst hw''
            have b7 := below_regrown wr dq osq
            generalize grow (redrawn wr dq) osq = W7 at b7 ⊢
            clear cQ1 cQ2 hc1 hc2 he hgd kP0 kP1 kR0 kR1
            go_wp2
            go_roundw
            case rel => exact ⟨k + 1, by omega, by go_num, HBL.out.trans (b7.mono HBL.out.size)⟩
            case measure => simp [intOf]; omega
          · obtain rfl : k = 32 := by omega
            have he5 := HN5.out
            subst he5
            go_wp2
            go_ret
            exact ⟨rfl, H6.b⟩
end Go.Proofs.Ytmmeemffiibndaa.Patch
