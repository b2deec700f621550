/- The next one of a transaction to be undone; Back. Back: a transaction's newest change that is not undone, down to an entry. -/
import Derived.Test.YtkeocnhndnbamaaGreatQBook18
import Derived.Test.YtkeocnhndnbamaaGreatQBook15
namespace Go.Proofs.YtkeocnhndnbamaaGreat.Mend
set_option maxRecDepth 100000
open Go.RowKit Go.Maps
open Go.Proofs.YtkeocnhndnbamaaGreat.Mem
open Go.Proofs.YtkeocnhndnbamaaGreat.Ent (Ent goodB Ents EntAt SmallE noE entA cellsE)
open Go.Proofs.YtkeocnhndnbamaaGreat.Past (T3 txE ofL MapT SmT SmI smI_of ents_mem)
open Go.Proofs.YtkeocnhndnbamaaGreat.MLog
set_option maxRecDepth 100000 in
set_option maxHeartbeats 8000000 in
theorem next_any (a : Option Addr) (n c B ml mf : Nat) (L : List Ent) (t : T3) (w : World) (h : TR w B ml mf n L) (he : Ents w a n L) (hg : ∀ x ∈ L, goodB x = true) (ht : SmT t) :
    Calls Tryz.prog 34 #[.agg #[.slice a n c, .map (some ml), .map (some mf)], .agg #[.int .i64 t.cl, .int .i64 t.ep, .int .i64 t.n]] w (AnsRes (nextL L t) w) := by
  have hL : L.length = n := he.1
  have H0 := Lib.hid (la_start w (c := c) (t := t) h he)
  have HGD := Lib.hid hg
  have HT := Lib.hid ht
  clear h he hg ht
  obtain ⟨R, hR⟩ : ∃ R, nextL L t = R := ⟨_, rfl⟩
  rw [hR]
  rw [next_cases HGD.out] at hR
  go_enter Tryz.func34, Tryz.ntmps34
  go_upto_region 1 with (fail)
  generalize hGen : (((w.alloc (.cells #[.slice a n c, .map (some ml), .map (some mf)] 87)).alloc (.cells #[.int .i64 t.cl, .int .i64 t.ep, .int .i64 t.n] 56)).alloc (.cells #[.int .i64 0, .int .i64 0, .int .i64 0, .int .i64 0, .int .i64 0, .int .i64 0, .int .i64 0, .int .i64 0, .bool false, .string ⟨#[]⟩, .bool false, .string ⟨#[]⟩, .int .i64 0] 58)) = wr at H0 ⊢
  clear hGen
  have g10 := H0.out.g1.cell 0
  have g11 := H0.out.g1.cell 1
  have g12 := H0.out.g1.cell 2
  have g20 := H0.out.g2.cell 0
  have g21 := H0.out.g2.cell 1
  have g22 := H0.out.g2.cell 2
  obtain ⟨z0, z1, z2, z3, z4, z5, z6, z7, z8, z9, z10, z11, z12⟩ := Ent.ent_cells (x := noE) H0.out.g3
  obtain ⟨f0, f1, f2, f3, f4, f5, f6, f7, f8, f9, f10, f11, f12⟩ := Ent.ent_frozen H0.out.g3
  simp only [noE] at z0 z1 z2 z3 z4 z5 z6 z7 z8 z9 z10 z11 z12
  have k1 := H0.out.tr.lookL HT.out
  rw [List.take_of_length_le (by omega)] at k1
  cases ho : lastI L t with
  | none =>
    rw [ho] at k1 hR
    have HE := Lib.hid (show R = some none from hR.symm)
    have HB := Lib.hid H0.out.bel
    simp only [numO, Option.isSome_none] at k1
    clear H0 hR ho
    go_wp2
    refine bodyPost_ret (v := .tuple #[.agg #[.int .i64 0, .int .i64 0, .int .i64 0, .int .i64 0, .int .i64 0, .int .i64 0, .int .i64 0, .int .i64 0, .bool false, .string ⟨#[]⟩, .bool false, .string ⟨#[]⟩, .int .i64 0], .int .i64 0]) (by simp [results, Tryz.results34, go_sem, z0, z1, z2, z3, z4, z5, z6, z7, z8, z9, z10, z11, z12]) rfl ?_
    exact ⟨by rw [HE.out]; rfl, Ent.below13 HB.out (by omega) _ _ _ _ _ _ _ _ _ _ _ _ _⟩
  | some i =>
    obtain ⟨x, hx, hxt⟩ := lastI_some L ho
    rw [ho, Option.bind_some, hx] at hR
    dsimp only at hR
    rw [ho] at k1
    simp only [numO, Option.isSome_some] at k1
    have hin := (List.getElem?_eq_some_iff.1 hx).1
    have hd1 : decide ((i : Int) < (n : Int)) = true := decide_eq_true (by omega)
    obtain ⟨b, off, rfl, hbw, hat, -, -⟩ := ents_mem H0.out.en hx
    have HGX := Lib.hid (HGD.out x (List.mem_of_getElem? hx))
    obtain ⟨c0, c1, c2, c3, c4, c5, c6, c7, c8, c9, c10, c11, c12⟩ := hat.cells
    have HR2 := Lib.hid (H0.out.below (Ent.below_box wr (.cells #[.int .i64 x.kind, .int .i64 x.cl, .int .i64 x.ep, .int .i64 x.n, .int .i64 x.lsn, .int .i64 x.prev, .int .i64 x.page, .int .i64 x.slot, .bool x.wu, .string x.wd, .bool x.iu, .string x.id, .int .i64 x.next] 58)))
    have HX2 := Lib.hid (Blk.new wr 58 #[.int .i64 x.kind, .int .i64 x.cl, .int .i64 x.ep, .int .i64 x.n, .int .i64 x.lsn, .int .i64 x.prev, .int .i64 x.page, .int .i64 x.slot, .bool x.wu, .string x.wd, .bool x.iu, .string x.id, .int .i64 x.next])
    have HST := Lib.hid hR
    clear H0 hR ho hx hxt hat
    go_upto_region 5 with (fail)
    obtain ⟨gx, hgx⟩ : ∃ gx, wr.heap.size = gx := ⟨_, rfl⟩
    rw [hgx] at HX2
    try rw [hgx]
    clear hgx
    clear z0 z1 z2 z3 z4 z5 z6 z7 z8 z9 z10 z11 z12 f0 f1 f2 f3 f4 f5 f6 f7 f8 f9 f10 f11 f12 c0 c1 c2 c3 c4 c5 c6 c7 c8 c9 c10 c11 c12 g10 g11 g12 g20 g21 g22 k1
    generalize hGen : wr.alloc (.cells #[.int .i64 x.kind, .int .i64 x.cl, .int .i64 x.ep, .int .i64 x.n, .int .i64 x.lsn, .int .i64 x.prev, .int .i64 x.page, .int .i64 x.slot, .bool x.wu, .string x.wd, .bool x.iu, .string x.id, .int .i64 x.next] 58) = W1 at HR2 HX2 ⊢
    clear hGen
    obtain ⟨c0, c1, c2, c3, c4, c5, c6, c7, c8, c9, c10, c11, c12⟩ := Ent.ent_cells HX2.out
    obtain ⟨z0, z1, z2, z3, z4, z5, z6, z7, z8, z9, z10, z11, z12⟩ := Ent.ent_cells (x := noE) HR2.out.g3
    obtain ⟨f0, f1, f2, f3, f4, f5, f6, f7, f8, f9, f10, f11, f12⟩ := Ent.ent_frozen HR2.out.g3
    simp only [noE] at z0 z1 z2 z3 z4 z5 z6 z7 z8 z9 z10 z11 z12
    by_cases hk1 : x.kind = 1
    · have e1 : (x.kind == 1) = true := by simp [hk1]
      have HE := Lib.hid (show R = some (some x) by rw [← HST.out, if_pos hk1])
      have HB := Lib.hid HR2.out.bel
      clear HST hk1
      go_wp2
      refine bodyPost_ret (v := .tuple #[.agg #[.int .i64 x.kind, .int .i64 x.cl, .int .i64 x.ep, .int .i64 x.n, .int .i64 x.lsn, .int .i64 x.prev, .int .i64 x.page, .int .i64 x.slot, .bool x.wu, .string x.wd, .bool x.iu, .string x.id, .int .i64 x.next], .int .i64 0]) (by simp [results, Tryz.results34, go_sem, z0, z1, z2, z3, z4, z5, z6, z7, z8, z9, z10, z11, z12]) rfl ?_
      exact ⟨by rw [HE.out]; rfl, Ent.below13 HB.out (by omega) _ _ _ _ _ _ _ _ _ _ _ _ _⟩
    · have e1 : (x.kind == 1) = false := by simp [hk1]
      by_cases hk2 : x.kind = 2
      · have e2 : (x.kind == 2) = true := by simp [hk2]
        have hn := Ent.good_long HGX.out (by unfold Ent.longB; rw [hk2]; rfl)
        have hh := Ent.head_parts hn.1
        have hb1 : 0 ≤ x.next ∧ x.next ≤ 1099511627776 := ⟨hn.2.2.1, by have := hn.2.2.2; omega⟩
        have HLD := Lib.hid (lead_any (some ⟨b, off, none⟩) n c B ml mf L t x.next W1 HR2.out.tr HR2.out.en HGD.out HT.out hb1)
        obtain ⟨Y, hY⟩ : ∃ Y, leadL L t x.next = Y := ⟨_, rfl⟩
        rw [hY] at HLD
        have HE := Lib.hid (show R = Y by rw [← HST.out, if_neg hk1, if_pos hk2, hY])
        have g10 := HR2.out.g1.cell 0
        have g11 := HR2.out.g1.cell 1
        have g12 := HR2.out.g1.cell 2
        have g20 := HR2.out.g2.cell 0
        have g21 := HR2.out.g2.cell 1
        have g22 := HR2.out.g2.cell 2
        clear hn hh hk1 hk2 hY
        go_wp2_with fail
        refine HLD.out.mono ?_
        rintro e w3 ⟨rfl, b3⟩
        obtain ⟨y, hy⟩ : ∃ y, ansL Y = y := ⟨_, rfl⟩
        rw [hy]
        obtain ⟨y1, y2⟩ := y
        have HY := Lib.hid hy
        have HB := Lib.hid (HR2.out.below b3)
        clear z0 z1 z2 z3 z4 z5 z6 z7 z8 z9 z10 z11 z12 f0 f1 f2 f3 f4 f5 f6 f7 f8 f9 f10 f11 f12 c0 c1 c2 c3 c4 c5 c6 c7 c8 c9 c10 c11 c12 g10 g11 g12 g20 g21 g22 hy b3 HLD
        obtain ⟨z0, z1, z2, z3, z4, z5, z6, z7, z8, z9, z10, z11, z12⟩ := Ent.ent_cells (x := noE) HB.out.g3
        obtain ⟨f0, f1, f2, f3, f4, f5, f6, f7, f8, f9, f10, f11, f12⟩ := Ent.ent_frozen HB.out.g3
        simp only [noE] at z0 z1 z2 z3 z4 z5 z6 z7 z8 z9 z10 z11 z12
        dsimp only
        go_wp2
        refine bodyPost_ret (v := .tuple #[.agg #[.int .i64 y1.kind, .int .i64 y1.cl, .int .i64 y1.ep, .int .i64 y1.n, .int .i64 y1.lsn, .int .i64 y1.prev, .int .i64 y1.page, .int .i64 y1.slot, .bool y1.wu, .string y1.wd, .bool y1.iu, .string y1.id, .int .i64 y1.next], .int .i64 y2]) (by simp [results, Tryz.results34, go_sem, z0, z1, z2, z3, z4, z5, z6, z7, z8, z9, z10, z11, z12]) rfl ?_
        exact ⟨by rw [HE.out, HY.out], Ent.below13 HB.out.bel (by omega) _ _ _ _ _ _ _ _ _ _ _ _ _⟩
      · have e2 : (x.kind == 2) = false := by simp [hk2]
        have HE := Lib.hid (show R = some none by rw [← HST.out, if_neg hk1, if_neg hk2])
        have HB := Lib.hid HR2.out.bel
        clear HST hk1 hk2
        go_wp2
        refine bodyPost_ret (v := .tuple #[.agg #[.int .i64 0, .int .i64 0, .int .i64 0, .int .i64 0, .int .i64 0, .int .i64 0, .int .i64 0, .int .i64 0, .bool false, .string ⟨#[]⟩, .bool false, .string ⟨#[]⟩, .int .i64 0], .int .i64 0]) (by simp [results, Tryz.results34, go_sem, z0, z1, z2, z3, z4, z5, z6, z7, z8, z9, z10, z11, z12]) rfl ?_
        exact ⟨by rw [HE.out]; rfl, Ent.below13 HB.out (by omega) _ _ _ _ _ _ _ _ _ _ _ _ _⟩
end Go.Proofs.YtkeocnhndnbamaaGreat.Mend
namespace Go.Proofs.YtkeocnhndnbamaaGreat.Mend
set_option maxRecDepth 100000
open Go.RowKit Go.Maps
open Go.Proofs.YtkeocnhndnbamaaGreat.Mem
open Go.Proofs.YtkeocnhndnbamaaGreat.Ent (Ent goodB Ents EntAt SmallE noE entA cellsE)
open Go.Proofs.YtkeocnhndnbamaaGreat.Past (T3 txE ofL MapT SmT SmI smI_of ents_mem)
open Go.Proofs.YtkeocnhndnbamaaGreat.MLog
theorem good_small {x : Ent} (h : goodB x = true) : SmallE x := by
  unfold SmallE
  cases hk : Ent.longB x.kind with
  | true =>
    obtain ⟨-, h1, -⟩ := Ent.good_long h hk
    obtain ⟨-, -, h2, h3⟩ := Ent.ch_parts h1
    unfold Ent.fitsB at h2 h3
    simp only [decide_eq_true_eq] at h2 h3
    omega
  | false =>
    obtain ⟨-, -, h1⟩ := Ent.good_short h hk
    unfold Ent.bareB at h1
    simp only [decide_eq_true_eq] at h1
    omega
theorem follow_kind {O : List Ent} {y : Ent} : ∀ (f : Nat) (l : Int), followL O f l = some (some y) → y.kind = 1
  | 0, _, h => by cases h
  | f + 1, l, h => by
    rw [followL] at h
    by_cases h0 : l = 0
    · rw [if_pos h0] at h; cases h
    · rw [if_neg h0] at h
      cases hf : O.find? (fun y => decide (y.lsn = l)) with
      | none => rw [hf] at h; cases h
      | some z =>
        rw [hf] at h
        dsimp only at h
        by_cases h1 : z.kind = 1
        · rw [if_pos h1] at h
          injection h with h
          injection h with h
          rw [← h]; exact h1
        · rw [if_neg h1] at h
          by_cases h2 : z.kind = 2
          · rw [if_pos h2] at h; exact follow_kind f _ h
          · rw [if_neg h2] at h; cases h
theorem next_kind {L : List Ent} {t : T3} {y : Ent} (h : nextL L t = some (some y)) : y.kind = 1 := by
  unfold nextL at h
  cases hl : (ofL L t).getLast? with
  | none => rw [hl] at h; cases h
  | some e =>
    rw [hl] at h
    dsimp only at h
    by_cases h1 : e.kind = 1
    · rw [if_pos h1] at h
      injection h with h
      injection h with h
      rw [← h]; exact h1
    · rw [if_neg h1] at h
      by_cases h2 : e.kind = 2
      · rw [if_pos h2] at h; exact follow_kind _ _ h
      · rw [if_neg h2] at h; cases h
theorem of_of (L : List Ent) (t : T3) : ofL (ofL L t) t = ofL L t := by
  unfold ofL
  rw [List.filter_filter]
  congr 1
  funext x
  cases Past.isT t x <;> rfl
theorem next_of (L : List Ent) (t : T3) : nextL (ofL L t) t = nextL L t := by
  unfold nextL
  rw [of_of]
theorem of_good (L : List Ent) (t : T3) : ∀ x ∈ ofL L t, goodB x = true := fun _ hx => (of_mem.1 hx).2.1
def backY : Option (Option Ent) → Int → Option Ent
  | some (some x), d => if d < x.lsn then some x else none
  | _, _ => none
theorem back_y (L : List Ent) (t : T3) (down : Int) : backL L t down = backY (nextL L t) down := by
  unfold backL
  cases nextL L t with
  | none => rfl
  | some o => cases o <;> rfl
/-- an entry and whether it is one -/
def BackRes (o : Option Ent) (w : World) (e : Ending) (w' : World) : Prop := e = .returned (.tuple #[.agg #[.int .i64 (o.getD noE).kind, .int .i64 (o.getD noE).cl, .int .i64 (o.getD noE).ep, .int .i64 (o.getD noE).n, .int .i64 (o.getD noE).lsn, .int .i64 (o.getD noE).prev, .int .i64 (o.getD noE).page, .int .i64 (o.getD noE).slot, .bool (o.getD noE).wu, .string (o.getD noE).wd, .bool (o.getD noE).iu, .string (o.getD noE).id, .int .i64 (o.getD noE).next], .bool o.isSome]) ∧ Below w.heap.size w w'
set_option maxRecDepth 100000 in
set_option maxHeartbeats 8000000 in
theorem back_any (a : Option Addr) (n c : Nat) (L : List Ent) (t : T3) (down : Int) (w : World) (he : Ents w a n L) (ht : SmT t) (hn : n ≤ 100000) :
    Calls Tryz.prog 18 #[.slice a n c, .agg #[.int .i64 t.cl, .int .i64 t.ep, .int .i64 t.n], .int .i64 down] w (BackRes (backL L t down) w) := by
  have hL : L.length = n := he.1
  have hb1 := Ent.below_box w (.cells #[.int .i64 t.cl, .int .i64 t.ep, .int .i64 t.n] 56)
  have hb2 := below_go hb1 (Ent.below_box _ (.cells #[.int .i64 0, .int .i64 0, .int .i64 0, .int .i64 0, .int .i64 0, .int .i64 0, .int .i64 0, .int .i64 0, .bool false, .string ⟨#[]⟩, .bool false, .string ⟨#[]⟩, .int .i64 0] 58))
  have hT := (Blk.new w 56 #[.int .i64 t.cl, .int .i64 t.ep, .int .i64 t.n]).alloc (.cells #[.int .i64 0, .int .i64 0, .int .i64 0, .int .i64 0, .int .i64 0, .int .i64 0, .int .i64 0, .int .i64 0, .bool false, .string ⟨#[]⟩, .bool false, .string ⟨#[]⟩, .int .i64 0] 58)
  have hR := Blk.new (w.alloc (.cells #[.int .i64 t.cl, .int .i64 t.ep, .int .i64 t.n] 56)) 58 #[.int .i64 0, .int .i64 0, .int .i64 0, .int .i64 0, .int .i64 0, .int .i64 0, .int .i64 0, .int .i64 0, .bool false, .string ⟨#[]⟩, .bool false, .string ⟨#[]⟩, .int .i64 0]
  rw [World.size_alloc] at hR
  have HE := Lib.hid (he.next hb2)
  have HT := Lib.hid ht
  clear he ht hb1
  have hol : (ofL L t).length ≤ 100000 := by have := Past.of_len L t; omega
  obtain ⟨Y, hY⟩ : ∃ Y, nextL L t = Y := ⟨_, rfl⟩
  have HK := Lib.hid (fun y (e : Y = some (some y)) => next_kind (hY.trans e))
  have HBK := Lib.hid (show backL L t down = backY Y down by rw [back_y, hY])
  have HNO := Lib.hid ((next_of L t).trans hY)
  clear hY
  obtain ⟨O, hO⟩ : ∃ O, ofL L t = O := ⟨_, rfl⟩
  have HOG := Lib.hid (of_good L t)
  rw [hO] at hol HNO HOG
  have HOF := Lib.hid (fun W (h : Ents W a n L) => Past.of_any a n c L t W h (by omega))
  rw [hO] at HOF
  clear hO
  go_enter Tryz.func18, Tryz.ntmps18
  go_upto_region 1 with (fail)
  generalize hGen : (w.alloc (.cells #[.int .i64 t.cl, .int .i64 t.ep, .int .i64 t.n] 56)).alloc (.cells #[.int .i64 0, .int .i64 0, .int .i64 0, .int .i64 0, .int .i64 0, .int .i64 0, .int .i64 0, .int .i64 0, .bool false, .string ⟨#[]⟩, .bool false, .string ⟨#[]⟩, .int .i64 0] 58) = W1 at hb2 hT hR HE ⊢
  clear hGen
  have HTT := Lib.hid hT
  have HRR := Lib.hid hR
  have HB2 := Lib.hid hb2
  have HZ := Lib.hid (show ∀ W', Below W1.heap.size W1 W' → W'.cell? ⟨w.heap.size, 0, none⟩ = some (.int .i64 t.cl) ∧ W'.cell? ⟨w.heap.size, 1, none⟩ = some (.int .i64 t.ep) ∧ W'.cell? ⟨w.heap.size, 2, none⟩ = some (.int .i64 t.n) from fun W' hb => ⟨(HTT.out.below hb HTT.out.lt).cell 0, (HTT.out.below hb HTT.out.lt).cell 1, (HTT.out.below hb HTT.out.lt).cell 2⟩)
  have z0 := HZ.out W1 (Below.refl _ _)
  have z1 := HZ.out W1.drew (Below.refl _ _).drew
  have t0 := z0.1
  have t1 := z0.2.1
  have t2 := z0.2.2
  clear hb2 hT hR
  go_cut [8, 9] (fun t8 t9 wx => ∃ (g8 : Nat) (y1 : Ent) (y2 : Int), t8 = .pointer (some ⟨g8, 0, none⟩) ∧ t9 = .int .i64 y2 ∧ Hid (ansL Y = (y1, y2) ∧ Blk wx g8 58 #[.int .i64 y1.kind, .int .i64 y1.cl, .int .i64 y1.ep, .int .i64 y1.n, .int .i64 y1.lsn, .int .i64 y1.prev, .int .i64 y1.page, .int .i64 y1.slot, .bool y1.wu, .string y1.wd, .bool y1.iu, .string y1.id, .int .i64 y1.next] ∧ Below W1.heap.size W1 wx))
  case first =>
    go_region_held3 (fun W' => W'.cell? ⟨w.heap.size, 0, none⟩ = some (.int .i64 t.cl) ∧ W'.cell? ⟨w.heap.size, 1, none⟩ = some (.int .i64 t.ep) ∧ W'.cell? ⟨w.heap.size, 2, none⟩ = some (.int .i64 t.n))
      (first | (with_unfolding_none exact K1.out _ _ _ _ _ _ _ _ _ _ _ _ _) | (with_unfolding_none exact K2.out _ _ _ _ _ _ _ _ _ _ _ _ _) | (with_unfolding_none exact K3.out _ _ _ _ _ _ _ _ _ _ _ _ _) | (with_unfolding_none assumption) | (with_unfolding_none exact z0) | (with_unfolding_none exact z1) | (with_unfolding_none exact HZ.out _ (Ent.below_box _ _)) | (with_unfolding_none exact HZ.out _ (Ent.below_box _ _).drew) | (with_unfolding_none exact HZ.out _ (below_go B2.out (Ent.below_box _ _))) | (with_unfolding_none exact HZ.out _ (below_go B2.out (Ent.below_box _ _)).drew) | (with_unfolding_none exact HZ.out _ (below_go B3.out (Ent.below_box _ _))) | (with_unfolding_none exact HZ.out _ (below_go B3.out (Ent.below_box _ _)).drew) | (with_unfolding_none exact HZ.out _ (below_go B4.out (Ent.below_box _ _))) | (with_unfolding_none exact HZ.out _ (below_go B4.out (Ent.below_box _ _)).drew)) (first | (go_at_call 33; refine (HOF.out _ (HE.out.next (by first | (with_reducible exact Below.refl _ _) | (with_reducible exact bx_d _) | (with_reducible exact Ent.below_box _ _) | (with_reducible exact bx_ad _ _)))).mono ?_; rintro e w2 ⟨v, rfl, hown, b2⟩; obtain ⟨va, vc, rfl, hEn, -⟩ := Past.ents_own hown (fun x hx => good_small (HOG.out x hx)); have HEN := Lib.hid hEn; have B2 := Lib.hid (show Below W1.heap.size W1 w2 from (by first | (with_reducible exact b2) | (with_reducible exact bn_d b2) | (with_reducible exact bn_a b2) | (with_reducible exact bn_ad b2))); (first | ((with_reducible have hq := ebox b2); have HBX := Lib.hid hq; clear hq; obtain ⟨e0, e1, e2, e3, e4, e5, e6, e7, e8, e9, e10, e11, e12⟩ := Ent.ent_cells (x := noE) HBX.out; simp only [noE] at e0 e1 e2 e3 e4 e5 e6 e7 e8 e9 e10 e11 e12; obtain ⟨f0, f1, f2, f3, f4, f5, f6, f7, f8, f9, f10, f11, f12⟩ := Ent.ent_frozen HBX.out) | ((with_reducible have hq := ebox_d b2); have HBX := Lib.hid hq; clear hq; obtain ⟨e0, e1, e2, e3, e4, e5, e6, e7, e8, e9, e10, e11, e12⟩ := Ent.ent_cells (x := noE) HBX.out; simp only [noE] at e0 e1 e2 e3 e4 e5 e6 e7 e8 e9 e10 e11 e12; obtain ⟨f0, f1, f2, f3, f4, f5, f6, f7, f8, f9, f10, f11, f12⟩ := Ent.ent_frozen HBX.out) | skip); clear b2 hEn hown; have z2 := HZ.out w2 B2.out) | (go_at_call 32; refine (mread_any _ _ _ O _ (HEN.out.next (by first | (with_reducible exact Below.refl _ _) | (with_reducible exact bx_d _) | (with_reducible exact Ent.below_box _ _) | (with_reducible exact bx_ad _ _))) HOG.out hol).mono ?_; rintro e w3 ⟨ml, mf, rfl, hTR, b3⟩; have HTR := Lib.hid hTR; have B23 := Lib.hid (show Below w2.heap.size w2 w3 from (by first | (with_reducible exact b3) | (with_reducible exact bn_d b3) | (with_reducible exact bn_a b3) | (with_reducible exact bn_ad b3))); (first | (have HBX3 := Lib.hid (HBX.out.below B23.out HBX.out.lt)) | ((with_reducible have hq := ebox b3); have HBX3 := Lib.hid hq; clear hq) | ((with_reducible have hq := ebox_d b3); have HBX3 := Lib.hid hq; clear hq) | skip); (first | (clear e0 e1 e2 e3 e4 e5 e6 e7 e8 e9 e10 e11 e12 f0 f1 f2 f3 f4 f5 f6 f7 f8 f9 f10 f11 f12) | skip); (first | (have hq := HBX3.out; obtain ⟨e0, e1, e2, e3, e4, e5, e6, e7, e8, e9, e10, e11, e12⟩ := Ent.ent_cells (x := noE) hq; clear hq; simp only [noE] at e0 e1 e2 e3 e4 e5 e6 e7 e8 e9 e10 e11 e12; obtain ⟨f0, f1, f2, f3, f4, f5, f6, f7, f8, f9, f10, f11, f12⟩ := Ent.ent_frozen HBX3.out) | skip); clear b3 hTR; have B3 := Lib.hid (below_go B2.out B23.out); have z3 := HZ.out w3 B3.out) | (go_at_call 34; refine (next_any _ _ _ _ _ _ O t _ (HTR.out.below (by first | (with_reducible exact Below.refl _ _) | (with_reducible exact bx_d _) | (with_reducible exact Ent.below_box _ _) | (with_reducible exact bx_ad _ _))) ((HEN.out.next B23.out).next (by first | (with_reducible exact Below.refl _ _) | (with_reducible exact bx_d _) | (with_reducible exact Ent.below_box _ _) | (with_reducible exact bx_ad _ _))) HOG.out HT.out).mono ?_; rintro e w4 ⟨rfl, b4⟩; have B34 := Lib.hid (show Below w3.heap.size w3 w4 from (by first | (with_reducible exact b4) | (with_reducible exact bn_d b4) | (with_reducible exact bn_a b4) | (with_reducible exact bn_ad b4))); (first | (have HBX4 := Lib.hid (HBX3.out.below B34.out HBX3.out.lt)) | ((with_reducible have hq := ebox b4); have HBX4 := Lib.hid hq; clear hq) | ((with_reducible have hq := ebox_d b4); have HBX4 := Lib.hid hq; clear hq) | skip); (first | (clear e0 e1 e2 e3 e4 e5 e6 e7 e8 e9 e10 e11 e12 f0 f1 f2 f3 f4 f5 f6 f7 f8 f9 f10 f11 f12) | skip); (first | (have hq := HBX4.out; obtain ⟨e0, e1, e2, e3, e4, e5, e6, e7, e8, e9, e10, e11, e12⟩ := Ent.ent_cells (x := noE) hq; clear hq; simp only [noE] at e0 e1 e2 e3 e4 e5 e6 e7 e8 e9 e10 e11 e12; obtain ⟨f0, f1, f2, f3, f4, f5, f6, f7, f8, f9, f10, f11, f12⟩ := Ent.ent_frozen HBX4.out) | skip); clear b4; have B4 := Lib.hid (below_go B3.out B34.out); have z4 := HZ.out w4 B4.out; have K1 := Lib.hid (show ∀ (q0 q1 q2 q3 q4 q5 q6 q7 q8 q9 q10 q11 q12 : Value), (((((((((((((w4.setCell ⟨W1.heap.size, 0, none⟩ q0).setCell ⟨W1.heap.size, 1, none⟩ q1).setCell ⟨W1.heap.size, 2, none⟩ q2).setCell ⟨W1.heap.size, 3, none⟩ q3).setCell ⟨W1.heap.size, 4, none⟩ q4).setCell ⟨W1.heap.size, 5, none⟩ q5).setCell ⟨W1.heap.size, 6, none⟩ q6).setCell ⟨W1.heap.size, 7, none⟩ q7).setCell ⟨W1.heap.size, 8, none⟩ q8).setCell ⟨W1.heap.size, 9, none⟩ q9).setCell ⟨W1.heap.size, 10, none⟩ q10).setCell ⟨W1.heap.size, 11, none⟩ q11).setCell ⟨W1.heap.size, 12, none⟩ q12).cell? ⟨w.heap.size, 0, none⟩ = some (.int .i64 t.cl) ∧ (((((((((((((w4.setCell ⟨W1.heap.size, 0, none⟩ q0).setCell ⟨W1.heap.size, 1, none⟩ q1).setCell ⟨W1.heap.size, 2, none⟩ q2).setCell ⟨W1.heap.size, 3, none⟩ q3).setCell ⟨W1.heap.size, 4, none⟩ q4).setCell ⟨W1.heap.size, 5, none⟩ q5).setCell ⟨W1.heap.size, 6, none⟩ q6).setCell ⟨W1.heap.size, 7, none⟩ q7).setCell ⟨W1.heap.size, 8, none⟩ q8).setCell ⟨W1.heap.size, 9, none⟩ q9).setCell ⟨W1.heap.size, 10, none⟩ q10).setCell ⟨W1.heap.size, 11, none⟩ q11).setCell ⟨W1.heap.size, 12, none⟩ q12).cell? ⟨w.heap.size, 1, none⟩ = some (.int .i64 t.ep) ∧ (((((((((((((w4.setCell ⟨W1.heap.size, 0, none⟩ q0).setCell ⟨W1.heap.size, 1, none⟩ q1).setCell ⟨W1.heap.size, 2, none⟩ q2).setCell ⟨W1.heap.size, 3, none⟩ q3).setCell ⟨W1.heap.size, 4, none⟩ q4).setCell ⟨W1.heap.size, 5, none⟩ q5).setCell ⟨W1.heap.size, 6, none⟩ q6).setCell ⟨W1.heap.size, 7, none⟩ q7).setCell ⟨W1.heap.size, 8, none⟩ q8).setCell ⟨W1.heap.size, 9, none⟩ q9).setCell ⟨W1.heap.size, 10, none⟩ q10).setCell ⟨W1.heap.size, 11, none⟩ q11).setCell ⟨W1.heap.size, 12, none⟩ q12).cell? ⟨w.heap.size, 2, none⟩ = some (.int .i64 t.n) from fun q0 q1 q2 q3 q4 q5 q6 q7 q8 q9 q10 q11 q12 => HZ.out _ (Ent.below13 B4.out (by have := B2.out.size; have := B23.out.size; have := B34.out.size; omega) _ _ _ _ _ _ _ _ _ _ _ _ _)); have K2 := Lib.hid (show ∀ (q0 q1 q2 q3 q4 q5 q6 q7 q8 q9 q10 q11 q12 : Value), (((((((((((((w4.setCell ⟨w2.heap.size, 0, none⟩ q0).setCell ⟨w2.heap.size, 1, none⟩ q1).setCell ⟨w2.heap.size, 2, none⟩ q2).setCell ⟨w2.heap.size, 3, none⟩ q3).setCell ⟨w2.heap.size, 4, none⟩ q4).setCell ⟨w2.heap.size, 5, none⟩ q5).setCell ⟨w2.heap.size, 6, none⟩ q6).setCell ⟨w2.heap.size, 7, none⟩ q7).setCell ⟨w2.heap.size, 8, none⟩ q8).setCell ⟨w2.heap.size, 9, none⟩ q9).setCell ⟨w2.heap.size, 10, none⟩ q10).setCell ⟨w2.heap.size, 11, none⟩ q11).setCell ⟨w2.heap.size, 12, none⟩ q12).cell? ⟨w.heap.size, 0, none⟩ = some (.int .i64 t.cl) ∧ (((((((((((((w4.setCell ⟨w2.heap.size, 0, none⟩ q0).setCell ⟨w2.heap.size, 1, none⟩ q1).setCell ⟨w2.heap.size, 2, none⟩ q2).setCell ⟨w2.heap.size, 3, none⟩ q3).setCell ⟨w2.heap.size, 4, none⟩ q4).setCell ⟨w2.heap.size, 5, none⟩ q5).setCell ⟨w2.heap.size, 6, none⟩ q6).setCell ⟨w2.heap.size, 7, none⟩ q7).setCell ⟨w2.heap.size, 8, none⟩ q8).setCell ⟨w2.heap.size, 9, none⟩ q9).setCell ⟨w2.heap.size, 10, none⟩ q10).setCell ⟨w2.heap.size, 11, none⟩ q11).setCell ⟨w2.heap.size, 12, none⟩ q12).cell? ⟨w.heap.size, 1, none⟩ = some (.int .i64 t.ep) ∧ (((((((((((((w4.setCell ⟨w2.heap.size, 0, none⟩ q0).setCell ⟨w2.heap.size, 1, none⟩ q1).setCell ⟨w2.heap.size, 2, none⟩ q2).setCell ⟨w2.heap.size, 3, none⟩ q3).setCell ⟨w2.heap.size, 4, none⟩ q4).setCell ⟨w2.heap.size, 5, none⟩ q5).setCell ⟨w2.heap.size, 6, none⟩ q6).setCell ⟨w2.heap.size, 7, none⟩ q7).setCell ⟨w2.heap.size, 8, none⟩ q8).setCell ⟨w2.heap.size, 9, none⟩ q9).setCell ⟨w2.heap.size, 10, none⟩ q10).setCell ⟨w2.heap.size, 11, none⟩ q11).setCell ⟨w2.heap.size, 12, none⟩ q12).cell? ⟨w.heap.size, 2, none⟩ = some (.int .i64 t.n) from fun q0 q1 q2 q3 q4 q5 q6 q7 q8 q9 q10 q11 q12 => HZ.out _ (Ent.below13 B4.out (by have := B2.out.size; have := B23.out.size; have := B34.out.size; omega) _ _ _ _ _ _ _ _ _ _ _ _ _)); have K3 := Lib.hid (show ∀ (q0 q1 q2 q3 q4 q5 q6 q7 q8 q9 q10 q11 q12 : Value), (((((((((((((w4.setCell ⟨w3.heap.size, 0, none⟩ q0).setCell ⟨w3.heap.size, 1, none⟩ q1).setCell ⟨w3.heap.size, 2, none⟩ q2).setCell ⟨w3.heap.size, 3, none⟩ q3).setCell ⟨w3.heap.size, 4, none⟩ q4).setCell ⟨w3.heap.size, 5, none⟩ q5).setCell ⟨w3.heap.size, 6, none⟩ q6).setCell ⟨w3.heap.size, 7, none⟩ q7).setCell ⟨w3.heap.size, 8, none⟩ q8).setCell ⟨w3.heap.size, 9, none⟩ q9).setCell ⟨w3.heap.size, 10, none⟩ q10).setCell ⟨w3.heap.size, 11, none⟩ q11).setCell ⟨w3.heap.size, 12, none⟩ q12).cell? ⟨w.heap.size, 0, none⟩ = some (.int .i64 t.cl) ∧ (((((((((((((w4.setCell ⟨w3.heap.size, 0, none⟩ q0).setCell ⟨w3.heap.size, 1, none⟩ q1).setCell ⟨w3.heap.size, 2, none⟩ q2).setCell ⟨w3.heap.size, 3, none⟩ q3).setCell ⟨w3.heap.size, 4, none⟩ q4).setCell ⟨w3.heap.size, 5, none⟩ q5).setCell ⟨w3.heap.size, 6, none⟩ q6).setCell ⟨w3.heap.size, 7, none⟩ q7).setCell ⟨w3.heap.size, 8, none⟩ q8).setCell ⟨w3.heap.size, 9, none⟩ q9).setCell ⟨w3.heap.size, 10, none⟩ q10).setCell ⟨w3.heap.size, 11, none⟩ q11).setCell ⟨w3.heap.size, 12, none⟩ q12).cell? ⟨w.heap.size, 1, none⟩ = some (.int .i64 t.ep) ∧ (((((((((((((w4.setCell ⟨w3.heap.size, 0, none⟩ q0).setCell ⟨w3.heap.size, 1, none⟩ q1).setCell ⟨w3.heap.size, 2, none⟩ q2).setCell ⟨w3.heap.size, 3, none⟩ q3).setCell ⟨w3.heap.size, 4, none⟩ q4).setCell ⟨w3.heap.size, 5, none⟩ q5).setCell ⟨w3.heap.size, 6, none⟩ q6).setCell ⟨w3.heap.size, 7, none⟩ q7).setCell ⟨w3.heap.size, 8, none⟩ q8).setCell ⟨w3.heap.size, 9, none⟩ q9).setCell ⟨w3.heap.size, 10, none⟩ q10).setCell ⟨w3.heap.size, 11, none⟩ q11).setCell ⟨w3.heap.size, 12, none⟩ q12).cell? ⟨w.heap.size, 2, none⟩ = some (.int .i64 t.n) from fun q0 q1 q2 q3 q4 q5 q6 q7 q8 q9 q10 q11 q12 => HZ.out _ (Ent.below13 B4.out (by have := B2.out.size; have := B23.out.size; have := B34.out.size; omega) _ _ _ _ _ _ _ _ _ _ _ _ _));  rw [HNO.out]; obtain ⟨y, hy⟩ : ∃ y, ansL Y = y := ⟨_, rfl⟩; have HY := Lib.hid hy; rw [hy]; clear hy; obtain ⟨y1, y2⟩ := y; dsimp only))
    all_goals
      go_wp2_with fail
      go_meet
      case rel =>
        first
        | (with_unfolding_none exact ⟨_, y1, y2, rfl, rfl, Lib.hid ⟨HY.out, Blk.new w4 _ _, below_go B4.out (Ent.below_box _ _)⟩⟩)
        | (refine ⟨_, y1, y2, rfl, rfl, Lib.hid ⟨HY.out, ?_, ?_⟩⟩
           · exact blk13 HBX4.out _ _ _ _ _ _ _ _ _ _ _ _ _
           · exact Ent.below13 B4.out (by have := B2.out.size; have := B23.out.size; have := B34.out.size; omega) _ _ _ _ _ _ _ _ _ _ _ _ _)
  case rest =>
    obtain ⟨g8, y1, y2, rfl, rfl, HC⟩ := hcut
    have HX2 := Lib.hid HC.out.2.1
    have HR2 := Lib.hid (HRR.out.below HC.out.2.2 HRR.out.lt)
    have HBB := Lib.hid (below_go HB2.out HC.out.2.2)
    have hy := HC.out.1
    clear HC z0 z1 t0 t1 t2
    obtain ⟨z0, z1, z2, z3, z4, z5, z6, z7, z8, z9, z10, z11, z12⟩ := Ent.ent_cells (x := noE) HR2.out
    obtain ⟨f0, f1, f2, f3, f4, f5, f6, f7, f8, f9, f10, f11, f12⟩ := Ent.ent_frozen HR2.out
    simp only [noE] at z0 z1 z2 z3 z4 z5 z6 z7 z8 z9 z10 z11 z12
    obtain ⟨c0, c1, c2, c3, c4, c5, c6, c7, c8, c9, c10, c11, c12⟩ := Ent.ent_cells HX2.out
    cases Y with
    | none =>
      injection hy with hy1 hy2
      subst hy1 hy2
      simp only [noE] at c0 c1 c2 c3 c4 c5 c6 c7 c8 c9 c10 c11 c12
      go_wp2
      exact bodyPost_ret (v := .tuple #[.agg #[.int .i64 0, .int .i64 0, .int .i64 0, .int .i64 0, .int .i64 0, .int .i64 0, .int .i64 0, .int .i64 0, .bool false, .string ⟨#[]⟩, .bool false, .string ⟨#[]⟩, .int .i64 0], .bool false]) (by simp [results, Tryz.results18, go_sem, z0, z1, z2, z3, z4, z5, z6, z7, z8, z9, z10, z11, z12]) rfl ⟨by rw [HBK.out]; rfl, Ent.below13 HBB.out (by omega) _ _ _ _ _ _ _ _ _ _ _ _ _⟩
    | some o =>
      cases o with
      | none =>
        injection hy with hy1 hy2
        subst hy1 hy2
        simp only [noE] at c0 c1 c2 c3 c4 c5 c6 c7 c8 c9 c10 c11 c12
        go_wp2
        exact bodyPost_ret (v := .tuple #[.agg #[.int .i64 0, .int .i64 0, .int .i64 0, .int .i64 0, .int .i64 0, .int .i64 0, .int .i64 0, .int .i64 0, .bool false, .string ⟨#[]⟩, .bool false, .string ⟨#[]⟩, .int .i64 0], .bool false]) (by simp [results, Tryz.results18, go_sem, z0, z1, z2, z3, z4, z5, z6, z7, z8, z9, z10, z11, z12]) rfl ⟨by rw [HBK.out]; rfl, Ent.below13 HBB.out (by omega) _ _ _ _ _ _ _ _ _ _ _ _ _⟩
      | some x =>
        injection hy with hy1 hy2
        subst hy1 hy2
        have hk := HK.out x rfl
        have e1 : (x.kind != 1) = false := by simp [hk]
        by_cases hd : down < x.lsn
        · have e2 : decide (x.lsn ≤ down) = false := decide_eq_false (by omega)
          have HE := Lib.hid (show backY (some (some x)) down = some x from if_pos hd)
          clear hk
          go_wp2
          exact bodyPost_ret (v := .tuple #[.agg #[.int .i64 x.kind, .int .i64 x.cl, .int .i64 x.ep, .int .i64 x.n, .int .i64 x.lsn, .int .i64 x.prev, .int .i64 x.page, .int .i64 x.slot, .bool x.wu, .string x.wd, .bool x.iu, .string x.id, .int .i64 x.next], .bool true]) (by simp [results, Tryz.results18, go_sem, z0, z1, z2, z3, z4, z5, z6, z7, z8, z9, z10, z11, z12]) rfl ⟨by rw [HBK.out]; rw [HE.out]; rfl, Ent.below13 HBB.out (by omega) _ _ _ _ _ _ _ _ _ _ _ _ _⟩
        · have e2 : decide (x.lsn ≤ down) = true := decide_eq_true (by omega)
          have HE := Lib.hid (show backY (some (some x)) down = none from if_neg hd)
          clear hk
          go_wp2
          exact bodyPost_ret (v := .tuple #[.agg #[.int .i64 0, .int .i64 0, .int .i64 0, .int .i64 0, .int .i64 0, .int .i64 0, .int .i64 0, .int .i64 0, .bool false, .string ⟨#[]⟩, .bool false, .string ⟨#[]⟩, .int .i64 0], .bool false]) (by simp [results, Tryz.results18, go_sem, z0, z1, z2, z3, z4, z5, z6, z7, z8, z9, z10, z11, z12]) rfl ⟨by rw [HBK.out]; rw [HE.out]; rfl, Ent.below13 HBB.out (by omega) _ _ _ _ _ _ _ _ _ _ _ _ _⟩
end Go.Proofs.YtkeocnhndnbamaaGreat.Mend
