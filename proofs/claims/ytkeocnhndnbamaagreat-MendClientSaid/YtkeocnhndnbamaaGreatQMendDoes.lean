/- An act of a client: the statements' own does, walked. -/
import Derived.Test.YtkeocnhndnbamaaGreatQBook24
import Derived.Deep.LoopGhost
namespace Go.Proofs.YtkeocnhndnbamaaGreat.Mend
set_option maxRecDepth 100000
open Go.RowKit Go.Sort
open Go.Proofs.YtkeocnhndnbamaaGreat.Mem
open Go.Proofs.YtkeocnhndnbamaaGreat.Slab (Slot Slots atL slotV)
open Go.Proofs.YtkeocnhndnbamaaGreat.Ent (Ent goodB Ents SmallE cellsE noE)
open Go.Proofs.YtkeocnhndnbamaaGreat.Past (T3 txE SmT smI_of AppRes cellsG)
open Go.Proofs.YtkeocnhndnbamaaGreat.MLog
theorem at_small {z : List Slot} (h : ∀ x ∈ z, x.d.size ≤ 140737488351232) (l k : Int) : (atL l z k).d.size ≤ 140737488351232 := by
  unfold atL
  split
  · split
    · rename_i h1
      have : z.getD k.toNat Slab.nos ∈ z := by
        have hk : k.toNat < z.length := by omega
        rw [List.getD_eq_getElem?_getD, List.getElem?_eq_getElem hk]
        exact List.getElem_mem hk
      exact h _ this
    · exact (by decide : (ByteArray.mk #[]).size ≤ 140737488351232)
  · exact (by decide : (ByteArray.mk #[]).size ≤ 140737488351232)
def cutN (x n : Int) : Nat := (wrap64 ((IntKind.u64.wrap x).tmod n)).toNat
theorem cutN_is (x n : Int) (hn : 1 ≤ n) (hm : n ≤ 1000) : wrap64 ((IntKind.u64.wrap x).tmod n) = (cutN x n : Int) ∧ (cutN x n : Int) < n := by
  obtain ⟨K, h1, h2⟩ := cut_of x n hn (by omega)
  unfold cutN
  rw [h1]
  exact ⟨by simp, by simpa using h2⟩
theorem c14 {cn c : Nat} (r : (cn : Int) < 4) (h : cn + 1 = c) : 1 ≤ c ∧ c ≤ 4 := by omega
theorem n4 {n : Nat} (r : (n : Int) < 4) : n < 4 := by omega
theorem k5 {n : Nat} (r : (n : Int) < 5) : n < 5 := by omega
theorem c_add {cn c : Nat} (r : (cn : Int) < 4) (h : cn + 1 = c) : wrap64 (1 + (cn : Int)) = (c : Int) ∧ IntKind.i64.wrap (1 + (cn : Int)) = (c : Int) := by
  have h1 : wrap64 (1 + (cn : Int)) = (c : Int) := by unfold wrap64; omega
  exact ⟨h1, by rw [IntWalk.i64_left]; exact h1⟩
/-- an act as it comes in, told -/
def AR.p (a : AR) : ActP := ⟨a.kd, ((cutN a.cl 4 + 1 : Nat) : Int), (cutN a.pg 4 : Int), (cutN a.sl 5 : Int), a.d⟩
theorem AR.fine (a : AR) : a.p.fine := by
  have h1 := (cutN_is a.cl 4 (by decide) (by decide)).2
  have h2 := (cutN_is a.pg 4 (by decide) (by decide)).2
  have h3 := (cutN_is a.sl 5 (by decide) (by decide)).2
  unfold ActP.fine Cl AR.p
  dsimp only
  omega
theorem empty_is (d : ByteArray) : d.toList.isEmpty = decide (d.size = 0) := by
  rw [ByteArray.toList_eq]
  have h : d.data.toList.length = d.size := by rw [Array.length_toList]; rfl
  cases hl : d.data.toList with
  | nil =>
    rw [hl] at h
    have h0 : d.size = 0 := h.symm
    rw [h0]; rfl
  | cons a r =>
    rw [hl, List.length_cons] at h
    rw [List.isEmpty_cons, decide_eq_false (by omega)]
theorem own_set2 (lv nv av : Value) (p : PD) {n : Nat} (hn : n < 4) (c : Int) : (pastA lv nv av p).setIfInBounds (3 + n) (.int .i64 c) = pastA lv nv av (ownP p n c) := by
  rcases (show n = 0 ∨ n = 1 ∨ n = 2 ∨ n = 3 by omega) with rfl | rfl | rfl | rfl <;> rfl
section
variable {w : World} {B u : Nat} {M : Nat → Prop} {lv nv av : Value} {p : PD}
set_option maxRecDepth 100000 in
set_option maxHeartbeats 16000000 in
theorem pdoes_any (h : PM w B u M lv nv av p) (hBu : B ≤ u) {s : St T3 Slot Im} {P T : Nat} (hv : Liv p s P T) (hP : P ≤ 900) (hT : T ≤ 900) (kd cl pg sl : Int) (d : ByteArray) (hdl : d.size ≤ 100) :
    Calls Tryz.prog 26 #[.pointer (some ⟨u, 0, none⟩), .agg #[.int .i64 kd, .int .i64 cl, .int .i64 pg, .int .i64 sl, .string d]] w fun e w' => e = .returned (.tuple #[]) ∧ PQ w' B u (actP p kd ((cutN cl 4 + 1 : Nat) : Int) (cutN pg 4 : Int) (cutN sl 5 : Int) d) ∧ Below B w w' := by
  have HLV := Lib.hid hv
  have HSN := Lib.hid (liv_sane hv (by omega) (by omega))
  have HUW := Lib.hid h.blk.lt
  have hBw : B ≤ w.heap.size := by have := h.blk.lt; omega
  have hb1 := Ent.below_box w (.cells #[.int .i64 kd, .int .i64 cl, .int .i64 pg, .int .i64 sl, .string d] 79)
  have HB1 := Lib.hid hb1
  have HBB := Lib.hid (hb1.mono hBw)
  have HP := Lib.hid (h.below hb1)
  have HA := Lib.hid (Blk.new w 79 #[.int .i64 kd, .int .i64 cl, .int .i64 pg, .int .i64 sl, .string d])
  obtain ⟨cn, hcn⟩ : ∃ cn, cutN cl 4 = cn := ⟨_, rfl⟩
  obtain ⟨n, hn⟩ : ∃ n, cutN pg 4 = n := ⟨_, rfl⟩
  obtain ⟨k, hk⟩ : ∃ k, cutN sl 5 = k := ⟨_, rfl⟩
  obtain ⟨q1, r1⟩ := cutN_is cl 4 (by decide) (by decide)
  obtain ⟨q2, r2⟩ := cutN_is pg 4 (by decide) (by decide)
  obtain ⟨q3, r3⟩ := cutN_is sl 5 (by decide) (by decide)
  rw [hcn] at q1 r1
  rw [hn] at q2 r2
  rw [hk] at q3 r3
  rw [hcn, hn, hk]
  obtain ⟨c, hc⟩ : ∃ c, cn + 1 = c := ⟨_, rfl⟩
  have hc14 : 1 ≤ c ∧ c ≤ 4 := c14 r1 hc
  have hn4 : n < 4 := n4 r2
  have hk5 : k < 5 := k5 r3
  obtain ⟨q4, q5⟩ := c_add r1 hc
  rw [hc]
  have HCL := Lib.hid (cl_nat hc14)
  clear h hv hb1 hcn hn hk hc r1 r2 r3
  go_enter Tryz.func26, Tryz.ntmps26
  go_upto_region 1 with (fail)
  obtain ⟨ga, hga⟩ : ∃ ga, w.heap.size = ga := ⟨_, rfl⟩
  rw [hga] at HA
  try rw [hga]
  clear hga
  generalize hGen : w.alloc (.cells #[.int .i64 kd, .int .i64 cl, .int .i64 pg, .int .i64 sl, .string d] 79) = W1 at HA HP HB1 HBB ⊢
  clear hGen
  have a0 := HA.out.cell 0
  have a1 := HA.out.cell 1
  have a2 := HA.out.cell 2
  have a3 := HA.out.cell 3
  go_upto_region 5 with (fail)
  rw [q2, q3]
  clear q1 q2 q3 q4 q5 a0 a1 a2 a3
  by_cases k1 : kd = 1
  · subst k1
    have HACT := Lib.hid (show actP p 1 (c : Int) (n : Int) (k : Int) d = chP p c n k d by unfold actP; rw [if_pos rfl])
    obtain ⟨ov, hov⟩ : ∃ ov, p.owner n = ov := ⟨_, rfl⟩
    have o3 := HP.out.owner hn4
    rw [hov] at o3
    have HOV := Lib.hid hov
    have hn0 : (0 : Int) ≤ (n : Int) := by omega
    have hnI : (n : Int) < 4 := by omega
    have hnd : decide ((n : Int) < 4) = true := decide_eq_true (by omega)
    clear hov
    obtain ⟨cb, hcb⟩ : ∃ cb, (decide (ov ≠ 0) && decide (ov ≠ (c : Int))) = cb := ⟨_, rfl⟩
    have HCB := Lib.hid hcb
    go_upto_region 6 with (fail)
    go_cut [46] (fun t46 wx => t46 = .bool cb ∧ Hid (W1 = wx))
    case first =>
      by_cases h0 : ov = 0
      · have e1 : (ov != 0) = false := by simp [h0]
        have e2 : (ov == 0) = true := by simp [h0]
        have e3 : decide (ov = 0) = true := decide_eq_true h0
        have e4 : cb = false := by rw [← hcb]; simp [h0]
        clear h0 hcb
        subst e4
        go_wp2_with fail
        go_meet
        case rel => exact ⟨rfl, Lib.hid rfl⟩
      · have e1 : (ov != 0) = true := by simp [h0]
        have e2 : (ov == 0) = false := by simp [h0]
        have e3 : decide (ov = 0) = false := decide_eq_false h0
        by_cases h1 : ov = (c : Int)
        · have e4 : (ov != (c : Int)) = false := by simp [h1]
          have e5 : (ov == (c : Int)) = true := by simp [h1]
          have e6 : decide (ov = (c : Int)) = true := decide_eq_true h1
          have e7 : cb = false := by rw [← hcb]; simp [h1]
          clear h0 h1 hcb
          subst e7
          go_wp2_with fail
          go_meet
          case rel => exact ⟨rfl, Lib.hid rfl⟩
        · have e4 : (ov != (c : Int)) = true := by simp [h1]
          have e5 : (ov == (c : Int)) = false := by simp [h1]
          have e6 : decide (ov = (c : Int)) = false := decide_eq_false h1
          have e7 : cb = true := by rw [← hcb]; simp [h0, h1]
          clear h0 h1 hcb
          subst e7
          go_wp2_with fail
          go_meet
          case rel => exact ⟨rfl, Lib.hid rfl⟩
    case rest =>
      obtain ⟨rfl, HW⟩ := hcut
      have hww := HW.out
      subst hww
      clear o3 hcb HW
      cases cb with
      | true =>
        have HF := Lib.hid (show PQ W1 B u (actP p 1 (c : Int) (n : Int) (k : Int) d) from by
          rw [HACT.out]
          unfold chP
          have h2 := HCB.out
          simp at h2
          rw [if_pos (by rw [HOV.out]; exact h2)]
          exact ⟨M, lv, nv, av, HP.out, hBu⟩)
        go_wp2
        exact bodyPost_ret (v := .tuple #[]) (by simp [results, Tryz.results26, go_sem]) rfl ⟨rfl, HF.out, HBB.out⟩
      | false =>
        have HCH := Lib.hid (show chP p c n k d = if goodB (chX p c n k d) = true ∧ addB p (chX p c n k d) = true then ownP (addP p (chX p c n k d)) n c else p from by
          unfold chP
          have h2 := HCB.out
          rw [if_neg (by rw [HOV.out]; rintro ⟨h3, h4⟩; simp [h3, h4] at h2)])
        clear HCB HOV
        obtain ⟨gn, cn2, aa, m, dd, hnv, -, -, y1, y2, hsl⟩ := HP.out.page hn4
        have u1 : W1.cell? ⟨u, 1, none⟩ = some (.slice (some ⟨gn, 0, none⟩) 4 cn2) := by rw [HP.out.blk.cell, ← hnv]; rfl
        obtain ⟨PL, hPL⟩ : ∃ PL, (p.now (n : Int)).1 = PL := ⟨_, rfl⟩
        obtain ⟨PZ, hPZ⟩ : ∃ PZ, (p.now (n : Int)).2 = PZ := ⟨_, rfl⟩
        rw [hPL] at y1
        rw [hPZ] at hsl
        obtain ⟨wu, hwu⟩ : ∃ wu, (atL PL PZ (k : Int)).u = wu := ⟨_, rfl⟩
        obtain ⟨wd, hwd⟩ : ∃ wd, (atL PL PZ (k : Int)).d = wd := ⟨_, rfl⟩
        have HWS := Lib.hid (show (atL (p.now (n : Int)).1 (p.now (n : Int)).2 (k : Int)).u = wu ∧ (atL (p.now (n : Int)).1 (p.now (n : Int)).2 (k : Int)).d = wd by rw [hPL, hPZ]; exact ⟨hwu, hwd⟩)
        have HWSM := Lib.hid (show wd.size ≤ 140737488351232 from by
          rw [← hwd]
          exact at_small hsl.1.2.1 PL (k : Int))
        have HAT := Lib.hid (show Calls Tryz.prog 16 #[.agg #[.int .i64 PL, .slice aa m dd], .int .i64 (k : Int)] W1 fun e w' => e = .returned (.agg #[.bool wu, .string wd]) ∧ Below W1.heap.size W1 w' from by
          have h1 := Slab.at_any PL aa m dd PZ (k : Int) W1 hsl.1 hsl.2.1
          unfold slotV at h1
          rw [hwu, hwd] at h1
          exact h1)
        clear hnv hsl hwu hwd hPL hPZ
        go_upto_region 8 with ((with_reducible refine (HAT.out).mono ?_); rintro e w2 ⟨rfl, b2⟩; have B2 := Lib.hid b2; clear b2)
        clear y1 y2 u1
        have HW7 := Lib.hid (Blk.new w2 41 #[.bool wu, .string wd])
        have HB7 := Lib.hid (below_go B2.out (Ent.below_box w2 (.cells #[.bool wu, .string wd] 41)))
        have HA7 := Lib.hid ((HA.out.below B2.out HA.out.lt).alloc (.cells #[.bool wu, .string wd] 41))
        obtain ⟨g7, hg7⟩ : ∃ g7, w2.heap.size = g7 := ⟨_, rfl⟩
        rw [hg7] at HW7
        try rw [hg7]
        clear hg7 HAT B2 HA
        generalize hGen : w2.alloc (.cells #[.bool wu, .string wd] 41) = W7 at HW7 HB7 HA7 ⊢
        clear hGen
        obtain ⟨sb, hsb⟩ : ∃ sb, decide (d.size ≠ 0) = sb := ⟨_, rfl⟩
        have HSB := Lib.hid hsb
        have hne : d.toList.isEmpty = !sb := by
          rw [← hsb, empty_is]
          by_cases h0 : d.size = 0 <;> simp [h0]
        clear hsb
        have a4 := HA7.out.cell 4
        go_upto_region 9 with (fail)
        clear a4 hne
        have HW8 := Lib.hid (Blk.new W7 41 #[.bool sb, .string d])
        have HB8 := Lib.hid (below_go HB7.out (Ent.below_box W7 (.cells #[.bool sb, .string d] 41)))
        have HW78 := Lib.hid (HW7.out.alloc (.cells #[.bool sb, .string d] 41))
        obtain ⟨g8, hg8⟩ : ∃ g8, W7.heap.size = g8 := ⟨_, rfl⟩
        rw [hg8] at HW8
        try rw [hg8]
        clear hg8 HW7 HB7 HA7
        generalize hGen : W7.alloc (.cells #[.bool sb, .string d] 41) = W8 at HW8 HB8 HW78 ⊢
        clear hGen
        have HP8 := Lib.hid (HP.out.below HB8.out)
        obtain ⟨LL, hLL⟩ : ∃ LL, lsnP p c n = LL := ⟨_, rfl⟩
        obtain ⟨QQ, hQQ⟩ : ∃ QQ, p.last c = QQ := ⟨_, rfl⟩
        have hls := lsn_at HP8.out HSN.out hc14 hn4
        rw [hLL] at hls
        have HLS := Lib.hid hls
        have HTX := Lib.hid (txn_at HP8.out (show c < 5 by omega))
        have HYX := Lib.hid (show chX p c n k d = ⟨1, c, 1, p.txn c, LL, QQ, n, k, wu, wd, sb, d, 0⟩ by unfold chX; rw [hLL, hQQ, HWS.out.1, HWS.out.2, HSB.out])
        have HS := Lib.hid (show ∀ W', Below W8.heap.size W8 W' → W'.cell? ⟨u, 12 + c, none⟩ = some (.int .i64 QQ) ∧ W'.cell? ⟨g7, 0, none⟩ = some (.bool wu) ∧ W'.cell? ⟨g7, 1, none⟩ = some (.string wd) ∧ W'.cell? ⟨g8, 0, none⟩ = some (.bool sb) ∧ W'.cell? ⟨g8, 1, none⟩ = some (.string d) from fun W' hb => ⟨by rw [(HP8.out.below hb).last (show c < 5 by omega), hQQ], (HW78.out.below hb HW78.out.lt).cell 0, (HW78.out.below hb HW78.out.lt).cell 1, (HW8.out.below hb HW8.out.lt).cell 0, (HW8.out.below hb HW8.out.lt).cell 1⟩)
        have hcl0 : (0 : Int) ≤ (c : Int) := by omega
        have hcI : (c : Int) < 5 := by omega
        have hcd : decide ((c : Int) < 5) = true := decide_eq_true (by omega)
        clear hls hLL hQQ
        have z0 := HS.out W8 (Below.refl _ _)
        have z1 := HS.out W8.drew (Below.refl _ _).drew
        go_cut [9] (fun t9 wy => ∃ g9 : Nat, t9 = .pointer (some ⟨g9, 0, none⟩) ∧ Hid (Blk wy g9 58 #[.int .i64 1, .int .i64 (c : Int), .int .i64 1, .int .i64 (p.txn c), .int .i64 LL, .int .i64 QQ, .int .i64 (n : Int), .int .i64 (k : Int), .bool wu, .string wd, .bool sb, .string d, .int .i64 0] ∧ Below W8.heap.size W8 wy ∧ W8.heap.size ≤ g9))
        case first =>
          go_region_held3 (fun W' => W'.cell? ⟨u, 12 + c, none⟩ = some (.int .i64 QQ) ∧ W'.cell? ⟨g7, 0, none⟩ = some (.bool wu) ∧ W'.cell? ⟨g7, 1, none⟩ = some (.string wd) ∧ W'.cell? ⟨g8, 0, none⟩ = some (.bool sb) ∧ W'.cell? ⟨g8, 1, none⟩ = some (.string d))
            (first | (with_unfolding_none exact K1.out _ _ _ _ _ _ _ _ _ _ _ _ _) | (with_unfolding_none assumption) | (with_unfolding_none exact z0) | (with_unfolding_none exact z1) | (with_unfolding_none exact HS.out _ (Ent.below_box _ _)) | (with_unfolding_none exact HS.out _ (Ent.below_box _ _).drew) | (with_unfolding_none exact HS.out _ (below_go B2.out (Ent.below_box _ _))) | (with_unfolding_none exact HS.out _ (below_go B2.out (Ent.below_box _ _)).drew) | (with_unfolding_none exact HS.out _ (below_go B1.out (Ent.below_box _ _))) | (with_unfolding_none exact HS.out _ (below_go B1.out (Ent.below_box _ _)).drew))
            (first | (go_at_call 17; (with_reducible refine (HTX.out _ (by first | (with_reducible exact Below.refl _ _) | (with_reducible exact bx_d _) | (with_reducible exact Ent.below_box _ _) | (with_reducible exact bx_ad _ _))).mono ?_); rintro e w1 ⟨rfl, b1⟩; have B1 := Lib.hid (show Below W8.heap.size W8 w1 from (by first | (with_reducible exact b1) | (with_reducible exact bn_d b1) | (with_reducible exact bn_a b1) | (with_reducible exact bn_ad b1))); (first | ((with_reducible have hq := ebox b1); have HBX := Lib.hid hq; clear hq; have HGB := Lib.hid (Nat.le_refl W8.heap.size); obtain ⟨e0, e1, e2, e3, e4, e5, e6, e7, e8, e9, e10, e11, e12⟩ := Ent.ent_cells (x := noE) HBX.out; simp only [noE] at e0 e1 e2 e3 e4 e5 e6 e7 e8 e9 e10 e11 e12; obtain ⟨f0, f1, f2, f3, f4, f5, f6, f7, f8, f9, f10, f11, f12⟩ := Ent.ent_frozen HBX.out) | ((with_reducible have hq := ebox_d b1); have HBX := Lib.hid hq; clear hq; have HGB := Lib.hid (Nat.le_refl W8.heap.size); obtain ⟨e0, e1, e2, e3, e4, e5, e6, e7, e8, e9, e10, e11, e12⟩ := Ent.ent_cells (x := noE) HBX.out; simp only [noE] at e0 e1 e2 e3 e4 e5 e6 e7 e8 e9 e10 e11 e12; obtain ⟨f0, f1, f2, f3, f4, f5, f6, f7, f8, f9, f10, f11, f12⟩ := Ent.ent_frozen HBX.out) | skip); clear b1; have y1 := HS.out w1 B1.out) | (go_at_call 20; (with_reducible refine (HLS.out _ (by first | (with_reducible exact B1.out) | (with_reducible exact B1.out.drew) | (with_reducible exact below_go B1.out (Ent.below_box _ _)) | (with_reducible exact (below_go B1.out (Ent.below_box _ _)).drew))).mono ?_); rintro e w2 ⟨rfl, b2⟩; have B12 := Lib.hid (show Below w1.heap.size w1 w2 from (by first | (with_reducible exact b2) | (with_reducible exact bn_d b2) | (with_reducible exact bn_a b2) | (with_reducible exact bn_ad b2))); have B2 := Lib.hid (below_go B1.out B12.out); (first | ((with_reducible have hq := ebox b2); have HBX := Lib.hid hq; clear hq; have HGB := Lib.hid B1.out.size; obtain ⟨e0, e1, e2, e3, e4, e5, e6, e7, e8, e9, e10, e11, e12⟩ := Ent.ent_cells (x := noE) HBX.out; simp only [noE] at e0 e1 e2 e3 e4 e5 e6 e7 e8 e9 e10 e11 e12; obtain ⟨f0, f1, f2, f3, f4, f5, f6, f7, f8, f9, f10, f11, f12⟩ := Ent.ent_frozen HBX.out; have K1 := Lib.hid (show ∀ (q0 q1 q2 q3 q4 q5 q6 q7 q8 q9 q10 q11 q12 : Value), (((((((((((((w2.setCell ⟨w1.heap.size, 0, none⟩ q0).setCell ⟨w1.heap.size, 1, none⟩ q1).setCell ⟨w1.heap.size, 2, none⟩ q2).setCell ⟨w1.heap.size, 3, none⟩ q3).setCell ⟨w1.heap.size, 4, none⟩ q4).setCell ⟨w1.heap.size, 5, none⟩ q5).setCell ⟨w1.heap.size, 6, none⟩ q6).setCell ⟨w1.heap.size, 7, none⟩ q7).setCell ⟨w1.heap.size, 8, none⟩ q8).setCell ⟨w1.heap.size, 9, none⟩ q9).setCell ⟨w1.heap.size, 10, none⟩ q10).setCell ⟨w1.heap.size, 11, none⟩ q11).setCell ⟨w1.heap.size, 12, none⟩ q12).cell? ⟨u, 12 + c, none⟩ = some (.int .i64 QQ) ∧ (((((((((((((w2.setCell ⟨w1.heap.size, 0, none⟩ q0).setCell ⟨w1.heap.size, 1, none⟩ q1).setCell ⟨w1.heap.size, 2, none⟩ q2).setCell ⟨w1.heap.size, 3, none⟩ q3).setCell ⟨w1.heap.size, 4, none⟩ q4).setCell ⟨w1.heap.size, 5, none⟩ q5).setCell ⟨w1.heap.size, 6, none⟩ q6).setCell ⟨w1.heap.size, 7, none⟩ q7).setCell ⟨w1.heap.size, 8, none⟩ q8).setCell ⟨w1.heap.size, 9, none⟩ q9).setCell ⟨w1.heap.size, 10, none⟩ q10).setCell ⟨w1.heap.size, 11, none⟩ q11).setCell ⟨w1.heap.size, 12, none⟩ q12).cell? ⟨g7, 0, none⟩ = some (.bool wu) ∧ (((((((((((((w2.setCell ⟨w1.heap.size, 0, none⟩ q0).setCell ⟨w1.heap.size, 1, none⟩ q1).setCell ⟨w1.heap.size, 2, none⟩ q2).setCell ⟨w1.heap.size, 3, none⟩ q3).setCell ⟨w1.heap.size, 4, none⟩ q4).setCell ⟨w1.heap.size, 5, none⟩ q5).setCell ⟨w1.heap.size, 6, none⟩ q6).setCell ⟨w1.heap.size, 7, none⟩ q7).setCell ⟨w1.heap.size, 8, none⟩ q8).setCell ⟨w1.heap.size, 9, none⟩ q9).setCell ⟨w1.heap.size, 10, none⟩ q10).setCell ⟨w1.heap.size, 11, none⟩ q11).setCell ⟨w1.heap.size, 12, none⟩ q12).cell? ⟨g7, 1, none⟩ = some (.string wd) ∧ (((((((((((((w2.setCell ⟨w1.heap.size, 0, none⟩ q0).setCell ⟨w1.heap.size, 1, none⟩ q1).setCell ⟨w1.heap.size, 2, none⟩ q2).setCell ⟨w1.heap.size, 3, none⟩ q3).setCell ⟨w1.heap.size, 4, none⟩ q4).setCell ⟨w1.heap.size, 5, none⟩ q5).setCell ⟨w1.heap.size, 6, none⟩ q6).setCell ⟨w1.heap.size, 7, none⟩ q7).setCell ⟨w1.heap.size, 8, none⟩ q8).setCell ⟨w1.heap.size, 9, none⟩ q9).setCell ⟨w1.heap.size, 10, none⟩ q10).setCell ⟨w1.heap.size, 11, none⟩ q11).setCell ⟨w1.heap.size, 12, none⟩ q12).cell? ⟨g8, 0, none⟩ = some (.bool sb) ∧ (((((((((((((w2.setCell ⟨w1.heap.size, 0, none⟩ q0).setCell ⟨w1.heap.size, 1, none⟩ q1).setCell ⟨w1.heap.size, 2, none⟩ q2).setCell ⟨w1.heap.size, 3, none⟩ q3).setCell ⟨w1.heap.size, 4, none⟩ q4).setCell ⟨w1.heap.size, 5, none⟩ q5).setCell ⟨w1.heap.size, 6, none⟩ q6).setCell ⟨w1.heap.size, 7, none⟩ q7).setCell ⟨w1.heap.size, 8, none⟩ q8).setCell ⟨w1.heap.size, 9, none⟩ q9).setCell ⟨w1.heap.size, 10, none⟩ q10).setCell ⟨w1.heap.size, 11, none⟩ q11).setCell ⟨w1.heap.size, 12, none⟩ q12).cell? ⟨g8, 1, none⟩ = some (.string d) from fun q0 q1 q2 q3 q4 q5 q6 q7 q8 q9 q10 q11 q12 => HS.out _ (Ent.below13 B2.out HGB.out _ _ _ _ _ _ _ _ _ _ _ _ _))) | ((with_reducible have hq := ebox_d b2); have HBX := Lib.hid hq; clear hq; have HGB := Lib.hid B1.out.size; obtain ⟨e0, e1, e2, e3, e4, e5, e6, e7, e8, e9, e10, e11, e12⟩ := Ent.ent_cells (x := noE) HBX.out; simp only [noE] at e0 e1 e2 e3 e4 e5 e6 e7 e8 e9 e10 e11 e12; obtain ⟨f0, f1, f2, f3, f4, f5, f6, f7, f8, f9, f10, f11, f12⟩ := Ent.ent_frozen HBX.out; have K1 := Lib.hid (show ∀ (q0 q1 q2 q3 q4 q5 q6 q7 q8 q9 q10 q11 q12 : Value), (((((((((((((w2.setCell ⟨w1.heap.size, 0, none⟩ q0).setCell ⟨w1.heap.size, 1, none⟩ q1).setCell ⟨w1.heap.size, 2, none⟩ q2).setCell ⟨w1.heap.size, 3, none⟩ q3).setCell ⟨w1.heap.size, 4, none⟩ q4).setCell ⟨w1.heap.size, 5, none⟩ q5).setCell ⟨w1.heap.size, 6, none⟩ q6).setCell ⟨w1.heap.size, 7, none⟩ q7).setCell ⟨w1.heap.size, 8, none⟩ q8).setCell ⟨w1.heap.size, 9, none⟩ q9).setCell ⟨w1.heap.size, 10, none⟩ q10).setCell ⟨w1.heap.size, 11, none⟩ q11).setCell ⟨w1.heap.size, 12, none⟩ q12).cell? ⟨u, 12 + c, none⟩ = some (.int .i64 QQ) ∧ (((((((((((((w2.setCell ⟨w1.heap.size, 0, none⟩ q0).setCell ⟨w1.heap.size, 1, none⟩ q1).setCell ⟨w1.heap.size, 2, none⟩ q2).setCell ⟨w1.heap.size, 3, none⟩ q3).setCell ⟨w1.heap.size, 4, none⟩ q4).setCell ⟨w1.heap.size, 5, none⟩ q5).setCell ⟨w1.heap.size, 6, none⟩ q6).setCell ⟨w1.heap.size, 7, none⟩ q7).setCell ⟨w1.heap.size, 8, none⟩ q8).setCell ⟨w1.heap.size, 9, none⟩ q9).setCell ⟨w1.heap.size, 10, none⟩ q10).setCell ⟨w1.heap.size, 11, none⟩ q11).setCell ⟨w1.heap.size, 12, none⟩ q12).cell? ⟨g7, 0, none⟩ = some (.bool wu) ∧ (((((((((((((w2.setCell ⟨w1.heap.size, 0, none⟩ q0).setCell ⟨w1.heap.size, 1, none⟩ q1).setCell ⟨w1.heap.size, 2, none⟩ q2).setCell ⟨w1.heap.size, 3, none⟩ q3).setCell ⟨w1.heap.size, 4, none⟩ q4).setCell ⟨w1.heap.size, 5, none⟩ q5).setCell ⟨w1.heap.size, 6, none⟩ q6).setCell ⟨w1.heap.size, 7, none⟩ q7).setCell ⟨w1.heap.size, 8, none⟩ q8).setCell ⟨w1.heap.size, 9, none⟩ q9).setCell ⟨w1.heap.size, 10, none⟩ q10).setCell ⟨w1.heap.size, 11, none⟩ q11).setCell ⟨w1.heap.size, 12, none⟩ q12).cell? ⟨g7, 1, none⟩ = some (.string wd) ∧ (((((((((((((w2.setCell ⟨w1.heap.size, 0, none⟩ q0).setCell ⟨w1.heap.size, 1, none⟩ q1).setCell ⟨w1.heap.size, 2, none⟩ q2).setCell ⟨w1.heap.size, 3, none⟩ q3).setCell ⟨w1.heap.size, 4, none⟩ q4).setCell ⟨w1.heap.size, 5, none⟩ q5).setCell ⟨w1.heap.size, 6, none⟩ q6).setCell ⟨w1.heap.size, 7, none⟩ q7).setCell ⟨w1.heap.size, 8, none⟩ q8).setCell ⟨w1.heap.size, 9, none⟩ q9).setCell ⟨w1.heap.size, 10, none⟩ q10).setCell ⟨w1.heap.size, 11, none⟩ q11).setCell ⟨w1.heap.size, 12, none⟩ q12).cell? ⟨g8, 0, none⟩ = some (.bool sb) ∧ (((((((((((((w2.setCell ⟨w1.heap.size, 0, none⟩ q0).setCell ⟨w1.heap.size, 1, none⟩ q1).setCell ⟨w1.heap.size, 2, none⟩ q2).setCell ⟨w1.heap.size, 3, none⟩ q3).setCell ⟨w1.heap.size, 4, none⟩ q4).setCell ⟨w1.heap.size, 5, none⟩ q5).setCell ⟨w1.heap.size, 6, none⟩ q6).setCell ⟨w1.heap.size, 7, none⟩ q7).setCell ⟨w1.heap.size, 8, none⟩ q8).setCell ⟨w1.heap.size, 9, none⟩ q9).setCell ⟨w1.heap.size, 10, none⟩ q10).setCell ⟨w1.heap.size, 11, none⟩ q11).setCell ⟨w1.heap.size, 12, none⟩ q12).cell? ⟨g8, 1, none⟩ = some (.string d) from fun q0 q1 q2 q3 q4 q5 q6 q7 q8 q9 q10 q11 q12 => HS.out _ (Ent.below13 B2.out HGB.out _ _ _ _ _ _ _ _ _ _ _ _ _))) | (have HBX := Lib.hid (HBX.out.below B12.out HBX.out.lt); clear e0 e1 e2 e3 e4 e5 e6 e7 e8 e9 e10 e11 e12 f0 f1 f2 f3 f4 f5 f6 f7 f8 f9 f10 f11 f12; obtain ⟨e0, e1, e2, e3, e4, e5, e6, e7, e8, e9, e10, e11, e12⟩ := Ent.ent_cells (x := noE) HBX.out; simp only [noE] at e0 e1 e2 e3 e4 e5 e6 e7 e8 e9 e10 e11 e12; obtain ⟨f0, f1, f2, f3, f4, f5, f6, f7, f8, f9, f10, f11, f12⟩ := Ent.ent_frozen HBX.out; have K1 := Lib.hid (show ∀ (q0 q1 q2 q3 q4 q5 q6 q7 q8 q9 q10 q11 q12 : Value), (((((((((((((w2.setCell ⟨W8.heap.size, 0, none⟩ q0).setCell ⟨W8.heap.size, 1, none⟩ q1).setCell ⟨W8.heap.size, 2, none⟩ q2).setCell ⟨W8.heap.size, 3, none⟩ q3).setCell ⟨W8.heap.size, 4, none⟩ q4).setCell ⟨W8.heap.size, 5, none⟩ q5).setCell ⟨W8.heap.size, 6, none⟩ q6).setCell ⟨W8.heap.size, 7, none⟩ q7).setCell ⟨W8.heap.size, 8, none⟩ q8).setCell ⟨W8.heap.size, 9, none⟩ q9).setCell ⟨W8.heap.size, 10, none⟩ q10).setCell ⟨W8.heap.size, 11, none⟩ q11).setCell ⟨W8.heap.size, 12, none⟩ q12).cell? ⟨u, 12 + c, none⟩ = some (.int .i64 QQ) ∧ (((((((((((((w2.setCell ⟨W8.heap.size, 0, none⟩ q0).setCell ⟨W8.heap.size, 1, none⟩ q1).setCell ⟨W8.heap.size, 2, none⟩ q2).setCell ⟨W8.heap.size, 3, none⟩ q3).setCell ⟨W8.heap.size, 4, none⟩ q4).setCell ⟨W8.heap.size, 5, none⟩ q5).setCell ⟨W8.heap.size, 6, none⟩ q6).setCell ⟨W8.heap.size, 7, none⟩ q7).setCell ⟨W8.heap.size, 8, none⟩ q8).setCell ⟨W8.heap.size, 9, none⟩ q9).setCell ⟨W8.heap.size, 10, none⟩ q10).setCell ⟨W8.heap.size, 11, none⟩ q11).setCell ⟨W8.heap.size, 12, none⟩ q12).cell? ⟨g7, 0, none⟩ = some (.bool wu) ∧ (((((((((((((w2.setCell ⟨W8.heap.size, 0, none⟩ q0).setCell ⟨W8.heap.size, 1, none⟩ q1).setCell ⟨W8.heap.size, 2, none⟩ q2).setCell ⟨W8.heap.size, 3, none⟩ q3).setCell ⟨W8.heap.size, 4, none⟩ q4).setCell ⟨W8.heap.size, 5, none⟩ q5).setCell ⟨W8.heap.size, 6, none⟩ q6).setCell ⟨W8.heap.size, 7, none⟩ q7).setCell ⟨W8.heap.size, 8, none⟩ q8).setCell ⟨W8.heap.size, 9, none⟩ q9).setCell ⟨W8.heap.size, 10, none⟩ q10).setCell ⟨W8.heap.size, 11, none⟩ q11).setCell ⟨W8.heap.size, 12, none⟩ q12).cell? ⟨g7, 1, none⟩ = some (.string wd) ∧ (((((((((((((w2.setCell ⟨W8.heap.size, 0, none⟩ q0).setCell ⟨W8.heap.size, 1, none⟩ q1).setCell ⟨W8.heap.size, 2, none⟩ q2).setCell ⟨W8.heap.size, 3, none⟩ q3).setCell ⟨W8.heap.size, 4, none⟩ q4).setCell ⟨W8.heap.size, 5, none⟩ q5).setCell ⟨W8.heap.size, 6, none⟩ q6).setCell ⟨W8.heap.size, 7, none⟩ q7).setCell ⟨W8.heap.size, 8, none⟩ q8).setCell ⟨W8.heap.size, 9, none⟩ q9).setCell ⟨W8.heap.size, 10, none⟩ q10).setCell ⟨W8.heap.size, 11, none⟩ q11).setCell ⟨W8.heap.size, 12, none⟩ q12).cell? ⟨g8, 0, none⟩ = some (.bool sb) ∧ (((((((((((((w2.setCell ⟨W8.heap.size, 0, none⟩ q0).setCell ⟨W8.heap.size, 1, none⟩ q1).setCell ⟨W8.heap.size, 2, none⟩ q2).setCell ⟨W8.heap.size, 3, none⟩ q3).setCell ⟨W8.heap.size, 4, none⟩ q4).setCell ⟨W8.heap.size, 5, none⟩ q5).setCell ⟨W8.heap.size, 6, none⟩ q6).setCell ⟨W8.heap.size, 7, none⟩ q7).setCell ⟨W8.heap.size, 8, none⟩ q8).setCell ⟨W8.heap.size, 9, none⟩ q9).setCell ⟨W8.heap.size, 10, none⟩ q10).setCell ⟨W8.heap.size, 11, none⟩ q11).setCell ⟨W8.heap.size, 12, none⟩ q12).cell? ⟨g8, 1, none⟩ = some (.string d) from fun q0 q1 q2 q3 q4 q5 q6 q7 q8 q9 q10 q11 q12 => HS.out _ (Ent.below13 B2.out HGB.out _ _ _ _ _ _ _ _ _ _ _ _ _))) | skip); clear b2; have z2 := HS.out w2 B2.out))
          all_goals
            go_wp2_with fail
            go_meet
            case rel =>
              first
              | (with_unfolding_none exact ⟨_, rfl, Lib.hid ⟨Blk.new w2 _ _, below_go B2.out (Ent.below_box _ _), B2.out.size⟩⟩)
              | (refine ⟨_, rfl, Lib.hid ⟨?_, ?_, HGB.out⟩⟩
                 · exact blk13 HBX.out _ _ _ _ _ _ _ _ _ _ _ _ _
                 · exact Ent.below13 B2.out HGB.out _ _ _ _ _ _ _ _ _ _ _ _ _)
        case rest =>
          obtain ⟨g9, rfl, H9⟩ := hcut
          clear z0 z1 HS HLS HTX HW8 HW78
          have HP9 := Lib.hid (HP8.out.below H9.out.2.1)
          have HB9 := Lib.hid (HBB.out.trans ((below_go HB8.out H9.out.2.1).mono (by have := HB1.out.size; omega)))
          obtain ⟨yy, hyy⟩ : ∃ yy : Ent, (⟨1, c, 1, p.txn c, LL, QQ, n, k, wu, wd, sb, d, 0⟩ : Ent) = yy := ⟨_, rfl⟩
          have HX9 := Lib.hid (show Blk wc g9 58 #[.int .i64 yy.kind, .int .i64 yy.cl, .int .i64 yy.ep, .int .i64 yy.n, .int .i64 yy.lsn, .int .i64 yy.prev, .int .i64 yy.page, .int .i64 yy.slot, .bool yy.wu, .string yy.wd, .bool yy.iu, .string yy.id, .int .i64 yy.next] by rw [← hyy]; exact H9.out.1)
          have HSY := Lib.hid (show SmallE yy ∧ yy.page = (n : Int) ∧ yy.cl = (c : Int) by rw [← hyy]; exact ⟨⟨HWSM.out, by show d.size ≤ _; omega⟩, rfl, rfl⟩)
          rw [hyy] at HYX
          rw [HYX.out] at HCH
          obtain ⟨gb, hgb⟩ : ∃ gb, goodB yy = gb := ⟨_, rfl⟩
          obtain ⟨ab, hab⟩ : ∃ ab, addB p yy = ab := ⟨_, rfl⟩
          have HGD := Lib.hid (fun W => Ent.good_any yy W HSY.out.1)
          rw [hgb] at HGD
          have HAD := Lib.hid (fun W (hb : Below wc.heap.size wc W) => add_any (HP9.out.below hb) hBu yy HSY.out.1 (fun _ => ⟨n, hn4, HSY.out.2.1⟩) (show c < 5 by omega) HSY.out.2.2 (by have := HSN.out.len; omega) (by have := HSN.out.alen; omega))
          rw [hab] at HAD
          have HGB := Lib.hid hgb
          have HAB := Lib.hid hab
          have HX9D := Lib.hid (fun W (hb : Below wc.heap.size wc W) => Ent.ent_cells (HX9.out.below hb HX9.out.lt))
          obtain ⟨c0, c1, c2, c3, c4, c5, c6, c7, c8, c9, c10, c11, c12⟩ := Ent.ent_cells HX9.out
          clear hgb hab hyy H9
          cases gb with
          | false =>
            have HFIN := Lib.hid (fun w' (hb : Below wc.heap.size wc w') => show PQ w' B u (actP p 1 (c : Int) (n : Int) (k : Int) d) ∧ Below B w w' from by
              rw [HACT.out, HCH.out, if_neg (by rw [HGB.out]; rintro ⟨h1, -⟩; cases h1)]
              exact ⟨⟨M, lv, nv, av, HP9.out.below hb, hBu⟩, HB9.out.trans (hb.mono (by have := HB9.out.size; omega))⟩)
            go_wp2_with ((with_reducible refine (HGD.out _).mono ?_); rintro e w3 ⟨rfl, b3⟩; have B3 := Lib.hid b3; clear b3)
            go_end0
            exact ⟨rfl, HFIN.out _ B3.out⟩
          | true =>
            cases ab with
            | false =>
              have HFIN := Lib.hid (fun w' (hq : PQ w' B u (addP p yy) ∧ Below B w w') => show PQ w' B u (actP p 1 (c : Int) (n : Int) (k : Int) d) ∧ Below B w w' from by
                rw [HACT.out, HCH.out, if_neg (by rw [HAB.out]; rintro ⟨-, h1⟩; cases h1)]
                rw [addP_no HAB.out] at hq
                exact hq)
              go_wp2_with (first
                | ((with_reducible refine (HGD.out _).mono ?_); rintro e w3 ⟨rfl, b3⟩; have B3 := Lib.hid b3; clear b3; obtain ⟨d0, d1, d2, d3, d4, d5, d6, d7, d8, d9, d10, d11, d12⟩ := HX9D.out w3 B3.out)
                | ((with_reducible refine (HAD.out _ B3.out).mono ?_); rintro e w4 ⟨rfl, h4, b4⟩; have H4 := Lib.hid (show PQ w4 B u (addP p yy) ∧ Below B w w4 from ⟨h4, (HB9.out.trans (B3.out.mono (by have := HB9.out.size; omega))).trans b4⟩); clear h4 b4))
              go_end0
              exact ⟨rfl, HFIN.out _ H4.out⟩
            | true =>
              have HFIN := Lib.hid (fun w' (hq : PQ w' B u (ownP (addP p yy) n c) ∧ Below B w w') => show PQ w' B u (actP p 1 (c : Int) (n : Int) (k : Int) d) ∧ Below B w w' from by
                rw [HACT.out, HCH.out, if_pos ⟨HGB.out, HAB.out⟩]
                exact hq)
              go_upto_region 11 with (first
                | ((with_reducible refine (HGD.out _).mono ?_); rintro e w3 ⟨rfl, b3⟩; have B3 := Lib.hid b3; clear b3; obtain ⟨d0, d1, d2, d3, d4, d5, d6, d7, d8, d9, d10, d11, d12⟩ := HX9D.out w3 B3.out)
                | ((with_reducible refine (HAD.out _ B3.out).mono ?_); rintro e w4 ⟨rfl, h4, b4⟩; have H4 := Lib.hid (show PQ w4 B u (addP p yy) ∧ Below B w w4 from ⟨h4, (HB9.out.trans (B3.out.mono (by have := HB9.out.size; omega))).trans b4⟩); clear h4 b4))
              clear c0 c1 c2 c3 c4 c5 c6 c7 c8 c9 c10 c11 c12 d0 d1 d2 d3 d4 d5 d6 d7 d8 d9 d10 d11 d12
              obtain ⟨⟨M4, lv4, nv4, av4, h4, -⟩, hb4⟩ := H4.out
              have f4 := h4.blk.frozen (3 + n)
              obtain ⟨o4, v4⟩ := cell_arr h4.blk (show 3 + n < 17 by omega)
              have H5 := Lib.hid (HFIN.out (w4.setCell ⟨u, 3 + n, none⟩ (.int .i64 (c : Int))) ⟨⟨M4, lv4, nv4, av4, h4.turn (3 + n) _ rfl rfl rfl (own_set2 _ _ _ _ hn4 _), hBu⟩, hb4.setCell (p := ⟨u, 3 + n, none⟩) hBu _⟩)
              clear h4 hb4
              go_wp2
              go_end0
              exact ⟨rfl, H5.out⟩
  · have e1 : (kd == 1) = false := by simp [k1]
    have e1' : decide (kd = 1) = false := decide_eq_false k1
    by_cases k2 : kd = 2
    · subst k2
      have HACT := Lib.hid (show actP p 2 (c : Int) (n : Int) (k : Int) d = undoP p c by unfold actP; rw [if_neg (by decide), if_pos rfl])
      have HUN := Lib.hid (pundo_any HP.out hBu HSN.out hc14)
      clear k1 e1 e1'
      go_wp2_with ((with_reducible refine (HUN.out).mono ?_); rintro e w3 ⟨rfl, h3, b3⟩; have H3 := Lib.hid (And.intro h3 (HBB.out.trans b3)); clear h3 b3)
      go_end0
      exact ⟨rfl, by rw [HACT.out]; exact H3.out.1, H3.out.2⟩
    · have e2 : (kd == 2) = false := by simp [k2]
      have e2' : decide (kd = 2) = false := decide_eq_false k2
      by_cases k3 : kd = 3
      · subst k3
        have HACT := Lib.hid (show actP p 3 (c : Int) (n : Int) (k : Int) d = endP p c 3 by unfold actP; rw [if_neg (by decide), if_neg (by decide), if_pos rfl])
        have HEN := Lib.hid (pend_any HP.out hBu HSN.out hc14 (k := 3) (.inl rfl))
        clear k1 e1 e1' k2 e2 e2'
        go_wp2_with ((with_reducible refine (HEN.out).mono ?_); rintro e w3 ⟨rfl, h3, b3⟩; have H3 := Lib.hid (And.intro h3 (HBB.out.trans b3)); clear h3 b3)
        go_end0
        exact ⟨rfl, by rw [HACT.out]; exact H3.out.1, H3.out.2⟩
      · have e3 : (kd == 3) = false := by simp [k3]
        have e3' : decide (kd = 3) = false := decide_eq_false k3
        by_cases k4 : kd = 4
        · subst k4
          have HACT := Lib.hid (show actP p 4 (c : Int) (n : Int) (k : Int) d = endP (undoN 1001 p c) c 4 by unfold actP; rw [if_neg (by decide), if_neg (by decide), if_neg (by decide), if_pos rfl])
          have HST := Lib.hid (show ∃ (p' : PD) (s' : St T3 Slot Im) (f : Nat), PQ W1 B u p' ∧ Below B w W1 ∧ Liv p' s' P T ∧ (s'.stk (txnP p' c)).length ≤ 1000 ∧ (s'.stk (txnP p' c)).length < f ∧ undoN 1001 p c = undoN f p' c from ⟨p, s, 1001, ⟨M, lv, nv, av, HP.out, hBu⟩, HBB.out, HLV.out, by have := stk_le HLV.out HCL.out; omega, by have := stk_le HLV.out HCL.out; omega, rfl⟩)
          clear k1 e1 e1' k2 e2 e2' k3 e3 e3'
          go_wp2_with fail
          go_loopg [] 1000 (fun gg wz => Hid (∃ (p' : PD) (s' : St T3 Slot Im) (f : Nat), PQ wz B u p' ∧ Below B w wz ∧ Liv p' s' P T ∧ (s'.stk (txnP p' c)).length ≤ gg ∧ (s'.stk (txnP p' c)).length < f ∧ undoN 1001 p c = undoN f p' c))
          case atStart => exact HST
          case round =>
            clear HST
            obtain ⟨p', s', f, ⟨M3, lv3, nv3, av3, h3, -⟩, hb3, hl3, hg3, hf3, hu3⟩ := hrel.out
            clear hrel
            have HUN := Lib.hid (pundo_any h3 hBu (liv_sane hl3 (by omega) (by omega)) hc14)
            have HB3 := Lib.hid hb3
            have HL3 := Lib.hid hl3
            have HF3 := Lib.hid (And.intro hg3 (And.intro hf3 hu3))
            obtain ⟨ub, hub⟩ : ∃ ub, undoB p' c = ub := ⟨_, rfl⟩
            rw [hub] at HUN
            have HUB := Lib.hid hub
            clear h3 hb3 hl3 hg3 hf3 hu3 hub
            cases ub with
            | true =>
              go_wp2_with ((with_reducible refine (HUN.out).mono ?_); rintro e w4 ⟨rfl, h4, b4⟩; have H4 := Lib.hid (And.intro h4 (HB3.out.trans b4)); clear h4 b4)
              have HN := Lib.hid (show ∃ gk', gk' < gk ∧ ∃ (p' : PD) (s' : St T3 Slot Im) (f : Nat), PQ w4 B u p' ∧ Below B w w4 ∧ Liv p' s' P T ∧ (s'.stk (txnP p' c)).length ≤ gk' ∧ (s'.stk (txnP p' c)).length < f ∧ undoN 1001 p c = undoN f p' c from by
                rcases liv_undo HL3.out (by omega) HCL.out with ⟨-, h1, -⟩ | ⟨s2, h1, h2, h3, h4⟩
                · rw [HUB.out] at h1; cases h1
                · obtain ⟨hg3, hf3, hu3⟩ := HF3.out
                  refine ⟨gk - 1, by omega, undoP p' c, s2, f - 1, H4.out.1, H4.out.2, h2, by rw [h3]; omega, by rw [h3]; omega, ?_⟩
                  rw [hu3]
                  obtain ⟨f', rfl⟩ : ∃ f', f = f' + 1 := ⟨f - 1, by omega⟩
                  rw [undoN, if_pos HUB.out]; rfl)
              obtain ⟨gk', hgk, hn⟩ := HN.out
              have HN2 := Lib.hid hn
              clear hn
              go_roundg gk'
              case rel => exact HN2
              all_goals exact hgk
            | false =>
              have HEQ := Lib.hid (show undoN 1001 p c = p' from by
                obtain ⟨hg3, hf3, hu3⟩ := HF3.out
                rw [hu3]
                obtain ⟨f', rfl⟩ : ∃ f', f = f' + 1 := ⟨f - 1, by omega⟩
                rw [undoN, if_neg (by rw [HUB.out]; simp)])
              have HUP := Lib.hid (show undoP p' c = p' from by
                rcases liv_undo HL3.out (by omega) HCL.out with ⟨-, -, h3⟩ | ⟨s2, h1, -⟩
                · exact h3
                · rw [HUB.out] at h1; cases h1)
              rw [HUP.out] at HUN
              have HEN := Lib.hid (fun w4 M4 lv4 nv4 av4 (h : PM w4 B u M4 lv4 nv4 av4 p') => pend_any h hBu (liv_sane HL3.out (by omega) (by omega)) hc14 (k := 4) (.inr rfl))
              go_wp2_with (first
                | ((with_reducible refine (HUN.out).mono ?_); rintro e w4 ⟨rfl, ⟨M4, lv4, nv4, av4, h4, -⟩, b4⟩; have H4 := Lib.hid h4; have B4 := Lib.hid (HB3.out.trans b4); clear h4 b4)
                | ((with_reducible refine (HEN.out _ _ _ _ _ H4.out).mono ?_); rintro e w5 ⟨rfl, h5, b5⟩; have H5 := Lib.hid (And.intro h5 (B4.out.trans b5)); clear h5 b5))
              go_end0
              exact ⟨rfl, by rw [HACT.out, HEQ.out]; exact H5.out.1, H5.out.2⟩
        · have e4 : (kd == 4) = false := by simp [k4]
          have e4' : decide (kd = 4) = false := decide_eq_false k4
          have HF := Lib.hid (show PQ W1 B u (actP p kd (c : Int) (n : Int) (k : Int) d) from by
            unfold actP
            rw [if_neg k1, if_neg k2, if_neg k3, if_neg k4]
            exact ⟨M, lv, nv, av, HP.out, hBu⟩)
          clear k1 k2 k3 k4
          go_wp2
          go_end0
          exact ⟨rfl, HF.out, HBB.out⟩
end
end Go.Proofs.YtkeocnhndnbamaaGreat.Mend
