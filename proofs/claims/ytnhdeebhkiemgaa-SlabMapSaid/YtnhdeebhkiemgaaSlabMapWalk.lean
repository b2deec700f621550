/- The walk of the statement SlabMap. -/
import Derived.Test.YtnhdeebhkiemgaaSlabVacantMath
import Derived.Test.YtnhdeebhkiemgaaSlabKeepsWalk
import Derived.Test.YtnhdeebhkiemgaaSlabPlaces
import Derived.Test.YtnhdeebhkiemgaaSlabArr
namespace Go.Proofs.Ytnhdeebhkiemgaa.Slab
open Go.RowKit Go.Sort

def lastU (l : List Slot) : Nat → Nat
  | 0 => 0
  | i + 1 => if (l.getD i nos).u then i + 1 else lastU l i
theorem lastU_spec (l : List Slot) : ∀ m, lastU l m ≤ m ∧ (0 < lastU l m → (l.getD (lastU l m - 1) nos).u = true) ∧ (∀ i, lastU l m ≤ i → i < m → (l.getD i nos).u = false)
  | 0 => ⟨Nat.le_refl _, fun h => absurd h (Nat.lt_irrefl 0), fun i _ h => absurd h (Nat.not_lt_zero i)⟩
  | m + 1 => by
    obtain ⟨h1, h2, h3⟩ := lastU_spec l m
    rw [lastU]
    by_cases hu : (l.getD m nos).u = true
    · rw [if_pos hu]
      exact ⟨Nat.le_refl _, fun _ => hu, fun i hi hj => absurd hj (by omega)⟩
    · rw [if_neg hu]
      refine ⟨by omega, h2, fun i hi hj => ?_⟩
      rcases Nat.lt_or_ge i m with h | h
      · exact h3 i hi h
      · obtain rfl : i = m := by omega
        simpa using hu
theorem lastU_is {lsn : Int} {l q : List Slot} (hg : goodB lsn q = true) (h : ∀ i, l.getD i nos = q.getD i nos) : lastU l 32 = q.length := by
  obtain ⟨h1, h2, h3⟩ := lastU_spec l 32
  have hp := good_parts hg
  rw [hp.2.2.2.1]
  refine (used_is (fun hk => by rw [← h]; exact h2 hk) (fun i hi => ?_)).symm
  rcases Nat.lt_or_ge i 32 with hc | hc
  · rw [← h]; exact h3 i hi hc
  · rw [getD_out (by omega)]; rfl

set_option maxRecDepth 100000 in
set_option maxHeartbeats 8000000 in
theorem map_walk (a : Option Addr) (n c : Nat) (ps : List Place) (w : World) (h : Places w a n ps) :
    Calls Try.prog 10 #[.slice a n c] w fun e w' => e = .returned (.bool true) ∧ Below w.heap.size w w' := by
  have HO := Lib.hid h
  clear h
  go_enter Try.func10, Try.ntmps10
  go_wp2_with fail
  refine (awake_any _).mono ?_
  rintro e w1 ⟨rfl, b1⟩
  have hP0 := (Hold.nil b1).box2 (.int .i64 3) (.slice none 0 0) 24
  have hB0 := Blk.new w1 24 #[.int .i64 3, .slice none 0 0]
  go_upto_region 4 with (fail)
  generalize hGen : w1.alloc (.cells #[.int .i64 3, .slice none 0 0] 24) = W1 at hP0 hB0 ⊢
  clear hGen
  have hbx := Lib.hid (World.block_lt_of_cell? _ ⟨w1.heap.size, 0, none⟩ hP0.head)
  have hbw := Lib.hid b1.size
  generalize hGen : w1.heap.size = gp at hP0 hbx hbw hB0 ⊢
  clear hGen
  go_wp2_with (first
    | (refine big_build rfl rfl ?_)
    | (refine big_alloc rfl rfl ?_)
    | (refine big_store rfl _ _ rfl W1 rfl rfl rfl ?_))
  have hG := Blk.new W1 50 zarr
  have hGP := (show Blk W1 gp 24 #[.int .i64 3, .slice none 0 0] from hB0).alloc (.cells zarr 50)
  replace hP0 := hP0.alloc (.cells zarr 50)
  have hgs : W1.heap.size < (W1.alloc (.cells zarr 50)).heap.size := by simp
  generalize hGen : W1.alloc (.cells zarr 50) = W2 at hP0 hG hgs hGP ⊢
  clear hGen
  rw [zarr_eq] at hG
  generalize hGen : W1.heap.size = gl at hbx hG hgs ⊢
  clear hGen
  have HG := Lib.hid hG
  have HGP := Lib.hid hGP
  clear hG hGP
  go_loopw [5] (fun i wr => ∃ (j : Nat) (a' : Option Addr) (n' c' : Nat) (q l : List Slot), j ≤ n ∧ i = .int .i64 (j : Int) ∧ Below w.heap.size w wr ∧ Blk wr gp 24 #[.int .i64 3, .slice a' n' c'] ∧ Slots wr a' n' q ∧ goodB 3 q = true ∧ Blk wr gl 50 (cellsOf l).toArray ∧ l.length = 32 ∧ (∀ i, l.getD i nos = q.getD i nos) ∧ (∀ b off e, a' = some ⟨b, off, e⟩ → gl < b)) (fun i _ => n - (intOf i).toNat)
  case atStart =>
    refine ⟨0, none, 0, 0, [], List.replicate 32 nos, Nat.zero_le _, rfl, hP0.b, HGP.out, Slots.nil _ _, by decide, HG.out, rfl, fun i => ?_, fun _ _ _ e => by cases e⟩
    simp only [List.getD, List.getElem?_replicate, List.getElem?_nil]
    split <;> rfl
  case round =>
    obtain ⟨j, a', n', c', q, l, hj, rfl, hW, hBP, hs, hgq, hB, hl32, hlq, hfr⟩ := hrel
    have HS := Lib.hid hs
    have HGQ := Lib.hid hgq
    have HB := Lib.hid hB
    have HBP := Lib.hid hBP
    have HLQ := Lib.hid hlq
    have HL32 := Lib.hid hl32
    have HFR := Lib.hid hfr
    have HW := Lib.hid hW
    clear hs hgq hB hBP hlq hl32 hfr hW
    by_cases hjn : j < n
    · by_cases hj60 : j < 60
      · obtain ⟨b, off, s, u, d, rfl, hb1, hget, c0, c1, c2, hd⟩ := HO.out.at_ hjn
        have hj0 : (0 : Int) ≤ (j : Int) := by omega
        have hj1 : (j : Int) < (n : Int) := by omega
        have d0 := (HW.out.cell (p := ⟨b, off + j * 3, none⟩) hb1).trans c0
        have d1 := (HW.out.cell (p := ⟨b, off + j * 3 + 1, none⟩) hb1).trans c1
        have d2 := (HW.out.cell (p := ⟨b, off + j * 3 + 1 + 1, none⟩) hb1).trans c2
        clear hget
        by_cases hbig : 1024 < d.size
        · go_wp2
          go_ret
          exact ⟨rfl, HW.out⟩
        · obtain ⟨k, hk, hkl⟩ := cut_of s 32 (by omega) (by omega)
          have G0 : wr.cell? ⟨gp, 0, none⟩ = some (.int .i64 3) := HBP.out.cell 0
          have G1 : wr.cell? ⟨gp, 1, none⟩ = some (.slice a' n' c') := HBP.out.cell 1
          have hgp := HBP.out.lt
          have hgl := HB.out.lt
          go_upto_region 11 with (fail)
          simp only [hk]
          obtain ⟨N, Z, cd, hput, hcd⟩ : ∃ (N : Int) (Z : List Slot) (cd : Int), (∀ W, Below wr.heap.size wr W → Calls Try.prog 25 #[.agg #[.int .i64 3, .slice a' n' c'], .int .i64 (k : Int), .agg #[.bool u, .string d]] W (PageRes N Z cd W)) ∧
              ((cd = 0 ∧ N = 3 ∧ goodB 3 Z = true ∧ ∀ i, Z.getD i nos = if i = k then ⟨u, d⟩ else q.getD i nos) ∨ (cd != 0) = true) := by
            have hn' : n' ≤ 32 := by have := HS.out.len; have h2 := (good_parts HGQ.out).2.2.1; omega
            refine ⟨putN 3 q k ⟨u, d⟩, putZ 3 q k ⟨u, d⟩, putCode 3 q k ⟨u, d⟩, fun W hb => put_any 3 a' n' c' q k u d W (HS.out.below hb) (by omega) hd, ?_⟩
            by_cases h0 : putCode 3 q k ⟨u, d⟩ = 0
            · refine .inl ⟨h0, by unfold putN; rw [if_pos h0], ?_, ?_⟩
              · unfold putZ; rw [if_pos h0]; exact put_good h0
              · unfold putZ
                rw [if_pos h0, Int.toNat_natCast]
                exact putL_getD (clean_of_good HGQ.out) (code_zero h0).2.2.2.1
            · exact .inr (by rw [bne_iff_ne]; exact h0)
          have HPB := Lib.hid hput
          have HCD := Lib.hid hcd
          clear hput hcd hk
          go_region_held3 (fun w' => w'.cell? ⟨gp, 0, none⟩ = some (.int .i64 3) ∧ w'.cell? ⟨gp, 1, none⟩ = some (.slice a' n' c') ∧ w'.cell? ⟨b, off + j * 3 + 1, none⟩ = some (.bool u) ∧ w'.cell? ⟨b, off + j * 3 + 1 + 1, none⟩ = some (.string d) ∧ Below wr.heap.size wr w') (first | assumption | exact held4 hz4 ((Below.refl _ _).alloc (Nat.le_refl _) _) | exact ⟨G0, G1, d1, d2, (Below.refl _ _).drew⟩ | exact held4 (by assumption) ((Below.refl _ _).drew) | exact held4 (by assumption) ((Below.refl _ _).alloc (Nat.le_refl _) _) | exact held4_set (held4_set hz4 hgp hgp (Nat.lt_of_lt_of_le hb1 HW.out.size) (Nat.lt_of_lt_of_le hb1 HW.out.size) (Nat.le_refl _) _ _) hgp hgp (Nat.lt_of_lt_of_le hb1 HW.out.size) (Nat.lt_of_lt_of_le hb1 HW.out.size) (Nat.le_refl _) _ _) (first
            | (go_at_call 25; (with_reducible refine (HPB.out _ ?_).mono ?_); (exact held4_b (by assumption)); rintro e wP ⟨a7, n7, c7, rfl, s7, bq, f7⟩; have hz4 := held4 (by assumption) bq; (first | (refine box_elim bq ?_; rintro ⟨e0, e1, g0, g1⟩) | (refine box_elim_d bq ?_; rintro ⟨e0, e1, g0, g1⟩) | skip)))
          all_goals
            rename_i hH
            first
              | ((with_reducible show Exit.then _ _ _ _ (wP.alloc (.cells #[.int .i64 N, .slice a7 n7 c7] 24)))
                 obtain ⟨E0, E1⟩ : (wP.alloc (.cells #[.int .i64 N, .slice a7 n7 c7] 24)).cell? ⟨wP.heap.size, 0, none⟩ = some (.int .i64 N) ∧ (wP.alloc (.cells #[.int .i64 N, .slice a7 n7 c7] 24)).cell? ⟨wP.heap.size, 1, none⟩ = some (.slice a7 n7 c7) := box_fresh
                 have S7 := Lib.hid (show Slots (wP.alloc (.cells #[.int .i64 N, .slice a7 n7 c7] 24)) a7 n7 Z from s7.below ((Below.refl _ _).alloc (Nat.le_refl _) _))
                 have BZ := held4_b hH
                 have F7 := Lib.hid (show ∀ b off e, a7 = some ⟨b, off, e⟩ → wr.heap.size ≤ b from fun b off e h => Nat.le_trans (Nat.le_refl _) (f7 b off e h))
                 clear bq s7 f7 hz4 hH
                 generalize hGen : wP.alloc (.cells #[.int .i64 N, .slice a7 n7 c7] 24) = X at BZ E0 E1 S7 ⊢
                 clear hGen
                 generalize hGen : wP.heap.size = g at E0 E1 ⊢
                 clear hGen
                 skip)
              | ((with_reducible show Exit.then _ _ _ _ ((wP.setCell ⟨wr.heap.size, 0, none⟩ (.int .i64 N)).setCell ⟨wr.heap.size, 1, none⟩ (.slice a7 n7 c7)))
                 obtain ⟨E0, E1⟩ : ((wP.setCell ⟨wr.heap.size, 0, none⟩ (.int .i64 N)).setCell ⟨wr.heap.size, 1, none⟩ (.slice a7 n7 c7)).cell? ⟨wr.heap.size, 0, none⟩ = some (.int .i64 N) ∧ ((wP.setCell ⟨wr.heap.size, 0, none⟩ (.int .i64 N)).setCell ⟨wr.heap.size, 1, none⟩ (.slice a7 n7 c7)).cell? ⟨wr.heap.size, 1, none⟩ = some (.slice a7 n7 c7) := box_written e0 e1
                 have S7 := Lib.hid (show Slots ((wP.setCell ⟨wr.heap.size, 0, none⟩ (.int .i64 N)).setCell ⟨wr.heap.size, 1, none⟩ (.slice a7 n7 c7)) a7 n7 Z from (s7.setCell _ (fun b off e _ => by have h1 := f7 _ _ _ e; simp at h1; omega)).setCell _ (fun b off e _ => by have h1 := f7 _ _ _ e; simp at h1; omega))
                 have BZ := held4_b hH
                 have F7 := Lib.hid (show ∀ b off e, a7 = some ⟨b, off, e⟩ → wr.heap.size ≤ b from fun b off e h => Nat.le_trans (by simp) (f7 b off e h))
                 clear bq s7 f7 hz4 hH
                 generalize hGen : (wP.setCell ⟨wr.heap.size, 0, none⟩ (.int .i64 N)).setCell ⟨wr.heap.size, 1, none⟩ (.slice a7 n7 c7) = X at BZ E0 E1 S7 ⊢
                 clear hGen
                 generalize hGen : wr.heap.size = g at E0 E1 ⊢
                 clear hGen
                 skip)
            have hBPx := HBP.out.below BZ hgp
            have hBx := HB.out.below BZ hgl
            go_goals
            rcases HCD.out with ⟨rfl, rfl, hgz, hzd⟩ | hne
            · have q0 : X.cell? ⟨gp, 0, none⟩ = some (.int .i64 3) := hBPx.cell 0
              have q1 : X.cell? ⟨gp, 1, none⟩ = some (.slice a' n' c') := hBPx.cell 1
              have fq0 := hBPx.frozen 0
              have fq1 := hBPx.frozen 1
              have HBPX := Lib.hid hBPx
              have HBX := Lib.hid hBx
              have HGZ := Lib.hid hgz
              have HZD := Lib.hid hzd
              clear hBPx hBx hgz hzd
              go_upto_region 14 with (fail)
              have hne : gp < gl := hbx.out
              have hfb : ∀ b' off', a7 = some ⟨b', off', none⟩ → 0 < n7 → b' ≠ gp := fun b' off' e _ => by have h1 := F7.out _ _ _ e; omega
              have W8 := ((HW.out.trans (BZ.mono HW.out.size)).setCell (p := ⟨gp, 0, none⟩) hbw.out (.int .i64 3)).setCell (p := ⟨gp, 1, none⟩) hbw.out (.slice a7 n7 c7)
              have hp8 : Blk ((X.setCell ⟨gp, 0, none⟩ (.int .i64 3)).setCell ⟨gp, 1, none⟩ (.slice a7 n7 c7)) gp 24 #[.int .i64 3, .slice a7 n7 c7] := by simpa using (HBPX.out.set_ 0 (.int .i64 3)).set_ 1 (.slice a7 n7 c7)
              have hb8 := (HBX.out.far (p := ⟨gp, 0, none⟩) (by show gl ≠ gp; omega) (.int .i64 3)).far (p := ⟨gp, 1, none⟩) (by show gl ≠ gp; omega) (.slice a7 n7 c7)
              have s8 := (S7.out.setCell (g := gp) (i := 0) (.int .i64 3) hfb).setCell (g := gp) (i := 1) (.slice a7 n7 c7) hfb
              clear E0 E1 q0 q1 fq0 fq1 G0 G1 d0 d1 d2 hfb
              generalize hGen : (X.setCell ⟨gp, 0, none⟩ (.int .i64 3)).setCell ⟨gp, 1, none⟩ (.slice a7 n7 c7) = X8 at W8 hp8 hb8 s8 ⊢
              clear hGen
              have d1 := (W8.cell (p := ⟨b, off + j * 3 + 1, none⟩) hb1).trans c1
              have d2 := (W8.cell (p := ⟨b, off + j * 3 + 1 + 1, none⟩) hb1).trans c2
              have hkl2 : k < l.length := by rw [HL32.out]; omega
              obtain ⟨y, hy⟩ : ∃ y, l[k]? = some y := ⟨_, List.getElem?_eq_getElem hkl2⟩
              have x0 : X8.cell? ⟨gl, k * 2, none⟩ = some (.bool y.u) := (hb8.cell (k * 2)).trans (by rw [List.getElem?_toArray]; exact (cellsOf_get hy).1)
              have x1 : X8.cell? ⟨gl, k * 2 + 1, none⟩ = some (.string y.d) := (hb8.cell (k * 2 + 1)).trans (by rw [List.getElem?_toArray]; exact (cellsOf_get hy).2)
              have g0 := hb8.frozen (k * 2)
              have g1 := hb8.frozen (k * 2 + 1)
              have hk0 : (0 : Int) ≤ (k : Int) := by omega
              have hwl : w.heap.size ≤ gl := by have := hbw.out; omega
              have hfl : ∀ b' off', a7 = some ⟨b', off', none⟩ → 0 < n7 → b' ≠ gl := fun b' off' e _ => by have h1 := F7.out _ _ _ e; omega
              have W9 := Lib.hid ((W8.setCell (p := ⟨gl, k * 2, none⟩) hwl (.bool u)).setCell (p := ⟨gl, k * 2 + 1, none⟩) hwl (.string d))
              have HB9 := Lib.hid (hb8.put_slot hkl2 u d)
              have HP9 := Lib.hid ((hp8.far (p := ⟨gl, k * 2, none⟩) (by show gp ≠ gl; omega) (.bool u)).far (p := ⟨gl, k * 2 + 1, none⟩) (by show gp ≠ gl; omega) (.string d))
              have S9 := Lib.hid ((s8.setCell (g := gl) (i := k * 2) (.bool u) hfl).setCell (g := gl) (i := k * 2 + 1) (.string d) hfl)
              have HL9 := Lib.hid (show (l.set k ⟨u, d⟩).length = 32 by rw [List.length_set]; exact HL32.out)
              have HX9 := Lib.hid (show ∀ i, (l.set k ⟨u, d⟩).getD i nos = Z.getD i nos from fun i => by rw [set_getD hkl2, HZD.out, HLQ.out])
              clear hy hfl W8 hp8 hb8 s8
              go_wp2
              go_roundw
              case rel => exact ⟨j + 1, a7, n7, c7, Z, l.set k ⟨u, d⟩, by omega, by go_num, W9.out, HP9.out, S9.out, HGZ.out, HB9.out, HL9.out, HX9.out, fun b' off' e h => by have h1 := F7.out _ _ _ h; omega⟩
              case measure => simp [intOf]; omega
            · go_wp2
              go_roundw
              case rel => exact ⟨j + 1, a', n', c', q, l, by omega, by go_num, HW.out.trans (BZ.mono HW.out.size), hBPx, HS.out.below BZ, HGQ.out, hBx, HL32.out, HLQ.out, HFR.out⟩
              case measure => simp [intOf]; omega
      · go_wp2
        have hn' : n' ≤ 32 := by have := HS.out.len; have h2 := (good_parts HGQ.out).2.2.1; omega
        have hlast : lastU l 32 = n' := (lastU_is HGQ.out HLQ.out).trans HS.out.len
        have HLA := Lib.hid hlast
        clear hlast
        go_loopw [9, 10] (fun t i W => ∃ m : Nat, m ≤ 32 ∧ i = .int .i64 (m : Int) ∧ t = .int .i64 (lastU l m : Int) ∧ Below wr.heap.size wr W) (fun _ i _ => 32 - (intOf i).toNat)
        case atStart => exact ⟨0, by omega, rfl, rfl, Below.refl _ _⟩
        case round =>
          obtain ⟨m, hm, rfl, rfl, hbel⟩ := hrel
          have hbp := HBP.out.below hbel HBP.out.lt
          have hbl := HB.out.below hbel HB.out.lt
          have P0 : wr.cell? ⟨gp, 0, none⟩ = some (.int .i64 3) := hbp.cell 0
          have P1 : wr.cell? ⟨gp, 1, none⟩ = some (.slice a' n' c') := hbp.cell 1
          by_cases hlt : m < 32
          · have hm0 : (0 : Int) ≤ (m : Int) := by omega
            have hm1 : (m : Int) < 32 := by omega
            obtain ⟨⟨xu, xd⟩, hy⟩ : ∃ y, l[m]? = some y := ⟨_, List.getElem?_eq_getElem (show m < l.length by rw [HL32.out]; exact hlt)⟩
            have X0 : wr.cell? ⟨gl, m * 2, none⟩ = some (.bool xu) := (hbl.cell (m * 2)).trans (by rw [List.getElem?_toArray]; exact (cellsOf_get hy).1)
            have X1 : wr.cell? ⟨gl, m * 2 + 1, none⟩ = some (.string xd) := (hbl.cell (m * 2 + 1)).trans (by rw [List.getElem?_toArray]; exact (cellsOf_get hy).2)
            have hgd : l.getD m nos = ⟨xu, xd⟩ := by simp [List.getD, hy]
            have hla : lastU l (m + 1) = if xu then m + 1 else lastU l m := by rw [lastU, hgd]
            have hat : atL 3 q (m : Int) = ⟨xu, xd⟩ := by rw [atL_getD HGQ.out, ← HLQ.out, hgd]
            have HLN := Lib.hid hla
            have hll := (lastU_spec l m).1
            generalize lastU l m = v at hla hll HLN ⊢
            clear hla hgd hy hbp hbl
            have kP0 := cell_regrown P0
            have kP1 := cell_regrown P1
            have kX0 := cell_regrown X0
            have kX1 := cell_regrown X1
            have cP : ∀ dd os, Calls Try.prog 23 #[.agg #[.int .i64 3, .slice a' n' c'], .int .i64 (m : Int)] (grow (redrawn wr dd) os) fun e w'' => e = .returned (.agg #[.bool xu, .string xd]) ∧ ∃ p : Regrown, w'' = grow (redrawn wr p.d) p.os := fun dd os => Calls.regrown_of (by
              have := at_any 3 a' n' c' q (m : Int) _ ((HS.out.below hbel).below (below_regrown wr dd os)) (by omega)
              rw [hat] at this
              exact this)
            clear hat
            have he := run_ne_slot xu xu xd xd
            rw [sameB_refl] at he
            have hgd := run_guard_slot
            go_upto_region 19 with (fail)
            refine wp_region_quiet_below (by kernel_rfl) (by kernel_rfl) ?_
            repeat (go_big_quiet_step (exact cP _ _))
            refine wpQuiet_nil ?_
            intro _ hw'
            obtain ⟨⟨dq, osq⟩, hw''⟩ := hw'
            subst hw''
            have b2 := below_regrown wr dq osq
            generalize grow (redrawn wr dq) osq = W2 at b2 ⊢
            have b3 := hbel.trans (b2.mono hbel.size)
            have Y0 := (b2.cell (World.block_lt_of_cell? _ _ X0)).trans X0
            clear cP he hgd kP0 kP1 kX0 kX1 P0 P1 X0 X1
            cases xu with
            | true =>
              go_wp2
              go_roundw
              case rel => exact ⟨m + 1, by omega, by go_num, by rw [HLN.out]; go_num, b3⟩
              case measure => simp [intOf]; omega
            | false =>
              go_wp2
              go_roundw
              case rel => exact ⟨m + 1, by omega, by go_num, by rw [HLN.out]; rfl, b3⟩
              case measure => simp [intOf]; omega
          · obtain rfl : m = 32 := by omega
            rw [HLA.out]
            go_wp2
            go_ret
            exact ⟨rfl, HW.out.trans (hbel.mono HW.out.size)⟩
    · go_wp2
      have hn' : n' ≤ 32 := by have := HS.out.len; have h2 := (good_parts HGQ.out).2.2.1; omega
      have hlast : lastU l 32 = n' := (lastU_is HGQ.out HLQ.out).trans HS.out.len
      have HLA := Lib.hid hlast
      clear hlast
      go_loopw [9, 10] (fun t i W => ∃ m : Nat, m ≤ 32 ∧ i = .int .i64 (m : Int) ∧ t = .int .i64 (lastU l m : Int) ∧ Below wr.heap.size wr W) (fun _ i _ => 32 - (intOf i).toNat)
      case atStart => exact ⟨0, by omega, rfl, rfl, Below.refl _ _⟩
      case round =>
        obtain ⟨m, hm, rfl, rfl, hbel⟩ := hrel
        have hbp := HBP.out.below hbel HBP.out.lt
        have hbl := HB.out.below hbel HB.out.lt
        have P0 : wr.cell? ⟨gp, 0, none⟩ = some (.int .i64 3) := hbp.cell 0
        have P1 : wr.cell? ⟨gp, 1, none⟩ = some (.slice a' n' c') := hbp.cell 1
        by_cases hlt : m < 32
        · have hm0 : (0 : Int) ≤ (m : Int) := by omega
          have hm1 : (m : Int) < 32 := by omega
          obtain ⟨⟨xu, xd⟩, hy⟩ : ∃ y, l[m]? = some y := ⟨_, List.getElem?_eq_getElem (show m < l.length by rw [HL32.out]; exact hlt)⟩
          have X0 : wr.cell? ⟨gl, m * 2, none⟩ = some (.bool xu) := (hbl.cell (m * 2)).trans (by rw [List.getElem?_toArray]; exact (cellsOf_get hy).1)
          have X1 : wr.cell? ⟨gl, m * 2 + 1, none⟩ = some (.string xd) := (hbl.cell (m * 2 + 1)).trans (by rw [List.getElem?_toArray]; exact (cellsOf_get hy).2)
          have hgd : l.getD m nos = ⟨xu, xd⟩ := by simp [List.getD, hy]
          have hla : lastU l (m + 1) = if xu then m + 1 else lastU l m := by rw [lastU, hgd]
          have hat : atL 3 q (m : Int) = ⟨xu, xd⟩ := by rw [atL_getD HGQ.out, ← HLQ.out, hgd]
          have HLN := Lib.hid hla
          have hll := (lastU_spec l m).1
          generalize lastU l m = v at hla hll HLN ⊢
          clear hla hgd hy hbp hbl
          have kP0 := cell_regrown P0
          have kP1 := cell_regrown P1
          have kX0 := cell_regrown X0
          have kX1 := cell_regrown X1
          have cP : ∀ dd os, Calls Try.prog 23 #[.agg #[.int .i64 3, .slice a' n' c'], .int .i64 (m : Int)] (grow (redrawn wr dd) os) fun e w'' => e = .returned (.agg #[.bool xu, .string xd]) ∧ ∃ p : Regrown, w'' = grow (redrawn wr p.d) p.os := fun dd os => Calls.regrown_of (by
            have := at_any 3 a' n' c' q (m : Int) _ ((HS.out.below hbel).below (below_regrown wr dd os)) (by omega)
            rw [hat] at this
            exact this)
          clear hat
          have he := run_ne_slot xu xu xd xd
          rw [sameB_refl] at he
          have hgd := run_guard_slot
          go_upto_region 19 with (fail)
          refine wp_region_quiet_below (by kernel_rfl) (by kernel_rfl) ?_
          repeat (go_big_quiet_step (exact cP _ _))
          refine wpQuiet_nil ?_
          intro _ hw'
          obtain ⟨⟨dq, osq⟩, hw''⟩ := hw'
          subst hw''
          have b2 := below_regrown wr dq osq
          generalize grow (redrawn wr dq) osq = W2 at b2 ⊢
          have b3 := hbel.trans (b2.mono hbel.size)
          have Y0 := (b2.cell (World.block_lt_of_cell? _ _ X0)).trans X0
          clear cP he hgd kP0 kP1 kX0 kX1 P0 P1 X0 X1
          cases xu with
          | true =>
            go_wp2
            go_roundw
            case rel => exact ⟨m + 1, by omega, by go_num, by rw [HLN.out]; go_num, b3⟩
            case measure => simp [intOf]; omega
          | false =>
            go_wp2
            go_roundw
            case rel => exact ⟨m + 1, by omega, by go_num, by rw [HLN.out]; rfl, b3⟩
            case measure => simp [intOf]; omega
        · obtain rfl : m = 32 := by omega
          rw [HLA.out]
          go_wp2
          go_ret
          exact ⟨rfl, HW.out.trans (hbel.mono HW.out.size)⟩
end Go.Proofs.Ytnhdeebhkiemgaa.Slab
