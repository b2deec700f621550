/- The walk of the statement SlabFits. -/
import Derived.Test.YtnhdeebhkiemgaaSlabFitsMath
import Derived.Test.YtnhdeebhkiemgaaSlabKeepsWalk
namespace Go.Proofs.Ytnhdeebhkiemgaa.Slab
open Go.RowKit Go.Sort

theorem held2 {w0 w w' : World} {p0 p1 : Addr} {v0 v1 : Value} (h : w.cell? p0 = some v0 ∧ w.cell? p1 = some v1 ∧ Below w0.heap.size w0 w) (hb : Below w.heap.size w w') :
    w'.cell? p0 = some v0 ∧ w'.cell? p1 = some v1 ∧ Below w0.heap.size w0 w' :=
  ⟨(hb.cell (World.block_lt_of_cell? _ _ h.1)).trans h.1, (hb.cell (World.block_lt_of_cell? _ _ h.2.1)).trans h.2.1, h.2.2.trans (hb.mono h.2.2.size)⟩
theorem held2_set {w0 w : World} {p0 p1 : Addr} {v0 v1 : Value} (h : w.cell? p0 = some v0 ∧ w.cell? p1 = some v1 ∧ Below w0.heap.size w0 w)
    (h0 : p0.block < w0.heap.size) (h1 : p1.block < w0.heap.size) {g : Nat} (hg : w0.heap.size ≤ g) (i : Nat) (x : Value) :
    (w.setCell ⟨g, i, none⟩ x).cell? p0 = some v0 ∧ (w.setCell ⟨g, i, none⟩ x).cell? p1 = some v1 ∧ Below w0.heap.size w0 (w.setCell ⟨g, i, none⟩ x) := by
  have ne : ∀ p : Addr, p.block < w0.heap.size → (⟨g, i, none⟩ : Addr) ≠ p := fun p hp e => by rw [← e] at hp; simp at hp; omega
  exact ⟨by rw [World.cell?_setCell_other _ _ _ _ (ne _ h0)]; exact h.1, by rw [World.cell?_setCell_other _ _ _ _ (ne _ h1)]; exact h.2.1, h.2.2.setCell (p := ⟨g, i, none⟩) hg x⟩
theorem held2_b {w0 w : World} {p0 p1 : Addr} {v0 v1 : Value} (h : w.cell? p0 = some v0 ∧ w.cell? p1 = some v1 ∧ Below w0.heap.size w0 w) : Below w0.heap.size w0 w := h.2.2

theorem box_elim2_d {Gl : Prop} {X w' : World} {x y : Value} {T : TypeId} {o : Obj} (hb : Below ((X.alloc (.cells #[x, y] T)).alloc o).drew.heap.size ((X.alloc (.cells #[x, y] T)).alloc o).drew w')
    (k : (w'.cell? ⟨X.heap.size, 0, none⟩ = some x ∧ w'.cell? ⟨X.heap.size, 1, none⟩ = some y ∧ w'.frozen? ⟨X.heap.size, 0, none⟩ = false ∧ w'.frozen? ⟨X.heap.size, 1, none⟩ = false) → Gl) : Gl :=
  k (box_next (box_kept (Below.refl (X.alloc (.cells #[x, y] T)).heap.size _)) (below_next' ((Below.refl _ _).alloc (Nat.le_refl _) o) (⟨hb.os, hb.tape, hb.output, hb.size, hb.block⟩ : Below ((X.alloc (.cells #[x, y] T)).alloc o).heap.size ((X.alloc (.cells #[x, y] T)).alloc o) w') (by simp)))

set_option maxRecDepth 100000 in
set_option maxHeartbeats 8000000 in
theorem fits_walk (lsn : Int) (a : Option Addr) (n c : Nat) (zs : List Slot) (slot num : Int) (w : World) (hl : -9223372036854775808 ≤ lsn ∧ lsn ≤ 9223372036854775807) (h : Slots w a n zs) (_hs : -9223372036854775808 ≤ slot ∧ slot ≤ 9223372036854775807) (_hm : -9223372036854775808 ≤ num ∧ num ≤ 9223372036854775807) :
    Calls Try.prog 11 #[.agg #[.int .i64 lsn, .slice a n c], .int .i64 slot, .int .i64 num] w fun e w' => e = .returned (.bool true) ∧ Below w.heap.size w w' := by
  have H0 := (Hold.nil (Below.refl w.heap.size w)).box2 (.int .i64 lsn) (.slice a n c) 24
  have HO := Lib.hid h
  have HL := Lib.hid hl
  clear h hl
  go_enter Try.func11, Try.ntmps11
  go_wp2_with fail
  generalize hGen : w.alloc (.cells #[.int .i64 lsn, .slice a n c] 24) = W at H0 ⊢
  clear hGen
  refine (awake_any _).mono ?_
  rintro e w1 ⟨rfl, b1⟩
  have H1 := H0.next b1
  obtain ⟨P0, P1⟩ := H1.get2
  clear H0 b1
  cases hgr : greatB zs with
  | true =>
    have HGR := Lib.hid hgr
    clear hgr
    go_wp2_with fail
    refine (great_any lsn a n c zs _ (HO.out.below H1.b)).mono ?_
    rw [HGR.out]
    rintro e w2 ⟨rfl, b2⟩
    go_wp2
    go_ret
    exact ⟨rfl, (H1.next b2).b⟩
  | false =>
    have hn : n ≤ 1000000 := by have := HO.out.len; simp [greatB] at hgr; omega
    have HGR := Lib.hid hgr
    clear hgr
    cases hg : goodB lsn zs with
    | false =>
      have HG := Lib.hid hg
      clear hg
      go_wp2_with fail
      refine (great_any lsn a n c zs _ (HO.out.below H1.b)).mono ?_
      rw [HGR.out]
      rintro e w2 ⟨rfl, b2⟩
      have H2 := H1.next b2
      obtain ⟨P0b, P1b⟩ := H2.get2
      clear P0 P1 b2 H1
      go_wp2_with fail
      refine (good_any lsn a n c zs _ (HO.out.below H2.b) (by omega)).mono ?_
      rw [HG.out]
      rintro e w3 ⟨rfl, b3⟩
      go_wp2
      go_ret
      exact ⟨rfl, (H2.next b3).b⟩
    | true =>
      obtain ⟨k, hk, hkl⟩ := cut_of slot 32 (by omega) (by omega)
      obtain ⟨m, hm, hml⟩ := cut_of num 201 (by omega) (by omega)
      have hsz := fits_size (k := k) (x := ⟨true, zstr m⟩) (clean_of_good hg) (good_parts hg).2.2.2.1 rfl
      simp only [zstr_size] at hsz
      have hn2 : n ≤ 32 := by have := HO.out.len; have h2 := (good_parts hg).2.2.1; omega
      have hoth : ∀ j, j ≤ n → oth zs k j ≤ 240 := fun j hj => by
        have h1 := oth_mono zs k hj
        have h2 := oth_le_tot zs k n
        have h3 := sz_is zs
        have h4 := (good_parts hg).2.2.2.2.2
        have h5 := HO.out.len
        rw [h5] at h3
        omega
      have HG := Lib.hid hg
      have HSZ := Lib.hid hsz
      have HOTH := Lib.hid hoth
      clear hg hsz hoth
      go_wp2_with fail
      refine (great_any lsn a n c zs _ (HO.out.below H1.b)).mono ?_
      rw [HGR.out]
      rintro e w2 ⟨rfl, b2⟩
      have H2 := H1.next b2
      obtain ⟨P0b, P1b⟩ := H2.get2
      clear P0 P1 b2 H1
      go_wp2_with fail
      refine (good_any lsn a n c zs _ (HO.out.below H2.b) (by omega)).mono ?_
      rw [HG.out]
      rintro e w3 ⟨rfl, b3⟩
      have H3 := H2.next b3
      obtain ⟨P0c, P1c⟩ := H3.get2
      clear P0b P1b b3 H2
      go_wp2
      obtain ⟨M, hM, hM'⟩ : ∃ M : Nat, max (n : Int) ((k : Int) + 1) = (M : Int) ∧ max n (k + 1) = M := ⟨max n (k + 1), by omega, rfl⟩
      have hMl : M ≤ 32 := by omega
      have HM := Lib.hid hM'
      simp only [hk, hm, hM]
      clear hk hm hM hM'
      go_loopw [8, 9] (fun s i wr => ∃ j : Nat, j ≤ n ∧ i = .int .i64 (j : Int) ∧ s = .int .i64 ((9 + M + m + oth zs k j : Nat) : Int) ∧ Below w3.heap.size w3 wr) (fun _ i _ => n - (intOf i).toNat)
      case atStart => exact ⟨0, Nat.zero_le _, rfl, by go_num, Below.refl _ _⟩
      case round =>
        obtain ⟨j, hj, rfl, rfl, hbel⟩ := hrel
        have H5 := H3.next hbel
        obtain ⟨R0, R1⟩ := H5.get2
        have hoj := HOTH.out j hj
        by_cases hlt : j < n
        · obtain ⟨b, off, u, d, rfl, hb1, hgt, c1, c2, hd⟩ := (HO.out.below H5.b).at_ hlt
          have hon := oth_next (k := k) hgt
          have hoj2 := HOTH.out (j + 1) hlt
          have HON := Lib.hid hon
          generalize hs : oth zs k j = s at hoj hon
          rw [hon] at hoj2
          have HS2 := Lib.hid hs
          clear hs hon hgt c1
          by_cases hjk : j = k
          · subst hjk
            have hne : ((j : Int) != (j : Int)) = false := by simp
            go_wp2
            go_roundw
            case rel => exact ⟨j + 1, by omega, by go_num, by rw [HON.out, if_pos rfl, HS2.out]; go_num, hbel⟩
            case measure => simp [intOf]; omega
          · have hne : ((j : Int) != (k : Int)) = true := by simp; omega
            rw [if_neg hjk] at hoj2
            go_wp2
            go_roundw
            case rel => exact ⟨j + 1, by omega, by go_num, by rw [HON.out, if_neg hjk, HS2.out]; go_num, hbel⟩
            case measure => simp [intOf]; omega
        · obtain rfl : j = n := by omega
          go_wp2
          generalize hT0 : 9 + M + m + oth zs k j = T
          obtain ⟨N, Z, cd, hput, hcd⟩ : ∃ (N : Int) (Z : List Slot) (cd : Int), (∀ W, Below wr.heap.size wr W → Calls Try.prog 25 #[.agg #[.int .i64 lsn, .slice a j c], .int .i64 (k : Int), .agg #[.bool true, .string (zstr m)]] W (PageRes N Z cd W)) ∧
              ((cd = 22 ∧ (240 : Int) < T) ∨ (cd = 0 ∧ (T : Int) ≤ 240 ∧ sizeV N Z = T ∧ Z.length ≤ 1000)) := by
            have hl := HO.out.len
            have h1 := HSZ.out
            rw [hl, HM.out] at h1
            have hT : 9 + sz (putL zs k ⟨true, zstr m⟩) = T := by omega
            refine ⟨putN lsn zs k ⟨true, zstr m⟩, putZ lsn zs k ⟨true, zstr m⟩, putCode lsn zs k ⟨true, zstr m⟩, fun W hW => put_any lsn a j c zs k true (zstr m) W (HO.out.below (H5.next hW).b) hn (by rw [zstr_size]; omega), ?_⟩
            have hx := put_true (slot := (k : Int)) (d := zstr m) HG.out (by omega) (by omega)
            have hy : ¬ 200 < (⟨true, zstr m⟩ : Slot).d.size := by show ¬ 200 < (zstr m).size; rw [zstr_size]; omega
            by_cases hb : 240 < T
            · exact .inl ⟨put_full hx hy (by rw [Int.toNat_natCast, hT]; exact hb), by omega⟩
            · have h0 := put_ok hx hy (by rw [Int.toNat_natCast, hT]; exact hb)
              have hg2 := put_good h0
              rw [Int.toNat_natCast] at hg2
              refine .inr ⟨h0, by omega, ?_, ?_⟩
              · unfold putN putZ sizeV; rw [if_pos h0, if_pos h0, Int.toNat_natCast, hg2, ← hT]; rfl
              · unfold putZ; rw [if_pos h0, Int.toNat_natCast]; exact Nat.le_trans (good_parts hg2).2.2.1 (by omega)
          have HPB := Lib.hid hput
          have HCD := Lib.hid hcd
          clear hput hcd hoj
          have hmk := run_made m (by omega)
          have hc1 : (convert 43 9 (.slice (some ⟨wr.heap.size, 0, none⟩) m m)).run Try.prog ((wr.alloc (.cells (madeCells #[.int .u8 0] m) 5)).drew) = .ok (.string (zstr m)) ((wr.alloc (.cells (madeCells #[.int .u8 0] m) 5)).drew) := run_conv0 m _ _ fun i hi => made_cell wr m i hi _
          have hc2 : (convert 43 9 (.slice (some ⟨wr.heap.size + 1, 0, none⟩) m m)).run Try.prog (((wr.alloc (.cells #[.int .i64 0, .slice none 0 0] 24)).alloc (.cells (madeCells #[.int .u8 0] m) 5)).drew) = .ok (.string (zstr m)) (((wr.alloc (.cells #[.int .i64 0, .slice none 0 0] 24)).alloc (.cells (madeCells #[.int .u8 0] m) 5)).drew) := run_conv0 m _ _ fun i hi => by have := made_cell (wr.alloc (.cells #[.int .i64 0, .slice none 0 0] 24)) m i hi 5; rw [World.size_alloc] at this; exact this
          have hc3 : (convert 43 9 (.slice (some ⟨wr.heap.size, 0, none⟩) m m)).run Try.prog (((wr.alloc (.cells (madeCells #[.int .u8 0] m) 5)).alloc (.cells #[.int .i64 0, .slice none 0 0] 24)).drew) = .ok (.string (zstr m)) (((wr.alloc (.cells (madeCells #[.int .u8 0] m) 5)).alloc (.cells #[.int .i64 0, .slice none 0 0] 24)).drew) := run_conv0 m _ _ fun i hi => (World.cell?_alloc_lt _ _ _ (by simp)).trans (made_cell wr m i hi _)
          have hPb : w.heap.size < wr.heap.size := World.block_lt_of_cell? _ ⟨w.heap.size, 0, none⟩ H5.head
          have hz0 : wr.cell? ⟨w.heap.size, 0, none⟩ = some (.int .i64 lsn) ∧ wr.cell? ⟨w.heap.size, 1, none⟩ = some (.slice a j c) ∧ Below wr.heap.size wr wr := ⟨R0, R1, Below.refl _ _⟩
          go_region_with (first
            | (go_at_call 25
               (with_reducible refine (HPB.out _ ?_).mono ?_)
               · first
                 | exact ((Below.refl wr.heap.size wr).alloc (Nat.le_refl _) _).drew
                 | exact (((Below.refl wr.heap.size wr).alloc (Nat.le_refl _) _).alloc (by simp) _).drew
               rintro e wP ⟨a7, n7, c7, rfl, s7, bq, f7⟩
               have hz4 : wP.cell? ⟨w.heap.size, 0, none⟩ = some (.int .i64 lsn) ∧ wP.cell? ⟨w.heap.size, 1, none⟩ = some (.slice a j c) ∧ Below wr.heap.size wr wP := by
                 refine held2 (w := wr) hz0 ?_
                 first
                 | exact below_next' (((Below.refl wr.heap.size wr).alloc (Nat.le_refl _) _).drew) bq (by simp)
                 | exact below_next' ((((Below.refl wr.heap.size wr).alloc (Nat.le_refl _) _).alloc (by simp) _).drew) bq (by simp; omega)
               first | (refine box_elim_d bq ?_; (try rw [World.size_alloc]); rintro ⟨e0, e1, g0, g1⟩) | (refine box_elim2_d bq ?_; rintro ⟨e0, e1, g0, g1⟩) | skip))
          all_goals
            first
            | ((with_reducible show Exit.then _ _ _ _ (wP.alloc (.cells #[.int .i64 N, .slice a7 n7 c7] 24)))
               obtain ⟨E0, E1⟩ : (wP.alloc (.cells #[.int .i64 N, .slice a7 n7 c7] 24)).cell? ⟨wP.heap.size, 0, none⟩ = some (.int .i64 N) ∧ (wP.alloc (.cells #[.int .i64 N, .slice a7 n7 c7] 24)).cell? ⟨wP.heap.size, 1, none⟩ = some (.slice a7 n7 c7) := box_fresh
               have S7 := Lib.hid (show Slots (wP.alloc (.cells #[.int .i64 N, .slice a7 n7 c7] 24)) a7 n7 Z from s7.below ((Below.refl _ _).alloc (Nat.le_refl _) _))
               have BZ : Below wr.heap.size wr (wP.alloc (.cells #[.int .i64 N, .slice a7 n7 c7] 24)) := hz4.2.2.alloc hz4.2.2.size _
               clear bq s7 f7 hz4 hz0 R0 R1
               generalize hGen : wP.alloc (.cells #[.int .i64 N, .slice a7 n7 c7] 24) = X at BZ E0 E1 S7 ⊢
               clear hGen
               generalize hGen : wP.heap.size = g at E0 E1 ⊢
               clear hGen
               skip)
            | ((with_reducible show Exit.then _ _ _ _ ((wP.setCell ⟨wr.heap.size, 0, none⟩ (.int .i64 N)).setCell ⟨wr.heap.size, 1, none⟩ (.slice a7 n7 c7)))
               obtain ⟨E0, E1⟩ : ((wP.setCell ⟨wr.heap.size, 0, none⟩ (.int .i64 N)).setCell ⟨wr.heap.size, 1, none⟩ (.slice a7 n7 c7)).cell? ⟨wr.heap.size, 0, none⟩ = some (.int .i64 N) ∧ ((wP.setCell ⟨wr.heap.size, 0, none⟩ (.int .i64 N)).setCell ⟨wr.heap.size, 1, none⟩ (.slice a7 n7 c7)).cell? ⟨wr.heap.size, 1, none⟩ = some (.slice a7 n7 c7) := box_written e0 e1
               have S7 := Lib.hid (show Slots ((wP.setCell ⟨wr.heap.size, 0, none⟩ (.int .i64 N)).setCell ⟨wr.heap.size, 1, none⟩ (.slice a7 n7 c7)) a7 n7 Z from (s7.setCell _ (fun b off e _ => by have h1 := f7 _ _ _ e; simp at h1; omega)).setCell _ (fun b off e _ => by have h1 := f7 _ _ _ e; simp at h1; omega))
               have BZ : Below wr.heap.size wr ((wP.setCell ⟨wr.heap.size, 0, none⟩ (.int .i64 N)).setCell ⟨wr.heap.size, 1, none⟩ (.slice a7 n7 c7)) := (hz4.2.2.setCell (p := ⟨wr.heap.size, 0, none⟩) (by simp) _).setCell (p := ⟨wr.heap.size, 1, none⟩) (by simp) _
               clear bq s7 f7 hz4 hz0 R0 R1
               generalize hGen : (wP.setCell ⟨wr.heap.size, 0, none⟩ (.int .i64 N)).setCell ⟨wr.heap.size, 1, none⟩ (.slice a7 n7 c7) = X at BZ E0 E1 S7 ⊢
               clear hGen
               generalize hGen : wr.heap.size = g at E0 E1 ⊢
               clear hGen
               skip)
            | ((with_reducible show Exit.then _ _ _ _ ((wP.setCell ⟨wr.heap.size + 1, 0, none⟩ (.int .i64 N)).setCell ⟨wr.heap.size + 1, 1, none⟩ (.slice a7 n7 c7)))
               obtain ⟨E0, E1⟩ : ((wP.setCell ⟨wr.heap.size + 1, 0, none⟩ (.int .i64 N)).setCell ⟨wr.heap.size + 1, 1, none⟩ (.slice a7 n7 c7)).cell? ⟨wr.heap.size + 1, 0, none⟩ = some (.int .i64 N) ∧ ((wP.setCell ⟨wr.heap.size + 1, 0, none⟩ (.int .i64 N)).setCell ⟨wr.heap.size + 1, 1, none⟩ (.slice a7 n7 c7)).cell? ⟨wr.heap.size + 1, 1, none⟩ = some (.slice a7 n7 c7) := box_written e0 e1
               have S7 := Lib.hid (show Slots ((wP.setCell ⟨wr.heap.size + 1, 0, none⟩ (.int .i64 N)).setCell ⟨wr.heap.size + 1, 1, none⟩ (.slice a7 n7 c7)) a7 n7 Z from (s7.setCell _ (fun b off e _ => by have h1 := f7 _ _ _ e; simp at h1; omega)).setCell _ (fun b off e _ => by have h1 := f7 _ _ _ e; simp at h1; omega))
               have BZ : Below wr.heap.size wr ((wP.setCell ⟨wr.heap.size + 1, 0, none⟩ (.int .i64 N)).setCell ⟨wr.heap.size + 1, 1, none⟩ (.slice a7 n7 c7)) := (hz4.2.2.setCell (p := ⟨wr.heap.size + 1, 0, none⟩) (by simp) _).setCell (p := ⟨wr.heap.size + 1, 1, none⟩) (by simp) _
               clear bq s7 f7 hz4 hz0 R0 R1
               generalize hGen : (wP.setCell ⟨wr.heap.size + 1, 0, none⟩ (.int .i64 N)).setCell ⟨wr.heap.size + 1, 1, none⟩ (.slice a7 n7 c7) = X at BZ E0 E1 S7 ⊢
               clear hGen
               generalize hGen : wr.heap.size + 1 = g at E0 E1 ⊢
               clear hGen
               skip)
            have HX := (H5.next BZ).cons E1 |>.cons E0
            go_goals
            rcases HCD.out with ⟨rfl, hbig⟩ | ⟨rfl, hsm, hsv, hzl⟩
            · go_wp2
              go_ret
              exact ⟨rfl, HX.b⟩
            · go_wp2_with fail
              refine (sizes_any N a7 n7 c7 Z _ S7.out (by have := S7.out.len; omega)).mono ?_
              rw [hsv]
              rintro e w8 ⟨rfl, b8⟩
              go_wp2
              go_ret
              exact ⟨rfl, (HX.next b8).b⟩
end Go.Proofs.Ytnhdeebhkiemgaa.Slab
