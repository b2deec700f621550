/- The walk of the document's own Vacant, where no slot of the image is vacant. -/
import Derived.Test.YtmmeemffiibndaaSlabRVacMath
namespace Go.Proofs.Ytmmeemffiibndaa.Slab
open Go.RowKit Go.Sort
set_option maxRecDepth 100000 in
set_option maxHeartbeats 8000000 in
theorem rvac_out (lsn : Int) (a : Option Addr) (n c : Nat) (zs : List Slot) (q : Nat) (w : World) (h : Slots w a n zs) (hn : n ≤ 1000000) (hg : goodB lsn zs = true) (hq : q ≤ 200) (hv : ¬ vacS zs < n) :
    Calls Try.prog 19 #[.agg #[.int .i64 lsn, .slice a n c], .int .i64 (q : Int)] w fun e w' => e = .returned (.tuple #[.int .i64 (vacV lsn zs (q : Int)), .int .i64 (vacCode lsn zs (q : Int))]) ∧ Below w.heap.size w w' := by
  have H0 := (Hold.nil (Below.refl w.heap.size w)).box2 (.int .i64 lsn) (.slice a n c) 24
  have HO := Lib.hid h
  clear h
  have hsz : w.heap.size < (w.alloc (.cells #[.int .i64 lsn, .slice a n c] 24)).heap.size := by simp
  have hs : n ≤ 32 := by have := HO.out.len; simp [goodB] at hg; omega
  have hcodes := vac_codes hg hq
  have hputc := vac_put hg hq
  have hfull : vacS zs = 32 → vacCode lsn zs (q : Int) = 22 := fun h => by rw [vac_code hg hq, if_pos (.inl h)]
  have hsl : vacS zs ≤ n := by have := vacS_le zs; rw [HO.out.len] at this; exact this
  have HG := Lib.hid hg
  have HCO := Lib.hid hcodes
  have HPU := Lib.hid hputc
  have HFU := Lib.hid hfull
  clear hg hcodes hputc hfull
  obtain ⟨K, hK⟩ : ∃ K, K = vacS zs := ⟨_, rfl⟩
  rw [← hK] at hsl
  have HK := Lib.hid hK
  clear hK
  go_enter Try.func19, Try.ntmps19
  go_wp2_with fail
  generalize hGen : w.alloc (.cells #[.int .i64 lsn, .slice a n c] 24) = W at H0 hsz ⊢
  clear hGen
  refine (rgood_any lsn a n c zs _ (HO.out.below H0.b) (by omega)).mono ?_
  rw [HG.out]
  rintro e w1 ⟨rfl, b1⟩
  have H1 := H0.next b1
  obtain ⟨P0, P1⟩ := H1.get2
  have hsz1 := Nat.lt_of_lt_of_le hsz b1.size
  clear b1 H0 hsz
  go_wp2
  go_loop [6] (fun i => ∃ k : Nat, k ≤ K ∧ i = .int .i64 (k : Int)) (fun i => n - (intOf i).toNat)
  case atStart => exact ⟨0, Nat.zero_le _, rfl⟩
  case round =>
    obtain ⟨k, hk, rfl⟩ := hrel
    by_cases hlt : k < K
    · obtain ⟨b, off, u, d, rfl, hb1, hgt, c1, c2, hd⟩ := (HO.out.below H1.b).at_ (show k < n by omega)
      have hu : u = true := by
        have h1 := vac_before (l := zs) (j := k) (by rw [← HK.out]; exact hlt)
        simpa [List.getD, hgt] using h1
      subst hu
      clear hgt c2 hd
      go_wp2
      go_round
      case rel => exact ⟨k + 1, by omega, by go_num⟩
      case measure => simp [intOf]; omega
    · obtain rfl : K = k := by omega
      have hltn : ¬ K < n := by have := HK.out; omega
      have hlt2 : ¬ ((K : Int) < (n : Int)) := by omega
      by_cases h32 : K = 32
      · have hcf := Lib.hid (HFU.out (by rw [← HK.out]; exact h32))
        have hK31 : (31 : Int) < (K : Int) := by omega
        clear h32 hltn
        go_wp2
        go_ret2
        exact ⟨ret2 (by unfold vacV; rw [hcf.out]; rfl) hcf.out.symm, H1.b⟩
      · have hK31 : (K : Int) ≤ 31 := by omega
        go_upto_region 10 with (fail)
        have hPb : w.heap.size < w1.heap.size := hsz1
        have hput : ∀ W, Below w1.heap.size w1 W → Calls Try.prog 16 #[.agg #[.int .i64 lsn, .slice a n c], .int .i64 (K : Int), .agg #[.bool true, .string (zstr q)]] W (PageRes (putN lsn zs K ⟨true, zstr q⟩) (putZ lsn zs K ⟨true, zstr q⟩) (putCode lsn zs K ⟨true, zstr q⟩) W) := fun W hW => rput_any lsn a n c zs K true (zstr q) W (HO.out.below (H1.next hW).b) hn (by rw [zstr_size]; omega)
        have hcd : putCode lsn zs (K : Int) ⟨true, zstr q⟩ = vacCode lsn zs (q : Int) := by rw [HK.out]; exact HPU.out (by rw [← HK.out]; omega)
        rw [hcd] at hput
        generalize putN lsn zs K ⟨true, zstr q⟩ = N at hput
        generalize putZ lsn zs K ⟨true, zstr q⟩ = Z at hput
        obtain ⟨cd, hcd2⟩ : ∃ cd, cd = vacCode lsn zs (q : Int) := ⟨_, rfl⟩
        rw [← hcd2] at hput
        have hcd3 : cd = 22 ∨ cd = 0 := by rw [hcd2]; exact HCO.out
        have HPB := Lib.hid hput
        have HC2 := Lib.hid hcd2
        have HC3 := Lib.hid hcd3
        clear hput hcd hcd2 hcd3
        have hmk := run_made q (by omega)
        have hc1 : (convert 65 9 (.slice (some ⟨w1.heap.size, 0, none⟩) q q)).run Try.prog ((w1.alloc (.cells (madeCells #[.int .u8 0] q) 5)).drew) = .ok (.string (zstr q)) ((w1.alloc (.cells (madeCells #[.int .u8 0] q) 5)).drew) := run_conv0 q _ _ fun i hi => made_cell w1 q i hi _
        have hc2 : (convert 65 9 (.slice (some ⟨w1.heap.size + 1, 0, none⟩) q q)).run Try.prog (((w1.alloc (.cells #[.int .i64 0, .slice none 0 0] 24)).alloc (.cells (madeCells #[.int .u8 0] q) 5)).drew) = .ok (.string (zstr q)) (((w1.alloc (.cells #[.int .i64 0, .slice none 0 0] 24)).alloc (.cells (madeCells #[.int .u8 0] q) 5)).drew) := run_conv0 q _ _ fun i hi => by have := made_cell (w1.alloc (.cells #[.int .i64 0, .slice none 0 0] 24)) q i hi 5; rw [World.size_alloc] at this; exact this
        have hc3 : (convert 65 9 (.slice (some ⟨w1.heap.size, 0, none⟩) q q)).run Try.prog (((w1.alloc (.cells (madeCells #[.int .u8 0] q) 5)).alloc (.cells #[.int .i64 0, .slice none 0 0] 24)).drew) = .ok (.string (zstr q)) (((w1.alloc (.cells (madeCells #[.int .u8 0] q) 5)).alloc (.cells #[.int .i64 0, .slice none 0 0] 24)).drew) := run_conv0 q _ _ fun i hi => (World.cell?_alloc_lt _ _ _ (by simp)).trans (made_cell w1 q i hi _)
        have hz0 : w1.cell? ⟨w.heap.size, 0, none⟩ = some (.int .i64 lsn) ∧ w1.cell? ⟨w.heap.size, 1, none⟩ = some (.slice a n c) ∧ Below w1.heap.size w1 w1 := ⟨P0, P1, Below.refl _ _⟩
        go_region_with (first
          | (go_at_call 16
             (with_reducible refine (HPB.out _ ?_).mono ?_)
             · first
               | exact ((Below.refl w1.heap.size w1).alloc (Nat.le_refl _) _).drew
               | exact (((Below.refl w1.heap.size w1).alloc (Nat.le_refl _) _).alloc (by simp) _).drew
             rintro e wP ⟨a7, n7, c7, rfl, s7, bq, f7⟩
             have hz4 : wP.cell? ⟨w.heap.size, 0, none⟩ = some (.int .i64 lsn) ∧ wP.cell? ⟨w.heap.size, 1, none⟩ = some (.slice a n c) ∧ Below w1.heap.size w1 wP := by
               refine held2 (w := w1) hz0 ?_
               first
               | exact below_next' (((Below.refl w1.heap.size w1).alloc (Nat.le_refl _) _).drew) bq (by simp)
               | exact below_next' ((((Below.refl w1.heap.size w1).alloc (Nat.le_refl _) _).alloc (by simp) _).drew) bq (by simp; omega)
             first | (refine box_elim_d bq ?_; (try rw [World.size_alloc]); rintro ⟨e0, e1, g0, g1⟩) | (refine box_elim2_d bq ?_; rintro ⟨e0, e1, g0, g1⟩) | skip))
        all_goals
          first
          | ((with_reducible show Exit.then _ _ _ _ (wP.alloc (.cells #[.int .i64 N, .slice a7 n7 c7] 24)))
             have BZ : Below w1.heap.size w1 (wP.alloc (.cells #[.int .i64 N, .slice a7 n7 c7] 24)) := hz4.2.2.alloc hz4.2.2.size _
             clear bq s7 f7 hz4 hz0 P0 P1
             generalize hGen : wP.alloc (.cells #[.int .i64 N, .slice a7 n7 c7] 24) = X at BZ ⊢
             clear hGen
             skip)
          | ((with_reducible show Exit.then _ _ _ _ ((wP.setCell ⟨w1.heap.size, 0, none⟩ (.int .i64 N)).setCell ⟨w1.heap.size, 1, none⟩ (.slice a7 n7 c7)))
             have BZ : Below w1.heap.size w1 ((wP.setCell ⟨w1.heap.size, 0, none⟩ (.int .i64 N)).setCell ⟨w1.heap.size, 1, none⟩ (.slice a7 n7 c7)) := (hz4.2.2.setCell (p := ⟨w1.heap.size, 0, none⟩) (by simp) _).setCell (p := ⟨w1.heap.size, 1, none⟩) (by simp) _
             clear bq s7 f7 hz4 hz0 P0 P1
             generalize hGen : (wP.setCell ⟨w1.heap.size, 0, none⟩ (.int .i64 N)).setCell ⟨w1.heap.size, 1, none⟩ (.slice a7 n7 c7) = X at BZ ⊢
             clear hGen
             skip)
          | ((with_reducible show Exit.then _ _ _ _ ((wP.setCell ⟨w1.heap.size + 1, 0, none⟩ (.int .i64 N)).setCell ⟨w1.heap.size + 1, 1, none⟩ (.slice a7 n7 c7)))
             have BZ : Below w1.heap.size w1 ((wP.setCell ⟨w1.heap.size + 1, 0, none⟩ (.int .i64 N)).setCell ⟨w1.heap.size + 1, 1, none⟩ (.slice a7 n7 c7)) := (hz4.2.2.setCell (p := ⟨w1.heap.size + 1, 0, none⟩) (by simp) _).setCell (p := ⟨w1.heap.size + 1, 1, none⟩) (by simp) _
             clear bq s7 f7 hz4 hz0 P0 P1
             generalize hGen : (wP.setCell ⟨w1.heap.size + 1, 0, none⟩ (.int .i64 N)).setCell ⟨w1.heap.size + 1, 1, none⟩ (.slice a7 n7 c7) = X at BZ ⊢
             clear hGen
             skip)
          have HX := Lib.hid (H1.next BZ).b
          rcases HC3.out with rfl | rfl
          · go_wp2
            go_ret2
            exact ⟨ret2 (by unfold vacV; rw [← HC2.out]; rfl) HC2.out, HX.out⟩
          · go_wp2
            go_ret2
            exact ⟨ret2 (by unfold vacV; rw [← HC2.out, ← HK.out]; rfl) HC2.out, HX.out⟩
end Go.Proofs.Ytmmeemffiibndaa.Slab
