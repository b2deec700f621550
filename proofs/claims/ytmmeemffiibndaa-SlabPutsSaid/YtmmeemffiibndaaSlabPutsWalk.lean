/- The walk of the statement SlabPuts. -/
import Derived.Test.YtmmeemffiibndaaSlabRVac
namespace Go.Proofs.Ytmmeemffiibndaa.Slab
open Go.RowKit Go.Sort

theorem putZ_len (lsn : Int) (l : List Slot) (slot : Int) (x : Slot) : (putZ lsn l slot x).length ≤ 32 := by
  unfold putZ
  split
  · rename_i h; exact (good_parts (put_good h)).2.2.1
  · simp
set_option maxRecDepth 100000 in
set_option maxHeartbeats 8000000 in
theorem puts_walk (lsn : Int) (a : Option Addr) (n c : Nat) (zs : List Slot) (slot : Int) (u : Bool) (d : ByteArray) (w : World) (_hl : -9223372036854775808 ≤ lsn ∧ lsn ≤ 9223372036854775807) (h : Slots w a n zs) (_hs : -9223372036854775808 ≤ slot ∧ slot ≤ 9223372036854775807) (hd : d.size ≤ 140737488351232) :
    Calls Try.prog 3 #[.agg #[.int .i64 lsn, .slice a n c], .int .i64 slot, .agg #[.bool u, .string d]] w fun e w' => e = .returned (.bool true) ∧ Below w.heap.size w w' := by
  have H0 := (Hold.nil (Below.refl w.heap.size w)).box2 (.int .i64 lsn) (.slice a n c) 24
  replace H0 := H0.box2 (.bool u) (.string d) 26
  rw [World.size_alloc] at H0
  have HO := Lib.hid h
  clear h
  go_enter Try.func3, Try.ntmps3
  go_wp2_with fail
  generalize hGen : (w.alloc (.cells #[.int .i64 lsn, .slice a n c] 24)).alloc (.cells #[.bool u, .string d] 26) = W at H0 ⊢
  clear hGen
  refine (awake_any _).mono ?_
  rintro e w1 ⟨rfl, b1⟩
  have H1 := H0.next b1
  obtain ⟨Q0, Q1, P0, P1⟩ := H1.get4
  clear H0 b1
  cases hgr : greatB zs with
  | true =>
    have HGR := Lib.hid hgr
    clear hgr
    go_wp2_with fail
    refine (great_any lsn a n c zs _ (HO.out.below H1.b)).mono ?_
    rw [HGR.out]
    rintro e w2 ⟨rfl, b2⟩
    go_wp2
    go_ret
    exact ⟨rfl, (H1.next b2).b⟩
  | false =>
    have hn : n ≤ 1000000 := by have := HO.out.len; simp [greatB] at hgr; omega
    have HGR := Lib.hid hgr
    clear hgr
    by_cases hx : (4096 : Int) < (d.size : Int)
    · go_wp2_with fail
      refine (great_any lsn a n c zs _ (HO.out.below H1.b)).mono ?_
      rw [HGR.out]
      rintro e w2 ⟨rfl, b2⟩
      have H2 := H1.next b2
      obtain ⟨Q0b, Q1b, P0b, P1b⟩ := H2.get4
      go_wp2
      go_ret
      exact ⟨rfl, H2.b⟩
    · go_wp2_with fail
      refine (great_any lsn a n c zs _ (HO.out.below H1.b)).mono ?_
      rw [HGR.out]
      rintro e w2 ⟨rfl, b2⟩
      have H2 := H1.next b2
      obtain ⟨Q0b, Q1b, P0b, P1b⟩ := H2.get4
      clear Q0 Q1 P0 P1 b2 H1
      go_upto_region 5 with (fail)
      obtain ⟨xu, xd, hxx⟩ : ∃ xu xd, atL lsn zs slot = ⟨xu, xd⟩ := ⟨_, _, rfl⟩
      have hc1 : ∀ W, Below w2.heap.size w2 W → Calls Try.prog 13 #[.agg #[.int .i64 lsn, .slice a n c], .int .i64 slot] W fun e w' => e = .returned (.agg #[.bool xu, .string xd]) ∧ Below W.heap.size W w' := fun W hW => by
        have := at_any lsn a n c zs slot W (HO.out.below (H2.next hW).b) hn
        rw [hxx] at this
        exact this
      have hc2 : ∀ W, Below w2.heap.size w2 W → Calls Try.prog 14 #[.agg #[.int .i64 lsn, .slice a n c], .int .i64 slot] W fun e w' => e = .returned (.agg #[.bool xu, .string xd]) ∧ Below W.heap.size W w' := fun W hW => by
        have := rat_any lsn a n c zs slot W (HO.out.below (H2.next hW).b) hn
        rw [hxx] at this
        exact this
      have cQ1 : ∀ dd os, Calls Try.prog 13 #[.agg #[.int .i64 lsn, .slice a n c], .int .i64 slot] (grow (redrawn w2 dd) os) fun e w'' => e = .returned (.agg #[.bool xu, .string xd]) ∧ ∃ p : Regrown, w'' = grow (redrawn w2 p.d) p.os := fun dd os => Calls.regrown_of (hc1 _ (below_regrown w2 dd os))
      have cQ2 : ∀ dd os, Calls Try.prog 14 #[.agg #[.int .i64 lsn, .slice a n c], .int .i64 slot] (grow (redrawn w2 dd) os) fun e w'' => e = .returned (.agg #[.bool xu, .string xd]) ∧ ∃ p : Regrown, w'' = grow (redrawn w2 p.d) p.os := fun dd os => Calls.regrown_of (hc2 _ (below_regrown w2 dd os))
      have kP0 := cell_regrown P0b
      have kP1 := cell_regrown P1b
      have he := run_ne_slot xu xu xd xd
      rw [sameB_refl] at he
      have hgd := run_guard_slot
      clear hxx
      refine wp_region_quiet_below (by kernel_rfl) (by kernel_rfl) ?_
      repeat (go_big_quiet_step (first | (with_reducible exact cQ1 _ _) | (with_reducible exact cQ2 _ _)))
      refine wpQuiet_nil ?_
      intro _ hw'
      obtain ⟨⟨dq, osq⟩, hw''⟩ := hw'
      subst hw''
      have b3 := below_regrown w2 dq osq
      generalize grow (redrawn w2 dq) osq = W3 at b3 ⊢
      clear cQ1 cQ2 hc1 hc2 he hgd kP0 kP1
      have H3 := H2.next b3
      obtain ⟨Q0c, Q1c, P0c, P1c⟩ := H3.get4
      clear Q0b Q1b P0b P1b b3 H2
      have hp1 := fun W (hW : Slots W a n zs) => put_any lsn a n c zs slot u d W hW hn hd
      have hp2 := fun W (hW : Slots W a n zs) => rput_any lsn a n c zs slot u d W hW hn hd
      have hZ := putZ_len lsn zs slot ⟨u, d⟩
      generalize putN lsn zs slot ⟨u, d⟩ = N at hp1 hp2
      generalize putZ lsn zs slot ⟨u, d⟩ = Z at hp1 hp2 hZ
      generalize putCode lsn zs slot ⟨u, d⟩ = cd at hp1 hp2
      have HP1 := Lib.hid hp1
      have HP2 := Lib.hid hp2
      clear hp1 hp2
      go_wp2_with fail
      refine (HP1.out _ (HO.out.below H3.b)).mono ?_
      rintro e w4 ⟨a4, n4, c4, rfl, s4, b4, f4⟩
      have S4 := Lib.hid (s4.below ((Below.refl _ _).alloc (Nat.le_refl _) (.cells #[.int .i64 N, .slice a4 n4 c4] 24)))
      have H4 := (H3.next b4).box2 (.int .i64 N) (.slice a4 n4 c4) 24
      clear s4 b4 Q0c Q1c P0c P1c H3 f4
      go_upto_region 8 with (fail)
      generalize hGen : w4.alloc (.cells #[.int .i64 N, .slice a4 n4 c4] 24) = W4 at S4 H4 ⊢
      clear hGen
      generalize hGen : w4.heap.size = g4 at H4 ⊢
      clear hGen
      obtain ⟨R0, R1, Q0, Q1, P0, P1⟩ := H4.get6
      go_wp2_with fail
      refine (HP2.out _ (HO.out.below H4.b)).mono ?_
      rintro e w5 ⟨a5, n5, c5, rfl, s5, b5, f5⟩
      have S5 := Lib.hid (s5.below ((Below.refl _ _).alloc (Nat.le_refl _) (.cells #[.int .i64 N, .slice a5 n5 c5] 24)))
      have S4b := Lib.hid ((S4.out.below b5).below ((Below.refl _ _).alloc (Nat.le_refl _) (.cells #[.int .i64 N, .slice a5 n5 c5] 24)))
      have H5 := (H4.next b5).box2 (.int .i64 N) (.slice a5 n5 c5) 24
      clear s5 b5 R0 R1 Q0 Q1 P0 P1 H4 f5 S4
      go_upto_region 9 with (fail)
      generalize hGen : w5.alloc (.cells #[.int .i64 N, .slice a5 n5 c5] 24) = W5 at S5 S4b H5 ⊢
      clear hGen
      generalize hGen : w5.heap.size = g5 at H5 ⊢
      clear hGen
      obtain ⟨T0, T1, R0, R1, Q0, Q1, P0, P1⟩ := H5.get8
      have hn4 : n4 ≤ 1000000 := by have := S4b.out.len; omega
      go_wp2_with fail
      refine (same_any N N a4 a5 n4 n5 c4 c5 Z Z true _ S4b.out S5.out hn4 (by simp)).mono ?_
      rintro e w6 ⟨rfl, b6⟩
      have H6 := H5.next b6
      obtain ⟨T0b, T1b, R0b, R1b, Q0b, Q1b, P0b, P1b⟩ := H6.get8
      clear b6 T0 T1 R0 R1 Q0 Q1 P0 P1 H5
      have hv1 := fun W (hW : Slots W a n zs) => vac_any lsn a n c zs slot W hW hn
      have hv2 := fun W (hW : Slots W a n zs) => rvac_any lsn a n c zs slot W hW hn
      generalize vacV lsn zs slot = vv at hv1 hv2
      generalize vacCode lsn zs slot = vc at hv1 hv2
      have HV1 := Lib.hid hv1
      have HV2 := Lib.hid hv2
      clear hv1 hv2
      go_wp2_with fail
      refine (HV1.out _ (HO.out.below H6.b)).mono ?_
      rintro e w7 ⟨rfl, b7⟩
      have H7 := H6.next b7
      obtain ⟨T0, T1, R0, R1, Q0, Q1, P0, P1⟩ := H7.get8
      clear b7 T0b T1b R0b R1b Q0b Q1b P0b P1b H6
      go_wp2_with fail
      refine (HV2.out _ (HO.out.below H7.b)).mono ?_
      rintro e w8 ⟨rfl, b8⟩
      go_wp2
      go_ret
      exact ⟨rfl, (H7.next b8).b⟩
end Go.Proofs.Ytmmeemffiibndaa.Slab
