/- The walk of the document's own Put, where a slot is put. -/
import Derived.Test.YtmmeemffiibndaaSlabOwn
import Derived.Test.YtmmeemffiibndaaSlabLaws
namespace Go.Proofs.Ytmmeemffiibndaa.Slab
open Go.RowKit Go.Sort
theorem used_lt {l : List Slot} {i : Nat} (h : (l.getD i nos).u = true) : i < usedN l := by
  rcases Nat.lt_or_ge i (usedN l) with h1 | h1
  · exact h1
  · rw [used_beyond l i h1] at h; cases h
theorem used_no {l : List Slot} {i : Nat} (h1 : usedN l ≤ i + 1) (h : (l.getD i nos).u = false) : usedN l ≤ i := by
  rcases Nat.lt_or_ge i (usedN l) with h2 | h2
  · have e : usedN l = i + 1 := by omega
    have := used_at l (by omega)
    rw [e, Nat.add_sub_cancel, h] at this; cases this
  · exact h2
theorem add_at' (b j : Nat) : (Addr.mk b 0 none).add j = ⟨b, j, none⟩ := by unfold Addr.add; split <;> simp_all
theorem own_put {w : World} {base g n cap k : Nat} {t : TypeId} {l : List Slot} {u : Bool} {d : ByteArray} (h : w.ownsRow base t 2 (.slice (some ⟨g, 0, none⟩) n cap) n (cellsOf l)) (hk : k < l.length) :
    ((w.setCell ⟨g, k * 2, none⟩ (.bool u)).setCell ⟨g, k * 2 + 1, none⟩ (.string d)).ownsRow base t 2 (.slice (some ⟨g, 0, none⟩) n cap) n (cellsOf (l.set k ⟨u, d⟩)) := by
  have := ((h.stored (k * 2) (.bool u)).1.stored (k * 2 + 1) (.string d)).1
  rw [← cellsOf_set ⟨u, d⟩ hk]
  exact this

set_option maxRecDepth 100000 in
set_option maxHeartbeats 8000000 in
theorem rput_ok (lsn : Int) (a : Option Addr) (n c : Nat) (zs : List Slot) (k : Nat) (u : Bool) (d : ByteArray) (w : World) (h : Slots w a n zs) (hg : goodB lsn zs = true) (hk : k < 32) (hd : d.size ≤ 200) (hud : u = true ∨ (u = false ∧ d = ⟨#[]⟩)) :
    Calls Try.prog 16 #[.agg #[.int .i64 lsn, .slice a n c], .int .i64 (k : Int), .agg #[.bool u, .string d]] w (PageRes (putN lsn zs k ⟨u, d⟩) (putZ lsn zs k ⟨u, d⟩) (putCode lsn zs k ⟨u, d⟩) w) := by
  have hn : n ≤ 32 := by have := h.len; simp [goodB] at hg; omega
  have hng : ¬ (goodB lsn zs = false ∨ (k : Int) < 0 ∨ 32 ≤ (k : Int) ∨ ((⟨u, d⟩ : Slot).u = false ∧ ¬ (⟨u, d⟩ : Slot).d.size = 0)) := by
    rw [hg]
    rintro (h1 | h1 | h1 | h1)
    · cases h1
    · omega
    · omega
    · rcases hud with rfl | ⟨rfl, rfl⟩
      · cases h1.1
      · exact h1.2 rfl
  obtain ⟨m, hm⟩ : ∃ m, m = max n (k + 1) := ⟨_, rfl⟩
  have hm1 : n ≤ m := by omega
  have hm2 : k < m := by omega
  have hm3 : m ≤ 32 := by omega
  have hput := put_steps zs k m ⟨u, d⟩ (by rw [h.len]; omega) (sizes_of_good hg) hd
  obtain ⟨G, hG⟩ : ∃ G, G = putG zs k m ⟨u, d⟩ := ⟨_, rfl⟩
  have hnw : (putL zs ((k : Int)).toNat ⟨u, d⟩).any wrongB = false := wrong_put (good_parts hg).2.2.2.2.1 (not_wrong (fun hu => by
    rcases hud with rfl | ⟨rfl, rfl⟩
    · cases hu
    · rfl) hd)
  rw [← hG] at hput
  have hpl : putL zs ((k : Int)).toNat ⟨u, d⟩ = G.take (usedN G) := hput.2.2.1
  rw [hpl] at hnw
  have HPL := Lib.hid hpl
  have HP := Lib.hid hput
  have HGE := Lib.hid hG
  have HNG := Lib.hid hng
  have HNW := Lib.hid hnw
  have HL := Lib.hid h.len
  have H0 := put_at w lsn a n c u d zs h
  have HG := Lib.hid hg
  have HM := Lib.hid hm
  clear hg h hput hng hG hnw hm hpl
  obtain ⟨i0, hi, hi0, hi1, hi2⟩ := info_parts info_slot2
  have k0 : (0 : Int) ≤ (k : Int) := by omega
  have k1 : (k : Int) ≤ 31 := by omega
  have k2 : (k : Int) < (m : Int) := by omega
  rcases hud with rfl | ⟨rfl, rfl⟩
  · go_enter Try.func16, Try.ntmps16
    go_wp2_with fail
    generalize hGen : ((w.alloc (.cells #[.int .i64 lsn, .slice a n c] 24)).alloc (.cells #[.bool true, .string d] 26)).alloc (.cells #[.int .i64 0, .slice none 0 0] 24) = W at H0 ⊢
    clear hGen
    refine (rgood_any lsn a n c zs _ H0.s (by omega)).mono ?_
    rw [HG.out]
    rintro e w1 ⟨rfl, b1⟩
    have H1 := H0.next b1
    have p0 := H1.p0
    have p1 := H1.p1
    have s0 := H1.s0
    have s1 := H1.s1
    have HZ1 := Lib.hid H1.z
    have hz0 : w.heap.size < w1.heap.size := by have := HZ1.out; omega
    have hz1 : w.heap.size + 1 < w1.heap.size := by have := HZ1.out; omega
    have hz2 : w.heap.size + 1 + 1 < w1.heap.size := by have := HZ1.out; omega
    go_wp2_with (at_builtin; refine wpList_append_slots rfl _ _ rfl w1.heap.size _ 0 [] rfl (own_new w1 _ 2) a n c zs rfl ?c1 ?c2 ?c3 ?_)
    case c1 => exact H1.s.below ((Below.refl w1.heap.size w1).alloc (Nat.le_refl _) _)
    case c2 => omega
    case c3 => simp
    intro v2 w2 hown2 hb2
    have HB2 := Lib.hid hb2
    have HO2 := Lib.hid (show w2.ownsRow w1.heap.size 26 2 v2 n (cellsOf (padL zs n)) by rw [← HL.out, padL_zero, HL.out]; simpa using hown2)
    clear hown2 hb2 p0 p1 s0 s1
    go_wp2
    go_loopw [8] (fun v wr => ∃ j : Nat, n ≤ j ∧ j ≤ m ∧ wr.ownsRow w1.heap.size 26 2 v j (cellsOf (padL zs j)) ∧ Below w1.heap.size w1 wr ∧ w1.heap.size ≤ wr.heap.size) (fun v _ => m - lenV v)
    case atStart => exact ⟨n, Nat.le_refl _, hm1, HO2.out, ((Below.refl w1.heap.size w1).alloc (Nat.le_refl _) _).trans HB2.out, Nat.le_trans (by simp) HB2.out.size⟩
    case round =>
      obtain ⟨j, hj1, hj2, hown, hbel, hge⟩ := hrel
      obtain ⟨a3, c3, rfl⟩ := own_shape hown
      have HBL := Lib.hid hbel
      have HOW := Lib.hid hown
      clear hown hbel
      by_cases hlt : (j : Int) ≤ (k : Int)
      · go_wp2_with (at_builtin; refine wpList_append_own _ rfl _ _ 22 rfl w1.heap.size 26 i0 (.agg #[.bool false, .string ⟨#[]⟩]) 2 24 Try.underlying22 hi hi0 hi1 hi2 rfl (by decide) _ j (cellsOf (padL zs j)) rfl (own_below HOW.out ((Below.refl _ _).alloc (Nat.le_refl _) _)) ⟨wr.heap.size, 0, none⟩ 1 1 [.bool false, .string ⟨#[]⟩] rfl rfl ?c1 ?c2 ?c3 ?c4 ?c5 ?_)
        case c1 =>
          intro i x hx
          rw [add_at', (Blk.new wr 26 #[.bool false, .string ⟨#[]⟩]).cell i]
          simpa using hx
        case c2 => intro x hx; simp at hx; rcases hx with rfl | rfl <;> rfl
        case c3 => unfold maxLen; omega
        case c4 => omega
        case c5 => simp; omega
        intro v' w6 hown6 hgrow6 _
        have e6 : cellsOf (padL zs j) ++ [.bool false, .string ⟨#[]⟩] = cellsOf (padL zs (j + 1)) := by rw [← padL_snoc (l := zs) (m := j) (by rw [HL.out]; exact hj1)]; exact cells_snoc _ nos
        rw [e6] at hown6
        have HO6 := Lib.hid hown6
        have hb6 : Below w1.heap.size w1 w6 := (HBL.out.alloc hge _).grown hgrow6 (by simp; omega) (fun q hq => own_block_ge HOW.out hq)
        have hs6 := hgrow6.size
        obtain ⟨a6, c6, rfl⟩ := own_shape hown6
        clear hown6 hgrow6 e6
        go_wp2
        go_roundw
        case rel => exact ⟨j + 1, by omega, by omega, HO6.out, hb6, by simp at hs6; omega⟩
        case measure => simp [lenV]; omega
      · have ej : m = j := by have := HM.out; omega
        subst ej
        obtain ⟨g, cap, ev⟩ := own_pos HOW.out (by omega)
        simp only [Value.slice.injEq, true_and] at ev
        obtain ⟨rfl, rfl⟩ := ev
        obtain ⟨hcap, hgb, hgw⟩ := own_cap HOW.out
        have hple : k < (padL zs m).length := by rw [padL_length _ _ (by rw [HL.out]; exact hm1)]; exact hm2
        obtain ⟨y, hy⟩ : ∃ y, (padL zs m)[k]? = some y := ⟨_, List.getElem?_eq_getElem hple⟩
        have x0 : wr.cell? ⟨g, k * 2, none⟩ = some (.bool y.u) := (HOW.out.cellAt (k * 2) (by omega)).trans (cellsOf_get hy).1
        have x1 : wr.cell? ⟨g, k * 2 + 1, none⟩ = some (.string y.d) := (HOW.out.cellAt (k * 2 + 1) (by omega)).trans (cellsOf_get hy).2
        have g0 := HOW.out.frozenAt (k * 2)
        have g1 := HOW.out.frozenAt (k * 2 + 1)
        have H2 := H1.next (⟨HBL.out.os, HBL.out.tape, HBL.out.output, HBL.out.size, HBL.out.block⟩ : Below w1.heap.size w1 wr)
        have s0 := H2.s0
        have s1 := H2.s1
        have HPLE := Lib.hid hple
        clear hy hple
        go_wp2
        have HO3 := Lib.hid (own_put (u := true) (d := d) HOW.out HPLE.out)
        have H3 := (H2.store (show w.heap.size + 2 < g by omega) (k * 2) (.bool true)).store (show w.heap.size + 2 < g by omega) (k * 2 + 1) (.string d)
        clear s0 s1 x0 x1 g0 g1 HOW HBL
        generalize hGen : (wr.setCell ⟨g, k * 2, none⟩ (.bool true)).setCell ⟨g, k * 2 + 1, none⟩ (.string d) = W3 at HO3 H3 ⊢
        clear hGen
        have HO4 := Lib.hid (show W3.ownsRow w1.heap.size 26 2 (.slice (some ⟨g, 0, none⟩) m c3) m (cellsOf G) by rw [HGE.out]; exact HO3.out)
        clear HO3
        have hslG : Slots W3 (some ⟨g, 0, none⟩) m G := by
          obtain ⟨a9, c9, e9, hs9, _⟩ := slots_of_own (z := G) (by rw [HP.out.1]; exact HO4.out) (fun x hx => by have := HP.out.2.1 x hx; omega)
          simp only [Value.slice.injEq] at e9
          obtain ⟨rfl, _, _⟩ := e9
          rw [HP.out.1] at hs9
          exact hs9
        go_loop [8] (fun v => ∃ j : Nat, usedN G ≤ j ∧ j ≤ m ∧ v = .slice (some ⟨g, 0, none⟩) j c3) (fun v => lenV v)
        case atStart => exact ⟨m, HP.out.2.2.2, Nat.le_refl _, rfl⟩
        case round =>
          obtain ⟨j, hj3, hj4, rfl⟩ := hrel
          cases j with
          | zero =>
            have hj5 : usedN G = 0 := by omega
            have p0 := H3.p0
            have hz3 : w.heap.size < W3.heap.size := by have := H3.z; omega
            have hz4 : w.heap.size + 1 + 1 < W3.heap.size := by have := H3.z; omega
            have hgW : g < W3.heap.size := (own_cap HO4.out).2.2
            have HRS := Lib.hid (show rsz (G.take (0)) = sz (G.take (0)) by rw [← hj5]; exact rsz_eq HNW.out)
            have HTL := Lib.hid (show putL zs ((k : Int)).toNat ⟨true, d⟩ = G.take (0) by rw [← hj5]; exact HPL.out)
            clear hj5
            go_wp2_with fail
            have hbx : Below W3.heap.size W3 (W3.alloc (.cells #[.int .i64 lsn, .slice (some ⟨g, 0, none⟩) (0) c3] 24)) := (Below.refl _ _).alloc (Nat.le_refl _) _
            have H4 := H3.next hbx
            have HX4 := Blk.new W3 24 #[.int .i64 lsn, .slice (some ⟨g, 0, none⟩) (0) c3]
            have HS4 := Lib.hid (show Slots _ (some ⟨g, 0, none⟩) (0) (G.take (0)) from (hslG.take (by omega)).below hbx)
            have hx4 : W3.heap.size < (W3.alloc (.cells #[.int .i64 lsn, .slice (some ⟨g, 0, none⟩) (0) c3] 24)).heap.size := by simp
            generalize hGen : W3.alloc (.cells #[.int .i64 lsn, .slice (some ⟨g, 0, none⟩) (0) c3] 24) = W4 at H4 HX4 HS4 hx4 hbx ⊢
            clear hGen
            have hsz := rsize_any lsn (some ⟨g, 0, none⟩) (0) c3 (G.take (0)) W4 HS4.out (by omega)
            rw [HRS.out] at hsz
            refine hsz.mono ?_
            clear hsz
            rintro e w7 ⟨rfl, b7⟩
            have H7 := H4.next b7
            have HX7 := HX4.below b7 hx4
            have HS7 := Lib.hid (HS4.out.below b7)
            have q0 := H7.r.cell 0
            have q1 := H7.r.cell 1
            have f0 := H7.r.frozen 0
            have f1 := H7.r.frozen 1
            have r0 := HX7.cell 0
            have r1 := HX7.cell 1
            go_wp2
            have ht : 9 + (sz (G.take (0)) : Int) ≤ 240 := by simp [sz]
            exact bodyPost_ret (v := .tuple #[.agg #[.int .i64 lsn, .slice (some ⟨g, 0, none⟩) (0) c3], .int .i64 0]) (by simp [results, Try.results16, go_sem, q0, q1]) rfl (ok_res (put_ok (x := ⟨true, d⟩) (by simpa using HNG.out) (by show ¬ 200 < ByteArray.size d; omega) (by rw [HTL.out]; omega)) HTL.out ((HS7.out.setCell _ (fun b off e _ => by cases e; omega)).setCell _ (fun b off e _ => by cases e; omega)) ((H7.b.setCell (p := ⟨w.heap.size + 2, 0, none⟩) (by simp) _).setCell (p := ⟨w.heap.size + 2, 1, none⟩) (by simp) _) (by omega))
          | succ j =>
            obtain ⟨y, hy⟩ : ∃ y, G[j]? = some y := ⟨_, List.getElem?_eq_getElem (by rw [HP.out.1]; omega)⟩
            have x0 : W3.cell? ⟨g, j * 2, none⟩ = some (.bool y.u) := (HO4.out.cellAt (j * 2) (by omega)).trans (cellsOf_get hy).1
            have hyd : G.getD j nos = y := by simp [List.getD, hy]
            cases hu : y.u with
            | false =>
              rw [hu] at x0
              have hj5 : usedN G ≤ j := used_no hj3 (by rw [hyd]; exact hu)
              have hb1 : (j : Int) ≤ (c3 : Int) := by omega
              clear hy hyd hu
              go_wp2
              go_round
              case rel => exact ⟨j, hj5, by omega, by go_num⟩
              case measure => simp [lenV]
            | true =>
              rw [hu] at x0
              have hj5 : usedN G = j + 1 := by have := used_lt (l := G) (i := j) (by rw [hyd]; exact hu); omega
              clear hy hyd hu
              have p0 := H3.p0
              have hz3 : w.heap.size < W3.heap.size := by have := H3.z; omega
              have hz4 : w.heap.size + 1 + 1 < W3.heap.size := by have := H3.z; omega
              have hgW : g < W3.heap.size := (own_cap HO4.out).2.2
              have HRS := Lib.hid (show rsz (G.take (j + 1)) = sz (G.take (j + 1)) by rw [← hj5]; exact rsz_eq HNW.out)
              have HTL := Lib.hid (show putL zs ((k : Int)).toNat ⟨true, d⟩ = G.take (j + 1) by rw [← hj5]; exact HPL.out)
              clear hj5
              go_wp2_with fail
              have hbx : Below W3.heap.size W3 (W3.alloc (.cells #[.int .i64 lsn, .slice (some ⟨g, 0, none⟩) (j + 1) c3] 24)) := (Below.refl _ _).alloc (Nat.le_refl _) _
              have H4 := H3.next hbx
              have HX4 := Blk.new W3 24 #[.int .i64 lsn, .slice (some ⟨g, 0, none⟩) (j + 1) c3]
              have HS4 := Lib.hid (show Slots _ (some ⟨g, 0, none⟩) (j + 1) (G.take (j + 1)) from (hslG.take (by omega)).below hbx)
              have hx4 : W3.heap.size < (W3.alloc (.cells #[.int .i64 lsn, .slice (some ⟨g, 0, none⟩) (j + 1) c3] 24)).heap.size := by simp
              generalize hGen : W3.alloc (.cells #[.int .i64 lsn, .slice (some ⟨g, 0, none⟩) (j + 1) c3] 24) = W4 at H4 HX4 HS4 hx4 hbx ⊢
              clear hGen
              have hsz := rsize_any lsn (some ⟨g, 0, none⟩) (j + 1) c3 (G.take (j + 1)) W4 HS4.out (by omega)
              rw [HRS.out] at hsz
              refine hsz.mono ?_
              clear hsz
              rintro e w7 ⟨rfl, b7⟩
              have H7 := H4.next b7
              have HX7 := HX4.below b7 hx4
              have HS7 := Lib.hid (HS4.out.below b7)
              have q0 := H7.r.cell 0
              have q1 := H7.r.cell 1
              have f0 := H7.r.frozen 0
              have f1 := H7.r.frozen 1
              have r0 := HX7.cell 0
              have r1 := HX7.cell 1
              go_wp2
              · have ht : (240 : Int) < 9 + (sz (G.take (j + 1)) : Int) := by assumption
                exact bodyPost_ret (v := .tuple #[.agg #[.int .i64 0, .slice none 0 0], .int .i64 22]) (by simp [results, Try.results16, go_sem, q0, q1]) rfl (err_res (put_full (x := ⟨true, d⟩) (by simpa using HNG.out) (by show ¬ 200 < ByteArray.size d; omega) (by rw [HTL.out]; omega)) (by decide) ((H7.b.setCell (p := ⟨w.heap.size + 2, 0, none⟩) (by simp) _).setCell (p := ⟨w.heap.size + 2, 1, none⟩) (by simp) _))
              · have ht : 9 + (sz (G.take (j + 1)) : Int) ≤ 240 := by assumption
                exact bodyPost_ret (v := .tuple #[.agg #[.int .i64 lsn, .slice (some ⟨g, 0, none⟩) (j + 1) c3], .int .i64 0]) (by simp [results, Try.results16, go_sem, q0, q1]) rfl (ok_res (put_ok (x := ⟨true, d⟩) (by simpa using HNG.out) (by show ¬ 200 < ByteArray.size d; omega) (by rw [HTL.out]; omega)) HTL.out ((HS7.out.setCell _ (fun b off e _ => by cases e; omega)).setCell _ (fun b off e _ => by cases e; omega)) ((H7.b.setCell (p := ⟨w.heap.size + 2, 0, none⟩) (by simp) _).setCell (p := ⟨w.heap.size + 2, 1, none⟩) (by simp) _) (by omega))
  · go_enter Try.func16, Try.ntmps16
    go_wp2_with fail
    generalize hGen : ((w.alloc (.cells #[.int .i64 lsn, .slice a n c] 24)).alloc (.cells #[.bool false, .string ⟨#[]⟩] 26)).alloc (.cells #[.int .i64 0, .slice none 0 0] 24) = W at H0 ⊢
    clear hGen
    refine (rgood_any lsn a n c zs _ H0.s (by omega)).mono ?_
    rw [HG.out]
    rintro e w1 ⟨rfl, b1⟩
    have H1 := H0.next b1
    have p0 := H1.p0
    have p1 := H1.p1
    have s0 := H1.s0
    have s1 := H1.s1
    have HZ1 := Lib.hid H1.z
    have hz0 : w.heap.size < w1.heap.size := by have := HZ1.out; omega
    have hz1 : w.heap.size + 1 < w1.heap.size := by have := HZ1.out; omega
    have hz2 : w.heap.size + 1 + 1 < w1.heap.size := by have := HZ1.out; omega
    go_wp2_with (at_builtin; refine wpList_append_slots rfl _ _ rfl w1.heap.size _ 0 [] rfl (own_new w1 _ 2) a n c zs rfl ?c1 ?c2 ?c3 ?_)
    case c1 => exact H1.s.below ((Below.refl w1.heap.size w1).alloc (Nat.le_refl _) _)
    case c2 => omega
    case c3 => simp
    intro v2 w2 hown2 hb2
    have HB2 := Lib.hid hb2
    have HO2 := Lib.hid (show w2.ownsRow w1.heap.size 26 2 v2 n (cellsOf (padL zs n)) by rw [← HL.out, padL_zero, HL.out]; simpa using hown2)
    clear hown2 hb2 p0 p1 s0 s1
    go_wp2
    go_loopw [8] (fun v wr => ∃ j : Nat, n ≤ j ∧ j ≤ m ∧ wr.ownsRow w1.heap.size 26 2 v j (cellsOf (padL zs j)) ∧ Below w1.heap.size w1 wr ∧ w1.heap.size ≤ wr.heap.size) (fun v _ => m - lenV v)
    case atStart => exact ⟨n, Nat.le_refl _, hm1, HO2.out, ((Below.refl w1.heap.size w1).alloc (Nat.le_refl _) _).trans HB2.out, Nat.le_trans (by simp) HB2.out.size⟩
    case round =>
      obtain ⟨j, hj1, hj2, hown, hbel, hge⟩ := hrel
      obtain ⟨a3, c3, rfl⟩ := own_shape hown
      have HBL := Lib.hid hbel
      have HOW := Lib.hid hown
      clear hown hbel
      by_cases hlt : (j : Int) ≤ (k : Int)
      · go_wp2_with (at_builtin; refine wpList_append_own _ rfl _ _ 22 rfl w1.heap.size 26 i0 (.agg #[.bool false, .string ⟨#[]⟩]) 2 24 Try.underlying22 hi hi0 hi1 hi2 rfl (by decide) _ j (cellsOf (padL zs j)) rfl (own_below HOW.out ((Below.refl _ _).alloc (Nat.le_refl _) _)) ⟨wr.heap.size, 0, none⟩ 1 1 [.bool false, .string ⟨#[]⟩] rfl rfl ?c1 ?c2 ?c3 ?c4 ?c5 ?_)
        case c1 =>
          intro i x hx
          rw [add_at', (Blk.new wr 26 #[.bool false, .string ⟨#[]⟩]).cell i]
          simpa using hx
        case c2 => intro x hx; simp at hx; rcases hx with rfl | rfl <;> rfl
        case c3 => unfold maxLen; omega
        case c4 => omega
        case c5 => simp; omega
        intro v' w6 hown6 hgrow6 _
        have e6 : cellsOf (padL zs j) ++ [.bool false, .string ⟨#[]⟩] = cellsOf (padL zs (j + 1)) := by rw [← padL_snoc (l := zs) (m := j) (by rw [HL.out]; exact hj1)]; exact cells_snoc _ nos
        rw [e6] at hown6
        have HO6 := Lib.hid hown6
        have hb6 : Below w1.heap.size w1 w6 := (HBL.out.alloc hge _).grown hgrow6 (by simp; omega) (fun q hq => own_block_ge HOW.out hq)
        have hs6 := hgrow6.size
        obtain ⟨a6, c6, rfl⟩ := own_shape hown6
        clear hown6 hgrow6 e6
        go_wp2
        go_roundw
        case rel => exact ⟨j + 1, by omega, by omega, HO6.out, hb6, by simp at hs6; omega⟩
        case measure => simp [lenV]; omega
      · have ej : m = j := by have := HM.out; omega
        subst ej
        obtain ⟨g, cap, ev⟩ := own_pos HOW.out (by omega)
        simp only [Value.slice.injEq, true_and] at ev
        obtain ⟨rfl, rfl⟩ := ev
        obtain ⟨hcap, hgb, hgw⟩ := own_cap HOW.out
        have hple : k < (padL zs m).length := by rw [padL_length _ _ (by rw [HL.out]; exact hm1)]; exact hm2
        obtain ⟨y, hy⟩ : ∃ y, (padL zs m)[k]? = some y := ⟨_, List.getElem?_eq_getElem hple⟩
        have x0 : wr.cell? ⟨g, k * 2, none⟩ = some (.bool y.u) := (HOW.out.cellAt (k * 2) (by omega)).trans (cellsOf_get hy).1
        have x1 : wr.cell? ⟨g, k * 2 + 1, none⟩ = some (.string y.d) := (HOW.out.cellAt (k * 2 + 1) (by omega)).trans (cellsOf_get hy).2
        have g0 := HOW.out.frozenAt (k * 2)
        have g1 := HOW.out.frozenAt (k * 2 + 1)
        have H2 := H1.next (⟨HBL.out.os, HBL.out.tape, HBL.out.output, HBL.out.size, HBL.out.block⟩ : Below w1.heap.size w1 wr)
        have s0 := H2.s0
        have s1 := H2.s1
        have HPLE := Lib.hid hple
        clear hy hple
        go_wp2
        have HO3 := Lib.hid (own_put (u := false) (d := ⟨#[]⟩) HOW.out HPLE.out)
        have H3 := (H2.store (show w.heap.size + 2 < g by omega) (k * 2) (.bool false)).store (show w.heap.size + 2 < g by omega) (k * 2 + 1) (.string ⟨#[]⟩)
        clear s0 s1 x0 x1 g0 g1 HOW HBL
        generalize hGen : (wr.setCell ⟨g, k * 2, none⟩ (.bool false)).setCell ⟨g, k * 2 + 1, none⟩ (.string ⟨#[]⟩) = W3 at HO3 H3 ⊢
        clear hGen
        have HO4 := Lib.hid (show W3.ownsRow w1.heap.size 26 2 (.slice (some ⟨g, 0, none⟩) m c3) m (cellsOf G) by rw [HGE.out]; exact HO3.out)
        clear HO3
        have hslG : Slots W3 (some ⟨g, 0, none⟩) m G := by
          obtain ⟨a9, c9, e9, hs9, _⟩ := slots_of_own (z := G) (by rw [HP.out.1]; exact HO4.out) (fun x hx => by have := HP.out.2.1 x hx; omega)
          simp only [Value.slice.injEq] at e9
          obtain ⟨rfl, _, _⟩ := e9
          rw [HP.out.1] at hs9
          exact hs9
        go_loop [8] (fun v => ∃ j : Nat, usedN G ≤ j ∧ j ≤ m ∧ v = .slice (some ⟨g, 0, none⟩) j c3) (fun v => lenV v)
        case atStart => exact ⟨m, HP.out.2.2.2, Nat.le_refl _, rfl⟩
        case round =>
          obtain ⟨j, hj3, hj4, rfl⟩ := hrel
          cases j with
          | zero =>
            have hj5 : usedN G = 0 := by omega
            have p0 := H3.p0
            have hz3 : w.heap.size < W3.heap.size := by have := H3.z; omega
            have hz4 : w.heap.size + 1 + 1 < W3.heap.size := by have := H3.z; omega
            have hgW : g < W3.heap.size := (own_cap HO4.out).2.2
            have HRS := Lib.hid (show rsz (G.take (0)) = sz (G.take (0)) by rw [← hj5]; exact rsz_eq HNW.out)
            have HTL := Lib.hid (show putL zs ((k : Int)).toNat ⟨false, ⟨#[]⟩⟩ = G.take (0) by rw [← hj5]; exact HPL.out)
            clear hj5
            go_wp2_with fail
            have hbx : Below W3.heap.size W3 (W3.alloc (.cells #[.int .i64 lsn, .slice (some ⟨g, 0, none⟩) (0) c3] 24)) := (Below.refl _ _).alloc (Nat.le_refl _) _
            have H4 := H3.next hbx
            have HX4 := Blk.new W3 24 #[.int .i64 lsn, .slice (some ⟨g, 0, none⟩) (0) c3]
            have HS4 := Lib.hid (show Slots _ (some ⟨g, 0, none⟩) (0) (G.take (0)) from (hslG.take (by omega)).below hbx)
            have hx4 : W3.heap.size < (W3.alloc (.cells #[.int .i64 lsn, .slice (some ⟨g, 0, none⟩) (0) c3] 24)).heap.size := by simp
            generalize hGen : W3.alloc (.cells #[.int .i64 lsn, .slice (some ⟨g, 0, none⟩) (0) c3] 24) = W4 at H4 HX4 HS4 hx4 hbx ⊢
            clear hGen
            have hsz := rsize_any lsn (some ⟨g, 0, none⟩) (0) c3 (G.take (0)) W4 HS4.out (by omega)
            rw [HRS.out] at hsz
            refine hsz.mono ?_
            clear hsz
            rintro e w7 ⟨rfl, b7⟩
            have H7 := H4.next b7
            have HX7 := HX4.below b7 hx4
            have HS7 := Lib.hid (HS4.out.below b7)
            have q0 := H7.r.cell 0
            have q1 := H7.r.cell 1
            have f0 := H7.r.frozen 0
            have f1 := H7.r.frozen 1
            have r0 := HX7.cell 0
            have r1 := HX7.cell 1
            go_wp2
            have ht : 9 + (sz (G.take (0)) : Int) ≤ 240 := by simp [sz]
            exact bodyPost_ret (v := .tuple #[.agg #[.int .i64 lsn, .slice (some ⟨g, 0, none⟩) (0) c3], .int .i64 0]) (by simp [results, Try.results16, go_sem, q0, q1]) rfl (ok_res (put_ok (x := ⟨false, ⟨#[]⟩⟩) (by simpa using HNG.out) (by show ¬ 200 < ByteArray.size ⟨#[]⟩; omega) (by rw [HTL.out]; omega)) HTL.out ((HS7.out.setCell _ (fun b off e _ => by cases e; omega)).setCell _ (fun b off e _ => by cases e; omega)) ((H7.b.setCell (p := ⟨w.heap.size + 2, 0, none⟩) (by simp) _).setCell (p := ⟨w.heap.size + 2, 1, none⟩) (by simp) _) (by omega))
          | succ j =>
            obtain ⟨y, hy⟩ : ∃ y, G[j]? = some y := ⟨_, List.getElem?_eq_getElem (by rw [HP.out.1]; omega)⟩
            have x0 : W3.cell? ⟨g, j * 2, none⟩ = some (.bool y.u) := (HO4.out.cellAt (j * 2) (by omega)).trans (cellsOf_get hy).1
            have hyd : G.getD j nos = y := by simp [List.getD, hy]
            cases hu : y.u with
            | false =>
              rw [hu] at x0
              have hj5 : usedN G ≤ j := used_no hj3 (by rw [hyd]; exact hu)
              have hb1 : (j : Int) ≤ (c3 : Int) := by omega
              clear hy hyd hu
              go_wp2
              go_round
              case rel => exact ⟨j, hj5, by omega, by go_num⟩
              case measure => simp [lenV]
            | true =>
              rw [hu] at x0
              have hj5 : usedN G = j + 1 := by have := used_lt (l := G) (i := j) (by rw [hyd]; exact hu); omega
              clear hy hyd hu
              have p0 := H3.p0
              have hz3 : w.heap.size < W3.heap.size := by have := H3.z; omega
              have hz4 : w.heap.size + 1 + 1 < W3.heap.size := by have := H3.z; omega
              have hgW : g < W3.heap.size := (own_cap HO4.out).2.2
              have HRS := Lib.hid (show rsz (G.take (j + 1)) = sz (G.take (j + 1)) by rw [← hj5]; exact rsz_eq HNW.out)
              have HTL := Lib.hid (show putL zs ((k : Int)).toNat ⟨false, ⟨#[]⟩⟩ = G.take (j + 1) by rw [← hj5]; exact HPL.out)
              clear hj5
              go_wp2_with fail
              have hbx : Below W3.heap.size W3 (W3.alloc (.cells #[.int .i64 lsn, .slice (some ⟨g, 0, none⟩) (j + 1) c3] 24)) := (Below.refl _ _).alloc (Nat.le_refl _) _
              have H4 := H3.next hbx
              have HX4 := Blk.new W3 24 #[.int .i64 lsn, .slice (some ⟨g, 0, none⟩) (j + 1) c3]
              have HS4 := Lib.hid (show Slots _ (some ⟨g, 0, none⟩) (j + 1) (G.take (j + 1)) from (hslG.take (by omega)).below hbx)
              have hx4 : W3.heap.size < (W3.alloc (.cells #[.int .i64 lsn, .slice (some ⟨g, 0, none⟩) (j + 1) c3] 24)).heap.size := by simp
              generalize hGen : W3.alloc (.cells #[.int .i64 lsn, .slice (some ⟨g, 0, none⟩) (j + 1) c3] 24) = W4 at H4 HX4 HS4 hx4 hbx ⊢
              clear hGen
              have hsz := rsize_any lsn (some ⟨g, 0, none⟩) (j + 1) c3 (G.take (j + 1)) W4 HS4.out (by omega)
              rw [HRS.out] at hsz
              refine hsz.mono ?_
              clear hsz
              rintro e w7 ⟨rfl, b7⟩
              have H7 := H4.next b7
              have HX7 := HX4.below b7 hx4
              have HS7 := Lib.hid (HS4.out.below b7)
              have q0 := H7.r.cell 0
              have q1 := H7.r.cell 1
              have f0 := H7.r.frozen 0
              have f1 := H7.r.frozen 1
              have r0 := HX7.cell 0
              have r1 := HX7.cell 1
              go_wp2
              · have ht : (240 : Int) < 9 + (sz (G.take (j + 1)) : Int) := by assumption
                exact bodyPost_ret (v := .tuple #[.agg #[.int .i64 0, .slice none 0 0], .int .i64 22]) (by simp [results, Try.results16, go_sem, q0, q1]) rfl (err_res (put_full (x := ⟨false, ⟨#[]⟩⟩) (by simpa using HNG.out) (by show ¬ 200 < ByteArray.size ⟨#[]⟩; omega) (by rw [HTL.out]; omega)) (by decide) ((H7.b.setCell (p := ⟨w.heap.size + 2, 0, none⟩) (by simp) _).setCell (p := ⟨w.heap.size + 2, 1, none⟩) (by simp) _))
              · have ht : 9 + (sz (G.take (j + 1)) : Int) ≤ 240 := by assumption
                exact bodyPost_ret (v := .tuple #[.agg #[.int .i64 lsn, .slice (some ⟨g, 0, none⟩) (j + 1) c3], .int .i64 0]) (by simp [results, Try.results16, go_sem, q0, q1]) rfl (ok_res (put_ok (x := ⟨false, ⟨#[]⟩⟩) (by simpa using HNG.out) (by show ¬ 200 < ByteArray.size ⟨#[]⟩; omega) (by rw [HTL.out]; omega)) HTL.out ((HS7.out.setCell _ (fun b off e _ => by cases e; omega)).setCell _ (fun b off e _ => by cases e; omega)) ((H7.b.setCell (p := ⟨w.heap.size + 2, 0, none⟩) (by simp) _).setCell (p := ⟨w.heap.size + 2, 1, none⟩) (by simp) _) (by omega))

theorem rput_any (lsn : Int) (a : Option Addr) (n c : Nat) (zs : List Slot) (slot : Int) (u : Bool) (d : ByteArray) (w : World) (h : Slots w a n zs) (hn : n ≤ 1000000) (hd : d.size ≤ 140737488351232) :
    Calls Try.prog 16 #[.agg #[.int .i64 lsn, .slice a n c], .int .i64 slot, .agg #[.bool u, .string d]] w (PageRes (putN lsn zs slot ⟨u, d⟩) (putZ lsn zs slot ⟨u, d⟩) (putCode lsn zs slot ⟨u, d⟩) w) := by
  by_cases he : (goodB lsn zs = false ∨ slot < 0 ∨ 32 ≤ slot ∨ (u = false ∧ ¬ d.size = 0)) ∨ 200 < d.size
  · exact rput_err lsn a n c zs slot u d w h hn hd he
  · rw [not_or, not_or, not_or, not_or] at he
    obtain ⟨⟨h1, h2, h3, h4⟩, h5⟩ := he
    have hg : goodB lsn zs = true := by simpa using h1
    obtain ⟨k, rfl⟩ := Int.eq_ofNat_of_zero_le (show 0 ≤ slot by omega)
    refine rput_ok lsn a n c zs k u d w h hg (by omega) (by omega) ?_
    cases u with
    | true => exact .inl rfl
    | false =>
      refine .inr ⟨rfl, size_zero ?_⟩
      rcases Nat.eq_zero_or_pos d.size with h6 | h6
      · exact h6
      · exact absurd ⟨rfl, by omega⟩ h4
end Go.Proofs.Ytmmeemffiibndaa.Slab
