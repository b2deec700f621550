/- The walk of copyOf. -/
import Derived.Test.YtnnppdjgmjgjhaaDoorTwinLook
namespace Go.Proofs.YtnnppdjgmjgjhaaDoor.Twin
set_option maxRecDepth 100000
open Go.RowKit Go.Sort
open Go.Proofs.YtnnppdjgmjgjhaaDoor.Mem
open Go.Proofs.YtnnppdjgmjgjhaaDoor.Plate

theorem copy_not {C : Cfg} {S : PS} {n i : Nat} (h : ¬ readE S (C.twin i : Int) = 0) : copyR C S n (i + 1) = copyR C S n i := by
  rw [copyR, if_neg (fun e => h e.1)]
theorem copy_keep {C : Cfg} {S : PS} {n i : Nat} (h : better (pageR (readD S (C.twin i : Int)) n) (copyR C S n i) = false) : copyR C S n (i + 1) = copyR C S n i := by
  rw [copyR, if_neg (fun e => by rw [h] at e; cases e.2)]
theorem copy_take {C : Cfg} {S : PS} {n i : Nat} (h0 : readE S (C.twin i : Int) = 0) (h : better (pageR (readD S (C.twin i : Int)) n) (copyR C S n i) = true) : copyR C S n (i + 1) = ((pageR (readD S (C.twin i : Int)) n).1, (pageR (readD S (C.twin i : Int)) n).2.1, true) := by
  rw [copyR, if_pos ⟨h0, h⟩]
section
variable {M : Nat → Prop} {p s lf : Nat} {C : Cfg} {S : PS}
set_option maxHeartbeats 2000000 in
theorem copyOf_any (w : World) (n : Nat) (h : Sto M w s p C lf) (hp : PQ w p M S) (hc : C.small) (hn : n ≤ 65535) (hq : S.q.length ≤ 1000000) (hf : Full S) :
    Calls Tryd.prog 44 #[.pointer (some ⟨s, 0, none⟩), .int .i64 (n : Int)] w (PageB (copyR C S n C.tw).1 (copyR C S n C.tw).2.1 (copyR C S n C.tw).2.2 w) := by
  have hb0 : Below w.heap.size w (w.alloc (.cells #[.int .i64 0, .slice none 0 0] 41)) := (Below.refl _ _).alloc (Nat.le_refl _) _
  have hB := Blk.new w 41 #[.int .i64 0, .slice none 0 0]
  have HSTO := Lib.hid h
  have HPQ := Lib.hid hp
  have HF := Lib.hid hf
  obtain ⟨-, -, c2, -⟩ := (h.below hb0 hp).get
  have htw := hc.tw
  have HC := Lib.hid hc
  obtain ⟨tw, htw2⟩ : ∃ tw, tw = C.tw := ⟨_, rfl⟩
  rw [← htw2] at c2 htw ⊢
  have HTW := Lib.hid htw2
  clear h hp hf hc htw2
  go_enter Tryd.func44, Tryd.ntmps44
  go_upto_region 1 with (fail)
  generalize hGen : w.alloc (.cells #[.int .i64 0, .slice none 0 0] 41) = W at c2 hB hb0 ⊢
  clear hGen
  go_wp2
  go_loopw [5, 15] (fun f i wr => ∃ (k : Nat) (l : Int) (z : List Slab.Slot) (fo : Bool) (a : Option Addr) (m c : Nat), k ≤ tw ∧ i = .int .i64 (k : Int) ∧ f = .bool fo ∧ Hid (copyR C S n k = (l, z, fo)) ∧ Hid (Blk wr w.heap.size 41 #[.int .i64 l, .slice a m c]) ∧ Hid (Slab.Slots wr a m z) ∧ Hid (∀ b off e, a = some ⟨b, off, e⟩ → w.heap.size + 1 ≤ b) ∧ Hid (Below w.heap.size w wr)) (fun _ i _ => tw - (intOf i).toNat)
  case atStart => exact ⟨0, 0, [], false, none, 0, 0, Nat.zero_le _, rfl, rfl, Lib.hid rfl, Lib.hid hB, Lib.hid (Slab.Slots.nil _ _), Lib.hid (fun _ _ _ e => by cases e), Lib.hid hb0⟩
  case round =>
    obtain ⟨k, l, z, fo, a, m, c, hk, rfl, rfl, HCP, HBK, HS, HN, HB⟩ := hrel
    by_cases hlt : k < tw
    · have h1 := HSTO.out.below HB.out HPQ.out
      have hp1 := HPQ.out.below HB.out
      obtain ⟨c0, -⟩ := h1.get
      have k0 := cell_regrown c0
      obtain ⟨cT, cR⟩ := twin_read h1 hp1 HC.out (n := k) (by omega) hq
      by_cases he : readE S (C.twin k : Int) = 0
      · have hsz := HF.out.read he
        have hcn := fun h => copy_keep (C := C) (S := S) (n := n) (i := k) h
        have hct := fun h => copy_take (C := C) (S := S) (n := n) (i := k) he h
        rw [HCP.out] at hcn hct
        rw [he] at cR
        clear he h1 hp1
        generalize readD S (C.twin k : Int) = D at cR hsz hcn hct
        generalize (C.twin k : Int) = tk at cR cT
        have hPg := fun W => pageOf_any D n W (by omega) hn
        generalize pageR D n = R at hPg hcn hct
        obtain ⟨l2, z2, ok⟩ := R
        simp only at hPg hcn hct
        have HCN := Lib.hid hcn
        have HCT := Lib.hid hct
        have HPG := Lib.hid hPg
        clear hPg hcn hct hsz
        go_upto_region 4 with (fail)
        refine wp_region_quiet_below (by kernel_rfl) (by kernel_rfl) ?_
        repeat (go_big_quiet_step ((first | with_reducible exact cT _ _ | with_reducible exact cR _ _)))
        refine wpQuiet_nil ?_
        intro _ hw'
        obtain ⟨⟨dq, osq⟩, hw''⟩ := hw'
        subst hw''
        have b1 := below_regrown wr dq osq
        generalize grow (redrawn wr dq) osq = W1 at b1 ⊢
        have hwl : w.heap.size < wr.heap.size := HBK.out.lt
        have B1 := HB.out.trans (b1.mono HB.out.size)
        have hB1 := HBK.out.below b1 hwl
        have hS1 := HS.out.below b1
        clear b1 cT cR k0 c0
        go_wp2_with fail
        refine (HPG.out _).mono ?_
        rintro e w3 ⟨a3, m3, c3, rfl, hS3, b3, hnew3⟩
        have B3 := B1.trans (b3.mono B1.size)
        have hwl1 : w.heap.size < W1.heap.size := hB1.lt
        have hB3 := hB1.below b3 hB1.lt
        have hSo := hS1.below b3
        have hb4 : Below w3.heap.size w3 (w3.alloc (.cells #[.int .i64 l2, .slice a3 m3 c3] 41)) := (Below.refl _ _).alloc (Nat.le_refl _) _
        have B4 := B3.trans (hb4.mono B3.size)
        have hB4 := hB3.below hb4 hB3.lt
        have hSo4 := hSo.below hb4
        have hS4 := hS3.below hb4
        have hX4 := Blk.new w3 41 #[.int .i64 l2, .slice a3 m3 c3]
        have hne : w.heap.size ≠ w3.heap.size := by have := hB3.lt; omega
        have HN3 : Hid (∀ b off e, a3 = some ⟨b, off, e⟩ → w.heap.size + 1 ≤ b) := Lib.hid fun b off e h => by have := hnew3 b off e h; omega
        clear hS3 hnew3 b3 hB1 B1 hb4 B3 hB3 hS1 hSo hwl hwl1
        go_upto_region 7 with (fail)
        generalize hGen : w3.alloc (.cells #[.int .i64 l2, .slice a3 m3 c3] 41) = X at B4 hB4 hSo4 hS4 hX4 ⊢
        clear hGen
        have x0 := hX4.cell 0
        have x1 := hX4.cell 1
        simp at x0 x1
        obtain ⟨⟨s0, s1, s2, s3⟩, ⟨s4, s5, s6⟩, ⟨s7, s8, s9, s10⟩, hB5⟩ := page_store hB4 (.int .i64 l2) (.slice a3 m3 c3)
        have HB5 := Lib.hid hB5
        have HB4 := Lib.hid hB4
        have H4 := Lib.hid B4
        have HSo4 := Lib.hid hSo4
        have HS5 := Lib.hid (slots_set (slots_set hS4 HN3.out (Nat.lt_succ_self _) 0 (.int .i64 l2)) HN3.out (Nat.lt_succ_self _) 1 (.slice a3 m3 c3))
        have H5 := Lib.hid ((B4.setCell (p := ⟨w.heap.size, 0, none⟩) (Nat.le_refl _) (.int .i64 l2)).setCell (p := ⟨w.heap.size, 1, none⟩) (Nat.le_refl _) (.slice a3 m3 c3))
        clear hB5 hB4 B4 hSo4 hS4 hX4
        by_cases hb : better (l2, z2, ok) (l, z, fo) = true
        · have HCT2 := Lib.hid (HCT.out hb)
          cases ok with
          | false => exact absurd hb (by simp [better])
          | true =>
            cases fo with
            | false =>
              clear hb
              go_wp2
              go_roundw
              case rel => exact ⟨k + 1, l2, z2, true, a3, m3, c3, by omega, by go_num, rfl, HCT2, HB5, HS5, HN3, H5⟩
              case measure => simp [intOf]; omega
            | true =>
              have hlt2 : l < l2 := by simpa [better] using hb
              clear hb
              go_wp2
              go_roundw
              case rel => exact ⟨k + 1, l2, z2, true, a3, m3, c3, by omega, by go_num, rfl, HCT2, HB5, HS5, HN3, H5⟩
              case measure => simp [intOf]; omega
        · have HCN2 := Lib.hid (HCN.out (by simpa using hb))
          cases ok with
          | false =>
            clear hb
            go_wp2
            go_roundw
            case rel => exact ⟨k + 1, l, z, fo, a, m, c, by omega, by go_num, rfl, HCN2, HB4, HSo4, HN, H4⟩
            case measure => simp [intOf]; omega
          | true =>
            cases fo with
            | false => exact absurd rfl hb
            | true =>
              have hlt2 : ¬ l < l2 := by simpa [better] using hb
              clear hb
              go_wp2
              go_roundw
              case rel => exact ⟨k + 1, l, z, true, a, m, c, by omega, by go_num, rfl, HCN2, HB4, HSo4, HN, H4⟩
              case measure => simp [intOf]; omega
      · have HCN := Lib.hid ((copy_not (n := n) he).trans HCP.out)
        have he' : (readE S (C.twin k : Int) != 0) = true := by rw [bne_iff_ne]; exact he
        clear he h1 hp1
        generalize readD S (C.twin k : Int) = D at cR
        generalize readE S (C.twin k : Int) = E at cR he'
        generalize (C.twin k : Int) = tk at cR cT
        go_upto_region 4 with (fail)
        refine wp_region_quiet_below (by kernel_rfl) (by kernel_rfl) ?_
        repeat (go_big_quiet_step ((first | with_reducible exact cT _ _ | with_reducible exact cR _ _)))
        refine wpQuiet_nil ?_
        intro _ hw'
        obtain ⟨⟨dq, osq⟩, hw''⟩ := hw'
        subst hw''
        have b1 := below_regrown wr dq osq
        generalize grow (redrawn wr dq) osq = W1 at b1 ⊢
        have B1 := Lib.hid (HB.out.trans (b1.mono HB.out.size))
        have hB1 := Lib.hid (HBK.out.below b1 HBK.out.lt)
        have hS1 := Lib.hid (HS.out.below b1)
        clear b1 cT cR k0 c0
        go_wp2
        go_roundw
        case rel => exact ⟨k + 1, l, z, fo, a, m, c, by omega, by go_num, rfl, HCN, hB1, hS1, HN, B1⟩
        case measure => simp [intOf]; omega
    · obtain rfl : k = tw := by omega
      have q0 := HBK.out.cell 0
      have q1 := HBK.out.cell 1
      simp at q0 q1
      go_wp2
      rw [HCP.out]
      exact bodyPost_ret (v := .tuple #[.agg #[.int .i64 l, .slice a m c], .bool fo]) (by simp [results, Tryd.results44, go_sem, q0, q1]) rfl ⟨a, m, c, rfl, HS.out, HB.out, fun b off e h => by have := HN.out b off e h; omega⟩
end
end Go.Proofs.YtnnppdjgmjgjhaaDoor.Twin
