/- The walk of takes. -/
import Derived.Test.YtnnppdjgmjgjhaaDoorTwinTakes
namespace Go.Proofs.YtnnppdjgmjgjhaaDoor.Twin
set_option maxRecDepth 100000
open Go.RowKit Go.Sort
open Go.Proofs.YtnnppdjgmjgjhaaDoor.Mem
open Go.Proofs.YtnnppdjgmjgjhaaDoor.Plate

theorem oks_not {C : Cfg} {ls : List Lf} {k : Nat} (h : okR C ls k = false) : ∀ n, k < n → oksR C ls n = false
  | n + 1, hk => by
    rw [oksR]
    by_cases e : k = n
    · subst e; simp [h]
    · rw [oks_not h n (by omega)]; rfl
section
variable {M : Nat → Prop} {p s lf : Nat} {C : Cfg}
set_option maxHeartbeats 2000000 in
theorem takes_any (w : World) (a : Option Addr) (n c : Nat) (ls : List Lf) (h : Sto M w s p C lf) (hc : C.small) (hl : Leaves M w a n ls) (hM : ∀ k, M k → k < w.heap.size) (hn : n ≤ 1000000) (hcap : n ≤ c) :
    Calls Tryd.prog 26 #[.pointer (some ⟨s, 0, none⟩), .slice a n c] w fun e w' => e = .returned (.bool (takesR C ls)) ∧ Below w.heap.size w w' := by
  obtain ⟨-, -, c2, -, -⟩ := h.get
  have htw := hc.tw
  have HSTO := Lib.hid h
  have HC := Lib.hid hc
  have HL := Lib.hid hl
  have HM := Lib.hid hM
  have hlen := hl.len
  obtain ⟨tw, htw2⟩ : ∃ tw, tw = C.tw := ⟨_, rfl⟩
  rw [← htw2] at c2 htw
  by_cases hbig : tw < n
  · have HT := Lib.hid (show takesR C ls = false by unfold takesR; rw [decide_eq_false (by omega)]; rfl)
    clear h hc hl hM hlen htw2
    go_enter Tryd.func26, Tryd.ntmps26
    go_wp2
    go_ret
    exact ⟨Slab.ret_bool' HT.out.symm, Below.refl _ _⟩
  · have HT := Lib.hid (show takesR C ls = oksR C ls n by unfold takesR; rw [decide_eq_true (by omega), hlen]; rfl)
    rw [HT.out]
    clear h hc hl hM hlen htw2
    go_enter Tryd.func26, Tryd.ntmps26
    go_wp2
    go_loopw [17] (fun i wr => ∃ k : Nat, k ≤ n ∧ i = .int .i64 (k : Int) ∧ Hid (oksR C ls k = true) ∧ Hid (Below w.heap.size w wr)) (fun i _ => n - (intOf i).toNat)
    case atStart => exact ⟨0, Nat.zero_le _, rfl, Lib.hid rfl, Lib.hid (Below.refl _ _)⟩
    case round =>
      obtain ⟨k, hk, rfl, HW, HB⟩ := hrel
      by_cases hlt : k < n
      · have hMr : ∀ k, M k → k < wr.heap.size := fun k hk => Nat.lt_of_lt_of_le (HM.out k hk) HB.out.size
        have hlr := HL.out.below HB.out HM.out
        obtain ⟨b, off, a', n', c', y, rfl, hMb, hb1, hg, hgd, d1, d2, d3, hS, -⟩ := hlr.at_ hlt
        have hno := oks_not (C := C) (ls := ls) (k := k)
        have hyes : okR C ls k = true → oksR C ls (k + 1) = true := fun h => by rw [oksR, HW.out, h]; rfl
        have hok : okR C ls k = (!((ls.take k).any fun z => decide (z.n = y.n)) && hasR C y.n && Slab.goodB y.l y.z) := by unfold okR; rw [hgd]
        obtain ⟨yn, yl, yz⟩ := y
        simp only at d1 d2 hS hok
        have hX := Blk.new wr 43 #[.int .i64 yn, .int .i64 yl, .slice a' n' c']
        have hb0 : Below wr.heap.size wr (wr.alloc (.cells #[.int .i64 yn, .int .i64 yl, .slice a' n' c'] 43)) := (Below.refl _ _).alloc (Nat.le_refl _) _
        have hS1 := hS.below hb0 hMr
        have hl1 := (hlr.take (k := k) (by omega)).below hb0 hMr
        have hM1 : ∀ j, M j → j < (wr.alloc (.cells #[.int .i64 yn, .int .i64 yl, .slice a' n' c'] 43)).heap.size := fun j hj => Nat.lt_of_lt_of_le (hMr j hj) hb0.size
        have hst := (HSTO.out.keep (Keep.of_below HB.out HM.out)).keep (Keep.of_below hb0 hMr)
        have B0 := HB.out.trans (hb0.mono HB.out.size)
        have HNO := Lib.hid hno
        have HYES := Lib.hid hyes
        have HOK := Lib.hid hok
        clear hno hyes hok hg hgd hlr hS hMr hMb hb0
        go_upto_region 6 with (fail)
        generalize hGen : wr.alloc (.cells #[.int .i64 yn, .int .i64 yl, .slice a' n' c'] 43) = W at hX hS1 hl1 hM1 hst B0 ⊢
        clear hGen
        have x0 := hX.cell 0
        have x1 := hX.cell 1
        have x2 := hX.cell 2
        simp at x0 x1 x2
        have hCT := contains_leaf yn wr.heap.size (some ⟨b, off, none⟩) k c (ls.take k) W hl1 hM1 x0 (by omega)
        have hk2 : (k : Int) ≤ (c : Int) := by omega
        have HST := Lib.hid hst
        have HS1 := Lib.hid hS1
        have HM1 := Lib.hid hM1
        have HX := Lib.hid hX
        have HB0 := Lib.hid B0
        cases hany : (ls.take k).any fun z => decide (z.n = yn) with
        | true =>
          rw [hany] at hCT
          have HNO2 := Lib.hid (HNO.out (by rw [HOK.out, hany]; rfl) n hlt)
          have HCT := Lib.hid hCT
          clear hCT hl1 hany hX hS1 hM1 hst B0
          go_wp2_with fail
          refine HCT.out.mono ?_
          rintro e w1 ⟨rfl, b1⟩
          go_wp2
          go_ret
          exact ⟨Slab.ret_bool' HNO2.out.symm, HB0.out.trans (b1.mono HB0.out.size)⟩
        | false =>
          rw [hany] at hCT
          have HAN := Lib.hid hany
          have HCT := Lib.hid hCT
          clear hCT hl1 hany hX hS1 hM1 hst B0
          go_upto_region 7 with (refine HCT.out.mono ?_; rintro e w1 ⟨rfl, b1⟩)
          have B1 := Lib.hid (HB0.out.trans (b1.mono HB0.out.size))
          have hH := has_any w1 yn (HST.out.keep (Keep.of_below b1 HM1.out)) HC.out
          have HS2 := Lib.hid (HS1.out.below b1 HM1.out)
          have hX1 := HX.out.below b1 HX.out.lt
          have HM2 : Hid (∀ j, M j → j < w1.heap.size) := Lib.hid fun j hj => Nat.lt_of_lt_of_le (HM1.out j hj) b1.size
          have y0 := hX1.cell 0
          have y1 := hX1.cell 1
          have y2 := hX1.cell 2
          simp at y0 y1 y2
          have HX1 := Lib.hid hX1
          clear b1 hX1 x0 x1 x2
          cases hh : hasR C yn with
          | false =>
            rw [hh] at hH
            have HNO2 := Lib.hid (HNO.out (by rw [HOK.out, hh]; simp) n hlt)
            have HH := Lib.hid hH
            clear hH hh
            go_wp2_with fail
            refine HH.out.mono ?_
            rintro e w2 ⟨rfl, b2⟩
            go_wp2
            go_ret
            exact ⟨Slab.ret_bool' HNO2.out.symm, B1.out.trans (b2.mono B1.out.size)⟩
          | true =>
            rw [hh] at hH
            have HHH := Lib.hid hh
            have HH := Lib.hid hH
            clear hH hh
            go_wp2_with fail
            refine HH.out.mono ?_
            rintro e w2 ⟨rfl, b2⟩
            have B2 := Lib.hid (B1.out.trans (b2.mono B1.out.size))
            have hX2 := HX1.out.below b2 HX1.out.lt
            have z1 := hX2.cell 1
            have z2 := hX2.cell 2
            simp at z1 z2
            have hG := Slab.good_any yl a' n' c' yz w2 (HS2.out.below b2 HM2.out).1 HS2.out.2.1
            clear b2 y0 y1 y2 hX2
            cases hgb : Slab.goodB yl yz with
            | false =>
              rw [hgb] at hG
              have HNO2 := Lib.hid (HNO.out (by rw [HOK.out, hgb]; simp) n hlt)
              have HG := Lib.hid hG
              clear hG hgb
              go_wp2_with fail
              refine HG.out.mono ?_
              rintro e w3 ⟨rfl, b3⟩
              go_wp2
              go_ret
              exact ⟨Slab.ret_bool' HNO2.out.symm, B2.out.trans (b3.mono B2.out.size)⟩
            | true =>
              rw [hgb] at hG
              have HY2 := Lib.hid (HYES.out (by rw [HOK.out, hgb, HHH.out, HAN.out]; rfl))
              have HG := Lib.hid hG
              clear hG hgb
              go_wp2_with fail
              refine HG.out.mono ?_
              rintro e w3 ⟨rfl, b3⟩
              have B3 := Lib.hid (B2.out.trans (b3.mono B2.out.size))
              clear b3
              go_wp2
              go_roundw
              case rel => exact ⟨k + 1, by omega, by go_num, HY2, B3⟩
              case measure => simp [intOf]; omega
      · obtain rfl : k = n := by omega
        go_wp2
        go_ret
        exact ⟨Slab.ret_bool' HW.out.symm, HB.out⟩
end
end Go.Proofs.YtnnppdjgmjgjhaaDoor.Twin
