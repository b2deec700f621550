/- The walk of slab.Decode. -/
import Derived.Test.YtnnppdjgmjgjhaaDoorSlabDecMath
import Derived.Test.YtnnppdjgmjgjhaaDoorSlabPut
import Derived.Test.YtnnppdjgmjgjhaaDoorSlabOwn
import Derived.Laws.AppendOwn
import Derived.Deep.RegionHeld3
namespace Go.Proofs.YtnnppdjgmjgjhaaDoor.Slab
set_option maxRecDepth 100000
open Go.RowKit Go.Sort

set_option maxRecDepth 100000 in
set_option maxHeartbeats 8000000 in
theorem decode_any (s : ByteArray) (w : World) :
    Calls Tryd.prog 77 #[.string s] w (PageRes (decR s.data.toList).1 (decR s.data.toList).2.1 (decR s.data.toList).2.2 w) := by
  have hlen : s.data.toList.length = s.size := by simp
  have b0 : Below w.heap.size w (w.alloc (.cells #[.int .i64 0, .slice none 0 0] 41)) := (Below.refl _ _).alloc (Nat.le_refl _) _
  have hR := Blk.new w 41 #[.int .i64 0, .slice none 0 0]
  by_cases h240 : s.size = 240
  · have H240 := Lib.hid h240
    have hne : ((s.size : Int) != 240) = false := by simp; omega
    have h8 : (8 : Int) ≤ (s.size : Int) := by omega
    have h8' : (8 : Int) < (s.size : Int) := by omega
    have h9 : (9 : Int) ≤ (s.size : Int) := by omega
    obtain ⟨i0, hi, hz0, hz1, hz2⟩ := info_parts info_slot
    obtain ⟨cnt, hcnt⟩ : ∃ cnt, cnt = (s.data.toList.getD 8 0).toNat := ⟨_, rfl⟩
    have hc256 : cnt < 256 := by rw [hcnt]; exact UInt8.toNat_lt _
    have hb8 : ∀ h : 8 < s.size, (s[8]'h).toNat = cnt := fun h => by
      have h1 : s.data.toList[8]? = some (s[8]'h) := by
        have : s.data[8]? = some (s[8]'h) := Array.getElem?_eq_getElem _
        simpa using this
      rw [hcnt]; simp only [List.getD, h1]
      rfl
    obtain ⟨rest, hrest⟩ : ∃ rest, rest = s.data.toList.drop 9 := ⟨_, rfl⟩
    have hrl : rest.length ≤ 231 := by rw [hrest]; simp; omega
    have hex : s.extract 9 s.size = ⟨rest.toArray⟩ := by
      rw [hrest]
      refine ByteArray.ext (Array.toList_inj.1 ?_)
      rw [Lib.extract_data, List.take_of_length_le (by simp)]
    have hnum := fun W => number_any (s.extract 0 8) W (by rw [ByteArray.size_extract]; omega)
    have hxl : (s.extract 0 8).data.toList = s.data.toList.take 8 := by rw [Lib.extract_data]; simp
    rw [hxl] at hnum
    have hdec : decR s.data.toList = decOf (sgn (beN (s.data.toList.take 8))) (takesL cnt rest) := by unfold decR; rw [if_pos (by omega), ← hcnt, ← hrest]
    generalize sgn (beN (s.data.toList.take 8)) = L at hnum hdec
    generalize decR s.data.toList = D at hdec ⊢
    have HD := Lib.hid hdec
    have HNUM := Lib.hid hnum
    have HRL := Lib.hid hrl
    clear hnum hdec hcnt hrest hxl hlen h240 hrl
    go_enter Tryd.func77, Tryd.ntmps77
    go_upto_region 1 with (fail)
    have hRw := Lib.hid (show w.heap.size < (w.alloc (.cells #[.int .i64 0, .slice none 0 0] 41)).heap.size by simp)
    generalize hGen : w.alloc (.cells #[.int .i64 0, .slice none 0 0] 41) = W at b0 hR hRw ⊢
    clear hGen
    go_wp2_with fail
    refine (HNUM.out _).mono ?_
    rintro e w2 ⟨rfl, rfl⟩
    go_upto_region 4 with (fail)
    have b1 := b0.alloc b0.size (.cells #[.int .i64 L, .slice none 0 0] 41)
    have hR1 := hR.alloc (.cells #[.int .i64 L, .slice none 0 0] 41)
    have hP := Blk.new W 41 #[.int .i64 L, .slice none 0 0]
    have hPw := Lib.hid (show W.heap.size < (W.alloc (.cells #[.int .i64 L, .slice none 0 0] 41)).heap.size by simp)
    have hWw := Lib.hid b0.size
    generalize hGen : W.alloc (.cells #[.int .i64 L, .slice none 0 0] 41) = W1 at b1 hR1 hP hPw ⊢
    clear hGen
    generalize hGen : W.heap.size = gp at hP hPw hRw hWw ⊢
    clear hGen
    have B1 := Lib.hid b1
    have HR := Lib.hid hR1
    have HP := Lib.hid hP
    clear b1 hR1 hP hR b0
    go_wp2
    go_loopw [5, 21] (fun tr ti wr => ∃ (k : Nat) (z : List Slot) (r : List UInt8) (v : Value), k ≤ cnt ∧ ti = .int .u8 (k : Int) ∧ tr = .string ⟨r.toArray⟩ ∧ takesL k rest = some (z, r) ∧ Blk wr gp 41 #[.int .i64 L, v] ∧ Blk wr w.heap.size 41 #[.int .i64 0, .slice none 0 0] ∧ wr.ownsRow W1.heap.size 81 2 v z.length (cellsOf z) ∧ W1.heap.size ≤ wr.heap.size ∧ Below w.heap.size w wr) (fun _ ti _ => cnt - (intOf ti).toNat)
    case atStart => exact ⟨0, [], rest, .slice none 0 0, Nat.zero_le _, rfl, rfl, rfl, HP.out, HR.out, ⟨rfl, .inl ⟨rfl, rfl⟩⟩, Nat.le_refl _, B1.out⟩
    case round =>
      obtain ⟨k, z, r, v, hk, rfl, rfl, hT, hP2, hR2, hown, hge, hbel⟩ := hrel
      obtain ⟨hzl, hrl, hzs⟩ := takesL_len hT
      have hrs : ByteArray.size ⟨r.toArray⟩ ≤ 231 := by have := HRL.out; simp [ByteArray.size]; omega
      have HT := Lib.hid hT
      have HP2 := Lib.hid hP2
      have HR2 := Lib.hid hR2
      have HOWN := Lib.hid hown
      have HZS := Lib.hid hzs
      have HBEL := Lib.hid hbel
      have HGE := Lib.hid hge
      have HZL := Lib.hid hzl
      clear hT hP2 hR2 hown hzs hbel hrl hge hzl
      by_cases hlt : k < cnt
      · have hlt' : (k : Int) < (cnt : Int) := by omega
        have htk := take_any ⟨r.toArray⟩ wr (by omega)
        have hrr : (⟨r.toArray⟩ : ByteArray).data.toList = r := rfl
        rw [hrr] at htk
        cases hx : takeL r with
        | none =>
          have hv : takeV r = .tuple #[.agg #[.bool false, .string ⟨#[]⟩], .string ⟨#[]⟩, .bool false] := by unfold takeV; rw [hx]
          rw [hv] at htk
          obtain ⟨j, hj⟩ : ∃ j, cnt = k + 1 + j := ⟨cnt - (k + 1), by omega⟩
          have hd : D = (0, [], 4) := by rw [HD.out, hj, takesL_stop HT.out hx j]; rfl
          have HK := Lib.hid htk
          clear hv htk hx hj hrr
          subst hd
          go_wp2_with fail
          refine HK.out.mono ?_
          rintro e w6 ⟨rfl, b6⟩
          have b7 := Below.alloc b6 b6.size (.cells #[.bool false, .string ⟨#[]⟩] 81)
          go_upto_region 8 with (fail)
          generalize hGen : w6.alloc (.cells #[.bool false, .string ⟨#[]⟩] 81) = W7 at b7 ⊢
          clear hGen
          have hR7 := HR2.out.below b7 HR2.out.lt
          have q0 : W7.cell? ⟨w.heap.size, 0, none⟩ = some (.int .i64 0) := hR7.cell 0
          have q1 : W7.cell? ⟨w.heap.size, 1, none⟩ = some (.slice none 0 0) := hR7.cell 1
          have f0 := hR7.frozen 0
          have f1 := hR7.frozen 1
          go_wp2
          exact bodyPost_ret (v := .tuple #[.agg #[.int .i64 0, .slice none 0 0], .int .i64 4]) (by simp [results, Tryd.results77, go_sem, q0, q1]) rfl ⟨none, 0, 0, rfl, Slots.nil _ _, (((HBEL.out.trans (b7.mono HBEL.out.size)).setCell (p := ⟨w.heap.size, 0, none⟩) (Nat.le_refl _) _).setCell (p := ⟨w.heap.size, 1, none⟩) (Nat.le_refl _) _), fun _ _ _ e => by cases e⟩
        | some p =>
          obtain ⟨⟨xu, xd⟩, r1⟩ := p
          have hv : takeV r = .tuple #[.agg #[.bool xu, .string xd], .string ⟨r1.toArray⟩, .bool true] := by unfold takeV; rw [hx]
          rw [hv] at htk
          have HTN := Lib.hid (takesL_next HT.out hx)
          have HK := Lib.hid htk
          clear hv htk hx hrr
          go_wp2_with fail
          refine HK.out.mono ?_
          rintro e w6 ⟨rfl, b6⟩
          have b7 := Below.alloc b6 b6.size (.cells #[.bool xu, .string xd] 81)
          have hX := Blk.new w6 81 #[.bool xu, .string xd]
          go_upto_region 10 with (fail)
          have hsx := b6.size
          generalize hGen : w6.alloc (.cells #[.bool xu, .string xd] 81) = W7 at b7 hX ⊢
          clear hGen
          generalize hGen : w6.heap.size = gx at hX hsx ⊢
          clear hGen
          have hP7 := HP2.out.below b7 HP2.out.lt
          have hR7 := HR2.out.below b7 HR2.out.lt
          have hO7 := own_below HOWN.out b7
          have p1 : W7.cell? ⟨gp, 1, none⟩ = some v := hP7.cell 1
          have x0 : W7.cell? ⟨gx, 0, none⟩ = some (.bool xu) := hX.cell 0
          have x1 : W7.cell? ⟨gx, 1, none⟩ = some (.string xd) := hX.cell 1
          have HO7 := Lib.hid hO7
          have HP7 := Lib.hid hP7
          have HR7 := Lib.hid hR7
          clear hO7 hP7 hR7 hX
          have hnm : z.length + 1 ≤ maxLen := by have := HZL.out; unfold maxLen; omega
          have hnb : (z.length + 1) * 24 ≤ 140737488355328 := by have := HZL.out; omega
          go_wp2_with (at_builtin; refine wpList_append_own _ rfl _ _ 39 rfl W1.heap.size 81 i0 (.agg #[.bool false, .string ⟨#[]⟩]) 2 24 Tryd.underlying39 hi hz0 hz1 hz2 rfl (by decide) v z.length (cellsOf z) rfl (own_below HO7.out ((Below.refl _ _).alloc (Nat.le_refl _) _)) ⟨W7.heap.size, 0, none⟩ 1 1 [.bool xu, .string xd] rfl rfl ?c1 ?c2 ?c3 ?c4 ?c5 ?_)
          case c1 =>
            intro j u hj
            match j, hj with
            | 0, hj => simp at hj; subst hj; simp [Addr.add]
            | 1, hj => simp at hj; subst hj; simp [Addr.add]
          case c2 => intro u hu; simp at hu; rcases hu with rfl | rfl <;> rfl
          case c3 => exact hnm
          case c4 => exact hnb
          case c5 => have h1 := HGE.out; have h2 := b7.size; simp; omega
          intro v' w8 hown' hgrow' _
          have hown8 : w8.ownsRow W1.heap.size 81 2 v' (z ++ [(⟨xu, xd⟩ : Slot)]).length (cellsOf (z ++ [(⟨xu, xd⟩ : Slot)])) := by
            rw [List.length_append, ← cells_snoc]; exact hown'
          have hzs8 : ∀ x ∈ z ++ [(⟨xu, xd⟩ : Slot)], x.d.size ≤ 140737488351232 := fun x hx => by have := (takesL_len HTN.out).2.2 x hx; omega
          obtain ⟨a8, c8, hv8, _, _⟩ := slots_of_own hown8 hzs8
          subst hv8
          have hgb : gp < W1.heap.size := hPw.out
          have hrb : w.heap.size < gp := hRw.out
          have hP8 := (HP7.out.alloc (.cells #[.bool xu, .string xd] 81)).grown hgrow' (own_ne HOWN.out hgb)
          have hR8 := (HR7.out.alloc (.cells #[.bool xu, .string xd] 81)).grown hgrow' (own_ne HOWN.out (by omega))
          have rc1 : w8.cell? ⟨gp, 1, none⟩ = some v := hP8.cell 1
          have fr1 := hP8.frozen 1
          have hbel8 := Lib.hid ((((HBEL.out.trans (b7.mono HBEL.out.size)).alloc (by have h1 := HBEL.out.size; have h2 := b7.size; omega) (.cells #[.bool xu, .string xd] 81)).grown hgrow' (by have h1 := HBEL.out.size; have h2 := b7.size; simp; omega) (fun j hj => by have := own_block_ge HOWN.out hj; omega)).setCell (p := ⟨gp, 1, none⟩) (by show w.heap.size ≤ gp; omega) (.slice a8 (z ++ [(⟨xu, xd⟩ : Slot)]).length c8))
          have hP9 : Blk (w8.setCell ⟨gp, 1, none⟩ (.slice a8 (z ++ [(⟨xu, xd⟩ : Slot)]).length c8)) gp 41 #[.int .i64 L, .slice a8 (z ++ [(⟨xu, xd⟩ : Slot)]).length c8] := by simpa using hP8.set_ 1 (.slice a8 (z ++ [(⟨xu, xd⟩ : Slot)]).length c8)
          have HP9 := Lib.hid hP9
          have HR9 := Lib.hid (hR8.far (p := ⟨gp, 1, none⟩) (by show w.heap.size ≠ gp; omega) (.slice a8 (z ++ [(⟨xu, xd⟩ : Slot)]).length c8))
          have HO9 := Lib.hid (own_far hown8 hgb 1 (.slice a8 (z ++ [(⟨xu, xd⟩ : Slot)]).length c8))
          have hge9 : W1.heap.size ≤ (w8.setCell ⟨gp, 1, none⟩ (.slice a8 (z ++ [(⟨xu, xd⟩ : Slot)]).length c8)).heap.size := by
            have h1 := HGE.out; have h2 := b7.size; have h3 := hgrow'.size
            simp at h3 ⊢; omega
          have HG9 := Lib.hid hge9
          have hk8 : IntKind.u8.wrap ((k : Int) + 1) = ((k + 1 : Nat) : Int) := by rw [IntKind.wrap_u8]; omega
          clear hown' hown8 hgrow' hP8 hR8 hP9 hzs8 hge9 p1 x0 x1 hgb hrb hnm hnb
          generalize hn8 : (z ++ [(⟨xu, xd⟩ : Slot)]).length = n8 at HP9 HR9 HO9 HG9 hbel8 ⊢
          have HN8 := Lib.hid hn8
          clear hn8
          go_wp2
          go_roundw
          case rel => exact ⟨k + 1, z ++ [(⟨xu, xd⟩ : Slot)], r1, .slice a8 n8 c8, by omega, by go_num, rfl, HTN.out, HP9.out, HR9.out, by rw [HN8.out]; exact HO9.out, HG9.out, hbel8.out⟩
          case measure => simp [intOf]; omega
      · obtain rfl : k = cnt := by omega
        obtain ⟨a, c, rfl, hS, hF⟩ := slots_of_own HOWN.out (fun x hx => by have := HZS.out x hx; omega)
        have hd : D = decOf L (some (z, r)) := by rw [HD.out, HT.out]
        have hnz : z.length ≤ 1000000 := by have := HZL.out; omega
        have HS := Lib.hid hS
        have HF := Lib.hid hF
        have p0 : wr.cell? ⟨gp, 0, none⟩ = some (.int .i64 L) := HP2.out.cell 0
        have p1 : wr.cell? ⟨gp, 1, none⟩ = some (.slice a z.length c) := HP2.out.cell 1
        clear hS hF
        cases hg : goodB L z with
        | false =>
          have hd2 : D = (0, [], 4) := by rw [hd, decOf_some, if_neg (by rw [hg]; simp)]
          have HG := Lib.hid hg
          clear hd hg
          subst hd2
          go_wp2_with fail
          refine (good_any L a z.length c z _ HS.out hnz).mono ?_
          rw [HG.out]
          rintro e W7 ⟨rfl, b7⟩
          have hR7 := HR2.out.below b7 HR2.out.lt
          have q0 : W7.cell? ⟨w.heap.size, 0, none⟩ = some (.int .i64 0) := hR7.cell 0
          have q1 : W7.cell? ⟨w.heap.size, 1, none⟩ = some (.slice none 0 0) := hR7.cell 1
          have f0 := hR7.frozen 0
          have f1 := hR7.frozen 1
          go_wp2
          exact bodyPost_ret (v := .tuple #[.agg #[.int .i64 0, .slice none 0 0], .int .i64 4]) (by simp [results, Tryd.results77, go_sem, q0, q1]) rfl ⟨none, 0, 0, rfl, Slots.nil _ _, (((HBEL.out.trans (b7.mono HBEL.out.size)).setCell (p := ⟨w.heap.size, 0, none⟩) (Nat.le_refl _) _).setCell (p := ⟨w.heap.size, 1, none⟩) (Nat.le_refl _) _), fun _ _ _ e => by cases e⟩
        | true =>
          have HG := Lib.hid hg
          cases ha : r.any nzB with
          | true =>
            have hd2 : D = (0, [], 4) := by rw [hd, decOf_some, if_neg (by rw [ha]; simp)]
            have HA := Lib.hid ha
            clear hd hg ha
            subst hd2
            go_wp2_with fail
            refine (good_any L a z.length c z _ HS.out hnz).mono ?_
            rw [HG.out]
            rintro e W7 ⟨rfl, b7⟩
            go_wp2_with fail
            refine (some_nz r _).mono ?_
            rw [HA.out]
            rintro e W8 ⟨rfl, b8⟩
            have b9 := b7.trans (b8.mono b7.size)
            have hR7 := HR2.out.below b9 HR2.out.lt
            have q0 : W8.cell? ⟨w.heap.size, 0, none⟩ = some (.int .i64 0) := hR7.cell 0
            have q1 : W8.cell? ⟨w.heap.size, 1, none⟩ = some (.slice none 0 0) := hR7.cell 1
            have f0 := hR7.frozen 0
            have f1 := hR7.frozen 1
            go_wp2
            exact bodyPost_ret (v := .tuple #[.agg #[.int .i64 0, .slice none 0 0], .int .i64 4]) (by simp [results, Tryd.results77, go_sem, q0, q1]) rfl ⟨none, 0, 0, rfl, Slots.nil _ _, (((HBEL.out.trans (b9.mono HBEL.out.size)).setCell (p := ⟨w.heap.size, 0, none⟩) (Nat.le_refl _) _).setCell (p := ⟨w.heap.size, 1, none⟩) (Nat.le_refl _) _), fun _ _ _ e => by cases e⟩
          | false =>
            have hd2 : D = (L, z, 0) := by rw [hd, decOf_some, if_pos ⟨hg, ha⟩]
            have HA := Lib.hid ha
            clear hd hg ha
            subst hd2
            go_wp2_with fail
            refine (good_any L a z.length c z _ HS.out hnz).mono ?_
            rw [HG.out]
            rintro e W7 ⟨rfl, b7⟩
            go_wp2_with fail
            refine (some_nz r _).mono ?_
            rw [HA.out]
            rintro e W8 ⟨rfl, b8⟩
            have b9 := b7.trans (b8.mono b7.size)
            have hR7 := HR2.out.below b9 HR2.out.lt
            have hP7 := HP2.out.below b9 HP2.out.lt
            have q0 : W8.cell? ⟨w.heap.size, 0, none⟩ = some (.int .i64 0) := hR7.cell 0
            have q1 : W8.cell? ⟨w.heap.size, 1, none⟩ = some (.slice none 0 0) := hR7.cell 1
            have f0 := hR7.frozen 0
            have f1 := hR7.frozen 1
            have s0 : W8.cell? ⟨gp, 0, none⟩ = some (.int .i64 L) := hP7.cell 0
            have s1 : W8.cell? ⟨gp, 1, none⟩ = some (.slice a z.length c) := hP7.cell 1
            go_wp2
            have hfr : ∀ b off, a = some ⟨b, off, none⟩ → 0 < z.length → b ≠ w.heap.size := fun b off e _ => by have h1 := HF.out _ _ _ e; have h2 := hPw.out; have h3 := hRw.out; omega
            exact bodyPost_ret (v := .tuple #[.agg #[.int .i64 L, .slice a z.length c], .int .i64 0]) (by simp [results, Tryd.results77, go_sem, q0, q1]) rfl ⟨a, z.length, c, rfl, ((HS.out.below b9).setCell _ hfr).setCell _ hfr, (((HBEL.out.trans (b9.mono HBEL.out.size)).setCell (p := ⟨w.heap.size, 0, none⟩) (Nat.le_refl _) _).setCell (p := ⟨w.heap.size, 1, none⟩) (Nat.le_refl _) _), fun b off e he => by have h1 := HF.out _ _ _ he; have h2 := hPw.out; have h3 := hRw.out; omega⟩
  · have hd : decR s.data.toList = (0, [], 4) := by unfold decR; rw [if_neg (by omega)]
    rw [hd]
    have hne : ((s.size : Int) != 240) = true := by simp; omega
    go_enter Tryd.func77, Tryd.ntmps77
    go_upto_region 1 with (fail)
    generalize hGen : w.alloc (.cells #[.int .i64 0, .slice none 0 0] 41) = W at b0 hR ⊢
    clear hGen
    have q0 : W.cell? ⟨w.heap.size, 0, none⟩ = some (.int .i64 0) := hR.cell 0
    have q1 : W.cell? ⟨w.heap.size, 1, none⟩ = some (.slice none 0 0) := hR.cell 1
    have f0 := hR.frozen 0
    have f1 := hR.frozen 1
    go_wp2
    exact bodyPost_ret (v := .tuple #[.agg #[.int .i64 0, .slice none 0 0], .int .i64 4]) (by simp [results, Tryd.results77, go_sem, q0, q1]) rfl ⟨none, 0, 0, rfl, Slots.nil _ _, (b0.setCell (p := ⟨w.heap.size, 0, none⟩) (Nat.le_refl _) _).setCell (p := ⟨w.heap.size, 1, none⟩) (Nat.le_refl _) _, fun _ _ _ e => by cases e⟩
end Go.Proofs.YtnnppdjgmjgjhaaDoor.Slab
