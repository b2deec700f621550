/- The walk of the document's own reading of an image. -/
import Derived.Test.YtjffjmffoffblaaQSlabRDecMath
import Derived.Test.YtjffjmffoffblaaQSlabBookA
import Derived.Deep.AppendLies
import Derived.Deep.RegionLaw
import Derived.Deep.RegionHeld3
import Derived.StillTailTactics
namespace Go.Proofs.Ytjffjmffoffblaa.Slab
set_option maxRecDepth 100000
open Go.RowKit Go.Sort

theorem step_app_slot {ops : Array Oper} {o : Oper} {a : Act} {w : World} {K : Act → World → Prop} {Q : Exit → Act → World → Prop} {E : Prop}
    (hg : o.guard = none) (s x : Operand) (hop : o.op = Op.call { callee := Callee.builtin Builtin.append, args := #[s, x], argTypes := #[25, 25] }) (v : Value) (z : List Slot) (xd : ByteArray) (gn base : Nat)
    (hs : a.eval s = v) (hx : a.eval x = .slice (some ⟨gn, 0, none⟩) 1 1) (hzl : z.length ≤ 300)
    (hown : w.ownsRow base 54 2 v z.length (cellsOf z)) (hN : Blk w gn 54 #[.bool true, .string xd]) (hbase : base ≤ w.heap.size)
    (hK : ∀ (v' : Value) (w' : World), w'.ownsRow base 54 2 v' (z ++ [(⟨true, xd⟩ : Slot)]).length (cellsOf (z ++ [(⟨true, xd⟩ : Slot)])) → w.grownBy w' v.ownBlock → K (a.put o.dst v') w') :
    if Region.wanted o (yielded ops a.tmps) = true then Oper.wp Try.prog o a w K Q else E := by
  obtain ⟨i0, hi, hz0, hz1, hz2⟩ := info_parts info_slot
  refine step_append_lies w hg s x 25 hop base 54 i0 (.agg #[.bool false, .string ⟨#[]⟩]) 2 24 Try.underlying25 hi hz0 hz1 hz2 rfl (by decide) v z.length (cellsOf z) hs hown ⟨gn, 0, none⟩ 1 1 [.bool true, .string xd] hx rfl ?_ ?_ (by decide) (by unfold maxLen; omega) (by omega) hbase _ rfl ?_
  · intro j u hj
    have e : (Addr.mk gn 0 none).add j = ⟨gn, j, none⟩ := by unfold Addr.add; split <;> simp_all
    rw [e, hN.cell j]
    simpa using hj
  · intro u hu
    simp at hu
    rcases hu with rfl | rfl <;> rfl
  · intro g cap w' h1 h2 _ _
    refine hK _ w' ?_ h2
    rw [List.length_append, ← cells_snoc]
    exact h1

set_option maxRecDepth 100000 in
set_option maxHeartbeats 8000000 in
theorem rdecode_any (s : ByteArray) (w : World) :
    Calls Try.prog 17 #[.string s] w (PageRes (decR s.data.toList).1 (decR s.data.toList).2.1 (decR s.data.toList).2.2 w) := by
  have hlen : s.data.toList.length = s.size := by simp
  have b0 : Below w.heap.size w (w.alloc (.cells #[.int .i64 0, .slice none 0 0] 27)) := (Below.refl _ _).alloc (Nat.le_refl _) _
  have hR := Blk.new w 27 #[.int .i64 0, .slice none 0 0]
  by_cases h240 : s.size = 240
  · have hne : ((s.size : Int) != 240) = false := by simp; omega
    have h0 : (0 : Int) < (s.size : Int) := by omega
    have h1 : (1 : Int) < (s.size : Int) := by omega
    have h8' : (8 : Int) < (s.size : Int) := by omega
    have hat : ∀ i (h : i < s.size), (s[i]'h).toNat = (s.data.toList.getD i 0).toNat := fun i h => by
      have h1 : s.data.toList[i]? = some (s[i]'h) := by
        have : s.data[i]? = some (s[i]'h) := Array.getElem?_eq_getElem _
        simpa using this
      simp only [List.getD, h1]
      rfl
    obtain ⟨N0, hN0⟩ : ∃ N0, N0 = (s.data.toList.getD 0 0).toNat := ⟨_, rfl⟩
    obtain ⟨N1, hN1⟩ : ∃ N1, N1 = (s.data.toList.getD 1 0).toNat := ⟨_, rfl⟩
    have hb0 : ∀ h : 0 < s.size, (s[0]'h).toNat = N0 := fun h => by rw [hat, hN0]
    have hb1 : ∀ h : 1 < s.size, (s[1]'h).toNat = N1 := fun h => by rw [hat, hN1]
    by_cases hz : N0 = 0 ∧ N1 = 0
    · obtain ⟨rfl, rfl⟩ := hz
      have hL2 := low_num (t := s.data.toList) (by omega) hN0.symm hN1.symm
      have hsm := beN_small (t := s.data.toList) (by omega) hL2
      have p6 : (256 : Nat) ^ 6 = 281474976710656 := by decide
      have hs8 := hsm 6 (by omega)
      rw [p6] at hs8
      simp only [Nat.reduceAdd] at hs8
      obtain ⟨cnt, hcnt⟩ : ∃ cnt, cnt = (s.data.toList.getD 8 0).toNat := ⟨_, rfl⟩
      have hc256 : cnt < 256 := by rw [hcnt]; exact UInt8.toNat_lt _
      have hb8 : ∀ h : 8 < s.size, (s[8]'h).toNat = cnt := fun h => by rw [hat, hcnt]
      have hdec : decR s.data.toList = decOf ((beN (s.data.toList.take 8) : Nat) : Int) (takesL cnt (s.data.toList.drop 9)) := by
        unfold decR; rw [if_pos (by omega), ← hcnt]
        congr 1
        unfold sgn; rw [if_pos (by omega)]
      generalize decR s.data.toList = D at hdec ⊢
      have HD := Lib.hid hdec
      have HSM := Lib.hid hsm
      have HAT := Lib.hid hat
      have HL2 := Lib.hid hL2
      have HLEN := Lib.hid hlen
      have H240 := Lib.hid h240
      have HS8 := Lib.hid hs8
      clear hdec hsm hat hL2 hcnt hN0 hN1 hlen h240 p6 hs8
      go_enter Try.func17, Try.ntmps17
      go_upto_region 1 with (fail)
      have hRw := Lib.hid (show w.heap.size < (w.alloc (.cells #[.int .i64 0, .slice none 0 0] 27)).heap.size by simp)
      generalize hGen : w.alloc (.cells #[.int .i64 0, .slice none 0 0] 27) = W at b0 hR hRw ⊢
      clear hGen
      go_upto_region 4 with (fail)
      have b1 := b0.alloc b0.size (.cells #[.int .i64 0, .slice none 0 0] 27)
      have hR1 := hR.alloc (.cells #[.int .i64 0, .slice none 0 0] 27)
      have hP := Blk.new W 27 #[.int .i64 0, .slice none 0 0]
      have hPw := Lib.hid (show W.heap.size < (W.alloc (.cells #[.int .i64 0, .slice none 0 0] 27)).heap.size by simp)
      have hWw := Lib.hid b0.size
      generalize hGen : W.alloc (.cells #[.int .i64 0, .slice none 0 0] 27) = W1 at b1 hR1 hP hPw ⊢
      clear hGen
      generalize hGen : W.heap.size = gp at hP hPw hRw hWw ⊢
      clear hGen
      have B1 := Lib.hid b1
      have HR := Lib.hid hR1
      have HP := Lib.hid hP
      clear b1 hR1 hP hR b0
      go_wp2
      go_loopw [5] (fun ti wr => ∃ (i : Nat), 2 ≤ i ∧ i ≤ 8 ∧ ti = .int .i64 (i : Int) ∧ Blk wr gp 27 #[.int .i64 ((beN (s.data.toList.take i) : Nat) : Int), .slice none 0 0] ∧ Blk wr w.heap.size 27 #[.int .i64 0, .slice none 0 0] ∧ W1.heap.size ≤ wr.heap.size ∧ Below w.heap.size w wr) (fun ti _ => 8 - (intOf ti).toNat)
      case atStart => exact ⟨2, Nat.le_refl _, by omega, rfl, by rw [HL2.out]; exact HP.out, HR.out, Nat.le_refl _, B1.out⟩
      case round =>
        obtain ⟨i, hi2, hi8, rfl, hP2, hR2, hge, hbel⟩ := hrel
        have HP2 := Lib.hid hP2
        have HR2 := Lib.hid hR2
        have HBEL := Lib.hid hbel
        have HGE := Lib.hid hge
        clear hP2 hR2 hbel hge
        by_cases hlt : i < 8
        · have hi0 : (0 : Int) ≤ (i : Int) := by omega
          have hi1 : (i : Int) < (s.size : Int) := by have := H240.out; omega
          have hil : i < s.size := by have := H240.out; omega
          have hbi : ∀ h : i < s.size, (s[i]'h).toNat = (s.data.toList.getD i 0).toNat := fun h => HAT.out i h
          have hnx := beN_next (s := s.data.toList) (k := i) (by rw [HLEN.out]; exact hil)
          have hgd : s.data.toList.getD i 0 = s.data.toList[i]'(by rw [HLEN.out]; exact hil) := by simp [List.getD, hil]
          rw [← hgd] at hnx
          have hvs : beN (s.data.toList.take i) < 281474976710656 := by
            obtain ⟨j, rfl⟩ : ∃ j, i = 2 + j := ⟨i - 2, by omega⟩
            have h1 := HSM.out j (by omega)
            have h2 : (256 : Nat) ^ j ≤ 256 ^ 6 := Nat.pow_le_pow_right (by decide) (by omega)
            have p6 : (256 : Nat) ^ 6 = 281474976710656 := by decide
            omega
          have HNX := Lib.hid hnx
          have hB256 := (s.data.toList.getD i 0).toNat_lt
          clear hnx hgd
          generalize (s.data.toList.getD i 0).toNat = B at hbi hB256 HNX
          generalize hV : beN (s.data.toList.take i) = V at hvs HNX HP2
          clear hV
          have p0 : wr.cell? ⟨gp, 0, none⟩ = some (.int .i64 (V : Int)) := HP2.out.cell 0
          have fz := HP2.out.frozen 0
          go_upto_region 7 with (fail)
          have hw1 : IntKind.i64.wrap (256 * (V : Int)) = 256 * (V : Int) := IntWalk.i64_in _ (by omega)
          have hw2 : IntKind.i64.wrap (B : Int) = (B : Int) := IntWalk.i64_in _ (by omega)
          have hw3 : IntKind.i64.wrap (256 * (V : Int) + (B : Int)) = 256 * (V : Int) + (B : Int) := IntWalk.i64_in _ (by omega)
          go_still_tail 9, (by kernel_rfl)
          change wpList _ _ _ _ _ wr.drew
          have p0d : wr.drew.cell? ⟨gp, 0, none⟩ = some (.int .i64 (V : Int)) := p0
          have fzd : wr.drew.frozen? ⟨gp, 0, none⟩ = false := fz
          have hPd := HP2.out.drew 1
          have hRd := HR2.out.drew 1
          have hBd := HBEL.out.drew
          go_wp2
          go_roundw
          case rel =>
            refine ⟨i + 1, by omega, by omega, by go_num, ?_, ((HR2.out.far (p := ⟨gp, 0, none⟩) (by show w.heap.size ≠ gp; have := hRw.out; omega) _).drew 1), by have := HGE.out; simpa using this, ((HBEL.out.setCell (p := ⟨gp, 0, none⟩) (by show w.heap.size ≤ gp; have := hRw.out; omega) _).drew)⟩
            rw [HNX.out, show ((V * 256 + B : Nat) : Int) = 256 * (V : Int) + (B : Int) by omega]
            have h := HP2.out.set_ 0 (.int .i64 (256 * (V : Int) + (B : Int)))
            simp at h
            exact h
          case measure => simp [intOf]; omega
        · obtain rfl : i = 8 := by omega
          generalize beN (s.data.toList.take 8) = L at HD HP2 HS8
          have HTL := Lib.hid (show s.data.toList.length = 240 by rw [HLEN.out]; exact H240.out)
          go_wp2
          go_loopw [6, 7] (fun ta ti wr => ∃ (k at_ : Nat) (z : List Slot) (v : Value), k ≤ cnt ∧ ti = .int .i64 (k : Int) ∧ ta = .int .i64 (at_ : Int) ∧ at_ ≤ 240 ∧ takesL k (s.data.toList.drop 9) = some (z, s.data.toList.drop at_) ∧ Blk wr gp 27 #[.int .i64 (L : Int), v] ∧ Blk wr w.heap.size 27 #[.int .i64 0, .slice none 0 0] ∧ wr.ownsRow W1.heap.size 54 2 v z.length (cellsOf z) ∧ W1.heap.size ≤ wr.heap.size ∧ Below w.heap.size w wr) (fun _ ti _ => cnt - (intOf ti).toNat)
          case atStart => exact ⟨0, 9, [], .slice none 0 0, Nat.zero_le _, rfl, rfl, by omega, rfl, HP2.out, HR2.out, ⟨rfl, .inl ⟨rfl, rfl⟩⟩, HGE.out, HBEL.out⟩
          case round =>
            clear HP2 HR2 HGE HBEL
            obtain ⟨k, at_, z, v, hk, rfl, rfl, hat9, hT, hP2, hR2, hown, hge, hbel⟩ := hrel
            have HZL := Lib.hid (takesL_len hT).1
            have HZS := Lib.hid (takesL_len hT).2.2
            have HT := Lib.hid hT
            have HP2 := Lib.hid hP2
            have HR2 := Lib.hid hR2
            have HOWN := Lib.hid hown
            have HBEL := Lib.hid hbel
            have HGE := Lib.hid hge
            clear hT hP2 hR2 hown hge hbel
            have hcw : IntKind.i64.wrap (cnt : Int) = (cnt : Int) := IntWalk.i64_in _ (by omega)
            by_cases hlt : k < cnt
            · have hlt' : (k : Int) < (cnt : Int) := by omega
              by_cases hae : at_ < 240
              · have hae' : (at_ : Int) < 240 := by omega
                have ha0 : (0 : Int) ≤ (at_ : Int) := by omega
                have ha1 : (at_ : Int) < (s.size : Int) := by have := H240.out; omega
                have hal : at_ < s.size := by have := H240.out; omega
                have hbi : ∀ h : at_ < s.size, (s[at_]'h).toNat = (s.data.toList.getD at_ 0).toNat := fun h => HAT.out at_ h
                have hgd : (s.data.toList[at_]'(by rw [HTL.out]; omega)).toNat = (s.data.toList.getD at_ 0).toNat := by simp [List.getD, hal]
                have hB256 := (s.data.toList.getD at_ 0).toNat_lt
                generalize (s.data.toList.getD at_ 0).toNat = B at hbi hgd hB256
                have HGD := Lib.hid hgd
                clear hgd
                have hnm : z.length + 1 ≤ maxLen := by have := HZL.out; unfold maxLen; omega
                have hnb : (z.length + 1) * 24 ≤ 140737488355328 := by have := HZL.out; omega
                by_cases h255 : B = 255
                · subst h255
                  have HTN := Lib.hid (takesL_next HT.out (take_255 (by rw [HTL.out]; omega) HGD.out))
                  have p1 : wr.cell? ⟨gp, 1, none⟩ = some v := HP2.out.cell 1
                  obtain ⟨i0, hi, hz0, hz1, hz2⟩ := info_parts info_slot
                  go_wp2_with (at_builtin; refine wpList_append_own _ rfl _ _ 25 rfl W1.heap.size 54 i0 (.agg #[.bool false, .string ⟨#[]⟩]) 2 24 Try.underlying25 hi hz0 hz1 hz2 rfl (by decide) v z.length (cellsOf z) rfl (own_below HOWN.out ((Below.refl _ _).alloc (Nat.le_refl _) _)) ⟨wr.heap.size, 0, none⟩ 1 1 [.bool false, .string ⟨#[]⟩] rfl rfl ?c1 ?c2 ?c3 ?c4 ?c5 ?_)
                  case c1 =>
                    intro j u hj
                    match j, hj with
                    | 0, hj => simp at hj; subst hj; simp [Addr.add]
                    | 1, hj => simp at hj; subst hj; simp [Addr.add]
                  case c2 => intro u hu; simp at hu; rcases hu with rfl | rfl <;> rfl
                  case c3 => exact hnm
                  case c4 => exact hnb
                  case c5 => have h1 := HGE.out; simp; omega
                  intro v' w8 hown' hgrow' _
                  have hown8 : w8.ownsRow W1.heap.size 54 2 v' (z ++ [nos]).length (cellsOf (z ++ [nos])) := by
                    rw [List.length_append, ← cells_snoc]; exact hown'
                  have hzs8 : ∀ x ∈ (z ++ [nos]), x.d.size ≤ 140737488351232 := fun x hx => by have := (takesL_len HTN.out).2.2 x hx; omega
                  obtain ⟨a8, c8, hv8, _, _⟩ := slots_of_own hown8 hzs8
                  subst hv8
                  have hgb : gp < W1.heap.size := hPw.out
                  have hrb : w.heap.size < gp := hRw.out
                  have hP8 := ((HP2.out).alloc (.cells #[.bool false, .string ⟨#[]⟩] 54)).grown hgrow' (own_ne HOWN.out hgb)
                  have hR8 := ((HR2.out).alloc (.cells #[.bool false, .string ⟨#[]⟩] 54)).grown hgrow' (own_ne HOWN.out (by omega))
                  have rc1 : w8.cell? ⟨gp, 1, none⟩ = some v := hP8.cell 1
                  have fr1 := hP8.frozen 1
                  have hbel8 := Lib.hid (((((HBEL.out).alloc (by have h1 := HBEL.out.size; have h2 := HGE.out; simp; try omega) (.cells #[.bool false, .string ⟨#[]⟩] 54)).grown hgrow' (by have h1 := HBEL.out.size; simp; try omega) (fun j hj => by have := own_block_ge HOWN.out hj; omega)).setCell (p := ⟨gp, 1, none⟩) (by show w.heap.size ≤ gp; omega) (.slice a8 (z ++ [nos]).length c8)))
                  have hP9 : Blk (w8.setCell ⟨gp, 1, none⟩ (.slice a8 (z ++ [nos]).length c8)) gp 27 #[.int .i64 (L : Int), .slice a8 (z ++ [nos]).length c8] := by simpa using hP8.set_ 1 (.slice a8 (z ++ [nos]).length c8)
                  have HP9 := Lib.hid hP9
                  have HR9 := Lib.hid (hR8.far (p := ⟨gp, 1, none⟩) (by show w.heap.size ≠ gp; omega) (.slice a8 (z ++ [nos]).length c8))
                  have HO9 := Lib.hid (own_far hown8 hgb 1 (.slice a8 (z ++ [nos]).length c8))
                  have hge9 : W1.heap.size ≤ (w8.setCell ⟨gp, 1, none⟩ (.slice a8 (z ++ [nos]).length c8)).heap.size := by
                    have h1 := HGE.out; have h3 := hgrow'.size
                    simp at h3 ⊢; omega
                  have HG9 := Lib.hid hge9
                  clear hown' hown8 hgrow' hP8 hR8 hP9 hzs8 hge9 p1 hgb hrb
                  generalize hn8 : (z ++ [nos]).length = n8 at HP9 HR9 HO9 HG9 hbel8 ⊢
                  have HN8 := Lib.hid hn8
                  clear hn8
                  go_wp2
                  refine ⟨?_, ?measure⟩
                  iterate 60 (try apply Exists.intro)
                  refine ⟨?rel, rfl⟩
                  case rel => exact ⟨k + 1, at_ + 1, (z ++ [nos]), .slice a8 n8 c8, by omega, by go_num, by go_num, by omega, HTN.out, HP9.out, HR9.out, by rw [HN8.out]; exact HO9.out, HG9.out, hbel8.out⟩
                  case measure => simp [intOf]; omega
                · by_cases hfit : at_ + 1 + B ≤ 240
                  · have HTN := Lib.hid (takesL_next HT.out (take_rec (by rw [HTL.out]; omega) HGD.out h255 (by rw [HTL.out]; exact hfit)))
                    have hne5 : ((B : Int) == 255) = false := by simp; omega
                    have hle : ¬ (240 : Int) < (at_ : Int) + 1 + (B : Int) := by omega
                    obtain ⟨xd, hxd⟩ : ∃ xd : ByteArray, xd = ⟨((s.data.toList.drop (at_ + 1)).take B).toArray⟩ := ⟨_, rfl⟩
                    rw [← hxd] at HTN
                    have hex : s.extract (at_ + 1) (at_ + 1 + B) = xd := by rw [ext_mid, hxd]
                    clear hxd
                    have p1 : wr.cell? ⟨gp, 1, none⟩ = some v := HP2.out.cell 1
                    obtain ⟨i0, hi, hz0, hz1, hz2⟩ := info_parts info_slot
                    go_upto_region 20 with (fail)
                    have hs0 : (0 : Int) ≤ (at_ : Int) + 1 := by omega
                    have hs1 : (at_ : Int) + 1 ≤ (at_ : Int) + 1 + (B : Int) := by omega
                    have hs2 : (at_ : Int) + 1 + (B : Int) ≤ (s.size : Int) := by have := H240.out; omega
                    have hs3 : (0 : Int) ≤ (at_ : Int) + 1 + (B : Int) := by omega
                    have hw3 : IntKind.i64.wrap ((at_ : Int) + 1 + (B : Int)) = (at_ : Int) + 1 + (B : Int) := IntWalk.i64_in _ (by omega)
                    have hB20 := Blk.new wr 54 #[.bool true, .string xd]
                    have HB20 := Lib.hid hB20
                    have HO20 := Lib.hid (own_below HOWN.out ((Below.refl _ _).alloc (Nat.le_refl _) (.cells #[.bool true, .string xd] 54)))
                    have HP20 := Lib.hid (HP2.out.alloc (.cells #[.bool true, .string xd] 54))
                    have HZL := Lib.hid (show z.length ≤ 300 by have := takesL_len HT.out; omega)
                    have HBS := Lib.hid (show W1.heap.size ≤ (wr.alloc (.cells #[.bool true, .string xd] 54)).drew.heap.size from Nat.le_trans HGE.out (by simp))
                    clear hB20
                    have hnt : ((at_ : Int) + 1 + (B : Int)).toNat = at_ + 1 + B := by omega
                    have p1b : (wr.alloc (.cells #[.bool true, .string xd] 54)).cell? ⟨gp, 1, none⟩ = some v := HP20.out.cell 1
                    have HZS := Lib.hid (show ∀ x ∈ (z ++ [(⟨true, xd⟩ : Slot)]), x.d.size ≤ 140737488351232 from fun x hx => by have := (takesL_len HTN.out).2.2 x hx; omega)
                    have p1c : (wr.alloc (.cells #[.bool true, .string xd] 54)).drew.cell? ⟨gp, 1, none⟩ = some v := p1b
                    go_region_law (focus (refine step_app_slot ?_ (.tmp 67) (.tmp 75) ?_ v z xd wr.heap.size W1.heap.size ?_ ?_ HZL.out ?_ ?_ ?_ ?_; (focus (rfl)); (focus (rfl)); (focus (with_unfolding_all rfl)); (focus (with_unfolding_all rfl)); (focus (exact HO20.out)); (focus (exact HB20.out)); (focus (exact HBS.out)); intro v' w8 hown8 hgrow'; obtain ⟨a8, c8, hv8, _, _⟩ := slots_of_own hown8 HZS.out; subst hv8; have hP8 := (show Blk (wr.alloc (.cells #[.bool true, .string xd] 54)).drew gp 27 #[.int .i64 (L : Int), v] from HP20.out).grown hgrow' (own_ne HOWN.out hPw.out); have rc1 : w8.cell? ⟨gp, 1, none⟩ = some v := hP8.cell 1; have fr1 := hP8.frozen 1))
                    all_goals
                      have hgb : gp < W1.heap.size := hPw.out
                      have hrb : w.heap.size < gp := hRw.out
                      have hR8 := (show Blk (wr.alloc (.cells #[.bool true, .string xd] 54)).drew w.heap.size 27 #[.int .i64 0, .slice none 0 0] from HR2.out.alloc (.cells #[.bool true, .string xd] 54)).grown hgrow' (own_ne HOWN.out (by omega))
                      have hbd : Below w.heap.size w (wr.alloc (.cells #[.bool true, .string xd] 54)).drew := ((HBEL.out).alloc (by have h1 := HBEL.out.size; have h2 := HGE.out; simp; try omega) (.cells #[.bool true, .string xd] 54)).drew
                      have hbel8 := Lib.hid ((hbd.grown hgrow' (Nat.le_trans HBEL.out.size (by simp)) (fun j hj => by have := own_block_ge HOWN.out hj; omega)).setCell (p := ⟨gp, 1, none⟩) (by show w.heap.size ≤ gp; omega) (.slice a8 (z ++ [(⟨true, xd⟩ : Slot)]).length c8))
                      have hP9 : Blk (w8.setCell ⟨gp, 1, none⟩ (.slice a8 (z ++ [(⟨true, xd⟩ : Slot)]).length c8)) gp 27 #[.int .i64 (L : Int), .slice a8 (z ++ [(⟨true, xd⟩ : Slot)]).length c8] := by simpa using hP8.set_ 1 (.slice a8 (z ++ [(⟨true, xd⟩ : Slot)]).length c8)
                      have HP9 := Lib.hid hP9
                      have HR9 := Lib.hid (hR8.far (p := ⟨gp, 1, none⟩) (by show w.heap.size ≠ gp; omega) (.slice a8 (z ++ [(⟨true, xd⟩ : Slot)]).length c8))
                      have HO9 := Lib.hid (own_far hown8 hgb 1 (.slice a8 (z ++ [(⟨true, xd⟩ : Slot)]).length c8))
                      have hge9 : W1.heap.size ≤ (w8.setCell ⟨gp, 1, none⟩ (.slice a8 (z ++ [(⟨true, xd⟩ : Slot)]).length c8)).heap.size := by
                        have h1 := HGE.out; have h3 := hgrow'.size
                        simp at h3 ⊢; omega
                      have HG9 := Lib.hid hge9
                      clear hown8 hgrow' hP8 hR8 hP9 hge9 p1 p1b p1c hgb hrb hbd rc1 fr1 hnt
                      have hnl : (z ++ [(⟨true, xd⟩ : Slot)]).length = z.length + 1 := by simp
                      have HLE := Lib.hid (show W1.heap.size ≤ w8.heap.size by have := HG9.out; simpa using this)
                      have hall := And.intro HP9.out (And.intro HR9.out (And.intro HO9.out hbel8.out))
                      rw [hnl] at hall
                      have HALL := Lib.hid hall
                      have HNL := Lib.hid hnl
                      clear hall hnl HP9 HR9 HO9 HG9 hbel8
                      go_wp2
                      refine ⟨?_, ?measure⟩
                      iterate 60 (try apply Exists.intro)
                      refine ⟨?rel, rfl, rfl, rfl⟩
                      case rel =>
                        obtain ⟨q1, q2, q3, q4⟩ := HALL.out
                        exact ⟨k + 1, by omega, by go_num, at_ + 1 + B, by go_num, by omega, (z ++ [(⟨true, xd⟩ : Slot)]), HTN.out, _, q1, q2, by rw [HNL.out]; exact q3, HLE.out, q4⟩
                      case measure => simp [intOf]; omega
                  · have hD : D = (0, [], 4) := by
                      obtain ⟨j, hj⟩ : ∃ j, cnt = k + 1 + j := ⟨cnt - (k + 1), by omega⟩
                      rw [HD.out, hj, takesL_stop HT.out (take_short (by rw [HTL.out]; omega) HGD.out h255 (by rw [HTL.out]; exact hfit)) j]; rfl
                    subst hD
                    have hne5 : ((B : Int) == 255) = false := by simp; omega
                    have hgt : (240 : Int) < (at_ : Int) + 1 + (B : Int) := by omega
                    have HR7 := HR2.out
                    have q0 : wr.cell? ⟨w.heap.size, 0, none⟩ = some (.int .i64 0) := HR7.cell 0
                    have q1 : wr.cell? ⟨w.heap.size, 1, none⟩ = some (.slice none 0 0) := HR7.cell 1
                    have f0 := HR7.frozen 0
                    have f1 := HR7.frozen 1
                    go_wp2
                    exact bodyPost_ret (v := .tuple #[.agg #[.int .i64 0, .slice none 0 0], .int .i64 4]) (by simp [results, Try.results17, go_sem, q0, q1]) rfl ⟨none, 0, 0, rfl, Slots.nil _ _, ((HBEL.out).setCell (p := ⟨w.heap.size, 0, none⟩) (Nat.le_refl _) _).setCell (p := ⟨w.heap.size, 1, none⟩) (Nat.le_refl _) _, fun _ _ _ e => by cases e⟩
              · have hD : D = (0, [], 4) := by
                  obtain ⟨j, hj⟩ : ∃ j, cnt = k + 1 + j := ⟨cnt - (k + 1), by omega⟩
                  rw [HD.out, hj, takesL_stop HT.out (take_end (by rw [HTL.out]; omega)) j]; rfl
                subst hD
                have hge' : (240 : Int) ≤ (at_ : Int) := by omega
                have HR7 := HR2.out
                have q0 : wr.cell? ⟨w.heap.size, 0, none⟩ = some (.int .i64 0) := HR7.cell 0
                have q1 : wr.cell? ⟨w.heap.size, 1, none⟩ = some (.slice none 0 0) := HR7.cell 1
                have f0 := HR7.frozen 0
                have f1 := HR7.frozen 1
                go_wp2
                exact bodyPost_ret (v := .tuple #[.agg #[.int .i64 0, .slice none 0 0], .int .i64 4]) (by simp [results, Try.results17, go_sem, q0, q1]) rfl ⟨none, 0, 0, rfl, Slots.nil _ _, ((HBEL.out).setCell (p := ⟨w.heap.size, 0, none⟩) (Nat.le_refl _) _).setCell (p := ⟨w.heap.size, 1, none⟩) (Nat.le_refl _) _, fun _ _ _ e => by cases e⟩
            · obtain rfl : k = cnt := by omega
              obtain ⟨a, c, rfl, hS, hF⟩ := slots_of_own HOWN.out (fun x hx => by have := HZS.out x hx; omega)
              have hd : D = decOf (L : Int) (some (z, s.data.toList.drop at_)) := by rw [HD.out, HT.out]
              have hnz : z.length ≤ 1000000 := by have := HZL.out; omega
              have HS := Lib.hid hS
              have HF := Lib.hid hF
              have HDD := Lib.hid hd
              clear hS hF hd
              go_wp2
              go_loopw [6] (fun ta W => ∃ (a' : Nat), ta = .int .i64 (a' : Int) ∧ a' ≤ 240 ∧ (s.data.toList.drop at_).any nzB = (s.data.toList.drop a').any nzB ∧ wr = W) (fun ta _ => 240 - (intOf ta).toNat)
              case atStart => exact ⟨at_, rfl, hat9, rfl, rfl⟩
              case round =>
                obtain ⟨a', rfl, ha', hany, rfl⟩ := hrel
                have HANY := Lib.hid hany
                clear hany
                by_cases hal : a' < 240
                · have ha0 : (0 : Int) ≤ (a' : Int) := by omega
                  have ha1 : (a' : Int) < (s.size : Int) := by have := H240.out; omega
                  have has : a' < s.size := by have := H240.out; omega
                  have hbi : ∀ h : a' < s.size, (s[a']'h).toNat = (s.data.toList.getD a' 0).toNat := fun h => HAT.out a' h
                  have hgd : (s.data.toList[a']'(by rw [HTL.out]; omega)).toNat = (s.data.toList.getD a' 0).toNat := by simp [List.getD, has]
                  have hB256 := (s.data.toList.getD a' 0).toNat_lt
                  have hdr := drop_at (t := s.data.toList) (i := a') (by rw [HTL.out]; omega)
                  generalize (s.data.toList.getD a' 0).toNat = B at hbi hgd hB256
                  have hn : (s.data.toList.drop a').any nzB = ((B != 0) || (s.data.toList.drop (a' + 1)).any nzB) := by rw [hdr, List.any_cons]; unfold nzB; rw [hgd]
                  have HN := Lib.hid hn
                  clear hn hdr hgd
                  by_cases hB0 : B = 0
                  · subst hB0
                    go_wp2
                    go_roundw
                    case rel => exact ⟨a' + 1, by go_num, by omega, by rw [HANY.out, HN.out]; rfl, trivial⟩
                    case measure => simp [intOf]; omega
                  · have hBne : ((B : Int) != 0) = true := by simp; omega
                    have hD : D = (0, [], 4) := by
                      rw [HDD.out, decOf_some, if_neg]
                      rintro ⟨_, h⟩
                      rw [HANY.out, HN.out] at h
                      simp [hB0] at h
                    subst hD
                    have HR7 := HR2.out
                    have q0 : wr.cell? ⟨w.heap.size, 0, none⟩ = some (.int .i64 0) := HR7.cell 0
                    have q1 : wr.cell? ⟨w.heap.size, 1, none⟩ = some (.slice none 0 0) := HR7.cell 1
                    have f0 := HR7.frozen 0
                    have f1 := HR7.frozen 1
                    go_wp2
                    exact bodyPost_ret (v := .tuple #[.agg #[.int .i64 0, .slice none 0 0], .int .i64 4]) (by simp [results, Try.results17, go_sem, q0, q1]) rfl ⟨none, 0, 0, rfl, Slots.nil _ _, ((HBEL.out).setCell (p := ⟨w.heap.size, 0, none⟩) (Nat.le_refl _) _).setCell (p := ⟨w.heap.size, 1, none⟩) (Nat.le_refl _) _, fun _ _ _ e => by cases e⟩
                · obtain rfl : a' = 240 := by omega
                  have hz : (s.data.toList.drop at_).any nzB = false := by rw [HANY.out, List.drop_of_length_le (by rw [HTL.out]; omega)]; rfl
                  have p0 : wr.cell? ⟨gp, 0, none⟩ = some (.int .i64 (L : Int)) := HP2.out.cell 0
                  have p1 : wr.cell? ⟨gp, 1, none⟩ = some (.slice a z.length c) := HP2.out.cell 1
                  have HZ := Lib.hid hz
                  clear hz
                  cases hg : goodB (L : Int) z with
                  | false =>
                    have hD : D = (0, [], 4) := by rw [HDD.out, decOf_some, if_neg (by rw [hg]; simp)]
                    have HG := Lib.hid hg
                    clear hg
                    subst hD
                    go_wp2_with fail
                    refine (rgood_any (L : Int) a z.length c z _ HS.out hnz).mono ?_
                    rw [HG.out]
                    rintro e W7 ⟨rfl, b7⟩
                    have HR7 := HR2.out.below b7 HR2.out.lt
                    have q0 : W7.cell? ⟨w.heap.size, 0, none⟩ = some (.int .i64 0) := HR7.cell 0
                    have q1 : W7.cell? ⟨w.heap.size, 1, none⟩ = some (.slice none 0 0) := HR7.cell 1
                    have f0 := HR7.frozen 0
                    have f1 := HR7.frozen 1
                    go_wp2
                    exact bodyPost_ret (v := .tuple #[.agg #[.int .i64 0, .slice none 0 0], .int .i64 4]) (by simp [results, Try.results17, go_sem, q0, q1]) rfl ⟨none, 0, 0, rfl, Slots.nil _ _, (((HBEL.out.trans (b7.mono HBEL.out.size))).setCell (p := ⟨w.heap.size, 0, none⟩) (Nat.le_refl _) _).setCell (p := ⟨w.heap.size, 1, none⟩) (Nat.le_refl _) _, fun _ _ _ e => by cases e⟩
                  | true =>
                    have hD : D = ((L : Int), z, 0) := by rw [HDD.out, decOf_some, if_pos ⟨hg, HZ.out⟩]
                    have HG := Lib.hid hg
                    clear hg
                    subst hD
                    go_wp2_with fail
                    refine (rgood_any (L : Int) a z.length c z _ HS.out hnz).mono ?_
                    rw [HG.out]
                    rintro e W7 ⟨rfl, b7⟩
                    have hR7 := HR2.out.below b7 HR2.out.lt
                    have hP7 := HP2.out.below b7 HP2.out.lt
                    have q0 : W7.cell? ⟨w.heap.size, 0, none⟩ = some (.int .i64 0) := hR7.cell 0
                    have q1 : W7.cell? ⟨w.heap.size, 1, none⟩ = some (.slice none 0 0) := hR7.cell 1
                    have f0 := hR7.frozen 0
                    have f1 := hR7.frozen 1
                    have s0 : W7.cell? ⟨gp, 0, none⟩ = some (.int .i64 (L : Int)) := hP7.cell 0
                    have s1 : W7.cell? ⟨gp, 1, none⟩ = some (.slice a z.length c) := hP7.cell 1
                    go_wp2
                    have hfr : ∀ b off, a = some ⟨b, off, none⟩ → 0 < z.length → b ≠ w.heap.size := fun b off e _ => by have h1 := HF.out _ _ _ e; have h2 := hPw.out; have h3 := hRw.out; omega
                    exact bodyPost_ret (v := .tuple #[.agg #[.int .i64 (L : Int), .slice a z.length c], .int .i64 0]) (by simp [results, Try.results17, go_sem, q0, q1]) rfl ⟨a, z.length, c, rfl, ((HS.out.below b7).setCell _ hfr).setCell _ hfr, (((HBEL.out.trans (b7.mono HBEL.out.size)).setCell (p := ⟨w.heap.size, 0, none⟩) (Nat.le_refl _) _).setCell (p := ⟨w.heap.size, 1, none⟩) (Nat.le_refl _) _), fun b off e he => by have h1 := HF.out _ _ _ he; have h2 := hPw.out; have h3 := hRw.out; omega⟩
    · have hd := dec_high (by omega) (show ¬ ((s.data.toList.getD 0 0).toNat = 0 ∧ (s.data.toList.getD 1 0).toNat = 0) by rw [← hN0, ← hN1]; exact hz)
      rw [hd]
      have hq0 : ((N0 : Int) != 0) = !decide (N0 = 0) := by
        by_cases h : N0 = 0
        · subst h; rfl
        · have : ((N0 : Int) != 0) = true := by simp; omega
          rw [this]; simp [h]
      have hq1 : N0 = 0 → ((N1 : Int) != 0) = true := fun h => by
        have : N1 ≠ 0 := fun h1 => hz ⟨h, h1⟩
        simp; omega
      clear hat hN0 hN1 hd hlen
      by_cases h00 : N0 = 0
      · have hq := hq1 h00
        subst h00
        clear hq0 hq1
        go_enter Try.func17, Try.ntmps17
        go_upto_region 1 with (fail)
        generalize hGen : w.alloc (.cells #[.int .i64 0, .slice none 0 0] 27) = W at b0 hR ⊢
        clear hGen
        have q0 : W.cell? ⟨w.heap.size, 0, none⟩ = some (.int .i64 0) := hR.cell 0
        have q1 : W.cell? ⟨w.heap.size, 1, none⟩ = some (.slice none 0 0) := hR.cell 1
        have f0 := hR.frozen 0
        have f1 := hR.frozen 1
        go_wp2
        exact bodyPost_ret (v := .tuple #[.agg #[.int .i64 0, .slice none 0 0], .int .i64 4]) (by simp [results, Try.results17, go_sem, q0, q1]) rfl ⟨none, 0, 0, rfl, Slots.nil _ _, (b0.setCell (p := ⟨w.heap.size, 0, none⟩) (Nat.le_refl _) _).setCell (p := ⟨w.heap.size, 1, none⟩) (Nat.le_refl _) _, fun _ _ _ e => by cases e⟩
      · have hq : ((N0 : Int) != 0) = true := by rw [hq0]; simp [h00]
        clear hq0 hq1
        go_enter Try.func17, Try.ntmps17
        go_upto_region 1 with (fail)
        generalize hGen : w.alloc (.cells #[.int .i64 0, .slice none 0 0] 27) = W at b0 hR ⊢
        clear hGen
        have q0 : W.cell? ⟨w.heap.size, 0, none⟩ = some (.int .i64 0) := hR.cell 0
        have q1 : W.cell? ⟨w.heap.size, 1, none⟩ = some (.slice none 0 0) := hR.cell 1
        have f0 := hR.frozen 0
        have f1 := hR.frozen 1
        go_wp2
        exact bodyPost_ret (v := .tuple #[.agg #[.int .i64 0, .slice none 0 0], .int .i64 4]) (by simp [results, Try.results17, go_sem, q0, q1]) rfl ⟨none, 0, 0, rfl, Slots.nil _ _, (b0.setCell (p := ⟨w.heap.size, 0, none⟩) (Nat.le_refl _) _).setCell (p := ⟨w.heap.size, 1, none⟩) (Nat.le_refl _) _, fun _ _ _ e => by cases e⟩
  · have hd : decR s.data.toList = (0, [], 4) := by unfold decR; rw [if_neg (by omega)]
    rw [hd]
    have hne : ((s.size : Int) != 240) = true := by simp; omega
    go_enter Try.func17, Try.ntmps17
    go_upto_region 1 with (fail)
    generalize hGen : w.alloc (.cells #[.int .i64 0, .slice none 0 0] 27) = W at b0 hR ⊢
    clear hGen
    have q0 : W.cell? ⟨w.heap.size, 0, none⟩ = some (.int .i64 0) := hR.cell 0
    have q1 : W.cell? ⟨w.heap.size, 1, none⟩ = some (.slice none 0 0) := hR.cell 1
    have f0 := hR.frozen 0
    have f1 := hR.frozen 1
    go_wp2
    exact bodyPost_ret (v := .tuple #[.agg #[.int .i64 0, .slice none 0 0], .int .i64 4]) (by simp [results, Try.results17, go_sem, q0, q1]) rfl ⟨none, 0, 0, rfl, Slots.nil _ _, (b0.setCell (p := ⟨w.heap.size, 0, none⟩) (Nat.le_refl _) _).setCell (p := ⟨w.heap.size, 1, none⟩) (Nat.le_refl _) _, fun _ _ _ e => by cases e⟩
end Go.Proofs.Ytjffjmffoffblaa.Slab
