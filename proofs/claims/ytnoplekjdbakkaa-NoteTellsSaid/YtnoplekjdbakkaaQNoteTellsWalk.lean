/- The walk of the statement NoteTells. -/
import Derived.Test.YtnoplekjdbakkaaQNoteLaws
import Derived.Test.YtnoplekjdbakkaaQSumTellsWalk
import Derived.Deep.Cut
namespace Go.Proofs.Ytnoplekjdbakkaa.Note
set_option maxRecDepth 100000
open Go.RowKit Go.Sort
open Go.Proofs.Ytnoplekjdbakkaa.Nib (enc below_next below_drew Fits takeInt)
open Go.Proofs.Ytnoplekjdbakkaa.Slab (Slot Slots Blk ret_bool' ret_int')
open Go.Proofs.Ytnoplekjdbakkaa.Ent (Ent Ents EntAt SmallE withinB knownB noE entA below_box alloc_lt arr arr_list list_arr arr_size ent_cells Only)
theorem quadH_inj {a b : BitVec 32} (h : quadH a = quadH b) : a = b := by
  have ha := a.isLt
  have hb := b.isLt
  unfold quadH at h
  simp only [List.cons.injEq, and_true] at h
  obtain ⟨h0, h1, h2, h3⟩ := h
  have g0 := congrArg UInt8.toNat h0
  have g1 := congrArg UInt8.toNat h1
  have g2 := congrArg UInt8.toNat h2
  have g3 := congrArg UInt8.toNat h3
  rw [Sum.u8_toNat _ (by omega), Sum.u8_toNat _ (by omega)] at g0 g1 g2 g3
  apply BitVec.eq_of_toNat_eq
  omega
theorem four_list {l : List UInt8} (h : l.length = 4) : ∃ a b c d, l = [a, b, c, d] := Sum.four_of l h
/-- four bytes in the place of others -/
theorem tells_dec {m : Ms} (K : Nat) (q : List UInt8) (hq : q.length = 4) (hK : K = 0 ∨ 4 ≤ K) (hl : K + 4 ≤ (encL m).length)
    (hne : ¬ encL m = (encL m).take K ++ q ++ (encL m).drop (K + 4)) : decS ((encL m).take K ++ q ++ (encL m).drop (K + 4)) = (noM, 20) := by
  have hlen : ¬ ((encL m).take K ++ q ++ (encL m).drop (K + 4)).length < 4 := by
    rw [List.length_append, List.length_append, hq]; omega
  have key : ∀ t : List UInt8, ¬ t.length < 4 → ¬ t.take 4 = quadH (Sum.check (t.drop 4)) → decS t = (noM, 20) := fun t h1 h2 => by
    unfold decS; rw [if_neg h1, if_neg h2]
  refine key _ hlen ?_
  rcases hK with rfl | hK
  · have h4 : ([] ++ q ++ (encL m).drop (0 + 4)).take 4 = q := by rw [List.nil_append, ← hq, List.take_left]
    have h5 : ([] ++ q ++ (encL m).drop (0 + 4)).drop 4 = body m := by rw [List.nil_append, ← hq, List.drop_left, hq]; rfl
    have e0 : (encL m).take 0 = [] := rfl
    rw [e0] at hne ⊢
    rw [h4, h5]
    intro he
    apply hne
    rw [he]; rfl
  · obtain ⟨j, rfl⟩ : ∃ j, K = j + 4 := ⟨K - 4, by omega⟩
    have hbl : j + 4 ≤ (body m).length := by
      have : (encL m).length = 4 + (body m).length := by unfold encL; rw [List.length_append, quadH_len]
      omega
    have e1 : (encL m).take (j + 4) = quadH (Sum.check (body m)) ++ (body m).take j := rfl
    have e2 : (encL m).drop (j + 4 + 4) = (body m).drop (j + 4) := rfl
    rw [e1, e2] at hne ⊢
    have h4 : (quadH (Sum.check (body m)) ++ (body m).take j ++ q ++ (body m).drop (j + 4)).take 4 = quadH (Sum.check (body m)) := rfl
    have h5 : (quadH (Sum.check (body m)) ++ (body m).take j ++ q ++ (body m).drop (j + 4)).drop 4 = (body m).take j ++ q ++ (body m).drop (j + 4) := rfl
    rw [h4, h5]
    intro he
    have hc := quadH_inj he
    have hb : body m = (body m).take j ++ ((body m).drop j).take 4 ++ (body m).drop (j + 4) := by
      have h1 : ((body m).drop j).drop 4 = (body m).drop (j + 4) := by rw [List.drop_drop]
      rw [← h1, List.append_assoc, List.take_append_drop, List.take_append_drop]
    obtain ⟨a0, a1, a2, a3, ha⟩ := four_list (l := ((body m).drop j).take 4) (by simp; omega)
    obtain ⟨b0, b1, b2, b3, hb'⟩ := four_list hq
    have e3 := hc
    conv at e3 => lhs; rw [hb, ha]
    rw [hb'] at e3
    have ht := Sum.tells _ _ _ _ _ _ _ _ _ _ e3
    apply hne
    rw [hb', ← ht, ← ha]
    have hb2 : body m = (body m).take j ++ (((body m).drop j).take 4 ++ (body m).drop (j + 4)) := by rw [← List.append_assoc]; exact hb
    exact (congrArg (fun x => quadH (Sum.check (body m)) ++ x) hb2).trans (by simp only [List.append_assoc])
set_option maxRecDepth 100000 in
set_option maxHeartbeats 4000000 in
theorem tells_walk (m : Ms) (h : Hd) (at_ : Int) (x0 x1 x2 x3 : UInt8) (w : World) (hi : In w m h) (ha : -9223372036854775808 ≤ at_ ∧ at_ ≤ 9223372036854775807) :
    Calls Try.prog 6 #[.agg #[.int .i64 m.kind, .int .i64 m.page, .bool m.x, .bool m.need, .int .i64 m.n, .int .i64 m.cl, .int .i64 m.ep, .int .i64 m.tn, .int .i64 m.lsn, .slice h.a h.an h.ac, .slice h.b h.bn h.bc], .int .i64 at_, .agg #[.int .u8 (x0.toNat : Int), .int .u8 (x1.toNat : Int), .int .u8 (x2.toNat : Int), .int .u8 (x3.toNat : Int)]] w fun e w' => e = .returned (.bool true) ∧ Below w.heap.size w w' := by
  obtain ⟨ha1, ha2⟩ := ha
  have hb := (below_box w (.cells #[.int .i64 m.kind, .int .i64 m.page, .bool m.x, .bool m.need, .int .i64 m.n, .int .i64 m.cl, .int .i64 m.ep, .int .i64 m.tn, .int .i64 m.lsn, .slice h.a h.an h.ac, .slice h.b h.bn h.bc] 29)).trans ((below_box (w.alloc (.cells #[.int .i64 m.kind, .int .i64 m.page, .bool m.x, .bool m.need, .int .i64 m.n, .int .i64 m.cl, .int .i64 m.ep, .int .i64 m.tn, .int .i64 m.lsn, .slice h.a h.an h.ac, .slice h.b h.bn h.bc] 29)) (.cells #[.int .u8 (x0.toNat : Int), .int .u8 (x1.toNat : Int), .int .u8 (x2.toNat : Int), .int .u8 (x3.toNat : Int)] 40)).mono (by simp))
  have hM := (Blk.new w 29 #[.int .i64 m.kind, .int .i64 m.page, .bool m.x, .bool m.need, .int .i64 m.n, .int .i64 m.cl, .int .i64 m.ep, .int .i64 m.tn, .int .i64 m.lsn, .slice h.a h.an h.ac, .slice h.b h.bn h.bc]).alloc (.cells #[.int .u8 (x0.toNat : Int), .int .u8 (x1.toNat : Int), .int .u8 (x2.toNat : Int), .int .u8 (x3.toNat : Int)] 40)
  have hF := Blk.new (w.alloc (.cells #[.int .i64 m.kind, .int .i64 m.page, .bool m.x, .bool m.need, .int .i64 m.n, .int .i64 m.cl, .int .i64 m.ep, .int .i64 m.tn, .int .i64 m.lsn, .slice h.a h.an h.ac, .slice h.b h.bn h.bc] 29)) 40 #[.int .u8 (x0.toNat : Int), .int .u8 (x1.toNat : Int), .int .u8 (x2.toNat : Int), .int .u8 (x3.toNat : Int)]
  have hs : w.heap.size + 2 ≤ ((w.alloc (.cells #[.int .i64 m.kind, .int .i64 m.page, .bool m.x, .bool m.need, .int .i64 m.n, .int .i64 m.cl, .int .i64 m.ep, .int .i64 m.tn, .int .i64 m.lsn, .slice h.a h.an h.ac, .slice h.b h.bn h.bc] 29)).alloc (.cells #[.int .u8 (x0.toNat : Int), .int .u8 (x1.toNat : Int), .int .u8 (x2.toNat : Int), .int .u8 (x3.toNat : Int)] 40)).heap.size := by simp
  rw [World.size_alloc] at hF
  have HI := Lib.hid (hi.below hb)
  clear hi
  go_enter Try.func6, Try.ntmps6
  try dsimp only [List.append]
  go_upto_region 1 with (fail)
  generalize hGen : (w.alloc (.cells #[.int .i64 m.kind, .int .i64 m.page, .bool m.x, .bool m.need, .int .i64 m.n, .int .i64 m.cl, .int .i64 m.ep, .int .i64 m.tn, .int .i64 m.lsn, .slice h.a h.an h.ac, .slice h.b h.bn h.bc] 29)).alloc (.cells #[.int .u8 (x0.toNat : Int), .int .u8 (x1.toNat : Int), .int .u8 (x2.toNat : Int), .int .u8 (x3.toNat : Int)] 40) = W at hb hM hF hs HI ⊢
  clear hGen
  go_wp2_with fail
  refine (awake_any _).mono ?_
  rintro e w1 ⟨rfl, b1⟩
  have hM1 := hM.below b1 (by omega)
  have hF1 := hF.below b1 (by omega)
  have hb1 := below_next hb b1
  have hs1 := Nat.le_trans hs b1.size
  have HI1 := Lib.hid (HI.out.below b1)
  clear hM hF hb hs HI b1
  obtain ⟨c0, c1, c2, c3, c4, c5, c6, c7, c8, c9, c10⟩ := msg_cells hM1
  go_wp2_with fail
  refine (great_any m h _ HI1.out).mono ?_
  rintro e w2 ⟨g, rfl, hg, b2⟩
  have hM2 := hM1.below b2 (by omega)
  have hF2 := hF1.below b2 (by omega)
  have hb2 := below_next hb1 b2
  have hs2 := Nat.le_trans hs1 b2.size
  have HI2 := Lib.hid (HI1.out.below b2)
  clear c0 c1 c2 c3 c4 c5 c6 c7 c8 c9 c10 hM1 hF1 hb1 hs1 HI1 b2
  cases g with
  | true =>
    go_wp2
    go_ret
    exact ⟨rfl, hb2⟩
  | false =>
  obtain ⟨hga, hgb⟩ := hg rfl
  have HE := Lib.hid (encode_any m h w2 HI2.out (by omega) (by omega))
  clear hg hga hgb
  obtain ⟨c0, c1, c2, c3, c4, c5, c6, c7, c8, c9, c10⟩ := msg_cells hM2
  clear hM2
  cases hgd : goodM m with
  | false =>
    have he := enc_bad hgd
    rw [he.1, he.2] at HE
    clear he hgd
    go_wp2_with fail
    refine HE.out.mono ?_
    rintro e w3 ⟨rfl, b3⟩
    go_wp2
    go_ret
    exact ⟨rfl, below_next hb2 b3⟩
  | true =>
  have hl := body_len hgd
  have hsz : (arr (encL m)).size = 4 + (body m).length := by rw [arr_size]; unfold encL; rw [List.length_append, quadH_len]
  have he := encMsg_good hgd
  rw [he.1, he.2] at HE
  have HTD := Lib.hid (fun K q hq hK hl hne => tells_dec (m := m) K q hq hK hl hne)
  have HDE := Lib.hid (dec_enc hgd)
  have HAL := Lib.hid (show (arr (encL m)).data.toList = encL m from arr_list _)
  have HEX := Lib.hid (And.intro (ext_take (encL m)) (ext_drop (encL m)))
  have hSl : 5 ≤ (arr (encL m)).size := by omega
  have hSu : (arr (encL m)).size ≤ 10000 := by omega
  have HLL := Lib.hid (arr_size (encL m))
  clear he hgd hl hsz
  generalize hS : arr (encL m) = S at HE HAL hSl hSu HEX HLL
  have HSS := Lib.hid hS
  clear hS
  go_wp2_with fail
  refine HE.out.mono ?_
  rintro e w3 ⟨rfl, b3⟩
  have hF3 := hF2.below b3 (by omega)
  have hb3 := below_next hb2 b3
  have hs3 := Nat.le_trans hs2 b3.size
  clear c0 c1 c2 c3 c4 c5 c6 c7 c8 c9 c10 hF2 hb2 hs2 b3 HE HI2
  have HF3 := Lib.hid hF3
  clear hF3
  go_upto_if 26 with (fail)
  go_cut [9] from 26 (fun v wx => ∃ K : Nat, v = .int .i64 (K : Int) ∧ K + 4 ≤ S.size ∧ (K = 0 ∨ 4 ≤ K) ∧ w3 = wx)
  case first =>
    by_cases h8 : (8 : Int) ≤ (S.size : Int)
    · obtain ⟨K, hK, hKl⟩ : ∃ K : Nat, wrap64 ((IntKind.u64.wrap at_).tmod ((S.size : Int) - 3)) = (K : Int) ∧ K + 4 ≤ S.size := by
        have h0 : 0 ≤ IntKind.u64.wrap at_ := by rw [IntKind.wrap_u64]; omega
        rw [Int.tmod_eq_emod_of_nonneg h0]
        have h1 := Int.emod_nonneg (IntKind.u64.wrap at_) (b := ((S.size : Int) - 3)) (by omega)
        have h2 := Int.emod_lt_of_pos (IntKind.u64.wrap at_) (b := ((S.size : Int) - 3)) (by omega)
        generalize IntKind.u64.wrap at_ % ((S.size : Int) - 3) = z at h1 h2 ⊢
        exact ⟨z.toNat, by unfold wrap64; omega, by omega⟩
      have HW := Lib.hid hK
      clear hK
      go_upto_region 11 with (fail)
      rw [HW.out]
      by_cases k0 : (0 : Int) < (K : Int)
      · by_cases k4 : (K : Int) < 4
        · go_wp2_with fail
          go_meet
          case rel => exact ⟨4, rfl, by omega, .inr (by omega), rfl⟩
        · go_wp2_with fail
          go_meet
          case rel => exact ⟨K, rfl, hKl, .inr (by omega), rfl⟩
      · go_wp2_with fail
        go_meet
        case rel => exact ⟨K, rfl, hKl, .inl (by omega), rfl⟩
    · go_wp2_with fail
      go_meet
      case rel => exact ⟨0, rfl, by omega, .inl rfl, rfl⟩
  case rest =>
    obtain ⟨K, rfl, hKl, hK, rfl⟩ := hcut
    have HK := Lib.hid hK
    clear hK
    have hcv : ∀ n, (convert 42 9 (.slice (some ⟨w.heap.size + 1, 0, none⟩) 4 4)).run Try.prog (w3.drewN n) = .ok (.string (strOfNums [(x0.toNat : Int), x1.toNat, x2.toNat, x3.toNat])) (w3.drewN n) := fun n =>
      Sum.conv_at _ _ _ _ _ _ fun i hi => by
        rw [World.cell?_drewN]; exact HF3.out.cell i
    generalize hq : strOfNums [(x0.toNat : Int), x1.toNat, x2.toNat, x3.toNat] = q at hcv
    have hqs : q.size = 4 := by rw [← hq]; rfl
    clear hq
    have hsz1 : (S.extract 0 K).size = K := by rw [ByteArray.size_extract]; omega
    have hsz2 : (S.extract (K + 4) S.size).size = S.size - (K + 4) := by rw [ByteArray.size_extract]; omega
    have hadd1 : ∀ W, (Op.stringOp .add (S.extract 0 K) q).run Try.prog W = .ok (.string (S.extract 0 K ++ q)) W := fun W => run_string_add_sum W _ _ (by omega)
    have hadd2 : ∀ W, (Op.stringOp .add (S.extract 0 K ++ q) (S.extract (K + 4) S.size)).run Try.prog W = .ok (.string (S.extract 0 K ++ q ++ S.extract (K + 4) S.size)) W := fun W => run_string_add_sum W _ _ (by rw [ByteArray.size_append]; omega)
    obtain ⟨T, hT⟩ : ∃ T, S.extract 0 K ++ q ++ S.extract (K + 4) S.size = T := ⟨_, rfl⟩
    have hTs : T.size ≤ 140737488351232 := by rw [← hT, ByteArray.size_append, ByteArray.size_append]; omega
    have HTL := Lib.hid (show T.data.toList = (encL m).take K ++ q.data.toList ++ (encL m).drop (K + 4) from by
      rw [← hT, ← HSS.out, ext_take, ext_drop, Ent.app_list, Ent.app_list, arr_list, arr_list])
    have HD := Lib.hid (fun w => decode_any T.data.toList w (by simpa using hTs))
    have hTT : arr T.data.toList = T := list_arr T
    rw [hTT] at HD
    simp only [hT] at hadd2
    clear hT hTT hTs
    have hcut := Sum.run_cut4
    have hk0 : (K : Int) ≤ S.size := by omega
    have hk1 : (K : Int) + 4 ≤ S.size := by omega
    have hql : q.data.toList.length = 4 := by simpa using hqs
    have HQL := Lib.hid hql
    clear hql hqs hsz1 hsz2
    go_upto_region 15 with (fail)
    go_quiet (fail)
    clear hcut hcv hadd1 hadd2
    by_cases htt : S = T
    · have HDS := Lib.hid (show decS T.data.toList = (m, 0) from by rw [← htt, HAL.out]; exact HDE.out)
      have hbe : (S.toList == T.toList) = true := by rw [htt]; exact beq_self_eq_true _
      clear htt
      go_wp2_with fail
      refine (HD.out _).mono ?_
      rw [HDS.out]
      rintro e w4 ⟨hd, rfl, _, b4⟩
      have hb4 := below_next (below_drew hb3 _) b4
      clear b4
      go_wp2
      go_ret
      exact ⟨rfl, below_next hb4 (below_box _ _)⟩
    · have HDS := Lib.hid (show decS T.data.toList = (noM, 20) from by
        rw [HTL.out]
        refine HTD.out K q.data.toList HQL.out HK.out (by have := HLL.out; omega) ?_
        intro e
        apply htt
        apply Slab.str_inj
        rw [HTL.out, HAL.out]; exact e)
      have hne : (S.toList == T.toList) = false := Sum.str_ne htt
      clear htt
      go_wp2_with fail
      refine (HD.out _).mono ?_
      rw [HDS.out]
      rintro e w4 ⟨hd, rfl, _, b4⟩
      have hb4 := below_next (below_drew hb3 _) b4
      clear b4
      go_wp2
      go_ret
      exact ⟨rfl, below_next hb4 (below_box _ _)⟩
end Go.Proofs.Ytnoplekjdbakkaa.Note
