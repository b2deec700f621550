/- The walk of the statement EntryOne. -/
import Derived.Test.YtjaafdkmhkhehaaEntLaws
import Derived.Test.YtjaafdkmhkhehaaSlabFitsMath
namespace Go.Proofs.Ytjaafdkmhkhehaa.Ent
open Go.RowKit
open Go.Proofs.Ytjaafdkmhkhehaa.Slab (Blk ret_int' ret_bool')
open Go.Proofs.Ytjaafdkmhkhehaa.Nib (below_next below_drew enc encStr Fits)

theorem dec_cases (s : ByteArray) : (∃ x t, goodB x = true ∧ arr (rawL x) ++ t = s ∧ decX s.data.toList = x ∧ decT s.data.toList = t.data.toList ∧ decC s.data.toList = 0) ∨
    (decX s.data.toList = noE ∧ decT s.data.toList = (⟨#[]⟩ : ByteArray).data.toList ∧ decC s.data.toList = 4) := by
  rcases dec_parts s.data.toList with ⟨h1, h2, h3⟩ | ⟨h1, h2, h3⟩
  · left
    refine ⟨decX s.data.toList, arr (decT s.data.toList), h2, ?_, rfl, by rw [arr_list], h1⟩
    apply ByteArray.ext
    apply Array.toList_inj.1
    rw [app_list, arr_list, arr_list, ← h3]
  · exact .inr ⟨h2, by rw [h3], h1⟩
theorem toList_nil : (⟨#[]⟩ : ByteArray).toList = [] := by rw [ByteArray.toList_eq]

set_option maxRecDepth 100000 in
set_option maxHeartbeats 4000000 in
theorem one_walk (s : ByteArray) (cut : Int) (w : World) (hs : s.size ≤ 140737488351232) (_hc : -9223372036854775808 ≤ cut ∧ cut ≤ 9223372036854775807) :
    Calls Try.prog 9 #[.string s, .int .i64 cut] w fun e w' => e = .returned (.bool true) ∧ Below w.heap.size w w' := by
  rcases dec_cases s with ⟨x, r, hg, hcat, h1, h2, h3⟩ | hno
  · have HD := Lib.hid (fun w => decode_is (x := x) (t := r) (c := 0) ⟨h1, h2, h3⟩ w hs)
    have hsm : Small x := by rw [← h1]; rcases dec_parts s.data.toList with ⟨_, hq, _⟩ | ⟨hq, _, _⟩; exact good_small hq; rw [hq] at h3; exact absurd h3 (by decide)
    have HE := fun w => encode_any x w hsm
    have he : encE x = arr (rawL x) ∧ codeE x = 0 := by unfold encE codeE; rw [hg]; exact ⟨rfl, rfl⟩
    rw [he.1, he.2] at HE
    have HE := Lib.hid HE
    obtain ⟨l1, l2⟩ := raw_len hg
    have hts : (arr (rawL x)).size = (rawL x).length := arr_size _
    obtain ⟨K, hK, hKl⟩ := Slab.cut_of cut ((arr (rawL x)).size : Int) (by omega) (by omega)
    have hKn : K < (rawL x).length := by omega
    have hcut : decC ((arr (rawL x)).extract 0 K).data.toList = 4 := by
      have e : ((arr (rawL x)).extract 0 K).data.toList = (rawL x).take K := by rw [← Nib.str_take]; simp [arr]
      rw [e]; exact dec_cut hg hKn
    have hD2 : decX ((arr (rawL x)).extract 0 K).data.toList = noE ∧ decT ((arr (rawL x)).extract 0 K).data.toList = (⟨#[]⟩ : ByteArray).data.toList ∧ decC ((arr (rawL x)).extract 0 K).data.toList = 4 := by
      rcases dec_cases ((arr (rawL x)).extract 0 K) with ⟨_, _, _, _, _, _, h⟩ | h
      · rw [hcut] at h; exact absurd h (by decide)
      · exact h
    have hsz : ((arr (rawL x)).extract 0 K).size ≤ 140737488351232 := by rw [ByteArray.size_extract]; omega
    have HD2 := Lib.hid (fun w => decode_is (x := noE) (t := ⟨#[]⟩) (c := 4) hD2 w hsz)
    have t1 : 6 ≤ (arr (rawL x)).size := by omega
    have t2 : (arr (rawL x)).size ≤ 464 := by omega
    have hrs : r.size ≤ 140737488351232 := by have := congrArg ByteArray.size hcat; rw [ByteArray.size_append] at this; omega
    generalize arr (rawL x) = t at HE HD2 hcat hK hKl t1 t2
    have hne : t.toList ≠ [] := by
      intro h
      have h2 : t.data.toList.length = t.size := by simp
      rw [ByteArray.toList_eq] at h
      rw [h] at h2; simp at h2; omega
    have n1 : (t.toList == (⟨#[]⟩ : ByteArray).toList) = false := by rw [toList_nil]; exact beq_eq_false_iff_ne.2 hne
    have n2 : (t.toList == []) = false := beq_eq_false_iff_ne.2 hne
    have HK := Lib.hid hK
    have HCAT := Lib.hid hcat
    clear h1 h2 h3 hsm he l1 l2 hts hKn hcut hD2 hsz hg hK hcat
    go_enter Try.func9, Try.ntmps9
    go_wp2_with fail
    refine (awake_any _).mono ?_
    rintro e w1 ⟨rfl, b1⟩
    go_wp2_with fail
    refine (HD.out _).mono ?_
    rintro e w2 ⟨rfl, b2⟩
    have HB2 := Lib.hid (below_next (below_next b1 b2) (below_box w2 (.cells #[.int .i64 x.kind, .int .i64 x.cl, .int .i64 x.ep, .int .i64 x.n, .int .i64 x.lsn, .int .i64 x.prev, .int .i64 x.page, .int .i64 x.slot, .bool x.wu, .string x.wd, .bool x.iu, .string x.id, .int .i64 x.next] 47)))
    have hX := Blk.new w2 47 #[.int .i64 x.kind, .int .i64 x.cl, .int .i64 x.ep, .int .i64 x.n, .int .i64 x.lsn, .int .i64 x.prev, .int .i64 x.page, .int .i64 x.slot, .bool x.wu, .string x.wd, .bool x.iu, .string x.id, .int .i64 x.next]
    have hg := alloc_lt w2 (.cells #[.int .i64 x.kind, .int .i64 x.cl, .int .i64 x.ep, .int .i64 x.n, .int .i64 x.lsn, .int .i64 x.prev, .int .i64 x.page, .int .i64 x.slot, .bool x.wu, .string x.wd, .bool x.iu, .string x.id, .int .i64 x.next] 47)
    clear b1 b2
    go_upto_region 4 with (fail)
    generalize hGen : w2.alloc (.cells #[.int .i64 x.kind, .int .i64 x.cl, .int .i64 x.ep, .int .i64 x.n, .int .i64 x.lsn, .int .i64 x.prev, .int .i64 x.page, .int .i64 x.slot, .bool x.wu, .string x.wd, .bool x.iu, .string x.id, .int .i64 x.next] 47) = W at HB2 hX hg ⊢
    clear hGen
    obtain ⟨c0, c1, c2, c3, c4, c5, c6, c7, c8, c9, c10, c11, c12⟩ := ent_cells hX
    go_wp2_with fail
    refine (HE.out _).mono ?_
    rintro e w3 ⟨rfl, b3⟩
    have HB3 := Lib.hid (below_next HB2.out b3)
    clear c0 c1 c2 c3 c4 c5 c6 c7 c8 c9 c10 c11 c12 hX hg HB2 b3
    have hcat := HCAT.out
    go_upto_region 9 with (fail)
    have hK := HK.out
    have k0 : (K : Int) ≤ (t.size : Int) := by omega
    go_wp2_with fail
    refine (HD2.out _).mono ?_
    rintro e w4 ⟨rfl, b4⟩
    go_wp2
    go_ret
    exact ⟨rfl, below_next (below_next HB3.out b4) (below_box _ _)⟩
  · have HD := Lib.hid (fun w => decode_is (x := noE) (t := ⟨#[]⟩) (c := 4) hno w hs)
    have hq : ∀ w, (binOp .eql 47 (.agg #[.int .i64 0, .int .i64 0, .int .i64 0, .int .i64 0, .int .i64 0, .int .i64 0, .int .i64 0, .int .i64 0, .bool false, .string ⟨#[]⟩, .bool false, .string ⟨#[]⟩, .int .i64 0]) (.agg #[.int .i64 0, .int .i64 0, .int .i64 0, .int .i64 0, .int .i64 0, .int .i64 0, .int .i64 0, .int .i64 0, .bool false, .string ⟨#[]⟩, .bool false, .string ⟨#[]⟩, .int .i64 0])).run Try.prog w = .ok (.bool true) w := fun w => by rw [← sameE_refl noE]; exact run_eq_ent noE noE w
    have hgd := fun (A B : Operand) xs ys w => run_guard_ent .eql A B xs ys w
    clear hno
    go_enter Try.func9, Try.ntmps9
    go_wp2_with fail
    refine (awake_any _).mono ?_
    rintro e w1 ⟨rfl, b1⟩
    go_wp2_with fail
    refine (HD.out _).mono ?_
    rintro e w2 ⟨rfl, b2⟩
    have HB2 := Lib.hid (below_next (below_next b1 b2) (below_box w2 (.cells #[.int .i64 0, .int .i64 0, .int .i64 0, .int .i64 0, .int .i64 0, .int .i64 0, .int .i64 0, .int .i64 0, .bool false, .string ⟨#[]⟩, .bool false, .string ⟨#[]⟩, .int .i64 0] 47)))
    have hX : Blk (w2.alloc (.cells #[.int .i64 0, .int .i64 0, .int .i64 0, .int .i64 0, .int .i64 0, .int .i64 0, .int .i64 0, .int .i64 0, .bool false, .string ⟨#[]⟩, .bool false, .string ⟨#[]⟩, .int .i64 0] 47)) w2.heap.size 47 #[.int .i64 noE.kind, .int .i64 noE.cl, .int .i64 noE.ep, .int .i64 noE.n, .int .i64 noE.lsn, .int .i64 noE.prev, .int .i64 noE.page, .int .i64 noE.slot, .bool noE.wu, .string noE.wd, .bool noE.iu, .string noE.id, .int .i64 noE.next] := Blk.new w2 47 #[.int .i64 0, .int .i64 0, .int .i64 0, .int .i64 0, .int .i64 0, .int .i64 0, .int .i64 0, .int .i64 0, .bool false, .string ⟨#[]⟩, .bool false, .string ⟨#[]⟩, .int .i64 0]
    clear b1 b2
    go_upto_region 4 with (fail)
    simp only [noE] at hX ⊢
    generalize hGen : w2.alloc (.cells #[.int .i64 0, .int .i64 0, .int .i64 0, .int .i64 0, .int .i64 0, .int .i64 0, .int .i64 0, .int .i64 0, .bool false, .string ⟨#[]⟩, .bool false, .string ⟨#[]⟩, .int .i64 0] 47) = W at HB2 hX ⊢
    clear hGen
    have hXn : Blk W w2.heap.size 47 #[.int .i64 noE.kind, .int .i64 noE.cl, .int .i64 noE.ep, .int .i64 noE.n, .int .i64 noE.lsn, .int .i64 noE.prev, .int .i64 noE.page, .int .i64 noE.slot, .bool noE.wu, .string noE.wd, .bool noE.iu, .string noE.id, .int .i64 noE.next] := hX
    obtain ⟨c0, c1, c2, c3, c4, c5, c6, c7, c8, c9, c10, c11, c12⟩ := ent_cells hXn
    simp only [noE] at c0 c1 c2 c3 c4 c5 c6 c7 c8 c9 c10 c11 c12
    clear hXn hX
    go_wp2
    go_ret
    exact ⟨rfl, HB2.out⟩
end Go.Proofs.Ytjaafdkmhkhehaa.Ent
