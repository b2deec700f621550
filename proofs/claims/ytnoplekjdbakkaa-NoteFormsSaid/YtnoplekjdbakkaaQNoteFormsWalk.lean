/- The walk of the statement NoteForms. -/
import Derived.Test.YtnoplekjdbakkaaQNoteLaws
import Derived.Test.YtnoplekjdbakkaaQNoteSame
namespace Go.Proofs.Ytnoplekjdbakkaa.Note
set_option maxRecDepth 100000
open Go.RowKit Go.Sort
open Go.Proofs.Ytnoplekjdbakkaa.Nib (enc below_next below_drew Fits takeInt)
open Go.Proofs.Ytnoplekjdbakkaa.Slab (Slot Slots Blk ret_bool' ret_int')
open Go.Proofs.Ytnoplekjdbakkaa.Ent (Ent Ents EntAt SmallE withinB knownB noE entA below_box alloc_lt arr arr_list list_arr arr_size ent_cells Only)
theorem dec_form (l : List UInt8) : (∃ m, decS (quadH (Sum.check l) ++ l) = (m, 0) ∧ goodM m = true) ∨ decS (quadH (Sum.check l) ++ l) = (noM, 4) := by
  have h4 : ¬ (quadH (Sum.check l) ++ l).length < 4 := by rw [List.length_append, quadH_len]; omega
  have ht : (quadH (Sum.check l) ++ l).take 4 = quadH (Sum.check l) := rfl
  have hd : (quadH (Sum.check l) ++ l).drop 4 = l := rfl
  unfold decS
  rw [if_neg h4, ht, hd, if_pos rfl]
  cases hr : readOk l with
  | false => exact .inr rfl
  | true =>
    cases hg : goodM (sAll l).m with
    | false => exact .inr rfl
    | true => exact .inl ⟨_, rfl, hg⟩
theorem good_lens {m : Ms} (hg : goodM m = true) : m.zs.length ≤ 32 ∧ m.es.length ≤ 16 := by
  obtain ⟨_, hw, hr⟩ := good_parts hg
  obtain ⟨_, _, _, w4, w5⟩ := whole_parts hw
  obtain ⟨_, _, _, _, _, r6, r7⟩ := bare_parts hr
  constructor
  · cases c : (partsH m.kind m.need).image with
    | true => exact (Slab.good_parts (w4 c)).2.2.1
    | false => rw [(r6 c).2]; simp
  · cases c : (partsH m.kind m.need).entries with
    | true => exact (w5 c).1.2
    | false => rw [r7 c]; simp
set_option maxRecDepth 100000 in
set_option maxHeartbeats 4000000 in
theorem forms_walk (s : ByteArray) (w : World) (hs : s.size ≤ 140737488351232) :
    Calls Try.prog 7 #[.string s] w fun e w' => e = .returned (.bool true) ∧ Below w.heap.size w w' := by
  by_cases hlong : 65536 < s.size
  · go_enter Try.func7, Try.ntmps7
    go_wp2_with fail
    refine (awake_any _).mono ?_
    rintro e w1 ⟨rfl, b1⟩
    go_wp2
    go_ret
    exact ⟨rfl, b1⟩
  have HF := Lib.hid (dec_form s.data.toList)
  have hl : (quadH (Sum.check s.data.toList) ++ s.data.toList).length ≤ 140737488351232 := by
    rw [List.length_append, quadH_len]; have : s.data.toList.length = s.size := by simp
    omega
  have HD := Lib.hid (fun w => decode_any (quadH (Sum.check s.data.toList) ++ s.data.toList) w hl)
  have HQ := Lib.hid (quadH_str (Sum.check s.data.toList))
  have hcat : arr (quadH (Sum.check s.data.toList)) ++ s = arr (quadH (Sum.check s.data.toList) ++ s.data.toList) := by
    apply Slab.str_inj; rw [arr_list]; simp [arr]
  have HOF := Lib.hid (fun (w : World) => Sum.of_new w 9 #[.string s] [s] 1 1 ((Sum.check s.data.toList).toNat : Int) rfl rfl (by simp) (by simp; omega) (by simp [Sum.flat]))
  clear hl
  generalize Sum.check s.data.toList = c at HF HD HQ hcat HOF
  have hc := c.isLt
  have hqz : (strOfNums [(c.toNat : Int) / 16777216, (c.toNat : Int) / 65536 % 256, (c.toNat : Int) / 256 % 256, (c.toNat : Int) % 256]).size = 4 := by rw [HQ.out, arr_size]; rfl
  have hadd : ∀ W, (Op.stringOp .add (strOfNums [(c.toNat : Int) / 16777216, (c.toNat : Int) / 65536 % 256, (c.toNat : Int) / 256 % 256, (c.toNat : Int) % 256]) s).run Try.prog W = .ok (.string (arr (quadH c ++ s.data.toList))) W := fun W => by
    rw [← hcat, ← HQ.out]
    exact run_string_add_sum W _ _ (by omega)
  clear hcat hqz
  generalize quadH c ++ s.data.toList = L at HF HD hadd
  have hconv := Sum.conv4
  go_enter Try.func7, Try.ntmps7
  try dsimp only [List.append]
  go_wp2_with fail
  refine (awake_any _).mono ?_
  rintro e w1 ⟨rfl, b1⟩
  go_wp2_with fail
  refine (HOF.out _).mono ?_
  rintro e w2 ⟨rfl, b2⟩
  have hb2 := below_next b1 b2
  clear b1 b2
  go_wp2_with fail
  clear hconv hadd
  have hb3 := below_next hb2 (below_box w2 (.cells #[.int .u8 ((c.toNat : Int) / 16777216), .int .u8 ((c.toNat : Int) / 65536 % 256), .int .u8 ((c.toNat : Int) / 256 % 256), .int .u8 ((c.toNat : Int) % 256)] 5))
  generalize hGen : w2.alloc (.cells #[.int .u8 ((c.toNat : Int) / 16777216), .int .u8 ((c.toNat : Int) / 65536 % 256), .int .u8 ((c.toNat : Int) / 256 % 256), .int .u8 ((c.toNat : Int) % 256)] 5) = w3 at hb3 ⊢
  clear hGen
  clear hb2
  refine (HD.out _).mono ?_
  rcases HF.out with ⟨m, hm, hg⟩ | hm
  · rw [hm]
    rintro e w4 ⟨hd, rfl, hin, b4⟩
    have hb4 := below_next hb3 b4
    clear b4 hb3 hm HF HD
    go_upto_region 7 with (fail)
    have hM := Blk.new w4 29 #[.int .i64 m.kind, .int .i64 m.page, .bool m.x, .bool m.need, .int .i64 m.n, .int .i64 m.cl, .int .i64 m.ep, .int .i64 m.tn, .int .i64 m.lsn, .slice hd.a hd.an hd.ac, .slice hd.b hd.bn hd.bc]
    have hb5 := below_next hb4 (below_box w4 (.cells #[.int .i64 m.kind, .int .i64 m.page, .bool m.x, .bool m.need, .int .i64 m.n, .int .i64 m.cl, .int .i64 m.ep, .int .i64 m.tn, .int .i64 m.lsn, .slice hd.a hd.an hd.ac, .slice hd.b hd.bn hd.bc] 29))
    have HIN := Lib.hid (hin.below (below_box w4 (.cells #[.int .i64 m.kind, .int .i64 m.page, .bool m.x, .bool m.need, .int .i64 m.n, .int .i64 m.cl, .int .i64 m.ep, .int .i64 m.tn, .int .i64 m.lsn, .slice hd.a hd.an hd.ac, .slice hd.b hd.bn hd.bc] 29)))
    generalize hGen : w4.alloc (.cells #[.int .i64 m.kind, .int .i64 m.page, .bool m.x, .bool m.need, .int .i64 m.n, .int .i64 m.cl, .int .i64 m.ep, .int .i64 m.tn, .int .i64 m.lsn, .slice hd.a hd.an hd.ac, .slice hd.b hd.bn hd.bc] 29) = w5 at hM hb5 HIN ⊢
    clear hGen
    obtain ⟨k0, k1, k2, k3, k4, k5, k6, k7, k8, k9, k10⟩ := msg_cells hM
    clear hM hb4 hin
    have HG := Lib.hid (show ∀ w, In w m hd → Calls Try.prog 13 #[.agg #[.int .i64 m.kind, .int .i64 m.page, .bool m.x, .bool m.need, .int .i64 m.n, .int .i64 m.cl, .int .i64 m.ep, .int .i64 m.tn, .int .i64 m.lsn, .slice hd.a hd.an hd.ac, .slice hd.b hd.bn hd.bc]] w fun e w' => e = .returned (.bool true) ∧ Below w.heap.size w w' from fun w hi => by
      have h1 := hi.s.len
      have h2 := hi.e.len
      obtain ⟨h3, h4⟩ := good_lens hg
      have := good_any m hd w hi (by omega) (by omega)
      rw [hg] at this
      exact this)
    clear hg
    go_wp2_with fail
    refine (HG.out _ HIN.out.i).mono ?_
    rintro e w6 ⟨rfl, b6⟩
    go_wp2
    go_ret
    exact ⟨rfl, below_next hb5 b6⟩
  · rw [hm]
    rintro e w4 ⟨hd, rfl, hin, b4⟩
    have hb4 := below_next hb3 b4
    clear b4 hb3 hm HF HD
    go_upto_region 7 with (fail)
    have hM := Blk.new w4 29 #[.int .i64 noM.kind, .int .i64 noM.page, .bool noM.x, .bool noM.need, .int .i64 noM.n, .int .i64 noM.cl, .int .i64 noM.ep, .int .i64 noM.tn, .int .i64 noM.lsn, .slice hd.a hd.an hd.ac, .slice hd.b hd.bn hd.bc]
    have hb5 := below_next hb4 (below_box w4 (.cells #[.int .i64 noM.kind, .int .i64 noM.page, .bool noM.x, .bool noM.need, .int .i64 noM.n, .int .i64 noM.cl, .int .i64 noM.ep, .int .i64 noM.tn, .int .i64 noM.lsn, .slice hd.a hd.an hd.ac, .slice hd.b hd.bn hd.bc] 29))
    have HIN := Lib.hid (hin.below (below_box w4 (.cells #[.int .i64 noM.kind, .int .i64 noM.page, .bool noM.x, .bool noM.need, .int .i64 noM.n, .int .i64 noM.cl, .int .i64 noM.ep, .int .i64 noM.tn, .int .i64 noM.lsn, .slice hd.a hd.an hd.ac, .slice hd.b hd.bn hd.bc] 29)))
    generalize hGen : w4.alloc (.cells #[.int .i64 noM.kind, .int .i64 noM.page, .bool noM.x, .bool noM.need, .int .i64 noM.n, .int .i64 noM.cl, .int .i64 noM.ep, .int .i64 noM.tn, .int .i64 noM.lsn, .slice hd.a hd.an hd.ac, .slice hd.b hd.bn hd.bc] 29) = w5 at hM hb5 HIN ⊢
    clear hGen
    obtain ⟨k0, k1, k2, k3, k4, k5, k6, k7, k8, k9, k10⟩ := msg_cells hM
    clear hM hb4 hin
    have HS := Lib.hid (show ∀ w, In w noM hd → Calls Try.prog 17 #[.agg #[.int .i64 noM.kind, .int .i64 noM.page, .bool noM.x, .bool noM.need, .int .i64 noM.n, .int .i64 noM.cl, .int .i64 noM.ep, .int .i64 noM.tn, .int .i64 noM.lsn, .slice hd.a hd.an hd.ac, .slice hd.b hd.bn hd.bc], .agg #[.int .i64 0, .int .i64 0, .bool false, .bool false, .int .i64 0, .int .i64 0, .int .i64 0, .int .i64 0, .int .i64 0, .slice none 0 0, .slice none 0 0]] w fun e w' => e = .returned (.bool true) ∧ Below w.heap.size w w' from fun w hi => by
      have h1 : 0 = hd.an := hi.s.len
      have h2 : 0 = hd.bn := hi.e.len
      exact same_any noM noM hd hd0 true w hi (InN.nil 0 w noM rfl rfl).i (by omega) (by omega) ⟨fun _ => rfl, fun _ => rfl⟩)
    go_wp2_with fail
    refine (HS.out _ HIN.out.i).mono ?_
    rintro e w6 ⟨rfl, b6⟩
    go_wp2
    go_ret
    exact ⟨rfl, below_next hb5 b6⟩
end Go.Proofs.Ytnoplekjdbakkaa.Note
