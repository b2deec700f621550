/- The walks of the document's own Encode, at each of the kinds. -/
import Derived.Test.YtnoplekjdbakkaaQNoteRefGood
import Derived.Test.YtnoplekjdbakkaaQNoteWrite
import Derived.Test.YtnoplekjdbakkaaQNoteCheck
import Derived.Test.YtnoplekjdbakkaaQNoteLaws
import Derived.Test.YtnoplekjdbakkaaQEntRefEnc
import Derived.Test.YtnoplekjdbakkaaQSlabREnc
import Derived.Lib.QuietBelow
namespace Go.Proofs.Ytnoplekjdbakkaa.Note
set_option maxRecDepth 100000
open Go.RowKit Go.Sort
open Go.Proofs.Ytnoplekjdbakkaa.Nib (enc below_next below_drew Fits)
open Go.Proofs.Ytnoplekjdbakkaa.Slab (Slot Slots Blk ret_bool' ret_int')
open Go.Proofs.Ytnoplekjdbakkaa.Ent (Ent Ents EntAt SmallE withinB knownB noE entA below_box alloc_lt arr arr_list list_arr arr_size ent_cells rawL bytes_cat)
theorem arr_cat (l m : List UInt8) : arr l ++ arr m = arr (l ++ m) := bytes_cat l m (arr m) (arr_list m)
theorem encB_arr (n : Int) : Nib.encB n = arr (enc n) := by apply Slab.str_inj; rw [arr_list, ← Nib.encB_list]

set_option maxRecDepth 100000 in
set_option maxHeartbeats 4000000 in
theorem renc_Lock (m : Ms) (h : Hd) (w : World) (hi : In w m h) (ha : h.an ≤ 1000000) (hbn : h.bn ≤ 1000000) (hg : goodM m = true) (hH : partsH m.kind m.need = hLock)
    (hh : ∀ w, Calls Try.prog 21 #[.agg #[.int .i64 m.kind, .int .i64 m.page, .bool m.x, .bool m.need, .int .i64 m.n, .int .i64 m.cl, .int .i64 m.ep, .int .i64 m.tn, .int .i64 m.lsn, .slice h.a h.an h.ac, .slice h.b h.bn h.bc]] w fun e w' => e = .returned (.string ⟨#[112, 120, 110]⟩) ∧ Below w.heap.size w w') :
    Calls Try.prog 12 #[.agg #[.int .i64 m.kind, .int .i64 m.page, .bool m.x, .bool m.need, .int .i64 m.n, .int .i64 m.cl, .int .i64 m.ep, .int .i64 m.tn, .int .i64 m.lsn, .slice h.a h.an h.ac, .slice h.b h.bn h.bc]] w fun e w' => e = .returned (.tuple #[.string (arr (encL m)), .int .i64 0]) ∧ Below w.heap.size w w' := by
  obtain ⟨hk, hw, hr⟩ := good_parts hg
  rw [hH] at hw hr
  have HBODY := Lib.hid (show body m = bodyH hLock m from by unfold body; rw [hH])
  have HGD := Lib.hid (fun (w : World) (hj : In w m h) => (show Calls Try.prog 14 #[.agg #[.int .i64 m.kind, .int .i64 m.page, .bool m.x, .bool m.need, .int .i64 m.n, .int .i64 m.cl, .int .i64 m.ep, .int .i64 m.tn, .int .i64 m.lsn, .slice h.a h.an h.ac, .slice h.b h.bn h.bc]] w fun e w' => e = .returned (.bool true) ∧ Below w.heap.size w w' from by have := rgood_any m h w hj ha hbn; rw [hg] at this; exact this))
  have hbl8 := (body_len hg).2
  have hfk : Fits m.kind := ⟨by omega, by omega⟩
  obtain ⟨w1, w2, w3, w4, w5⟩ := whole_parts hw
  obtain ⟨r1, r2, r3, r4, r5, r6, r7⟩ := bare_parts hr
  have hfp : Fits m.page := ⟨by have := w1 rfl; omega, by have := w1 rfl; omega⟩
  have HES := Lib.hid (r7 rfl)
  have HBN := Lib.hid (show h.bn = 0 from by have := hi.e.len; rw [r7 rfl] at this; exact this.symm)
  have Hhfk := Lib.hid hfk
  clear hfk
  have Hhfp := Lib.hid hfp
  clear hfp
  have HLN := Lib.hid hi.e.len
  clear w1 w2 w3 w4 w5 r1 r2 r3 r4 r5 r6 r7 hw hr hk hg hH
  have i_p := Lib.hid (fun w => in_is ⟨#[112, 120, 110]⟩ 112 true (by decide) (by decide) w 112 (by decide))
  have i_x := Lib.hid (fun w => in_is ⟨#[112, 120, 110]⟩ 120 true (by decide) (by decide) w 120 (by decide))
  have i_n := Lib.hid (fun w => in_is ⟨#[112, 120, 110]⟩ 110 true (by decide) (by decide) w 110 (by decide))
  have i_t := Lib.hid (fun w => in_is ⟨#[112, 120, 110]⟩ 116 false (by decide) (by decide) w 116 (by decide))
  have i_k := Lib.hid (fun w => in_is ⟨#[112, 120, 110]⟩ 107 false (by decide) (by decide) w 107 (by decide))
  have i_i := Lib.hid (fun w => in_is ⟨#[112, 120, 110]⟩ 105 false (by decide) (by decide) w 105 (by decide))
  have i_e := Lib.hid (fun w => in_is ⟨#[112, 120, 110]⟩ 101 false (by decide) (by decide) w 101 (by decide))
  have hb := below_box w (.cells #[.int .i64 m.kind, .int .i64 m.page, .bool m.x, .bool m.need, .int .i64 m.n, .int .i64 m.cl, .int .i64 m.ep, .int .i64 m.tn, .int .i64 m.lsn, .slice h.a h.an h.ac, .slice h.b h.bn h.bc] 29)
  have hM := Blk.new w 29 #[.int .i64 m.kind, .int .i64 m.page, .bool m.x, .bool m.need, .int .i64 m.n, .int .i64 m.cl, .int .i64 m.ep, .int .i64 m.tn, .int .i64 m.lsn, .slice h.a h.an h.ac, .slice h.b h.bn h.bc]
  have hs := alloc_lt w (.cells #[.int .i64 m.kind, .int .i64 m.page, .bool m.x, .bool m.need, .int .i64 m.n, .int .i64 m.cl, .int .i64 m.ep, .int .i64 m.tn, .int .i64 m.lsn, .slice h.a h.an h.ac, .slice h.b h.bn h.bc] 29)
  have HH := Lib.hid hh
  have HI := Lib.hid (hi.below hb)
  clear hh hi
  go_enter Try.func12, Try.ntmps12
  try dsimp only [List.append]
  go_upto_region 1 with (fail)
  generalize hGen : w.alloc (.cells #[.int .i64 m.kind, .int .i64 m.page, .bool m.x, .bool m.need, .int .i64 m.n, .int .i64 m.cl, .int .i64 m.ep, .int .i64 m.tn, .int .i64 m.lsn, .slice h.a h.an h.ac, .slice h.b h.bn h.bc] 29) = W at hb hM hs HI ⊢
  clear hGen
  obtain ⟨c0, c1, c2, c3, c4, c5, c6, c7, c8, c9, c10⟩ := msg_cells hM
  have HM := Lib.hid hM
  have HB := Lib.hid hb
  clear hM hb
  go_wp2_with (go_at_call 23; first | ((with_reducible refine (i_p.out _).mono ?_); rintro e w' ⟨rfl, rfl⟩) | ((with_reducible refine (i_x.out _).mono ?_); rintro e w' ⟨rfl, rfl⟩) | ((with_reducible refine (i_n.out _).mono ?_); rintro e w' ⟨rfl, rfl⟩) | ((with_reducible refine (i_t.out _).mono ?_); rintro e w' ⟨rfl, rfl⟩) | ((with_reducible refine (i_k.out _).mono ?_); rintro e w' ⟨rfl, rfl⟩) | ((with_reducible refine (i_i.out _).mono ?_); rintro e w' ⟨rfl, rfl⟩) | ((with_reducible refine (i_e.out _).mono ?_); rintro e w' ⟨rfl, rfl⟩))
  refine (HGD.out _ HI.out).mono ?_
  rintro e wa ⟨rfl, ba⟩
  replace HM := Lib.hid (HM.out.below ba hs)
  replace HB := Lib.hid (below_next HB.out ba)
  replace HI := Lib.hid (HI.out.below ba)
  replace hs := Nat.lt_of_lt_of_le hs ba.size
  clear c0 c1 c2 c3 c4 c5 c6 c7 c8 c9 c10 ba
  obtain ⟨c0, c1, c2, c3, c4, c5, c6, c7, c8, c9, c10⟩ := msg_cells HM.out
  go_wp2_with (go_at_call 23; first | ((with_reducible refine (i_p.out _).mono ?_); rintro e w' ⟨rfl, rfl⟩) | ((with_reducible refine (i_x.out _).mono ?_); rintro e w' ⟨rfl, rfl⟩) | ((with_reducible refine (i_n.out _).mono ?_); rintro e w' ⟨rfl, rfl⟩) | ((with_reducible refine (i_t.out _).mono ?_); rintro e w' ⟨rfl, rfl⟩) | ((with_reducible refine (i_k.out _).mono ?_); rintro e w' ⟨rfl, rfl⟩) | ((with_reducible refine (i_i.out _).mono ?_); rintro e w' ⟨rfl, rfl⟩) | ((with_reducible refine (i_e.out _).mono ?_); rintro e w' ⟨rfl, rfl⟩))
  refine (HH.out _).mono ?_
  rintro e wa ⟨rfl, ba⟩
  replace HM := Lib.hid (HM.out.below ba hs)
  replace HB := Lib.hid (below_next HB.out ba)
  replace HI := Lib.hid (HI.out.below ba)
  replace hs := Nat.lt_of_lt_of_le hs ba.size
  clear c0 c1 c2 c3 c4 c5 c6 c7 c8 c9 c10 ba
  obtain ⟨c0, c1, c2, c3, c4, c5, c6, c7, c8, c9, c10⟩ := msg_cells HM.out
  go_wp2_with (go_at_call 23; first | ((with_reducible refine (i_p.out _).mono ?_); rintro e w' ⟨rfl, rfl⟩) | ((with_reducible refine (i_x.out _).mono ?_); rintro e w' ⟨rfl, rfl⟩) | ((with_reducible refine (i_n.out _).mono ?_); rintro e w' ⟨rfl, rfl⟩) | ((with_reducible refine (i_t.out _).mono ?_); rintro e w' ⟨rfl, rfl⟩) | ((with_reducible refine (i_k.out _).mono ?_); rintro e w' ⟨rfl, rfl⟩) | ((with_reducible refine (i_i.out _).mono ?_); rintro e w' ⟨rfl, rfl⟩) | ((with_reducible refine (i_e.out _).mono ?_); rintro e w' ⟨rfl, rfl⟩))
  refine (Nib.refInt m.kind _ Hhfk.out).mono ?_
  rintro e wa ⟨rfl, ba⟩
  replace HM := Lib.hid (HM.out.below ba hs)
  replace HB := Lib.hid (below_next HB.out ba)
  replace HI := Lib.hid (HI.out.below ba)
  replace hs := Nat.lt_of_lt_of_le hs ba.size
  clear c0 c1 c2 c3 c4 c5 c6 c7 c8 c9 c10 ba
  obtain ⟨c0, c1, c2, c3, c4, c5, c6, c7, c8, c9, c10⟩ := msg_cells HM.out
  have HT := Lib.hid (encB_arr m.kind)
  have hT : (Nib.encB m.kind).size ≤ 10 := Nib.encB_le Hhfk.out
  generalize Nib.encB m.kind = T at HT hT ⊢
  go_wp2_with (go_at_call 23; first | ((with_reducible refine (i_p.out _).mono ?_); rintro e w' ⟨rfl, rfl⟩) | ((with_reducible refine (i_x.out _).mono ?_); rintro e w' ⟨rfl, rfl⟩) | ((with_reducible refine (i_n.out _).mono ?_); rintro e w' ⟨rfl, rfl⟩) | ((with_reducible refine (i_t.out _).mono ?_); rintro e w' ⟨rfl, rfl⟩) | ((with_reducible refine (i_k.out _).mono ?_); rintro e w' ⟨rfl, rfl⟩) | ((with_reducible refine (i_i.out _).mono ?_); rintro e w' ⟨rfl, rfl⟩) | ((with_reducible refine (i_e.out _).mono ?_); rintro e w' ⟨rfl, rfl⟩))
  refine (Nib.refInt m.page _ Hhfp.out).mono ?_
  rintro e wa ⟨rfl, ba⟩
  replace HM := Lib.hid (HM.out.below ba hs)
  replace HB := Lib.hid (below_next HB.out ba)
  replace HI := Lib.hid (HI.out.below ba)
  replace hs := Nat.lt_of_lt_of_le hs ba.size
  clear c0 c1 c2 c3 c4 c5 c6 c7 c8 c9 c10 ba
  obtain ⟨c0, c1, c2, c3, c4, c5, c6, c7, c8, c9, c10⟩ := msg_cells HM.out
  have hE : (Nib.encB m.page).size ≤ 10 := Nib.encB_le Hhfp.out
  obtain ⟨T1, hT2⟩ : ∃ x, x = T ++ Nib.encB m.page := ⟨_, rfl⟩
  have hadd : ∀ W, (Op.stringOp .add T (Nib.encB m.page)).run Try.prog W = .ok (.string T1) W := fun W => by rw [hT2]; exact run_string_add_sum W _ _ (by omega)
  have hS2 : T1.size ≤ 20 := by rw [hT2, ByteArray.size_append]; omega
  replace HT := Lib.hid (show T1 = arr (enc m.kind ++ enc m.page) from by rw [hT2, HT.out, show Nib.encB m.page = arr (enc m.page) from encB_arr m.page, arr_cat])
  clear hT2
  go_upto_region 7 with (go_at_call 23; first | ((with_reducible refine (i_p.out _).mono ?_); rintro e w' ⟨rfl, rfl⟩) | ((with_reducible refine (i_x.out _).mono ?_); rintro e w' ⟨rfl, rfl⟩) | ((with_reducible refine (i_n.out _).mono ?_); rintro e w' ⟨rfl, rfl⟩) | ((with_reducible refine (i_t.out _).mono ?_); rintro e w' ⟨rfl, rfl⟩) | ((with_reducible refine (i_k.out _).mono ?_); rintro e w' ⟨rfl, rfl⟩) | ((with_reducible refine (i_i.out _).mono ?_); rintro e w' ⟨rfl, rfl⟩) | ((with_reducible refine (i_e.out _).mono ?_); rintro e w' ⟨rfl, rfl⟩))
  clear hadd hE
  clear hT
  have hT := hS2
  clear hS2
  go_wp2_with (go_at_call 23; first | ((with_reducible refine (i_p.out _).mono ?_); rintro e w' ⟨rfl, rfl⟩) | ((with_reducible refine (i_x.out _).mono ?_); rintro e w' ⟨rfl, rfl⟩) | ((with_reducible refine (i_n.out _).mono ?_); rintro e w' ⟨rfl, rfl⟩) | ((with_reducible refine (i_t.out _).mono ?_); rintro e w' ⟨rfl, rfl⟩) | ((with_reducible refine (i_k.out _).mono ?_); rintro e w' ⟨rfl, rfl⟩) | ((with_reducible refine (i_i.out _).mono ?_); rintro e w' ⟨rfl, rfl⟩) | ((with_reducible refine (i_e.out _).mono ?_); rintro e w' ⟨rfl, rfl⟩))
  refine (one_any m.x _).mono ?_
  rintro e wa ⟨rfl, ba⟩
  replace HM := Lib.hid (HM.out.below ba hs)
  replace HB := Lib.hid (below_next HB.out ba)
  replace HI := Lib.hid (HI.out.below ba)
  replace hs := Nat.lt_of_lt_of_le hs ba.size
  clear c0 c1 c2 c3 c4 c5 c6 c7 c8 c9 c10 ba
  obtain ⟨c0, c1, c2, c3, c4, c5, c6, c7, c8, c9, c10⟩ := msg_cells HM.out
  have hE : (Nib.encB (b1 m.x)).size ≤ 10 := Nib.encB_le (flag_fits m.x)
  obtain ⟨T2, hT2⟩ : ∃ x, x = T1 ++ Nib.encB (b1 m.x) := ⟨_, rfl⟩
  have hadd : ∀ W, (Op.stringOp .add T1 (Nib.encB (b1 m.x))).run Try.prog W = .ok (.string T2) W := fun W => by rw [hT2]; exact run_string_add_sum W _ _ (by omega)
  have hS2 : T2.size ≤ 30 := by rw [hT2, ByteArray.size_append]; omega
  replace HT := Lib.hid (show T2 = arr (enc m.kind ++ enc m.page ++ enc (b1 m.x)) from by rw [hT2, HT.out, show Nib.encB (b1 m.x) = arr (enc (b1 m.x)) from encB_arr (b1 m.x), arr_cat])
  clear hT2
  go_upto_region 9 with (go_at_call 23; first | ((with_reducible refine (i_p.out _).mono ?_); rintro e w' ⟨rfl, rfl⟩) | ((with_reducible refine (i_x.out _).mono ?_); rintro e w' ⟨rfl, rfl⟩) | ((with_reducible refine (i_n.out _).mono ?_); rintro e w' ⟨rfl, rfl⟩) | ((with_reducible refine (i_t.out _).mono ?_); rintro e w' ⟨rfl, rfl⟩) | ((with_reducible refine (i_k.out _).mono ?_); rintro e w' ⟨rfl, rfl⟩) | ((with_reducible refine (i_i.out _).mono ?_); rintro e w' ⟨rfl, rfl⟩) | ((with_reducible refine (i_e.out _).mono ?_); rintro e w' ⟨rfl, rfl⟩))
  clear hadd hE
  clear hT
  have hT := hS2
  clear hS2
  go_wp2_with (go_at_call 23; first | ((with_reducible refine (i_p.out _).mono ?_); rintro e w' ⟨rfl, rfl⟩) | ((with_reducible refine (i_x.out _).mono ?_); rintro e w' ⟨rfl, rfl⟩) | ((with_reducible refine (i_n.out _).mono ?_); rintro e w' ⟨rfl, rfl⟩) | ((with_reducible refine (i_t.out _).mono ?_); rintro e w' ⟨rfl, rfl⟩) | ((with_reducible refine (i_k.out _).mono ?_); rintro e w' ⟨rfl, rfl⟩) | ((with_reducible refine (i_i.out _).mono ?_); rintro e w' ⟨rfl, rfl⟩) | ((with_reducible refine (i_e.out _).mono ?_); rintro e w' ⟨rfl, rfl⟩))
  refine (one_any m.need _).mono ?_
  rintro e wa ⟨rfl, ba⟩
  replace HM := Lib.hid (HM.out.below ba hs)
  replace HB := Lib.hid (below_next HB.out ba)
  replace HI := Lib.hid (HI.out.below ba)
  replace hs := Nat.lt_of_lt_of_le hs ba.size
  clear c0 c1 c2 c3 c4 c5 c6 c7 c8 c9 c10 ba
  obtain ⟨c0, c1, c2, c3, c4, c5, c6, c7, c8, c9, c10⟩ := msg_cells HM.out
  have hE : (Nib.encB (b1 m.need)).size ≤ 10 := Nib.encB_le (flag_fits m.need)
  obtain ⟨T3, hT2⟩ : ∃ x, x = T2 ++ Nib.encB (b1 m.need) := ⟨_, rfl⟩
  have hadd : ∀ W, (Op.stringOp .add T2 (Nib.encB (b1 m.need))).run Try.prog W = .ok (.string T3) W := fun W => by rw [hT2]; exact run_string_add_sum W _ _ (by omega)
  have hS2 : T3.size ≤ 40 := by rw [hT2, ByteArray.size_append]; omega
  replace HT := Lib.hid (show T3 = arr (enc m.kind ++ enc m.page ++ enc (b1 m.x) ++ enc (b1 m.need)) from by rw [hT2, HT.out, show Nib.encB (b1 m.need) = arr (enc (b1 m.need)) from encB_arr (b1 m.need), arr_cat])
  clear hT2
  go_upto_region 11 with (go_at_call 23; first | ((with_reducible refine (i_p.out _).mono ?_); rintro e w' ⟨rfl, rfl⟩) | ((with_reducible refine (i_x.out _).mono ?_); rintro e w' ⟨rfl, rfl⟩) | ((with_reducible refine (i_n.out _).mono ?_); rintro e w' ⟨rfl, rfl⟩) | ((with_reducible refine (i_t.out _).mono ?_); rintro e w' ⟨rfl, rfl⟩) | ((with_reducible refine (i_k.out _).mono ?_); rintro e w' ⟨rfl, rfl⟩) | ((with_reducible refine (i_i.out _).mono ?_); rintro e w' ⟨rfl, rfl⟩) | ((with_reducible refine (i_e.out _).mono ?_); rintro e w' ⟨rfl, rfl⟩))
  clear hadd hE
  clear hT
  have hT := hS2
  clear hS2
  have HFIN := Lib.hid (show enc m.kind ++ enc m.page ++ enc (b1 m.x) ++ enc (b1 m.need) ++ entsB m.es = body m from by rw [HBODY.out]; unfold bodyH pPage pX pNeed pTxn pN pImage pCount; rw [HES.out]; simp [hLock])
  generalize enc m.kind ++ enc m.page ++ enc (b1 m.x) ++ enc (b1 m.need) = L at HT HFIN
  have HWH := Lib.hid hs
  rw [HBN.out] at c10
  have HTB := Lib.hid (show T3 = arr (body m) from by rw [HT.out, ← HFIN.out, HES.out]; simp [entsB])
  go_upto_region 20 with (go_at_call 23; first | ((with_reducible refine (i_p.out _).mono ?_); rintro e w' ⟨rfl, rfl⟩) | ((with_reducible refine (i_x.out _).mono ?_); rintro e w' ⟨rfl, rfl⟩) | ((with_reducible refine (i_n.out _).mono ?_); rintro e w' ⟨rfl, rfl⟩) | ((with_reducible refine (i_t.out _).mono ?_); rintro e w' ⟨rfl, rfl⟩) | ((with_reducible refine (i_k.out _).mono ?_); rintro e w' ⟨rfl, rfl⟩) | ((with_reducible refine (i_i.out _).mono ?_); rintro e w' ⟨rfl, rfl⟩) | ((with_reducible refine (i_e.out _).mono ?_); rintro e w' ⟨rfl, rfl⟩))
  have hTz : T3.size ≤ 8000 := by rw [HTB.out, arr_size]; exact hbl8
  have HO := Lib.hid (fun w => Sum.ref_any T3 w (by omega))
  have HTL := Lib.hid (show T3.data.toList = body m from by rw [HTB.out, arr_list])
  have HQ := Lib.hid (quadH_str (Sum.check T3.data.toList))
  have HRES := Lib.hid (show arr (quadH (Sum.check T3.data.toList)) ++ T3 = arr (encL m) from by rw [HTL.out]; (conv => lhs; rw [HTB.out]); rw [arr_cat]; rfl)
  generalize Sum.check T3.data.toList = c at HO HQ HRES
  have hc := c.isLt
  have hqz : (strOfNums [(c.toNat : Int) / 16777216, (c.toNat : Int) / 65536 % 256, (c.toNat : Int) / 256 % 256, (c.toNat : Int) % 256]).size = 4 := by rw [HQ.out, arr_size]; rfl
  have hadd : ∀ W, (Op.stringOp .add (strOfNums [(c.toNat : Int) / 16777216, (c.toNat : Int) / 65536 % 256, (c.toNat : Int) / 256 % 256, (c.toNat : Int) % 256]) T3).run Try.prog W = .ok (.string (arr (encL m))) W := fun W => by
    rw [← HRES.out, ← HQ.out]
    exact run_string_add_sum W _ _ (by omega)
  clear hqz hTz hbl8
  have hconv := Sum.conv4
  go_wp2_with fail
  refine (HO.out _).mono ?_
  rintro e w8 ⟨rfl, rfl⟩
  go_wp2
  go_ret2
  exact ⟨rfl, below_next HB.out (below_box _ _)⟩
set_option maxRecDepth 100000 in
set_option maxHeartbeats 4000000 in
theorem renc_Free (m : Ms) (h : Hd) (w : World) (hi : In w m h) (ha : h.an ≤ 1000000) (hbn : h.bn ≤ 1000000) (hg : goodM m = true) (hH : partsH m.kind m.need = hFree)
    (hh : ∀ w, Calls Try.prog 21 #[.agg #[.int .i64 m.kind, .int .i64 m.page, .bool m.x, .bool m.need, .int .i64 m.n, .int .i64 m.cl, .int .i64 m.ep, .int .i64 m.tn, .int .i64 m.lsn, .slice h.a h.an h.ac, .slice h.b h.bn h.bc]] w fun e w' => e = .returned (.string ⟨#[112, 120]⟩) ∧ Below w.heap.size w w') :
    Calls Try.prog 12 #[.agg #[.int .i64 m.kind, .int .i64 m.page, .bool m.x, .bool m.need, .int .i64 m.n, .int .i64 m.cl, .int .i64 m.ep, .int .i64 m.tn, .int .i64 m.lsn, .slice h.a h.an h.ac, .slice h.b h.bn h.bc]] w fun e w' => e = .returned (.tuple #[.string (arr (encL m)), .int .i64 0]) ∧ Below w.heap.size w w' := by
  obtain ⟨hk, hw, hr⟩ := good_parts hg
  rw [hH] at hw hr
  have HBODY := Lib.hid (show body m = bodyH hFree m from by unfold body; rw [hH])
  have HGD := Lib.hid (fun (w : World) (hj : In w m h) => (show Calls Try.prog 14 #[.agg #[.int .i64 m.kind, .int .i64 m.page, .bool m.x, .bool m.need, .int .i64 m.n, .int .i64 m.cl, .int .i64 m.ep, .int .i64 m.tn, .int .i64 m.lsn, .slice h.a h.an h.ac, .slice h.b h.bn h.bc]] w fun e w' => e = .returned (.bool true) ∧ Below w.heap.size w w' from by have := rgood_any m h w hj ha hbn; rw [hg] at this; exact this))
  have hbl8 := (body_len hg).2
  have hfk : Fits m.kind := ⟨by omega, by omega⟩
  obtain ⟨w1, w2, w3, w4, w5⟩ := whole_parts hw
  obtain ⟨r1, r2, r3, r4, r5, r6, r7⟩ := bare_parts hr
  have hfp : Fits m.page := ⟨by have := w1 rfl; omega, by have := w1 rfl; omega⟩
  have HES := Lib.hid (r7 rfl)
  have HBN := Lib.hid (show h.bn = 0 from by have := hi.e.len; rw [r7 rfl] at this; exact this.symm)
  have Hhfk := Lib.hid hfk
  clear hfk
  have Hhfp := Lib.hid hfp
  clear hfp
  have HLN := Lib.hid hi.e.len
  clear w1 w2 w3 w4 w5 r1 r2 r3 r4 r5 r6 r7 hw hr hk hg hH
  have i_p := Lib.hid (fun w => in_is ⟨#[112, 120]⟩ 112 true (by decide) (by decide) w 112 (by decide))
  have i_x := Lib.hid (fun w => in_is ⟨#[112, 120]⟩ 120 true (by decide) (by decide) w 120 (by decide))
  have i_n := Lib.hid (fun w => in_is ⟨#[112, 120]⟩ 110 false (by decide) (by decide) w 110 (by decide))
  have i_t := Lib.hid (fun w => in_is ⟨#[112, 120]⟩ 116 false (by decide) (by decide) w 116 (by decide))
  have i_k := Lib.hid (fun w => in_is ⟨#[112, 120]⟩ 107 false (by decide) (by decide) w 107 (by decide))
  have i_i := Lib.hid (fun w => in_is ⟨#[112, 120]⟩ 105 false (by decide) (by decide) w 105 (by decide))
  have i_e := Lib.hid (fun w => in_is ⟨#[112, 120]⟩ 101 false (by decide) (by decide) w 101 (by decide))
  have hb := below_box w (.cells #[.int .i64 m.kind, .int .i64 m.page, .bool m.x, .bool m.need, .int .i64 m.n, .int .i64 m.cl, .int .i64 m.ep, .int .i64 m.tn, .int .i64 m.lsn, .slice h.a h.an h.ac, .slice h.b h.bn h.bc] 29)
  have hM := Blk.new w 29 #[.int .i64 m.kind, .int .i64 m.page, .bool m.x, .bool m.need, .int .i64 m.n, .int .i64 m.cl, .int .i64 m.ep, .int .i64 m.tn, .int .i64 m.lsn, .slice h.a h.an h.ac, .slice h.b h.bn h.bc]
  have hs := alloc_lt w (.cells #[.int .i64 m.kind, .int .i64 m.page, .bool m.x, .bool m.need, .int .i64 m.n, .int .i64 m.cl, .int .i64 m.ep, .int .i64 m.tn, .int .i64 m.lsn, .slice h.a h.an h.ac, .slice h.b h.bn h.bc] 29)
  have HH := Lib.hid hh
  have HI := Lib.hid (hi.below hb)
  clear hh hi
  go_enter Try.func12, Try.ntmps12
  try dsimp only [List.append]
  go_upto_region 1 with (fail)
  generalize hGen : w.alloc (.cells #[.int .i64 m.kind, .int .i64 m.page, .bool m.x, .bool m.need, .int .i64 m.n, .int .i64 m.cl, .int .i64 m.ep, .int .i64 m.tn, .int .i64 m.lsn, .slice h.a h.an h.ac, .slice h.b h.bn h.bc] 29) = W at hb hM hs HI ⊢
  clear hGen
  obtain ⟨c0, c1, c2, c3, c4, c5, c6, c7, c8, c9, c10⟩ := msg_cells hM
  have HM := Lib.hid hM
  have HB := Lib.hid hb
  clear hM hb
  go_wp2_with (go_at_call 23; first | ((with_reducible refine (i_p.out _).mono ?_); rintro e w' ⟨rfl, rfl⟩) | ((with_reducible refine (i_x.out _).mono ?_); rintro e w' ⟨rfl, rfl⟩) | ((with_reducible refine (i_n.out _).mono ?_); rintro e w' ⟨rfl, rfl⟩) | ((with_reducible refine (i_t.out _).mono ?_); rintro e w' ⟨rfl, rfl⟩) | ((with_reducible refine (i_k.out _).mono ?_); rintro e w' ⟨rfl, rfl⟩) | ((with_reducible refine (i_i.out _).mono ?_); rintro e w' ⟨rfl, rfl⟩) | ((with_reducible refine (i_e.out _).mono ?_); rintro e w' ⟨rfl, rfl⟩))
  refine (HGD.out _ HI.out).mono ?_
  rintro e wa ⟨rfl, ba⟩
  replace HM := Lib.hid (HM.out.below ba hs)
  replace HB := Lib.hid (below_next HB.out ba)
  replace HI := Lib.hid (HI.out.below ba)
  replace hs := Nat.lt_of_lt_of_le hs ba.size
  clear c0 c1 c2 c3 c4 c5 c6 c7 c8 c9 c10 ba
  obtain ⟨c0, c1, c2, c3, c4, c5, c6, c7, c8, c9, c10⟩ := msg_cells HM.out
  go_wp2_with (go_at_call 23; first | ((with_reducible refine (i_p.out _).mono ?_); rintro e w' ⟨rfl, rfl⟩) | ((with_reducible refine (i_x.out _).mono ?_); rintro e w' ⟨rfl, rfl⟩) | ((with_reducible refine (i_n.out _).mono ?_); rintro e w' ⟨rfl, rfl⟩) | ((with_reducible refine (i_t.out _).mono ?_); rintro e w' ⟨rfl, rfl⟩) | ((with_reducible refine (i_k.out _).mono ?_); rintro e w' ⟨rfl, rfl⟩) | ((with_reducible refine (i_i.out _).mono ?_); rintro e w' ⟨rfl, rfl⟩) | ((with_reducible refine (i_e.out _).mono ?_); rintro e w' ⟨rfl, rfl⟩))
  refine (HH.out _).mono ?_
  rintro e wa ⟨rfl, ba⟩
  replace HM := Lib.hid (HM.out.below ba hs)
  replace HB := Lib.hid (below_next HB.out ba)
  replace HI := Lib.hid (HI.out.below ba)
  replace hs := Nat.lt_of_lt_of_le hs ba.size
  clear c0 c1 c2 c3 c4 c5 c6 c7 c8 c9 c10 ba
  obtain ⟨c0, c1, c2, c3, c4, c5, c6, c7, c8, c9, c10⟩ := msg_cells HM.out
  go_wp2_with (go_at_call 23; first | ((with_reducible refine (i_p.out _).mono ?_); rintro e w' ⟨rfl, rfl⟩) | ((with_reducible refine (i_x.out _).mono ?_); rintro e w' ⟨rfl, rfl⟩) | ((with_reducible refine (i_n.out _).mono ?_); rintro e w' ⟨rfl, rfl⟩) | ((with_reducible refine (i_t.out _).mono ?_); rintro e w' ⟨rfl, rfl⟩) | ((with_reducible refine (i_k.out _).mono ?_); rintro e w' ⟨rfl, rfl⟩) | ((with_reducible refine (i_i.out _).mono ?_); rintro e w' ⟨rfl, rfl⟩) | ((with_reducible refine (i_e.out _).mono ?_); rintro e w' ⟨rfl, rfl⟩))
  refine (Nib.refInt m.kind _ Hhfk.out).mono ?_
  rintro e wa ⟨rfl, ba⟩
  replace HM := Lib.hid (HM.out.below ba hs)
  replace HB := Lib.hid (below_next HB.out ba)
  replace HI := Lib.hid (HI.out.below ba)
  replace hs := Nat.lt_of_lt_of_le hs ba.size
  clear c0 c1 c2 c3 c4 c5 c6 c7 c8 c9 c10 ba
  obtain ⟨c0, c1, c2, c3, c4, c5, c6, c7, c8, c9, c10⟩ := msg_cells HM.out
  have HT := Lib.hid (encB_arr m.kind)
  have hT : (Nib.encB m.kind).size ≤ 10 := Nib.encB_le Hhfk.out
  generalize Nib.encB m.kind = T at HT hT ⊢
  go_wp2_with (go_at_call 23; first | ((with_reducible refine (i_p.out _).mono ?_); rintro e w' ⟨rfl, rfl⟩) | ((with_reducible refine (i_x.out _).mono ?_); rintro e w' ⟨rfl, rfl⟩) | ((with_reducible refine (i_n.out _).mono ?_); rintro e w' ⟨rfl, rfl⟩) | ((with_reducible refine (i_t.out _).mono ?_); rintro e w' ⟨rfl, rfl⟩) | ((with_reducible refine (i_k.out _).mono ?_); rintro e w' ⟨rfl, rfl⟩) | ((with_reducible refine (i_i.out _).mono ?_); rintro e w' ⟨rfl, rfl⟩) | ((with_reducible refine (i_e.out _).mono ?_); rintro e w' ⟨rfl, rfl⟩))
  refine (Nib.refInt m.page _ Hhfp.out).mono ?_
  rintro e wa ⟨rfl, ba⟩
  replace HM := Lib.hid (HM.out.below ba hs)
  replace HB := Lib.hid (below_next HB.out ba)
  replace HI := Lib.hid (HI.out.below ba)
  replace hs := Nat.lt_of_lt_of_le hs ba.size
  clear c0 c1 c2 c3 c4 c5 c6 c7 c8 c9 c10 ba
  obtain ⟨c0, c1, c2, c3, c4, c5, c6, c7, c8, c9, c10⟩ := msg_cells HM.out
  have hE : (Nib.encB m.page).size ≤ 10 := Nib.encB_le Hhfp.out
  obtain ⟨T1, hT2⟩ : ∃ x, x = T ++ Nib.encB m.page := ⟨_, rfl⟩
  have hadd : ∀ W, (Op.stringOp .add T (Nib.encB m.page)).run Try.prog W = .ok (.string T1) W := fun W => by rw [hT2]; exact run_string_add_sum W _ _ (by omega)
  have hS2 : T1.size ≤ 20 := by rw [hT2, ByteArray.size_append]; omega
  replace HT := Lib.hid (show T1 = arr (enc m.kind ++ enc m.page) from by rw [hT2, HT.out, show Nib.encB m.page = arr (enc m.page) from encB_arr m.page, arr_cat])
  clear hT2
  go_upto_region 7 with (go_at_call 23; first | ((with_reducible refine (i_p.out _).mono ?_); rintro e w' ⟨rfl, rfl⟩) | ((with_reducible refine (i_x.out _).mono ?_); rintro e w' ⟨rfl, rfl⟩) | ((with_reducible refine (i_n.out _).mono ?_); rintro e w' ⟨rfl, rfl⟩) | ((with_reducible refine (i_t.out _).mono ?_); rintro e w' ⟨rfl, rfl⟩) | ((with_reducible refine (i_k.out _).mono ?_); rintro e w' ⟨rfl, rfl⟩) | ((with_reducible refine (i_i.out _).mono ?_); rintro e w' ⟨rfl, rfl⟩) | ((with_reducible refine (i_e.out _).mono ?_); rintro e w' ⟨rfl, rfl⟩))
  clear hadd hE
  clear hT
  have hT := hS2
  clear hS2
  go_wp2_with (go_at_call 23; first | ((with_reducible refine (i_p.out _).mono ?_); rintro e w' ⟨rfl, rfl⟩) | ((with_reducible refine (i_x.out _).mono ?_); rintro e w' ⟨rfl, rfl⟩) | ((with_reducible refine (i_n.out _).mono ?_); rintro e w' ⟨rfl, rfl⟩) | ((with_reducible refine (i_t.out _).mono ?_); rintro e w' ⟨rfl, rfl⟩) | ((with_reducible refine (i_k.out _).mono ?_); rintro e w' ⟨rfl, rfl⟩) | ((with_reducible refine (i_i.out _).mono ?_); rintro e w' ⟨rfl, rfl⟩) | ((with_reducible refine (i_e.out _).mono ?_); rintro e w' ⟨rfl, rfl⟩))
  refine (one_any m.x _).mono ?_
  rintro e wa ⟨rfl, ba⟩
  replace HM := Lib.hid (HM.out.below ba hs)
  replace HB := Lib.hid (below_next HB.out ba)
  replace HI := Lib.hid (HI.out.below ba)
  replace hs := Nat.lt_of_lt_of_le hs ba.size
  clear c0 c1 c2 c3 c4 c5 c6 c7 c8 c9 c10 ba
  obtain ⟨c0, c1, c2, c3, c4, c5, c6, c7, c8, c9, c10⟩ := msg_cells HM.out
  have hE : (Nib.encB (b1 m.x)).size ≤ 10 := Nib.encB_le (flag_fits m.x)
  obtain ⟨T2, hT2⟩ : ∃ x, x = T1 ++ Nib.encB (b1 m.x) := ⟨_, rfl⟩
  have hadd : ∀ W, (Op.stringOp .add T1 (Nib.encB (b1 m.x))).run Try.prog W = .ok (.string T2) W := fun W => by rw [hT2]; exact run_string_add_sum W _ _ (by omega)
  have hS2 : T2.size ≤ 30 := by rw [hT2, ByteArray.size_append]; omega
  replace HT := Lib.hid (show T2 = arr (enc m.kind ++ enc m.page ++ enc (b1 m.x)) from by rw [hT2, HT.out, show Nib.encB (b1 m.x) = arr (enc (b1 m.x)) from encB_arr (b1 m.x), arr_cat])
  clear hT2
  go_upto_region 9 with (go_at_call 23; first | ((with_reducible refine (i_p.out _).mono ?_); rintro e w' ⟨rfl, rfl⟩) | ((with_reducible refine (i_x.out _).mono ?_); rintro e w' ⟨rfl, rfl⟩) | ((with_reducible refine (i_n.out _).mono ?_); rintro e w' ⟨rfl, rfl⟩) | ((with_reducible refine (i_t.out _).mono ?_); rintro e w' ⟨rfl, rfl⟩) | ((with_reducible refine (i_k.out _).mono ?_); rintro e w' ⟨rfl, rfl⟩) | ((with_reducible refine (i_i.out _).mono ?_); rintro e w' ⟨rfl, rfl⟩) | ((with_reducible refine (i_e.out _).mono ?_); rintro e w' ⟨rfl, rfl⟩))
  clear hadd hE
  clear hT
  have hT := hS2
  clear hS2
  have HFIN := Lib.hid (show enc m.kind ++ enc m.page ++ enc (b1 m.x) ++ entsB m.es = body m from by rw [HBODY.out]; unfold bodyH pPage pX pNeed pTxn pN pImage pCount; rw [HES.out]; simp [hFree])
  generalize enc m.kind ++ enc m.page ++ enc (b1 m.x) = L at HT HFIN
  have HWH := Lib.hid hs
  rw [HBN.out] at c10
  have HTB := Lib.hid (show T2 = arr (body m) from by rw [HT.out, ← HFIN.out, HES.out]; simp [entsB])
  go_upto_region 20 with (go_at_call 23; first | ((with_reducible refine (i_p.out _).mono ?_); rintro e w' ⟨rfl, rfl⟩) | ((with_reducible refine (i_x.out _).mono ?_); rintro e w' ⟨rfl, rfl⟩) | ((with_reducible refine (i_n.out _).mono ?_); rintro e w' ⟨rfl, rfl⟩) | ((with_reducible refine (i_t.out _).mono ?_); rintro e w' ⟨rfl, rfl⟩) | ((with_reducible refine (i_k.out _).mono ?_); rintro e w' ⟨rfl, rfl⟩) | ((with_reducible refine (i_i.out _).mono ?_); rintro e w' ⟨rfl, rfl⟩) | ((with_reducible refine (i_e.out _).mono ?_); rintro e w' ⟨rfl, rfl⟩))
  have hTz : T2.size ≤ 8000 := by rw [HTB.out, arr_size]; exact hbl8
  have HO := Lib.hid (fun w => Sum.ref_any T2 w (by omega))
  have HTL := Lib.hid (show T2.data.toList = body m from by rw [HTB.out, arr_list])
  have HQ := Lib.hid (quadH_str (Sum.check T2.data.toList))
  have HRES := Lib.hid (show arr (quadH (Sum.check T2.data.toList)) ++ T2 = arr (encL m) from by rw [HTL.out]; (conv => lhs; rw [HTB.out]); rw [arr_cat]; rfl)
  generalize Sum.check T2.data.toList = c at HO HQ HRES
  have hc := c.isLt
  have hqz : (strOfNums [(c.toNat : Int) / 16777216, (c.toNat : Int) / 65536 % 256, (c.toNat : Int) / 256 % 256, (c.toNat : Int) % 256]).size = 4 := by rw [HQ.out, arr_size]; rfl
  have hadd : ∀ W, (Op.stringOp .add (strOfNums [(c.toNat : Int) / 16777216, (c.toNat : Int) / 65536 % 256, (c.toNat : Int) / 256 % 256, (c.toNat : Int) % 256]) T2).run Try.prog W = .ok (.string (arr (encL m))) W := fun W => by
    rw [← HRES.out, ← HQ.out]
    exact run_string_add_sum W _ _ (by omega)
  clear hqz hTz hbl8
  have hconv := Sum.conv4
  go_wp2_with fail
  refine (HO.out _).mono ?_
  rintro e w8 ⟨rfl, rfl⟩
  go_wp2
  go_ret2
  exact ⟨rfl, below_next HB.out (below_box _ _)⟩
set_option maxRecDepth 100000 in
set_option maxHeartbeats 4000000 in
theorem renc_Use (m : Ms) (h : Hd) (w : World) (hi : In w m h) (ha : h.an ≤ 1000000) (hbn : h.bn ≤ 1000000) (hg : goodM m = true) (hH : partsH m.kind m.need = hUse)
    (hh : ∀ w, Calls Try.prog 21 #[.agg #[.int .i64 m.kind, .int .i64 m.page, .bool m.x, .bool m.need, .int .i64 m.n, .int .i64 m.cl, .int .i64 m.ep, .int .i64 m.tn, .int .i64 m.lsn, .slice h.a h.an h.ac, .slice h.b h.bn h.bc]] w fun e w' => e = .returned (.string ⟨#[112]⟩) ∧ Below w.heap.size w w') :
    Calls Try.prog 12 #[.agg #[.int .i64 m.kind, .int .i64 m.page, .bool m.x, .bool m.need, .int .i64 m.n, .int .i64 m.cl, .int .i64 m.ep, .int .i64 m.tn, .int .i64 m.lsn, .slice h.a h.an h.ac, .slice h.b h.bn h.bc]] w fun e w' => e = .returned (.tuple #[.string (arr (encL m)), .int .i64 0]) ∧ Below w.heap.size w w' := by
  obtain ⟨hk, hw, hr⟩ := good_parts hg
  rw [hH] at hw hr
  have HBODY := Lib.hid (show body m = bodyH hUse m from by unfold body; rw [hH])
  have HGD := Lib.hid (fun (w : World) (hj : In w m h) => (show Calls Try.prog 14 #[.agg #[.int .i64 m.kind, .int .i64 m.page, .bool m.x, .bool m.need, .int .i64 m.n, .int .i64 m.cl, .int .i64 m.ep, .int .i64 m.tn, .int .i64 m.lsn, .slice h.a h.an h.ac, .slice h.b h.bn h.bc]] w fun e w' => e = .returned (.bool true) ∧ Below w.heap.size w w' from by have := rgood_any m h w hj ha hbn; rw [hg] at this; exact this))
  have hbl8 := (body_len hg).2
  have hfk : Fits m.kind := ⟨by omega, by omega⟩
  obtain ⟨w1, w2, w3, w4, w5⟩ := whole_parts hw
  obtain ⟨r1, r2, r3, r4, r5, r6, r7⟩ := bare_parts hr
  have hfp : Fits m.page := ⟨by have := w1 rfl; omega, by have := w1 rfl; omega⟩
  have HES := Lib.hid (r7 rfl)
  have HBN := Lib.hid (show h.bn = 0 from by have := hi.e.len; rw [r7 rfl] at this; exact this.symm)
  have Hhfk := Lib.hid hfk
  clear hfk
  have Hhfp := Lib.hid hfp
  clear hfp
  have HLN := Lib.hid hi.e.len
  clear w1 w2 w3 w4 w5 r1 r2 r3 r4 r5 r6 r7 hw hr hk hg hH
  have i_p := Lib.hid (fun w => in_is ⟨#[112]⟩ 112 true (by decide) (by decide) w 112 (by decide))
  have i_x := Lib.hid (fun w => in_is ⟨#[112]⟩ 120 false (by decide) (by decide) w 120 (by decide))
  have i_n := Lib.hid (fun w => in_is ⟨#[112]⟩ 110 false (by decide) (by decide) w 110 (by decide))
  have i_t := Lib.hid (fun w => in_is ⟨#[112]⟩ 116 false (by decide) (by decide) w 116 (by decide))
  have i_k := Lib.hid (fun w => in_is ⟨#[112]⟩ 107 false (by decide) (by decide) w 107 (by decide))
  have i_i := Lib.hid (fun w => in_is ⟨#[112]⟩ 105 false (by decide) (by decide) w 105 (by decide))
  have i_e := Lib.hid (fun w => in_is ⟨#[112]⟩ 101 false (by decide) (by decide) w 101 (by decide))
  have hb := below_box w (.cells #[.int .i64 m.kind, .int .i64 m.page, .bool m.x, .bool m.need, .int .i64 m.n, .int .i64 m.cl, .int .i64 m.ep, .int .i64 m.tn, .int .i64 m.lsn, .slice h.a h.an h.ac, .slice h.b h.bn h.bc] 29)
  have hM := Blk.new w 29 #[.int .i64 m.kind, .int .i64 m.page, .bool m.x, .bool m.need, .int .i64 m.n, .int .i64 m.cl, .int .i64 m.ep, .int .i64 m.tn, .int .i64 m.lsn, .slice h.a h.an h.ac, .slice h.b h.bn h.bc]
  have hs := alloc_lt w (.cells #[.int .i64 m.kind, .int .i64 m.page, .bool m.x, .bool m.need, .int .i64 m.n, .int .i64 m.cl, .int .i64 m.ep, .int .i64 m.tn, .int .i64 m.lsn, .slice h.a h.an h.ac, .slice h.b h.bn h.bc] 29)
  have HH := Lib.hid hh
  have HI := Lib.hid (hi.below hb)
  clear hh hi
  go_enter Try.func12, Try.ntmps12
  try dsimp only [List.append]
  go_upto_region 1 with (fail)
  generalize hGen : w.alloc (.cells #[.int .i64 m.kind, .int .i64 m.page, .bool m.x, .bool m.need, .int .i64 m.n, .int .i64 m.cl, .int .i64 m.ep, .int .i64 m.tn, .int .i64 m.lsn, .slice h.a h.an h.ac, .slice h.b h.bn h.bc] 29) = W at hb hM hs HI ⊢
  clear hGen
  obtain ⟨c0, c1, c2, c3, c4, c5, c6, c7, c8, c9, c10⟩ := msg_cells hM
  have HM := Lib.hid hM
  have HB := Lib.hid hb
  clear hM hb
  go_wp2_with (go_at_call 23; first | ((with_reducible refine (i_p.out _).mono ?_); rintro e w' ⟨rfl, rfl⟩) | ((with_reducible refine (i_x.out _).mono ?_); rintro e w' ⟨rfl, rfl⟩) | ((with_reducible refine (i_n.out _).mono ?_); rintro e w' ⟨rfl, rfl⟩) | ((with_reducible refine (i_t.out _).mono ?_); rintro e w' ⟨rfl, rfl⟩) | ((with_reducible refine (i_k.out _).mono ?_); rintro e w' ⟨rfl, rfl⟩) | ((with_reducible refine (i_i.out _).mono ?_); rintro e w' ⟨rfl, rfl⟩) | ((with_reducible refine (i_e.out _).mono ?_); rintro e w' ⟨rfl, rfl⟩))
  refine (HGD.out _ HI.out).mono ?_
  rintro e wa ⟨rfl, ba⟩
  replace HM := Lib.hid (HM.out.below ba hs)
  replace HB := Lib.hid (below_next HB.out ba)
  replace HI := Lib.hid (HI.out.below ba)
  replace hs := Nat.lt_of_lt_of_le hs ba.size
  clear c0 c1 c2 c3 c4 c5 c6 c7 c8 c9 c10 ba
  obtain ⟨c0, c1, c2, c3, c4, c5, c6, c7, c8, c9, c10⟩ := msg_cells HM.out
  go_wp2_with (go_at_call 23; first | ((with_reducible refine (i_p.out _).mono ?_); rintro e w' ⟨rfl, rfl⟩) | ((with_reducible refine (i_x.out _).mono ?_); rintro e w' ⟨rfl, rfl⟩) | ((with_reducible refine (i_n.out _).mono ?_); rintro e w' ⟨rfl, rfl⟩) | ((with_reducible refine (i_t.out _).mono ?_); rintro e w' ⟨rfl, rfl⟩) | ((with_reducible refine (i_k.out _).mono ?_); rintro e w' ⟨rfl, rfl⟩) | ((with_reducible refine (i_i.out _).mono ?_); rintro e w' ⟨rfl, rfl⟩) | ((with_reducible refine (i_e.out _).mono ?_); rintro e w' ⟨rfl, rfl⟩))
  refine (HH.out _).mono ?_
  rintro e wa ⟨rfl, ba⟩
  replace HM := Lib.hid (HM.out.below ba hs)
  replace HB := Lib.hid (below_next HB.out ba)
  replace HI := Lib.hid (HI.out.below ba)
  replace hs := Nat.lt_of_lt_of_le hs ba.size
  clear c0 c1 c2 c3 c4 c5 c6 c7 c8 c9 c10 ba
  obtain ⟨c0, c1, c2, c3, c4, c5, c6, c7, c8, c9, c10⟩ := msg_cells HM.out
  go_wp2_with (go_at_call 23; first | ((with_reducible refine (i_p.out _).mono ?_); rintro e w' ⟨rfl, rfl⟩) | ((with_reducible refine (i_x.out _).mono ?_); rintro e w' ⟨rfl, rfl⟩) | ((with_reducible refine (i_n.out _).mono ?_); rintro e w' ⟨rfl, rfl⟩) | ((with_reducible refine (i_t.out _).mono ?_); rintro e w' ⟨rfl, rfl⟩) | ((with_reducible refine (i_k.out _).mono ?_); rintro e w' ⟨rfl, rfl⟩) | ((with_reducible refine (i_i.out _).mono ?_); rintro e w' ⟨rfl, rfl⟩) | ((with_reducible refine (i_e.out _).mono ?_); rintro e w' ⟨rfl, rfl⟩))
  refine (Nib.refInt m.kind _ Hhfk.out).mono ?_
  rintro e wa ⟨rfl, ba⟩
  replace HM := Lib.hid (HM.out.below ba hs)
  replace HB := Lib.hid (below_next HB.out ba)
  replace HI := Lib.hid (HI.out.below ba)
  replace hs := Nat.lt_of_lt_of_le hs ba.size
  clear c0 c1 c2 c3 c4 c5 c6 c7 c8 c9 c10 ba
  obtain ⟨c0, c1, c2, c3, c4, c5, c6, c7, c8, c9, c10⟩ := msg_cells HM.out
  have HT := Lib.hid (encB_arr m.kind)
  have hT : (Nib.encB m.kind).size ≤ 10 := Nib.encB_le Hhfk.out
  generalize Nib.encB m.kind = T at HT hT ⊢
  go_wp2_with (go_at_call 23; first | ((with_reducible refine (i_p.out _).mono ?_); rintro e w' ⟨rfl, rfl⟩) | ((with_reducible refine (i_x.out _).mono ?_); rintro e w' ⟨rfl, rfl⟩) | ((with_reducible refine (i_n.out _).mono ?_); rintro e w' ⟨rfl, rfl⟩) | ((with_reducible refine (i_t.out _).mono ?_); rintro e w' ⟨rfl, rfl⟩) | ((with_reducible refine (i_k.out _).mono ?_); rintro e w' ⟨rfl, rfl⟩) | ((with_reducible refine (i_i.out _).mono ?_); rintro e w' ⟨rfl, rfl⟩) | ((with_reducible refine (i_e.out _).mono ?_); rintro e w' ⟨rfl, rfl⟩))
  refine (Nib.refInt m.page _ Hhfp.out).mono ?_
  rintro e wa ⟨rfl, ba⟩
  replace HM := Lib.hid (HM.out.below ba hs)
  replace HB := Lib.hid (below_next HB.out ba)
  replace HI := Lib.hid (HI.out.below ba)
  replace hs := Nat.lt_of_lt_of_le hs ba.size
  clear c0 c1 c2 c3 c4 c5 c6 c7 c8 c9 c10 ba
  obtain ⟨c0, c1, c2, c3, c4, c5, c6, c7, c8, c9, c10⟩ := msg_cells HM.out
  have hE : (Nib.encB m.page).size ≤ 10 := Nib.encB_le Hhfp.out
  obtain ⟨T1, hT2⟩ : ∃ x, x = T ++ Nib.encB m.page := ⟨_, rfl⟩
  have hadd : ∀ W, (Op.stringOp .add T (Nib.encB m.page)).run Try.prog W = .ok (.string T1) W := fun W => by rw [hT2]; exact run_string_add_sum W _ _ (by omega)
  have hS2 : T1.size ≤ 20 := by rw [hT2, ByteArray.size_append]; omega
  replace HT := Lib.hid (show T1 = arr (enc m.kind ++ enc m.page) from by rw [hT2, HT.out, show Nib.encB m.page = arr (enc m.page) from encB_arr m.page, arr_cat])
  clear hT2
  go_upto_region 7 with (go_at_call 23; first | ((with_reducible refine (i_p.out _).mono ?_); rintro e w' ⟨rfl, rfl⟩) | ((with_reducible refine (i_x.out _).mono ?_); rintro e w' ⟨rfl, rfl⟩) | ((with_reducible refine (i_n.out _).mono ?_); rintro e w' ⟨rfl, rfl⟩) | ((with_reducible refine (i_t.out _).mono ?_); rintro e w' ⟨rfl, rfl⟩) | ((with_reducible refine (i_k.out _).mono ?_); rintro e w' ⟨rfl, rfl⟩) | ((with_reducible refine (i_i.out _).mono ?_); rintro e w' ⟨rfl, rfl⟩) | ((with_reducible refine (i_e.out _).mono ?_); rintro e w' ⟨rfl, rfl⟩))
  clear hadd hE
  clear hT
  have hT := hS2
  clear hS2
  have HFIN := Lib.hid (show enc m.kind ++ enc m.page ++ entsB m.es = body m from by rw [HBODY.out]; unfold bodyH pPage pX pNeed pTxn pN pImage pCount; rw [HES.out]; simp [hUse])
  generalize enc m.kind ++ enc m.page = L at HT HFIN
  have HWH := Lib.hid hs
  rw [HBN.out] at c10
  have HTB := Lib.hid (show T1 = arr (body m) from by rw [HT.out, ← HFIN.out, HES.out]; simp [entsB])
  go_upto_region 20 with (go_at_call 23; first | ((with_reducible refine (i_p.out _).mono ?_); rintro e w' ⟨rfl, rfl⟩) | ((with_reducible refine (i_x.out _).mono ?_); rintro e w' ⟨rfl, rfl⟩) | ((with_reducible refine (i_n.out _).mono ?_); rintro e w' ⟨rfl, rfl⟩) | ((with_reducible refine (i_t.out _).mono ?_); rintro e w' ⟨rfl, rfl⟩) | ((with_reducible refine (i_k.out _).mono ?_); rintro e w' ⟨rfl, rfl⟩) | ((with_reducible refine (i_i.out _).mono ?_); rintro e w' ⟨rfl, rfl⟩) | ((with_reducible refine (i_e.out _).mono ?_); rintro e w' ⟨rfl, rfl⟩))
  have hTz : T1.size ≤ 8000 := by rw [HTB.out, arr_size]; exact hbl8
  have HO := Lib.hid (fun w => Sum.ref_any T1 w (by omega))
  have HTL := Lib.hid (show T1.data.toList = body m from by rw [HTB.out, arr_list])
  have HQ := Lib.hid (quadH_str (Sum.check T1.data.toList))
  have HRES := Lib.hid (show arr (quadH (Sum.check T1.data.toList)) ++ T1 = arr (encL m) from by rw [HTL.out]; (conv => lhs; rw [HTB.out]); rw [arr_cat]; rfl)
  generalize Sum.check T1.data.toList = c at HO HQ HRES
  have hc := c.isLt
  have hqz : (strOfNums [(c.toNat : Int) / 16777216, (c.toNat : Int) / 65536 % 256, (c.toNat : Int) / 256 % 256, (c.toNat : Int) % 256]).size = 4 := by rw [HQ.out, arr_size]; rfl
  have hadd : ∀ W, (Op.stringOp .add (strOfNums [(c.toNat : Int) / 16777216, (c.toNat : Int) / 65536 % 256, (c.toNat : Int) / 256 % 256, (c.toNat : Int) % 256]) T1).run Try.prog W = .ok (.string (arr (encL m))) W := fun W => by
    rw [← HRES.out, ← HQ.out]
    exact run_string_add_sum W _ _ (by omega)
  clear hqz hTz hbl8
  have hconv := Sum.conv4
  go_wp2_with fail
  refine (HO.out _).mono ?_
  rintro e w8 ⟨rfl, rfl⟩
  go_wp2
  go_ret2
  exact ⟨rfl, below_next HB.out (below_box _ _)⟩
set_option maxRecDepth 100000 in
set_option maxHeartbeats 4000000 in
theorem renc_Log' (m : Ms) (qa : Option Addr) (qan qac : Nat) (qb : Option Addr) (qbn qbc : Nat) (w : World) (hi : In w m ⟨qa, qan, qac, qb, qbn, qbc⟩) (ha : qan ≤ 1000000) (hbn : qbn ≤ 1000000) (hg : goodM m = true) (hH : partsH m.kind m.need = hLog)
    (hh : ∀ w, Calls Try.prog 21 #[.agg #[.int .i64 m.kind, .int .i64 m.page, .bool m.x, .bool m.need, .int .i64 m.n, .int .i64 m.cl, .int .i64 m.ep, .int .i64 m.tn, .int .i64 m.lsn, .slice qa qan qac, .slice qb qbn qbc]] w fun e w' => e = .returned (.string ⟨#[101]⟩) ∧ Below w.heap.size w w') :
    Calls Try.prog 12 #[.agg #[.int .i64 m.kind, .int .i64 m.page, .bool m.x, .bool m.need, .int .i64 m.n, .int .i64 m.cl, .int .i64 m.ep, .int .i64 m.tn, .int .i64 m.lsn, .slice qa qan qac, .slice qb qbn qbc]] w fun e w' => e = .returned (.tuple #[.string (arr (encL m)), .int .i64 0]) ∧ Below w.heap.size w w' := by
  obtain ⟨hk, hw, hr⟩ := good_parts hg
  rw [hH] at hw hr
  have HBODY := Lib.hid (show body m = bodyH hLog m from by unfold body; rw [hH])
  have HGD := Lib.hid (fun (w : World) (hj : In w m ⟨qa, qan, qac, qb, qbn, qbc⟩) => (show Calls Try.prog 14 #[.agg #[.int .i64 m.kind, .int .i64 m.page, .bool m.x, .bool m.need, .int .i64 m.n, .int .i64 m.cl, .int .i64 m.ep, .int .i64 m.tn, .int .i64 m.lsn, .slice qa qan qac, .slice qb qbn qbc]] w fun e w' => e = .returned (.bool true) ∧ Below w.heap.size w w' from by have := rgood_any m ⟨qa, qan, qac, qb, qbn, qbc⟩ w hj ha hbn; rw [hg] at this; exact this))
  have hbl8 := (body_len hg).2
  have hfk : Fits m.kind := ⟨by omega, by omega⟩
  obtain ⟨w1, w2, w3, w4, w5⟩ := whole_parts hw
  obtain ⟨r1, r2, r3, r4, r5, r6, r7⟩ := bare_parts hr
  have hes := (w5 rfl).1
  have HEG := Lib.hid (w5 rfl).2
  have hfe : Fits (m.es.length : Int) := ⟨by omega, by omega⟩
  have hbl : qbn ≤ 16 := by have : m.es.length = qbn := hi.e.len; omega
  have Hhfk := Lib.hid hfk
  clear hfk
  have Hhfe := Lib.hid hfe
  clear hfe
  have HLN := Lib.hid (show m.es.length = qbn from hi.e.len)
  clear w1 w2 w3 w4 w5 r1 r2 r3 r4 r5 r6 r7 hw hr hk hg hH
  have i_p := Lib.hid (fun w => in_is ⟨#[101]⟩ 112 false (by decide) (by decide) w 112 (by decide))
  have i_x := Lib.hid (fun w => in_is ⟨#[101]⟩ 120 false (by decide) (by decide) w 120 (by decide))
  have i_n := Lib.hid (fun w => in_is ⟨#[101]⟩ 110 false (by decide) (by decide) w 110 (by decide))
  have i_t := Lib.hid (fun w => in_is ⟨#[101]⟩ 116 false (by decide) (by decide) w 116 (by decide))
  have i_k := Lib.hid (fun w => in_is ⟨#[101]⟩ 107 false (by decide) (by decide) w 107 (by decide))
  have i_i := Lib.hid (fun w => in_is ⟨#[101]⟩ 105 false (by decide) (by decide) w 105 (by decide))
  have i_e := Lib.hid (fun w => in_is ⟨#[101]⟩ 101 true (by decide) (by decide) w 101 (by decide))
  have hb := below_box w (.cells #[.int .i64 m.kind, .int .i64 m.page, .bool m.x, .bool m.need, .int .i64 m.n, .int .i64 m.cl, .int .i64 m.ep, .int .i64 m.tn, .int .i64 m.lsn, .slice qa qan qac, .slice qb qbn qbc] 29)
  have hM := Blk.new w 29 #[.int .i64 m.kind, .int .i64 m.page, .bool m.x, .bool m.need, .int .i64 m.n, .int .i64 m.cl, .int .i64 m.ep, .int .i64 m.tn, .int .i64 m.lsn, .slice qa qan qac, .slice qb qbn qbc]
  have hs := alloc_lt w (.cells #[.int .i64 m.kind, .int .i64 m.page, .bool m.x, .bool m.need, .int .i64 m.n, .int .i64 m.cl, .int .i64 m.ep, .int .i64 m.tn, .int .i64 m.lsn, .slice qa qan qac, .slice qb qbn qbc] 29)
  have HH := Lib.hid hh
  have HI := Lib.hid (hi.below hb)
  clear hh hi
  go_enter Try.func12, Try.ntmps12
  try dsimp only [List.append]
  go_upto_region 1 with (fail)
  generalize hGen : w.alloc (.cells #[.int .i64 m.kind, .int .i64 m.page, .bool m.x, .bool m.need, .int .i64 m.n, .int .i64 m.cl, .int .i64 m.ep, .int .i64 m.tn, .int .i64 m.lsn, .slice qa qan qac, .slice qb qbn qbc] 29) = W at hb hM hs HI ⊢
  clear hGen
  obtain ⟨c0, c1, c2, c3, c4, c5, c6, c7, c8, c9, c10⟩ := msg_cells (m := m) (h := ⟨qa, qan, qac, qb, qbn, qbc⟩) hM
  simp only at c9 c10
  have HM := Lib.hid hM
  have HB := Lib.hid hb
  clear hM hb
  go_wp2_with (go_at_call 23; first | ((with_reducible refine (i_p.out _).mono ?_); rintro e w' ⟨rfl, rfl⟩) | ((with_reducible refine (i_x.out _).mono ?_); rintro e w' ⟨rfl, rfl⟩) | ((with_reducible refine (i_n.out _).mono ?_); rintro e w' ⟨rfl, rfl⟩) | ((with_reducible refine (i_t.out _).mono ?_); rintro e w' ⟨rfl, rfl⟩) | ((with_reducible refine (i_k.out _).mono ?_); rintro e w' ⟨rfl, rfl⟩) | ((with_reducible refine (i_i.out _).mono ?_); rintro e w' ⟨rfl, rfl⟩) | ((with_reducible refine (i_e.out _).mono ?_); rintro e w' ⟨rfl, rfl⟩))
  refine (HGD.out _ HI.out).mono ?_
  rintro e wa ⟨rfl, ba⟩
  replace HM := Lib.hid (HM.out.below ba hs)
  replace HB := Lib.hid (below_next HB.out ba)
  replace HI := Lib.hid (HI.out.below ba)
  replace hs := Nat.lt_of_lt_of_le hs ba.size
  clear c0 c1 c2 c3 c4 c5 c6 c7 c8 c9 c10 ba
  obtain ⟨c0, c1, c2, c3, c4, c5, c6, c7, c8, c9, c10⟩ := msg_cells (m := m) (h := ⟨qa, qan, qac, qb, qbn, qbc⟩) HM.out
  simp only at c9 c10
  go_wp2_with (go_at_call 23; first | ((with_reducible refine (i_p.out _).mono ?_); rintro e w' ⟨rfl, rfl⟩) | ((with_reducible refine (i_x.out _).mono ?_); rintro e w' ⟨rfl, rfl⟩) | ((with_reducible refine (i_n.out _).mono ?_); rintro e w' ⟨rfl, rfl⟩) | ((with_reducible refine (i_t.out _).mono ?_); rintro e w' ⟨rfl, rfl⟩) | ((with_reducible refine (i_k.out _).mono ?_); rintro e w' ⟨rfl, rfl⟩) | ((with_reducible refine (i_i.out _).mono ?_); rintro e w' ⟨rfl, rfl⟩) | ((with_reducible refine (i_e.out _).mono ?_); rintro e w' ⟨rfl, rfl⟩))
  refine (HH.out _).mono ?_
  rintro e wa ⟨rfl, ba⟩
  replace HM := Lib.hid (HM.out.below ba hs)
  replace HB := Lib.hid (below_next HB.out ba)
  replace HI := Lib.hid (HI.out.below ba)
  replace hs := Nat.lt_of_lt_of_le hs ba.size
  clear c0 c1 c2 c3 c4 c5 c6 c7 c8 c9 c10 ba
  obtain ⟨c0, c1, c2, c3, c4, c5, c6, c7, c8, c9, c10⟩ := msg_cells (m := m) (h := ⟨qa, qan, qac, qb, qbn, qbc⟩) HM.out
  simp only at c9 c10
  go_wp2_with (go_at_call 23; first | ((with_reducible refine (i_p.out _).mono ?_); rintro e w' ⟨rfl, rfl⟩) | ((with_reducible refine (i_x.out _).mono ?_); rintro e w' ⟨rfl, rfl⟩) | ((with_reducible refine (i_n.out _).mono ?_); rintro e w' ⟨rfl, rfl⟩) | ((with_reducible refine (i_t.out _).mono ?_); rintro e w' ⟨rfl, rfl⟩) | ((with_reducible refine (i_k.out _).mono ?_); rintro e w' ⟨rfl, rfl⟩) | ((with_reducible refine (i_i.out _).mono ?_); rintro e w' ⟨rfl, rfl⟩) | ((with_reducible refine (i_e.out _).mono ?_); rintro e w' ⟨rfl, rfl⟩))
  refine (Nib.refInt m.kind _ Hhfk.out).mono ?_
  rintro e wa ⟨rfl, ba⟩
  replace HM := Lib.hid (HM.out.below ba hs)
  replace HB := Lib.hid (below_next HB.out ba)
  replace HI := Lib.hid (HI.out.below ba)
  replace hs := Nat.lt_of_lt_of_le hs ba.size
  clear c0 c1 c2 c3 c4 c5 c6 c7 c8 c9 c10 ba
  obtain ⟨c0, c1, c2, c3, c4, c5, c6, c7, c8, c9, c10⟩ := msg_cells (m := m) (h := ⟨qa, qan, qac, qb, qbn, qbc⟩) HM.out
  simp only at c9 c10
  have HT := Lib.hid (encB_arr m.kind)
  have hT : (Nib.encB m.kind).size ≤ 10 := Nib.encB_le Hhfk.out
  generalize Nib.encB m.kind = T at HT hT ⊢
  have HLI := Lib.hid (show ((qbn : Nat) : Int) = (m.es.length : Int) from by rw [HLN.out])
  go_wp2_with (go_at_call 23; first | ((with_reducible refine (i_p.out _).mono ?_); rintro e w' ⟨rfl, rfl⟩) | ((with_reducible refine (i_x.out _).mono ?_); rintro e w' ⟨rfl, rfl⟩) | ((with_reducible refine (i_n.out _).mono ?_); rintro e w' ⟨rfl, rfl⟩) | ((with_reducible refine (i_t.out _).mono ?_); rintro e w' ⟨rfl, rfl⟩) | ((with_reducible refine (i_k.out _).mono ?_); rintro e w' ⟨rfl, rfl⟩) | ((with_reducible refine (i_i.out _).mono ?_); rintro e w' ⟨rfl, rfl⟩) | ((with_reducible refine (i_e.out _).mono ?_); rintro e w' ⟨rfl, rfl⟩))
  refine (Nib.refInt ((qbn : Nat) : Int) _ (by rw [HLI.out]; exact Hhfe.out)).mono ?_
  rw [HLI.out]
  rintro e wa ⟨rfl, ba⟩
  replace HM := Lib.hid (HM.out.below ba hs)
  replace HB := Lib.hid (below_next HB.out ba)
  replace HI := Lib.hid (HI.out.below ba)
  replace hs := Nat.lt_of_lt_of_le hs ba.size
  clear c0 c1 c2 c3 c4 c5 c6 c7 c8 c9 c10 ba
  obtain ⟨c0, c1, c2, c3, c4, c5, c6, c7, c8, c9, c10⟩ := msg_cells (m := m) (h := ⟨qa, qan, qac, qb, qbn, qbc⟩) HM.out
  simp only at c9 c10
  have hE : (Nib.encB (m.es.length : Int)).size ≤ 10 := Nib.encB_le Hhfe.out
  obtain ⟨T1, hT2⟩ : ∃ x, x = T ++ Nib.encB (m.es.length : Int) := ⟨_, rfl⟩
  have hadd : ∀ W, (Op.stringOp .add T (Nib.encB (m.es.length : Int))).run Try.prog W = .ok (.string T1) W := fun W => by rw [hT2]; exact run_string_add_sum W _ _ (by omega)
  have hS2 : T1.size ≤ 20 := by rw [hT2, ByteArray.size_append]; omega
  replace HT := Lib.hid (show T1 = arr (enc m.kind ++ enc (m.es.length : Int)) from by rw [hT2, HT.out, show Nib.encB (m.es.length : Int) = arr (enc (m.es.length : Int)) from encB_arr _, arr_cat])
  clear hT2
  go_upto_region 20 with (go_at_call 23; first | ((with_reducible refine (i_p.out _).mono ?_); rintro e w' ⟨rfl, rfl⟩) | ((with_reducible refine (i_x.out _).mono ?_); rintro e w' ⟨rfl, rfl⟩) | ((with_reducible refine (i_n.out _).mono ?_); rintro e w' ⟨rfl, rfl⟩) | ((with_reducible refine (i_t.out _).mono ?_); rintro e w' ⟨rfl, rfl⟩) | ((with_reducible refine (i_k.out _).mono ?_); rintro e w' ⟨rfl, rfl⟩) | ((with_reducible refine (i_i.out _).mono ?_); rintro e w' ⟨rfl, rfl⟩) | ((with_reducible refine (i_e.out _).mono ?_); rintro e w' ⟨rfl, rfl⟩))
  clear hadd hE
  clear hT
  have hT := hS2
  clear hS2
  have HFIN := Lib.hid (show enc m.kind ++ enc (m.es.length : Int) ++ entsB m.es = body m from by rw [HBODY.out]; unfold bodyH pPage pX pNeed pTxn pN pImage pCount; simp [hLog])
  generalize enc m.kind ++ enc (m.es.length : Int) = L at HT HFIN
  have HWH := Lib.hid hs
  have HBS := Lib.hid HB.out
  go_wp2_with (go_at_call 23; first | ((with_reducible refine (i_p.out _).mono ?_); rintro e w' ⟨rfl, rfl⟩) | ((with_reducible refine (i_x.out _).mono ?_); rintro e w' ⟨rfl, rfl⟩) | ((with_reducible refine (i_n.out _).mono ?_); rintro e w' ⟨rfl, rfl⟩) | ((with_reducible refine (i_t.out _).mono ?_); rintro e w' ⟨rfl, rfl⟩) | ((with_reducible refine (i_k.out _).mono ?_); rintro e w' ⟨rfl, rfl⟩) | ((with_reducible refine (i_i.out _).mono ?_); rintro e w' ⟨rfl, rfl⟩) | ((with_reducible refine (i_e.out _).mono ?_); rintro e w' ⟨rfl, rfl⟩))
  clear c0 c1 c2 c3 c4 c5 c6 c7 c8 c9 c10
  go_loopw [5, 8] (fun s i wr => ∃ k : Nat, k ≤ qbn ∧ i = .int .i64 (k : Int) ∧ (∃ X : ByteArray, s = .string X ∧ Hid (X = arr (L ++ entsB (m.es.take k)))) ∧ Hid (Below wa.heap.size wa wr)) (fun _ i _ => qbn - (intOf i).toNat)
  case atStart => exact ⟨0, by omega, rfl, ⟨T1, rfl, Lib.hid (by rw [HT.out]; simp [entsB])⟩, Lib.hid (Below.refl _ _)⟩
  case round =>
    obtain ⟨k, hk, rfl, ⟨X, rfl, HX⟩, HBL⟩ := hrel
    have hMr := HM.out.below HBL.out HWH.out
    obtain ⟨c0, c1, c2, c3, c4, c5, c6, c7, c8, c9, c10⟩ := msg_cells (m := m) (h := ⟨qa, qan, qac, qb, qbn, qbc⟩) hMr
    simp only at c9 c10
    clear hMr
    have hXs : X.size ≤ 8000 := by
      have h1 : (L ++ entsB (m.es.take k)).length ≤ (body m).length := by
        rw [← HFIN.out, List.length_append, List.length_append]
        have h2 : entsB m.es = entsB (m.es.take k) ++ entsB (m.es.drop k) := by unfold entsB; rw [← List.flatMap_append, List.take_append_drop]
        rw [h2, List.length_append]; omega
      rw [HX.out, arr_size]; omega
    by_cases hlt : k < qbn
    · have hEN : Ents wr qb qbn m.es := (HI.out.below HBL.out).e
      obtain ⟨b, off, x, rfl, hb1, hgt, hat, hsm⟩ := hEN.at_ hlt
      clear hEN
      obtain ⟨x0, x1, x2, x3, x4, x5, x6, x7, x8, x9, x10, x11, x12⟩ := hat.cells
      have hgx : Ent.goodB x = true := HEG.out x (List.mem_of_getElem? hgt)
      have HNX := Lib.hid (entsB_take hgt)
      have hlr : (arr (rawL x)).size ≤ 464 := by rw [arr_size]; exact (Ent.raw_len hgx).2
      have HEE := Lib.hid (show Ent.encE x = arr (rawL x) from by unfold Ent.encE; rw [hgx]; rfl)
      have HSM := Lib.hid hsm
      clear hat hgt hsm hgx
      have HAX := Lib.hid (arr_list (rawL x))
      go_wp2_with fail
      refine (Ent.renc_any x _ HSM.out).mono ?_
      rw [HEE.out]
      rintro e w4 ⟨rfl, b4⟩
      have HB4 := Lib.hid (below_next HBL.out b4)
      clear b4
      generalize Ent.codeE x = code
      have HX2 := Lib.hid (show X ++ arr (rawL x) = arr (L ++ entsB (m.es.take (k + 1))) from by rw [HX.out, arr_cat, HNX.out, List.append_assoc])
      generalize arr (rawL x) = R at hlr HX2 ⊢
      go_wp2
      go_roundw
      case rel => exact ⟨k + 1, by omega, by go_num, ⟨_, rfl, HX2⟩, HB4⟩
      case measure => simp [intOf]; omega
    · have hkk : k = qbn := by omega
      have HTB := Lib.hid (show X = arr (body m) from by rw [HX.out, ← HFIN.out, hkk, ← HLN.out, List.take_length])
      clear hkk
      have hTz : X.size ≤ 8000 := by rw [HTB.out, arr_size]; exact hbl8
      have HO := Lib.hid (fun w => Sum.ref_any X w (by omega))
      have HTL := Lib.hid (show X.data.toList = body m from by rw [HTB.out, arr_list])
      have HQ := Lib.hid (quadH_str (Sum.check X.data.toList))
      have HRES := Lib.hid (show arr (quadH (Sum.check X.data.toList)) ++ X = arr (encL m) from by rw [HTL.out]; (conv => lhs; rw [HTB.out]); rw [arr_cat]; rfl)
      generalize Sum.check X.data.toList = c at HO HQ HRES
      have hc := c.isLt
      have hqz : (strOfNums [(c.toNat : Int) / 16777216, (c.toNat : Int) / 65536 % 256, (c.toNat : Int) / 256 % 256, (c.toNat : Int) % 256]).size = 4 := by rw [HQ.out, arr_size]; rfl
      have hadd : ∀ W, (Op.stringOp .add (strOfNums [(c.toNat : Int) / 16777216, (c.toNat : Int) / 65536 % 256, (c.toNat : Int) / 256 % 256, (c.toNat : Int) % 256]) X).run Try.prog W = .ok (.string (arr (encL m))) W := fun W => by
        rw [← HRES.out, ← HQ.out]
        exact run_string_add_sum W _ _ (by omega)
      clear hqz hTz hbl8
      have hconv := Sum.conv4
      go_wp2_with fail
      refine (HO.out _).mono ?_
      rintro e w8 ⟨rfl, rfl⟩
      go_wp2
      go_ret2
      exact ⟨rfl, below_next (below_next HB.out HBL.out) (below_box _ _)⟩
theorem renc_Log (m : Ms) (h : Hd) (w : World) (hi : In w m h) (ha : h.an ≤ 1000000) (hbn : h.bn ≤ 1000000) (hg : goodM m = true) (hH : partsH m.kind m.need = hLog)
    (hh : ∀ w, Calls Try.prog 21 #[.agg #[.int .i64 m.kind, .int .i64 m.page, .bool m.x, .bool m.need, .int .i64 m.n, .int .i64 m.cl, .int .i64 m.ep, .int .i64 m.tn, .int .i64 m.lsn, .slice h.a h.an h.ac, .slice h.b h.bn h.bc]] w fun e w' => e = .returned (.string ⟨#[101]⟩) ∧ Below w.heap.size w w') :
    Calls Try.prog 12 #[.agg #[.int .i64 m.kind, .int .i64 m.page, .bool m.x, .bool m.need, .int .i64 m.n, .int .i64 m.cl, .int .i64 m.ep, .int .i64 m.tn, .int .i64 m.lsn, .slice h.a h.an h.ac, .slice h.b h.bn h.bc]] w fun e w' => e = .returned (.tuple #[.string (arr (encL m)), .int .i64 0]) ∧ Below w.heap.size w w' :=
  renc_Log' m h.a h.an h.ac h.b h.bn h.bc w hi ha hbn hg hH hh
set_option maxRecDepth 100000 in
set_option maxHeartbeats 4000000 in
theorem renc_Image (m : Ms) (h : Hd) (w : World) (hi : In w m h) (ha : h.an ≤ 1000000) (hbn : h.bn ≤ 1000000) (hg : goodM m = true) (hH : partsH m.kind m.need = hImage)
    (hh : ∀ w, Calls Try.prog 21 #[.agg #[.int .i64 m.kind, .int .i64 m.page, .bool m.x, .bool m.need, .int .i64 m.n, .int .i64 m.cl, .int .i64 m.ep, .int .i64 m.tn, .int .i64 m.lsn, .slice h.a h.an h.ac, .slice h.b h.bn h.bc]] w fun e w' => e = .returned (.string ⟨#[112, 105]⟩) ∧ Below w.heap.size w w') :
    Calls Try.prog 12 #[.agg #[.int .i64 m.kind, .int .i64 m.page, .bool m.x, .bool m.need, .int .i64 m.n, .int .i64 m.cl, .int .i64 m.ep, .int .i64 m.tn, .int .i64 m.lsn, .slice h.a h.an h.ac, .slice h.b h.bn h.bc]] w fun e w' => e = .returned (.tuple #[.string (arr (encL m)), .int .i64 0]) ∧ Below w.heap.size w w' := by
  obtain ⟨hk, hw, hr⟩ := good_parts hg
  rw [hH] at hw hr
  have HBODY := Lib.hid (show body m = bodyH hImage m from by unfold body; rw [hH])
  have HGD := Lib.hid (fun (w : World) (hj : In w m h) => (show Calls Try.prog 14 #[.agg #[.int .i64 m.kind, .int .i64 m.page, .bool m.x, .bool m.need, .int .i64 m.n, .int .i64 m.cl, .int .i64 m.ep, .int .i64 m.tn, .int .i64 m.lsn, .slice h.a h.an h.ac, .slice h.b h.bn h.bc]] w fun e w' => e = .returned (.bool true) ∧ Below w.heap.size w w' from by have := rgood_any m h w hj ha hbn; rw [hg] at this; exact this))
  have hbl8 := (body_len hg).2
  have hfk : Fits m.kind := ⟨by omega, by omega⟩
  obtain ⟨w1, w2, w3, w4, w5⟩ := whole_parts hw
  obtain ⟨r1, r2, r3, r4, r5, r6, r7⟩ := bare_parts hr
  have hfp : Fits m.page := ⟨by have := w1 rfl; omega, by have := w1 rfl; omega⟩
  have HIM := Lib.hid (w4 rfl)
  have HES := Lib.hid (r7 rfl)
  have HBN := Lib.hid (show h.bn = 0 from by have := hi.e.len; rw [r7 rfl] at this; exact this.symm)
  have Hhfk := Lib.hid hfk
  clear hfk
  have Hhfp := Lib.hid hfp
  clear hfp
  have HLN := Lib.hid hi.e.len
  clear w1 w2 w3 w4 w5 r1 r2 r3 r4 r5 r6 r7 hw hr hk hg hH
  have i_p := Lib.hid (fun w => in_is ⟨#[112, 105]⟩ 112 true (by decide) (by decide) w 112 (by decide))
  have i_x := Lib.hid (fun w => in_is ⟨#[112, 105]⟩ 120 false (by decide) (by decide) w 120 (by decide))
  have i_n := Lib.hid (fun w => in_is ⟨#[112, 105]⟩ 110 false (by decide) (by decide) w 110 (by decide))
  have i_t := Lib.hid (fun w => in_is ⟨#[112, 105]⟩ 116 false (by decide) (by decide) w 116 (by decide))
  have i_k := Lib.hid (fun w => in_is ⟨#[112, 105]⟩ 107 false (by decide) (by decide) w 107 (by decide))
  have i_i := Lib.hid (fun w => in_is ⟨#[112, 105]⟩ 105 true (by decide) (by decide) w 105 (by decide))
  have i_e := Lib.hid (fun w => in_is ⟨#[112, 105]⟩ 101 false (by decide) (by decide) w 101 (by decide))
  have hb := below_box w (.cells #[.int .i64 m.kind, .int .i64 m.page, .bool m.x, .bool m.need, .int .i64 m.n, .int .i64 m.cl, .int .i64 m.ep, .int .i64 m.tn, .int .i64 m.lsn, .slice h.a h.an h.ac, .slice h.b h.bn h.bc] 29)
  have hM := Blk.new w 29 #[.int .i64 m.kind, .int .i64 m.page, .bool m.x, .bool m.need, .int .i64 m.n, .int .i64 m.cl, .int .i64 m.ep, .int .i64 m.tn, .int .i64 m.lsn, .slice h.a h.an h.ac, .slice h.b h.bn h.bc]
  have hs := alloc_lt w (.cells #[.int .i64 m.kind, .int .i64 m.page, .bool m.x, .bool m.need, .int .i64 m.n, .int .i64 m.cl, .int .i64 m.ep, .int .i64 m.tn, .int .i64 m.lsn, .slice h.a h.an h.ac, .slice h.b h.bn h.bc] 29)
  have HH := Lib.hid hh
  have HI := Lib.hid (hi.below hb)
  clear hh hi
  go_enter Try.func12, Try.ntmps12
  try dsimp only [List.append]
  go_upto_region 1 with (fail)
  generalize hGen : w.alloc (.cells #[.int .i64 m.kind, .int .i64 m.page, .bool m.x, .bool m.need, .int .i64 m.n, .int .i64 m.cl, .int .i64 m.ep, .int .i64 m.tn, .int .i64 m.lsn, .slice h.a h.an h.ac, .slice h.b h.bn h.bc] 29) = W at hb hM hs HI ⊢
  clear hGen
  obtain ⟨c0, c1, c2, c3, c4, c5, c6, c7, c8, c9, c10⟩ := msg_cells hM
  have HM := Lib.hid hM
  have HB := Lib.hid hb
  clear hM hb
  go_wp2_with (go_at_call 23; first | ((with_reducible refine (i_p.out _).mono ?_); rintro e w' ⟨rfl, rfl⟩) | ((with_reducible refine (i_x.out _).mono ?_); rintro e w' ⟨rfl, rfl⟩) | ((with_reducible refine (i_n.out _).mono ?_); rintro e w' ⟨rfl, rfl⟩) | ((with_reducible refine (i_t.out _).mono ?_); rintro e w' ⟨rfl, rfl⟩) | ((with_reducible refine (i_k.out _).mono ?_); rintro e w' ⟨rfl, rfl⟩) | ((with_reducible refine (i_i.out _).mono ?_); rintro e w' ⟨rfl, rfl⟩) | ((with_reducible refine (i_e.out _).mono ?_); rintro e w' ⟨rfl, rfl⟩))
  refine (HGD.out _ HI.out).mono ?_
  rintro e wa ⟨rfl, ba⟩
  replace HM := Lib.hid (HM.out.below ba hs)
  replace HB := Lib.hid (below_next HB.out ba)
  replace HI := Lib.hid (HI.out.below ba)
  replace hs := Nat.lt_of_lt_of_le hs ba.size
  clear c0 c1 c2 c3 c4 c5 c6 c7 c8 c9 c10 ba
  obtain ⟨c0, c1, c2, c3, c4, c5, c6, c7, c8, c9, c10⟩ := msg_cells HM.out
  go_wp2_with (go_at_call 23; first | ((with_reducible refine (i_p.out _).mono ?_); rintro e w' ⟨rfl, rfl⟩) | ((with_reducible refine (i_x.out _).mono ?_); rintro e w' ⟨rfl, rfl⟩) | ((with_reducible refine (i_n.out _).mono ?_); rintro e w' ⟨rfl, rfl⟩) | ((with_reducible refine (i_t.out _).mono ?_); rintro e w' ⟨rfl, rfl⟩) | ((with_reducible refine (i_k.out _).mono ?_); rintro e w' ⟨rfl, rfl⟩) | ((with_reducible refine (i_i.out _).mono ?_); rintro e w' ⟨rfl, rfl⟩) | ((with_reducible refine (i_e.out _).mono ?_); rintro e w' ⟨rfl, rfl⟩))
  refine (HH.out _).mono ?_
  rintro e wa ⟨rfl, ba⟩
  replace HM := Lib.hid (HM.out.below ba hs)
  replace HB := Lib.hid (below_next HB.out ba)
  replace HI := Lib.hid (HI.out.below ba)
  replace hs := Nat.lt_of_lt_of_le hs ba.size
  clear c0 c1 c2 c3 c4 c5 c6 c7 c8 c9 c10 ba
  obtain ⟨c0, c1, c2, c3, c4, c5, c6, c7, c8, c9, c10⟩ := msg_cells HM.out
  go_wp2_with (go_at_call 23; first | ((with_reducible refine (i_p.out _).mono ?_); rintro e w' ⟨rfl, rfl⟩) | ((with_reducible refine (i_x.out _).mono ?_); rintro e w' ⟨rfl, rfl⟩) | ((with_reducible refine (i_n.out _).mono ?_); rintro e w' ⟨rfl, rfl⟩) | ((with_reducible refine (i_t.out _).mono ?_); rintro e w' ⟨rfl, rfl⟩) | ((with_reducible refine (i_k.out _).mono ?_); rintro e w' ⟨rfl, rfl⟩) | ((with_reducible refine (i_i.out _).mono ?_); rintro e w' ⟨rfl, rfl⟩) | ((with_reducible refine (i_e.out _).mono ?_); rintro e w' ⟨rfl, rfl⟩))
  refine (Nib.refInt m.kind _ Hhfk.out).mono ?_
  rintro e wa ⟨rfl, ba⟩
  replace HM := Lib.hid (HM.out.below ba hs)
  replace HB := Lib.hid (below_next HB.out ba)
  replace HI := Lib.hid (HI.out.below ba)
  replace hs := Nat.lt_of_lt_of_le hs ba.size
  clear c0 c1 c2 c3 c4 c5 c6 c7 c8 c9 c10 ba
  obtain ⟨c0, c1, c2, c3, c4, c5, c6, c7, c8, c9, c10⟩ := msg_cells HM.out
  have HT := Lib.hid (encB_arr m.kind)
  have hT : (Nib.encB m.kind).size ≤ 10 := Nib.encB_le Hhfk.out
  generalize Nib.encB m.kind = T at HT hT ⊢
  go_wp2_with (go_at_call 23; first | ((with_reducible refine (i_p.out _).mono ?_); rintro e w' ⟨rfl, rfl⟩) | ((with_reducible refine (i_x.out _).mono ?_); rintro e w' ⟨rfl, rfl⟩) | ((with_reducible refine (i_n.out _).mono ?_); rintro e w' ⟨rfl, rfl⟩) | ((with_reducible refine (i_t.out _).mono ?_); rintro e w' ⟨rfl, rfl⟩) | ((with_reducible refine (i_k.out _).mono ?_); rintro e w' ⟨rfl, rfl⟩) | ((with_reducible refine (i_i.out _).mono ?_); rintro e w' ⟨rfl, rfl⟩) | ((with_reducible refine (i_e.out _).mono ?_); rintro e w' ⟨rfl, rfl⟩))
  refine (Nib.refInt m.page _ Hhfp.out).mono ?_
  rintro e wa ⟨rfl, ba⟩
  replace HM := Lib.hid (HM.out.below ba hs)
  replace HB := Lib.hid (below_next HB.out ba)
  replace HI := Lib.hid (HI.out.below ba)
  replace hs := Nat.lt_of_lt_of_le hs ba.size
  clear c0 c1 c2 c3 c4 c5 c6 c7 c8 c9 c10 ba
  obtain ⟨c0, c1, c2, c3, c4, c5, c6, c7, c8, c9, c10⟩ := msg_cells HM.out
  have hE : (Nib.encB m.page).size ≤ 10 := Nib.encB_le Hhfp.out
  obtain ⟨T1, hT2⟩ : ∃ x, x = T ++ Nib.encB m.page := ⟨_, rfl⟩
  have hadd : ∀ W, (Op.stringOp .add T (Nib.encB m.page)).run Try.prog W = .ok (.string T1) W := fun W => by rw [hT2]; exact run_string_add_sum W _ _ (by omega)
  have hS2 : T1.size ≤ 20 := by rw [hT2, ByteArray.size_append]; omega
  replace HT := Lib.hid (show T1 = arr (enc m.kind ++ enc m.page) from by rw [hT2, HT.out, show Nib.encB m.page = arr (enc m.page) from encB_arr m.page, arr_cat])
  clear hT2
  go_upto_region 7 with (go_at_call 23; first | ((with_reducible refine (i_p.out _).mono ?_); rintro e w' ⟨rfl, rfl⟩) | ((with_reducible refine (i_x.out _).mono ?_); rintro e w' ⟨rfl, rfl⟩) | ((with_reducible refine (i_n.out _).mono ?_); rintro e w' ⟨rfl, rfl⟩) | ((with_reducible refine (i_t.out _).mono ?_); rintro e w' ⟨rfl, rfl⟩) | ((with_reducible refine (i_k.out _).mono ?_); rintro e w' ⟨rfl, rfl⟩) | ((with_reducible refine (i_i.out _).mono ?_); rintro e w' ⟨rfl, rfl⟩) | ((with_reducible refine (i_e.out _).mono ?_); rintro e w' ⟨rfl, rfl⟩))
  clear hadd hE
  clear hT
  have hT := hS2
  clear hS2
  have HEI := Lib.hid (show Slab.encS' m.lsn m.zs = arr (Slab.encB m.lsn.toNat m.zs) from by unfold Slab.encS'; rw [HIM.out]; rfl)
  go_wp2_with (go_at_call 23; first | ((with_reducible refine (i_p.out _).mono ?_); rintro e w' ⟨rfl, rfl⟩) | ((with_reducible refine (i_x.out _).mono ?_); rintro e w' ⟨rfl, rfl⟩) | ((with_reducible refine (i_n.out _).mono ?_); rintro e w' ⟨rfl, rfl⟩) | ((with_reducible refine (i_t.out _).mono ?_); rintro e w' ⟨rfl, rfl⟩) | ((with_reducible refine (i_k.out _).mono ?_); rintro e w' ⟨rfl, rfl⟩) | ((with_reducible refine (i_i.out _).mono ?_); rintro e w' ⟨rfl, rfl⟩) | ((with_reducible refine (i_e.out _).mono ?_); rintro e w' ⟨rfl, rfl⟩))
  refine (Slab.renc_any m.lsn h.a h.an h.ac m.zs _ HI.out.s ha).mono ?_
  rw [HEI.out]
  rintro e wa ⟨rfl, ba⟩
  replace HM := Lib.hid (HM.out.below ba hs)
  replace HB := Lib.hid (below_next HB.out ba)
  replace HI := Lib.hid (HI.out.below ba)
  replace hs := Nat.lt_of_lt_of_le hs ba.size
  clear c0 c1 c2 c3 c4 c5 c6 c7 c8 c9 c10 ba
  obtain ⟨c0, c1, c2, c3, c4, c5, c6, c7, c8, c9, c10⟩ := msg_cells HM.out
  generalize Slab.encCode m.lsn m.zs = code
  have hE : (arr (Slab.encB m.lsn.toNat m.zs)).size ≤ 240 := by rw [arr_size, Slab.encB_len (Slab.good_parts HIM.out).2.2.2.2.2]; omega
  obtain ⟨T2, hT2⟩ : ∃ x, x = T1 ++ arr (Slab.encB m.lsn.toNat m.zs) := ⟨_, rfl⟩
  have hadd : ∀ W, (Op.stringOp .add T1 (arr (Slab.encB m.lsn.toNat m.zs))).run Try.prog W = .ok (.string T2) W := fun W => by rw [hT2]; exact run_string_add_sum W _ _ (by omega)
  have hS2 : T2.size ≤ 260 := by rw [hT2, ByteArray.size_append]; omega
  replace HT := Lib.hid (show T2 = arr (enc m.kind ++ enc m.page ++ Slab.encB m.lsn.toNat m.zs) from by rw [hT2, HT.out, show arr (Slab.encB m.lsn.toNat m.zs) = arr (Slab.encB m.lsn.toNat m.zs) from rfl, arr_cat])
  clear hT2
  go_upto_region 18 with (go_at_call 23; first | ((with_reducible refine (i_p.out _).mono ?_); rintro e w' ⟨rfl, rfl⟩) | ((with_reducible refine (i_x.out _).mono ?_); rintro e w' ⟨rfl, rfl⟩) | ((with_reducible refine (i_n.out _).mono ?_); rintro e w' ⟨rfl, rfl⟩) | ((with_reducible refine (i_t.out _).mono ?_); rintro e w' ⟨rfl, rfl⟩) | ((with_reducible refine (i_k.out _).mono ?_); rintro e w' ⟨rfl, rfl⟩) | ((with_reducible refine (i_i.out _).mono ?_); rintro e w' ⟨rfl, rfl⟩) | ((with_reducible refine (i_e.out _).mono ?_); rintro e w' ⟨rfl, rfl⟩))
  clear hadd hE
  clear hT
  have hT := hS2
  clear hS2
  have HFIN := Lib.hid (show enc m.kind ++ enc m.page ++ Slab.encB m.lsn.toNat m.zs ++ entsB m.es = body m from by rw [HBODY.out]; unfold bodyH pPage pX pNeed pTxn pN pImage pCount; rw [HES.out]; simp [hImage])
  generalize enc m.kind ++ enc m.page ++ Slab.encB m.lsn.toNat m.zs = L at HT HFIN
  have HWH := Lib.hid hs
  rw [HBN.out] at c10
  have HTB := Lib.hid (show T2 = arr (body m) from by rw [HT.out, ← HFIN.out, HES.out]; simp [entsB])
  go_upto_region 20 with (go_at_call 23; first | ((with_reducible refine (i_p.out _).mono ?_); rintro e w' ⟨rfl, rfl⟩) | ((with_reducible refine (i_x.out _).mono ?_); rintro e w' ⟨rfl, rfl⟩) | ((with_reducible refine (i_n.out _).mono ?_); rintro e w' ⟨rfl, rfl⟩) | ((with_reducible refine (i_t.out _).mono ?_); rintro e w' ⟨rfl, rfl⟩) | ((with_reducible refine (i_k.out _).mono ?_); rintro e w' ⟨rfl, rfl⟩) | ((with_reducible refine (i_i.out _).mono ?_); rintro e w' ⟨rfl, rfl⟩) | ((with_reducible refine (i_e.out _).mono ?_); rintro e w' ⟨rfl, rfl⟩))
  have hTz : T2.size ≤ 8000 := by rw [HTB.out, arr_size]; exact hbl8
  have HO := Lib.hid (fun w => Sum.ref_any T2 w (by omega))
  have HTL := Lib.hid (show T2.data.toList = body m from by rw [HTB.out, arr_list])
  have HQ := Lib.hid (quadH_str (Sum.check T2.data.toList))
  have HRES := Lib.hid (show arr (quadH (Sum.check T2.data.toList)) ++ T2 = arr (encL m) from by rw [HTL.out]; (conv => lhs; rw [HTB.out]); rw [arr_cat]; rfl)
  generalize Sum.check T2.data.toList = c at HO HQ HRES
  have hc := c.isLt
  have hqz : (strOfNums [(c.toNat : Int) / 16777216, (c.toNat : Int) / 65536 % 256, (c.toNat : Int) / 256 % 256, (c.toNat : Int) % 256]).size = 4 := by rw [HQ.out, arr_size]; rfl
  have hadd : ∀ W, (Op.stringOp .add (strOfNums [(c.toNat : Int) / 16777216, (c.toNat : Int) / 65536 % 256, (c.toNat : Int) / 256 % 256, (c.toNat : Int) % 256]) T2).run Try.prog W = .ok (.string (arr (encL m))) W := fun W => by
    rw [← HRES.out, ← HQ.out]
    exact run_string_add_sum W _ _ (by omega)
  clear hqz hTz hbl8
  have hconv := Sum.conv4
  go_wp2_with fail
  refine (HO.out _).mono ?_
  rintro e w8 ⟨rfl, rfl⟩
  go_wp2
  go_ret2
  exact ⟨rfl, below_next HB.out (below_box _ _)⟩
set_option maxRecDepth 100000 in
set_option maxHeartbeats 4000000 in
theorem renc_Txn (m : Ms) (h : Hd) (w : World) (hi : In w m h) (ha : h.an ≤ 1000000) (hbn : h.bn ≤ 1000000) (hg : goodM m = true) (hH : partsH m.kind m.need = hTxn)
    (hh : ∀ w, Calls Try.prog 21 #[.agg #[.int .i64 m.kind, .int .i64 m.page, .bool m.x, .bool m.need, .int .i64 m.n, .int .i64 m.cl, .int .i64 m.ep, .int .i64 m.tn, .int .i64 m.lsn, .slice h.a h.an h.ac, .slice h.b h.bn h.bc]] w fun e w' => e = .returned (.string ⟨#[116]⟩) ∧ Below w.heap.size w w') :
    Calls Try.prog 12 #[.agg #[.int .i64 m.kind, .int .i64 m.page, .bool m.x, .bool m.need, .int .i64 m.n, .int .i64 m.cl, .int .i64 m.ep, .int .i64 m.tn, .int .i64 m.lsn, .slice h.a h.an h.ac, .slice h.b h.bn h.bc]] w fun e w' => e = .returned (.tuple #[.string (arr (encL m)), .int .i64 0]) ∧ Below w.heap.size w w' := by
  obtain ⟨hk, hw, hr⟩ := good_parts hg
  rw [hH] at hw hr
  have HBODY := Lib.hid (show body m = bodyH hTxn m from by unfold body; rw [hH])
  have HGD := Lib.hid (fun (w : World) (hj : In w m h) => (show Calls Try.prog 14 #[.agg #[.int .i64 m.kind, .int .i64 m.page, .bool m.x, .bool m.need, .int .i64 m.n, .int .i64 m.cl, .int .i64 m.ep, .int .i64 m.tn, .int .i64 m.lsn, .slice h.a h.an h.ac, .slice h.b h.bn h.bc]] w fun e w' => e = .returned (.bool true) ∧ Below w.heap.size w w' from by have := rgood_any m h w hj ha hbn; rw [hg] at this; exact this))
  have hbl8 := (body_len hg).2
  have hfk : Fits m.kind := ⟨by omega, by omega⟩
  obtain ⟨w1, w2, w3, w4, w5⟩ := whole_parts hw
  obtain ⟨r1, r2, r3, r4, r5, r6, r7⟩ := bare_parts hr
  obtain ⟨hf1, hf2, hf3⟩ := known_fits (w2 rfl)
  have HF := Lib.hid (And.intro hf1 (And.intro hf2 hf3))
  clear hf1 hf2 hf3
  have HES := Lib.hid (r7 rfl)
  have HBN := Lib.hid (show h.bn = 0 from by have := hi.e.len; rw [r7 rfl] at this; exact this.symm)
  have Hhfk := Lib.hid hfk
  clear hfk
  have HLN := Lib.hid hi.e.len
  clear w1 w2 w3 w4 w5 r1 r2 r3 r4 r5 r6 r7 hw hr hk hg hH
  have i_p := Lib.hid (fun w => in_is ⟨#[116]⟩ 112 false (by decide) (by decide) w 112 (by decide))
  have i_x := Lib.hid (fun w => in_is ⟨#[116]⟩ 120 false (by decide) (by decide) w 120 (by decide))
  have i_n := Lib.hid (fun w => in_is ⟨#[116]⟩ 110 false (by decide) (by decide) w 110 (by decide))
  have i_t := Lib.hid (fun w => in_is ⟨#[116]⟩ 116 true (by decide) (by decide) w 116 (by decide))
  have i_k := Lib.hid (fun w => in_is ⟨#[116]⟩ 107 false (by decide) (by decide) w 107 (by decide))
  have i_i := Lib.hid (fun w => in_is ⟨#[116]⟩ 105 false (by decide) (by decide) w 105 (by decide))
  have i_e := Lib.hid (fun w => in_is ⟨#[116]⟩ 101 false (by decide) (by decide) w 101 (by decide))
  have hb := below_box w (.cells #[.int .i64 m.kind, .int .i64 m.page, .bool m.x, .bool m.need, .int .i64 m.n, .int .i64 m.cl, .int .i64 m.ep, .int .i64 m.tn, .int .i64 m.lsn, .slice h.a h.an h.ac, .slice h.b h.bn h.bc] 29)
  have hM := Blk.new w 29 #[.int .i64 m.kind, .int .i64 m.page, .bool m.x, .bool m.need, .int .i64 m.n, .int .i64 m.cl, .int .i64 m.ep, .int .i64 m.tn, .int .i64 m.lsn, .slice h.a h.an h.ac, .slice h.b h.bn h.bc]
  have hs := alloc_lt w (.cells #[.int .i64 m.kind, .int .i64 m.page, .bool m.x, .bool m.need, .int .i64 m.n, .int .i64 m.cl, .int .i64 m.ep, .int .i64 m.tn, .int .i64 m.lsn, .slice h.a h.an h.ac, .slice h.b h.bn h.bc] 29)
  have HH := Lib.hid hh
  have HI := Lib.hid (hi.below hb)
  clear hh hi
  go_enter Try.func12, Try.ntmps12
  try dsimp only [List.append]
  go_upto_region 1 with (fail)
  generalize hGen : w.alloc (.cells #[.int .i64 m.kind, .int .i64 m.page, .bool m.x, .bool m.need, .int .i64 m.n, .int .i64 m.cl, .int .i64 m.ep, .int .i64 m.tn, .int .i64 m.lsn, .slice h.a h.an h.ac, .slice h.b h.bn h.bc] 29) = W at hb hM hs HI ⊢
  clear hGen
  obtain ⟨c0, c1, c2, c3, c4, c5, c6, c7, c8, c9, c10⟩ := msg_cells hM
  have HM := Lib.hid hM
  have HB := Lib.hid hb
  clear hM hb
  go_wp2_with (go_at_call 23; first | ((with_reducible refine (i_p.out _).mono ?_); rintro e w' ⟨rfl, rfl⟩) | ((with_reducible refine (i_x.out _).mono ?_); rintro e w' ⟨rfl, rfl⟩) | ((with_reducible refine (i_n.out _).mono ?_); rintro e w' ⟨rfl, rfl⟩) | ((with_reducible refine (i_t.out _).mono ?_); rintro e w' ⟨rfl, rfl⟩) | ((with_reducible refine (i_k.out _).mono ?_); rintro e w' ⟨rfl, rfl⟩) | ((with_reducible refine (i_i.out _).mono ?_); rintro e w' ⟨rfl, rfl⟩) | ((with_reducible refine (i_e.out _).mono ?_); rintro e w' ⟨rfl, rfl⟩))
  refine (HGD.out _ HI.out).mono ?_
  rintro e wa ⟨rfl, ba⟩
  replace HM := Lib.hid (HM.out.below ba hs)
  replace HB := Lib.hid (below_next HB.out ba)
  replace HI := Lib.hid (HI.out.below ba)
  replace hs := Nat.lt_of_lt_of_le hs ba.size
  clear c0 c1 c2 c3 c4 c5 c6 c7 c8 c9 c10 ba
  obtain ⟨c0, c1, c2, c3, c4, c5, c6, c7, c8, c9, c10⟩ := msg_cells HM.out
  go_wp2_with (go_at_call 23; first | ((with_reducible refine (i_p.out _).mono ?_); rintro e w' ⟨rfl, rfl⟩) | ((with_reducible refine (i_x.out _).mono ?_); rintro e w' ⟨rfl, rfl⟩) | ((with_reducible refine (i_n.out _).mono ?_); rintro e w' ⟨rfl, rfl⟩) | ((with_reducible refine (i_t.out _).mono ?_); rintro e w' ⟨rfl, rfl⟩) | ((with_reducible refine (i_k.out _).mono ?_); rintro e w' ⟨rfl, rfl⟩) | ((with_reducible refine (i_i.out _).mono ?_); rintro e w' ⟨rfl, rfl⟩) | ((with_reducible refine (i_e.out _).mono ?_); rintro e w' ⟨rfl, rfl⟩))
  refine (HH.out _).mono ?_
  rintro e wa ⟨rfl, ba⟩
  replace HM := Lib.hid (HM.out.below ba hs)
  replace HB := Lib.hid (below_next HB.out ba)
  replace HI := Lib.hid (HI.out.below ba)
  replace hs := Nat.lt_of_lt_of_le hs ba.size
  clear c0 c1 c2 c3 c4 c5 c6 c7 c8 c9 c10 ba
  obtain ⟨c0, c1, c2, c3, c4, c5, c6, c7, c8, c9, c10⟩ := msg_cells HM.out
  go_wp2_with (go_at_call 23; first | ((with_reducible refine (i_p.out _).mono ?_); rintro e w' ⟨rfl, rfl⟩) | ((with_reducible refine (i_x.out _).mono ?_); rintro e w' ⟨rfl, rfl⟩) | ((with_reducible refine (i_n.out _).mono ?_); rintro e w' ⟨rfl, rfl⟩) | ((with_reducible refine (i_t.out _).mono ?_); rintro e w' ⟨rfl, rfl⟩) | ((with_reducible refine (i_k.out _).mono ?_); rintro e w' ⟨rfl, rfl⟩) | ((with_reducible refine (i_i.out _).mono ?_); rintro e w' ⟨rfl, rfl⟩) | ((with_reducible refine (i_e.out _).mono ?_); rintro e w' ⟨rfl, rfl⟩))
  refine (Nib.refInt m.kind _ Hhfk.out).mono ?_
  rintro e wa ⟨rfl, ba⟩
  replace HM := Lib.hid (HM.out.below ba hs)
  replace HB := Lib.hid (below_next HB.out ba)
  replace HI := Lib.hid (HI.out.below ba)
  replace hs := Nat.lt_of_lt_of_le hs ba.size
  clear c0 c1 c2 c3 c4 c5 c6 c7 c8 c9 c10 ba
  obtain ⟨c0, c1, c2, c3, c4, c5, c6, c7, c8, c9, c10⟩ := msg_cells HM.out
  have HT := Lib.hid (encB_arr m.kind)
  have hT : (Nib.encB m.kind).size ≤ 10 := Nib.encB_le Hhfk.out
  generalize Nib.encB m.kind = T at HT hT ⊢
  go_upto_region 12 with (go_at_call 23; first | ((with_reducible refine (i_p.out _).mono ?_); rintro e w' ⟨rfl, rfl⟩) | ((with_reducible refine (i_x.out _).mono ?_); rintro e w' ⟨rfl, rfl⟩) | ((with_reducible refine (i_n.out _).mono ?_); rintro e w' ⟨rfl, rfl⟩) | ((with_reducible refine (i_t.out _).mono ?_); rintro e w' ⟨rfl, rfl⟩) | ((with_reducible refine (i_k.out _).mono ?_); rintro e w' ⟨rfl, rfl⟩) | ((with_reducible refine (i_i.out _).mono ?_); rintro e w' ⟨rfl, rfl⟩) | ((with_reducible refine (i_e.out _).mono ?_); rintro e w' ⟨rfl, rfl⟩))
  have HI1 := Lib.hid (fun w => Nib.refInt m.cl w HF.out.1)
  have HI2 := Lib.hid (fun w => Nib.refInt m.ep w HF.out.2.1)
  have HI3 := Lib.hid (fun w => Nib.refInt m.tn w HF.out.2.2)
  have hz1 : (Nib.encB m.cl).size ≤ 10 := Nib.encB_le HF.out.1
  have hz2 : (Nib.encB m.ep).size ≤ 10 := Nib.encB_le HF.out.2.1
  have hz3 : (Nib.encB m.tn).size ≤ 10 := Nib.encB_le HF.out.2.2
  obtain ⟨T1, hT2⟩ : ∃ x, x = T ++ Nib.encB m.cl ++ Nib.encB m.ep ++ Nib.encB m.tn := ⟨_, rfl⟩
  have hS2 : T1.size ≤ 40 := by rw [hT2, ByteArray.size_append, ByteArray.size_append, ByteArray.size_append]; omega
  replace HT := Lib.hid (show T1 = arr (enc m.kind ++ (enc m.cl ++ (enc m.ep ++ enc m.tn))) from by rw [hT2, HT.out, encB_arr, encB_arr, encB_arr, arr_cat, arr_cat, arr_cat, List.append_assoc, List.append_assoc])
  generalize Nib.encB m.cl = E1 at HI1 hz1 hT2
  generalize Nib.encB m.ep = E2 at HI2 hz2 hT2
  generalize Nib.encB m.tn = E3 at HI3 hz3 hT2
  have hadd1 : ∀ W, (Op.stringOp .add T E1).run Try.prog W = .ok (.string (T ++ E1)) W := fun W => run_string_add_sum W _ _ (by omega)
  have hadd2 : ∀ W, (Op.stringOp .add (T ++ E1) E2).run Try.prog W = .ok (.string (T ++ E1 ++ E2)) W := fun W => run_string_add_sum W _ _ (by rw [ByteArray.size_append]; omega)
  have hadd3 : ∀ W, (Op.stringOp .add (T ++ E1 ++ E2) E3).run Try.prog W = .ok (.string T1) W := fun W => by rw [hT2]; exact run_string_add_sum W _ _ (by rw [ByteArray.size_append, ByteArray.size_append]; omega)
  clear hT2 hz1 hz2 hz3
  have k5 := cell_regrown c5
  have k6 := cell_regrown c6
  have k7 := cell_regrown c7
  have cI1 : ∀ dd os, Calls Try.prog 22 #[.int .i64 m.cl] (grow (redrawn wa dd) os) fun e w'' => e = .returned (.string E1) ∧ ∃ p : Regrown, w'' = grow (redrawn wa p.d) p.os := fun dd os => Calls.regrown_of (HI1.out _)
  have cI2 : ∀ dd os, Calls Try.prog 22 #[.int .i64 m.ep] (grow (redrawn wa dd) os) fun e w'' => e = .returned (.string E2) ∧ ∃ p : Regrown, w'' = grow (redrawn wa p.d) p.os := fun dd os => Calls.regrown_of (HI2.out _)
  have cI3 : ∀ dd os, Calls Try.prog 22 #[.int .i64 m.tn] (grow (redrawn wa dd) os) fun e w'' => e = .returned (.string E3) ∧ ∃ p : Regrown, w'' = grow (redrawn wa p.d) p.os := fun dd os => Calls.regrown_of (HI3.out _)
  refine wp_region_quiet_below (by kernel_rfl) (by kernel_rfl) ?_
  repeat (go_big_quiet_step (first | (with_reducible exact cI1 _ _) | (with_reducible exact cI2 _ _) | (with_reducible exact cI3 _ _)))
  refine wpQuiet_nil ?_
  intro _ hw'
  obtain ⟨⟨dq, osq⟩, hw''⟩ := hw'
  subst hw''
  have ba := below_regrown wa dq osq
  generalize grow (redrawn wa dq) osq = wq at ba ⊢
  clear cI1 cI2 cI3 k5 k6 k7 hadd1 hadd2 hadd3
  replace HM := Lib.hid (HM.out.below ba hs)
  replace HB := Lib.hid (below_next HB.out ba)
  replace HI := Lib.hid (HI.out.below ba)
  replace hs := Nat.lt_of_lt_of_le hs ba.size
  clear c0 c1 c2 c3 c4 c5 c6 c7 c8 c9 c10 ba
  obtain ⟨c0, c1, c2, c3, c4, c5, c6, c7, c8, c9, c10⟩ := msg_cells HM.out
  clear hT
  have hT := hS2
  clear hS2
  have HFIN := Lib.hid (show enc m.kind ++ (enc m.cl ++ (enc m.ep ++ enc m.tn)) ++ entsB m.es = body m from by rw [HBODY.out]; unfold bodyH pPage pX pNeed pTxn pN pImage pCount; rw [HES.out]; simp [hTxn])
  generalize enc m.kind ++ (enc m.cl ++ (enc m.ep ++ enc m.tn)) = L at HT HFIN
  have HWH := Lib.hid hs
  rw [HBN.out] at c10
  have HTB := Lib.hid (show T1 = arr (body m) from by rw [HT.out, ← HFIN.out, HES.out]; simp [entsB])
  go_upto_region 20 with (go_at_call 23; first | ((with_reducible refine (i_p.out _).mono ?_); rintro e w' ⟨rfl, rfl⟩) | ((with_reducible refine (i_x.out _).mono ?_); rintro e w' ⟨rfl, rfl⟩) | ((with_reducible refine (i_n.out _).mono ?_); rintro e w' ⟨rfl, rfl⟩) | ((with_reducible refine (i_t.out _).mono ?_); rintro e w' ⟨rfl, rfl⟩) | ((with_reducible refine (i_k.out _).mono ?_); rintro e w' ⟨rfl, rfl⟩) | ((with_reducible refine (i_i.out _).mono ?_); rintro e w' ⟨rfl, rfl⟩) | ((with_reducible refine (i_e.out _).mono ?_); rintro e w' ⟨rfl, rfl⟩))
  have hTz : T1.size ≤ 8000 := by rw [HTB.out, arr_size]; exact hbl8
  have HO := Lib.hid (fun w => Sum.ref_any T1 w (by omega))
  have HTL := Lib.hid (show T1.data.toList = body m from by rw [HTB.out, arr_list])
  have HQ := Lib.hid (quadH_str (Sum.check T1.data.toList))
  have HRES := Lib.hid (show arr (quadH (Sum.check T1.data.toList)) ++ T1 = arr (encL m) from by rw [HTL.out]; (conv => lhs; rw [HTB.out]); rw [arr_cat]; rfl)
  generalize Sum.check T1.data.toList = c at HO HQ HRES
  have hc := c.isLt
  have hqz : (strOfNums [(c.toNat : Int) / 16777216, (c.toNat : Int) / 65536 % 256, (c.toNat : Int) / 256 % 256, (c.toNat : Int) % 256]).size = 4 := by rw [HQ.out, arr_size]; rfl
  have hadd : ∀ W, (Op.stringOp .add (strOfNums [(c.toNat : Int) / 16777216, (c.toNat : Int) / 65536 % 256, (c.toNat : Int) / 256 % 256, (c.toNat : Int) % 256]) T1).run Try.prog W = .ok (.string (arr (encL m))) W := fun W => by
    rw [← HRES.out, ← HQ.out]
    exact run_string_add_sum W _ _ (by omega)
  clear hqz hTz hbl8
  have hconv := Sum.conv4
  go_wp2_with fail
  refine (HO.out _).mono ?_
  rintro e w8 ⟨rfl, rfl⟩
  go_wp2
  go_ret2
  exact ⟨rfl, below_next HB.out (below_box _ _)⟩
set_option maxRecDepth 100000 in
set_option maxHeartbeats 4000000 in
theorem renc_Space (m : Ms) (h : Hd) (w : World) (hi : In w m h) (ha : h.an ≤ 1000000) (hbn : h.bn ≤ 1000000) (hg : goodM m = true) (hH : partsH m.kind m.need = hSpace)
    (hh : ∀ w, Calls Try.prog 21 #[.agg #[.int .i64 m.kind, .int .i64 m.page, .bool m.x, .bool m.need, .int .i64 m.n, .int .i64 m.cl, .int .i64 m.ep, .int .i64 m.tn, .int .i64 m.lsn, .slice h.a h.an h.ac, .slice h.b h.bn h.bc]] w fun e w' => e = .returned (.string ⟨#[107]⟩) ∧ Below w.heap.size w w') :
    Calls Try.prog 12 #[.agg #[.int .i64 m.kind, .int .i64 m.page, .bool m.x, .bool m.need, .int .i64 m.n, .int .i64 m.cl, .int .i64 m.ep, .int .i64 m.tn, .int .i64 m.lsn, .slice h.a h.an h.ac, .slice h.b h.bn h.bc]] w fun e w' => e = .returned (.tuple #[.string (arr (encL m)), .int .i64 0]) ∧ Below w.heap.size w w' := by
  obtain ⟨hk, hw, hr⟩ := good_parts hg
  rw [hH] at hw hr
  have HBODY := Lib.hid (show body m = bodyH hSpace m from by unfold body; rw [hH])
  have HGD := Lib.hid (fun (w : World) (hj : In w m h) => (show Calls Try.prog 14 #[.agg #[.int .i64 m.kind, .int .i64 m.page, .bool m.x, .bool m.need, .int .i64 m.n, .int .i64 m.cl, .int .i64 m.ep, .int .i64 m.tn, .int .i64 m.lsn, .slice h.a h.an h.ac, .slice h.b h.bn h.bc]] w fun e w' => e = .returned (.bool true) ∧ Below w.heap.size w w' from by have := rgood_any m h w hj ha hbn; rw [hg] at this; exact this))
  have hbl8 := (body_len hg).2
  have hfk : Fits m.kind := ⟨by omega, by omega⟩
  obtain ⟨w1, w2, w3, w4, w5⟩ := whole_parts hw
  obtain ⟨r1, r2, r3, r4, r5, r6, r7⟩ := bare_parts hr
  have hfn : Fits m.n := ⟨by have := w3 rfl; omega, by have := w3 rfl; omega⟩
  have HES := Lib.hid (r7 rfl)
  have HBN := Lib.hid (show h.bn = 0 from by have := hi.e.len; rw [r7 rfl] at this; exact this.symm)
  have Hhfk := Lib.hid hfk
  clear hfk
  have Hhfn := Lib.hid hfn
  clear hfn
  have HLN := Lib.hid hi.e.len
  clear w1 w2 w3 w4 w5 r1 r2 r3 r4 r5 r6 r7 hw hr hk hg hH
  have i_p := Lib.hid (fun w => in_is ⟨#[107]⟩ 112 false (by decide) (by decide) w 112 (by decide))
  have i_x := Lib.hid (fun w => in_is ⟨#[107]⟩ 120 false (by decide) (by decide) w 120 (by decide))
  have i_n := Lib.hid (fun w => in_is ⟨#[107]⟩ 110 false (by decide) (by decide) w 110 (by decide))
  have i_t := Lib.hid (fun w => in_is ⟨#[107]⟩ 116 false (by decide) (by decide) w 116 (by decide))
  have i_k := Lib.hid (fun w => in_is ⟨#[107]⟩ 107 true (by decide) (by decide) w 107 (by decide))
  have i_i := Lib.hid (fun w => in_is ⟨#[107]⟩ 105 false (by decide) (by decide) w 105 (by decide))
  have i_e := Lib.hid (fun w => in_is ⟨#[107]⟩ 101 false (by decide) (by decide) w 101 (by decide))
  have hb := below_box w (.cells #[.int .i64 m.kind, .int .i64 m.page, .bool m.x, .bool m.need, .int .i64 m.n, .int .i64 m.cl, .int .i64 m.ep, .int .i64 m.tn, .int .i64 m.lsn, .slice h.a h.an h.ac, .slice h.b h.bn h.bc] 29)
  have hM := Blk.new w 29 #[.int .i64 m.kind, .int .i64 m.page, .bool m.x, .bool m.need, .int .i64 m.n, .int .i64 m.cl, .int .i64 m.ep, .int .i64 m.tn, .int .i64 m.lsn, .slice h.a h.an h.ac, .slice h.b h.bn h.bc]
  have hs := alloc_lt w (.cells #[.int .i64 m.kind, .int .i64 m.page, .bool m.x, .bool m.need, .int .i64 m.n, .int .i64 m.cl, .int .i64 m.ep, .int .i64 m.tn, .int .i64 m.lsn, .slice h.a h.an h.ac, .slice h.b h.bn h.bc] 29)
  have HH := Lib.hid hh
  have HI := Lib.hid (hi.below hb)
  clear hh hi
  go_enter Try.func12, Try.ntmps12
  try dsimp only [List.append]
  go_upto_region 1 with (fail)
  generalize hGen : w.alloc (.cells #[.int .i64 m.kind, .int .i64 m.page, .bool m.x, .bool m.need, .int .i64 m.n, .int .i64 m.cl, .int .i64 m.ep, .int .i64 m.tn, .int .i64 m.lsn, .slice h.a h.an h.ac, .slice h.b h.bn h.bc] 29) = W at hb hM hs HI ⊢
  clear hGen
  obtain ⟨c0, c1, c2, c3, c4, c5, c6, c7, c8, c9, c10⟩ := msg_cells hM
  have HM := Lib.hid hM
  have HB := Lib.hid hb
  clear hM hb
  go_wp2_with (go_at_call 23; first | ((with_reducible refine (i_p.out _).mono ?_); rintro e w' ⟨rfl, rfl⟩) | ((with_reducible refine (i_x.out _).mono ?_); rintro e w' ⟨rfl, rfl⟩) | ((with_reducible refine (i_n.out _).mono ?_); rintro e w' ⟨rfl, rfl⟩) | ((with_reducible refine (i_t.out _).mono ?_); rintro e w' ⟨rfl, rfl⟩) | ((with_reducible refine (i_k.out _).mono ?_); rintro e w' ⟨rfl, rfl⟩) | ((with_reducible refine (i_i.out _).mono ?_); rintro e w' ⟨rfl, rfl⟩) | ((with_reducible refine (i_e.out _).mono ?_); rintro e w' ⟨rfl, rfl⟩))
  refine (HGD.out _ HI.out).mono ?_
  rintro e wa ⟨rfl, ba⟩
  replace HM := Lib.hid (HM.out.below ba hs)
  replace HB := Lib.hid (below_next HB.out ba)
  replace HI := Lib.hid (HI.out.below ba)
  replace hs := Nat.lt_of_lt_of_le hs ba.size
  clear c0 c1 c2 c3 c4 c5 c6 c7 c8 c9 c10 ba
  obtain ⟨c0, c1, c2, c3, c4, c5, c6, c7, c8, c9, c10⟩ := msg_cells HM.out
  go_wp2_with (go_at_call 23; first | ((with_reducible refine (i_p.out _).mono ?_); rintro e w' ⟨rfl, rfl⟩) | ((with_reducible refine (i_x.out _).mono ?_); rintro e w' ⟨rfl, rfl⟩) | ((with_reducible refine (i_n.out _).mono ?_); rintro e w' ⟨rfl, rfl⟩) | ((with_reducible refine (i_t.out _).mono ?_); rintro e w' ⟨rfl, rfl⟩) | ((with_reducible refine (i_k.out _).mono ?_); rintro e w' ⟨rfl, rfl⟩) | ((with_reducible refine (i_i.out _).mono ?_); rintro e w' ⟨rfl, rfl⟩) | ((with_reducible refine (i_e.out _).mono ?_); rintro e w' ⟨rfl, rfl⟩))
  refine (HH.out _).mono ?_
  rintro e wa ⟨rfl, ba⟩
  replace HM := Lib.hid (HM.out.below ba hs)
  replace HB := Lib.hid (below_next HB.out ba)
  replace HI := Lib.hid (HI.out.below ba)
  replace hs := Nat.lt_of_lt_of_le hs ba.size
  clear c0 c1 c2 c3 c4 c5 c6 c7 c8 c9 c10 ba
  obtain ⟨c0, c1, c2, c3, c4, c5, c6, c7, c8, c9, c10⟩ := msg_cells HM.out
  go_wp2_with (go_at_call 23; first | ((with_reducible refine (i_p.out _).mono ?_); rintro e w' ⟨rfl, rfl⟩) | ((with_reducible refine (i_x.out _).mono ?_); rintro e w' ⟨rfl, rfl⟩) | ((with_reducible refine (i_n.out _).mono ?_); rintro e w' ⟨rfl, rfl⟩) | ((with_reducible refine (i_t.out _).mono ?_); rintro e w' ⟨rfl, rfl⟩) | ((with_reducible refine (i_k.out _).mono ?_); rintro e w' ⟨rfl, rfl⟩) | ((with_reducible refine (i_i.out _).mono ?_); rintro e w' ⟨rfl, rfl⟩) | ((with_reducible refine (i_e.out _).mono ?_); rintro e w' ⟨rfl, rfl⟩))
  refine (Nib.refInt m.kind _ Hhfk.out).mono ?_
  rintro e wa ⟨rfl, ba⟩
  replace HM := Lib.hid (HM.out.below ba hs)
  replace HB := Lib.hid (below_next HB.out ba)
  replace HI := Lib.hid (HI.out.below ba)
  replace hs := Nat.lt_of_lt_of_le hs ba.size
  clear c0 c1 c2 c3 c4 c5 c6 c7 c8 c9 c10 ba
  obtain ⟨c0, c1, c2, c3, c4, c5, c6, c7, c8, c9, c10⟩ := msg_cells HM.out
  have HT := Lib.hid (encB_arr m.kind)
  have hT : (Nib.encB m.kind).size ≤ 10 := Nib.encB_le Hhfk.out
  generalize Nib.encB m.kind = T at HT hT ⊢
  go_wp2_with (go_at_call 23; first | ((with_reducible refine (i_p.out _).mono ?_); rintro e w' ⟨rfl, rfl⟩) | ((with_reducible refine (i_x.out _).mono ?_); rintro e w' ⟨rfl, rfl⟩) | ((with_reducible refine (i_n.out _).mono ?_); rintro e w' ⟨rfl, rfl⟩) | ((with_reducible refine (i_t.out _).mono ?_); rintro e w' ⟨rfl, rfl⟩) | ((with_reducible refine (i_k.out _).mono ?_); rintro e w' ⟨rfl, rfl⟩) | ((with_reducible refine (i_i.out _).mono ?_); rintro e w' ⟨rfl, rfl⟩) | ((with_reducible refine (i_e.out _).mono ?_); rintro e w' ⟨rfl, rfl⟩))
  refine (Nib.refInt m.n _ Hhfn.out).mono ?_
  rintro e wa ⟨rfl, ba⟩
  replace HM := Lib.hid (HM.out.below ba hs)
  replace HB := Lib.hid (below_next HB.out ba)
  replace HI := Lib.hid (HI.out.below ba)
  replace hs := Nat.lt_of_lt_of_le hs ba.size
  clear c0 c1 c2 c3 c4 c5 c6 c7 c8 c9 c10 ba
  obtain ⟨c0, c1, c2, c3, c4, c5, c6, c7, c8, c9, c10⟩ := msg_cells HM.out
  have hE : (Nib.encB m.n).size ≤ 10 := Nib.encB_le Hhfn.out
  obtain ⟨T1, hT2⟩ : ∃ x, x = T ++ Nib.encB m.n := ⟨_, rfl⟩
  have hadd : ∀ W, (Op.stringOp .add T (Nib.encB m.n)).run Try.prog W = .ok (.string T1) W := fun W => by rw [hT2]; exact run_string_add_sum W _ _ (by omega)
  have hS2 : T1.size ≤ 20 := by rw [hT2, ByteArray.size_append]; omega
  replace HT := Lib.hid (show T1 = arr (enc m.kind ++ enc m.n) from by rw [hT2, HT.out, show Nib.encB m.n = arr (enc m.n) from encB_arr m.n, arr_cat])
  clear hT2
  go_upto_region 15 with (go_at_call 23; first | ((with_reducible refine (i_p.out _).mono ?_); rintro e w' ⟨rfl, rfl⟩) | ((with_reducible refine (i_x.out _).mono ?_); rintro e w' ⟨rfl, rfl⟩) | ((with_reducible refine (i_n.out _).mono ?_); rintro e w' ⟨rfl, rfl⟩) | ((with_reducible refine (i_t.out _).mono ?_); rintro e w' ⟨rfl, rfl⟩) | ((with_reducible refine (i_k.out _).mono ?_); rintro e w' ⟨rfl, rfl⟩) | ((with_reducible refine (i_i.out _).mono ?_); rintro e w' ⟨rfl, rfl⟩) | ((with_reducible refine (i_e.out _).mono ?_); rintro e w' ⟨rfl, rfl⟩))
  clear hadd hE
  clear hT
  have hT := hS2
  clear hS2
  have HFIN := Lib.hid (show enc m.kind ++ enc m.n ++ entsB m.es = body m from by rw [HBODY.out]; unfold bodyH pPage pX pNeed pTxn pN pImage pCount; rw [HES.out]; simp [hSpace])
  generalize enc m.kind ++ enc m.n = L at HT HFIN
  have HWH := Lib.hid hs
  rw [HBN.out] at c10
  have HTB := Lib.hid (show T1 = arr (body m) from by rw [HT.out, ← HFIN.out, HES.out]; simp [entsB])
  go_upto_region 20 with (go_at_call 23; first | ((with_reducible refine (i_p.out _).mono ?_); rintro e w' ⟨rfl, rfl⟩) | ((with_reducible refine (i_x.out _).mono ?_); rintro e w' ⟨rfl, rfl⟩) | ((with_reducible refine (i_n.out _).mono ?_); rintro e w' ⟨rfl, rfl⟩) | ((with_reducible refine (i_t.out _).mono ?_); rintro e w' ⟨rfl, rfl⟩) | ((with_reducible refine (i_k.out _).mono ?_); rintro e w' ⟨rfl, rfl⟩) | ((with_reducible refine (i_i.out _).mono ?_); rintro e w' ⟨rfl, rfl⟩) | ((with_reducible refine (i_e.out _).mono ?_); rintro e w' ⟨rfl, rfl⟩))
  have hTz : T1.size ≤ 8000 := by rw [HTB.out, arr_size]; exact hbl8
  have HO := Lib.hid (fun w => Sum.ref_any T1 w (by omega))
  have HTL := Lib.hid (show T1.data.toList = body m from by rw [HTB.out, arr_list])
  have HQ := Lib.hid (quadH_str (Sum.check T1.data.toList))
  have HRES := Lib.hid (show arr (quadH (Sum.check T1.data.toList)) ++ T1 = arr (encL m) from by rw [HTL.out]; (conv => lhs; rw [HTB.out]); rw [arr_cat]; rfl)
  generalize Sum.check T1.data.toList = c at HO HQ HRES
  have hc := c.isLt
  have hqz : (strOfNums [(c.toNat : Int) / 16777216, (c.toNat : Int) / 65536 % 256, (c.toNat : Int) / 256 % 256, (c.toNat : Int) % 256]).size = 4 := by rw [HQ.out, arr_size]; rfl
  have hadd : ∀ W, (Op.stringOp .add (strOfNums [(c.toNat : Int) / 16777216, (c.toNat : Int) / 65536 % 256, (c.toNat : Int) / 256 % 256, (c.toNat : Int) % 256]) T1).run Try.prog W = .ok (.string (arr (encL m))) W := fun W => by
    rw [← HRES.out, ← HQ.out]
    exact run_string_add_sum W _ _ (by omega)
  clear hqz hTz hbl8
  have hconv := Sum.conv4
  go_wp2_with fail
  refine (HO.out _).mono ?_
  rintro e w8 ⟨rfl, rfl⟩
  go_wp2
  go_ret2
  exact ⟨rfl, below_next HB.out (below_box _ _)⟩
set_option maxRecDepth 100000 in
set_option maxHeartbeats 4000000 in
theorem renc_Grant (m : Ms) (h : Hd) (w : World) (hi : In w m h) (ha : h.an ≤ 1000000) (hbn : h.bn ≤ 1000000) (hg : goodM m = true) (hH : partsH m.kind m.need = (hGrant true))
    (hh : ∀ w, Calls Try.prog 21 #[.agg #[.int .i64 m.kind, .int .i64 m.page, .bool m.x, .bool m.need, .int .i64 m.n, .int .i64 m.cl, .int .i64 m.ep, .int .i64 m.tn, .int .i64 m.lsn, .slice h.a h.an h.ac, .slice h.b h.bn h.bc]] w fun e w' => e = .returned (.string ⟨#[112, 120, 110, 105]⟩) ∧ Below w.heap.size w w') :
    Calls Try.prog 12 #[.agg #[.int .i64 m.kind, .int .i64 m.page, .bool m.x, .bool m.need, .int .i64 m.n, .int .i64 m.cl, .int .i64 m.ep, .int .i64 m.tn, .int .i64 m.lsn, .slice h.a h.an h.ac, .slice h.b h.bn h.bc]] w fun e w' => e = .returned (.tuple #[.string (arr (encL m)), .int .i64 0]) ∧ Below w.heap.size w w' := by
  obtain ⟨hk, hw, hr⟩ := good_parts hg
  rw [hH] at hw hr
  have HBODY := Lib.hid (show body m = bodyH (hGrant true) m from by unfold body; rw [hH])
  have HGD := Lib.hid (fun (w : World) (hj : In w m h) => (show Calls Try.prog 14 #[.agg #[.int .i64 m.kind, .int .i64 m.page, .bool m.x, .bool m.need, .int .i64 m.n, .int .i64 m.cl, .int .i64 m.ep, .int .i64 m.tn, .int .i64 m.lsn, .slice h.a h.an h.ac, .slice h.b h.bn h.bc]] w fun e w' => e = .returned (.bool true) ∧ Below w.heap.size w w' from by have := rgood_any m h w hj ha hbn; rw [hg] at this; exact this))
  have hbl8 := (body_len hg).2
  have hfk : Fits m.kind := ⟨by omega, by omega⟩
  obtain ⟨w1, w2, w3, w4, w5⟩ := whole_parts hw
  obtain ⟨r1, r2, r3, r4, r5, r6, r7⟩ := bare_parts hr
  have hfp : Fits m.page := ⟨by have := w1 rfl; omega, by have := w1 rfl; omega⟩
  have HIM := Lib.hid (w4 rfl)
  have HES := Lib.hid (r7 rfl)
  have HBN := Lib.hid (show h.bn = 0 from by have := hi.e.len; rw [r7 rfl] at this; exact this.symm)
  have Hhfk := Lib.hid hfk
  clear hfk
  have Hhfp := Lib.hid hfp
  clear hfp
  have HLN := Lib.hid hi.e.len
  clear w1 w2 w3 w4 w5 r1 r2 r3 r4 r5 r6 r7 hw hr hk hg hH
  have i_p := Lib.hid (fun w => in_is ⟨#[112, 120, 110, 105]⟩ 112 true (by decide) (by decide) w 112 (by decide))
  have i_x := Lib.hid (fun w => in_is ⟨#[112, 120, 110, 105]⟩ 120 true (by decide) (by decide) w 120 (by decide))
  have i_n := Lib.hid (fun w => in_is ⟨#[112, 120, 110, 105]⟩ 110 true (by decide) (by decide) w 110 (by decide))
  have i_t := Lib.hid (fun w => in_is ⟨#[112, 120, 110, 105]⟩ 116 false (by decide) (by decide) w 116 (by decide))
  have i_k := Lib.hid (fun w => in_is ⟨#[112, 120, 110, 105]⟩ 107 false (by decide) (by decide) w 107 (by decide))
  have i_i := Lib.hid (fun w => in_is ⟨#[112, 120, 110, 105]⟩ 105 true (by decide) (by decide) w 105 (by decide))
  have i_e := Lib.hid (fun w => in_is ⟨#[112, 120, 110, 105]⟩ 101 false (by decide) (by decide) w 101 (by decide))
  have hb := below_box w (.cells #[.int .i64 m.kind, .int .i64 m.page, .bool m.x, .bool m.need, .int .i64 m.n, .int .i64 m.cl, .int .i64 m.ep, .int .i64 m.tn, .int .i64 m.lsn, .slice h.a h.an h.ac, .slice h.b h.bn h.bc] 29)
  have hM := Blk.new w 29 #[.int .i64 m.kind, .int .i64 m.page, .bool m.x, .bool m.need, .int .i64 m.n, .int .i64 m.cl, .int .i64 m.ep, .int .i64 m.tn, .int .i64 m.lsn, .slice h.a h.an h.ac, .slice h.b h.bn h.bc]
  have hs := alloc_lt w (.cells #[.int .i64 m.kind, .int .i64 m.page, .bool m.x, .bool m.need, .int .i64 m.n, .int .i64 m.cl, .int .i64 m.ep, .int .i64 m.tn, .int .i64 m.lsn, .slice h.a h.an h.ac, .slice h.b h.bn h.bc] 29)
  have HH := Lib.hid hh
  have HI := Lib.hid (hi.below hb)
  clear hh hi
  go_enter Try.func12, Try.ntmps12
  try dsimp only [List.append]
  go_upto_region 1 with (fail)
  generalize hGen : w.alloc (.cells #[.int .i64 m.kind, .int .i64 m.page, .bool m.x, .bool m.need, .int .i64 m.n, .int .i64 m.cl, .int .i64 m.ep, .int .i64 m.tn, .int .i64 m.lsn, .slice h.a h.an h.ac, .slice h.b h.bn h.bc] 29) = W at hb hM hs HI ⊢
  clear hGen
  obtain ⟨c0, c1, c2, c3, c4, c5, c6, c7, c8, c9, c10⟩ := msg_cells hM
  have HM := Lib.hid hM
  have HB := Lib.hid hb
  clear hM hb
  go_wp2_with (go_at_call 23; first | ((with_reducible refine (i_p.out _).mono ?_); rintro e w' ⟨rfl, rfl⟩) | ((with_reducible refine (i_x.out _).mono ?_); rintro e w' ⟨rfl, rfl⟩) | ((with_reducible refine (i_n.out _).mono ?_); rintro e w' ⟨rfl, rfl⟩) | ((with_reducible refine (i_t.out _).mono ?_); rintro e w' ⟨rfl, rfl⟩) | ((with_reducible refine (i_k.out _).mono ?_); rintro e w' ⟨rfl, rfl⟩) | ((with_reducible refine (i_i.out _).mono ?_); rintro e w' ⟨rfl, rfl⟩) | ((with_reducible refine (i_e.out _).mono ?_); rintro e w' ⟨rfl, rfl⟩))
  refine (HGD.out _ HI.out).mono ?_
  rintro e wa ⟨rfl, ba⟩
  replace HM := Lib.hid (HM.out.below ba hs)
  replace HB := Lib.hid (below_next HB.out ba)
  replace HI := Lib.hid (HI.out.below ba)
  replace hs := Nat.lt_of_lt_of_le hs ba.size
  clear c0 c1 c2 c3 c4 c5 c6 c7 c8 c9 c10 ba
  obtain ⟨c0, c1, c2, c3, c4, c5, c6, c7, c8, c9, c10⟩ := msg_cells HM.out
  go_wp2_with (go_at_call 23; first | ((with_reducible refine (i_p.out _).mono ?_); rintro e w' ⟨rfl, rfl⟩) | ((with_reducible refine (i_x.out _).mono ?_); rintro e w' ⟨rfl, rfl⟩) | ((with_reducible refine (i_n.out _).mono ?_); rintro e w' ⟨rfl, rfl⟩) | ((with_reducible refine (i_t.out _).mono ?_); rintro e w' ⟨rfl, rfl⟩) | ((with_reducible refine (i_k.out _).mono ?_); rintro e w' ⟨rfl, rfl⟩) | ((with_reducible refine (i_i.out _).mono ?_); rintro e w' ⟨rfl, rfl⟩) | ((with_reducible refine (i_e.out _).mono ?_); rintro e w' ⟨rfl, rfl⟩))
  refine (HH.out _).mono ?_
  rintro e wa ⟨rfl, ba⟩
  replace HM := Lib.hid (HM.out.below ba hs)
  replace HB := Lib.hid (below_next HB.out ba)
  replace HI := Lib.hid (HI.out.below ba)
  replace hs := Nat.lt_of_lt_of_le hs ba.size
  clear c0 c1 c2 c3 c4 c5 c6 c7 c8 c9 c10 ba
  obtain ⟨c0, c1, c2, c3, c4, c5, c6, c7, c8, c9, c10⟩ := msg_cells HM.out
  go_wp2_with (go_at_call 23; first | ((with_reducible refine (i_p.out _).mono ?_); rintro e w' ⟨rfl, rfl⟩) | ((with_reducible refine (i_x.out _).mono ?_); rintro e w' ⟨rfl, rfl⟩) | ((with_reducible refine (i_n.out _).mono ?_); rintro e w' ⟨rfl, rfl⟩) | ((with_reducible refine (i_t.out _).mono ?_); rintro e w' ⟨rfl, rfl⟩) | ((with_reducible refine (i_k.out _).mono ?_); rintro e w' ⟨rfl, rfl⟩) | ((with_reducible refine (i_i.out _).mono ?_); rintro e w' ⟨rfl, rfl⟩) | ((with_reducible refine (i_e.out _).mono ?_); rintro e w' ⟨rfl, rfl⟩))
  refine (Nib.refInt m.kind _ Hhfk.out).mono ?_
  rintro e wa ⟨rfl, ba⟩
  replace HM := Lib.hid (HM.out.below ba hs)
  replace HB := Lib.hid (below_next HB.out ba)
  replace HI := Lib.hid (HI.out.below ba)
  replace hs := Nat.lt_of_lt_of_le hs ba.size
  clear c0 c1 c2 c3 c4 c5 c6 c7 c8 c9 c10 ba
  obtain ⟨c0, c1, c2, c3, c4, c5, c6, c7, c8, c9, c10⟩ := msg_cells HM.out
  have HT := Lib.hid (encB_arr m.kind)
  have hT : (Nib.encB m.kind).size ≤ 10 := Nib.encB_le Hhfk.out
  generalize Nib.encB m.kind = T at HT hT ⊢
  go_wp2_with (go_at_call 23; first | ((with_reducible refine (i_p.out _).mono ?_); rintro e w' ⟨rfl, rfl⟩) | ((with_reducible refine (i_x.out _).mono ?_); rintro e w' ⟨rfl, rfl⟩) | ((with_reducible refine (i_n.out _).mono ?_); rintro e w' ⟨rfl, rfl⟩) | ((with_reducible refine (i_t.out _).mono ?_); rintro e w' ⟨rfl, rfl⟩) | ((with_reducible refine (i_k.out _).mono ?_); rintro e w' ⟨rfl, rfl⟩) | ((with_reducible refine (i_i.out _).mono ?_); rintro e w' ⟨rfl, rfl⟩) | ((with_reducible refine (i_e.out _).mono ?_); rintro e w' ⟨rfl, rfl⟩))
  refine (Nib.refInt m.page _ Hhfp.out).mono ?_
  rintro e wa ⟨rfl, ba⟩
  replace HM := Lib.hid (HM.out.below ba hs)
  replace HB := Lib.hid (below_next HB.out ba)
  replace HI := Lib.hid (HI.out.below ba)
  replace hs := Nat.lt_of_lt_of_le hs ba.size
  clear c0 c1 c2 c3 c4 c5 c6 c7 c8 c9 c10 ba
  obtain ⟨c0, c1, c2, c3, c4, c5, c6, c7, c8, c9, c10⟩ := msg_cells HM.out
  have hE : (Nib.encB m.page).size ≤ 10 := Nib.encB_le Hhfp.out
  obtain ⟨T1, hT2⟩ : ∃ x, x = T ++ Nib.encB m.page := ⟨_, rfl⟩
  have hadd : ∀ W, (Op.stringOp .add T (Nib.encB m.page)).run Try.prog W = .ok (.string T1) W := fun W => by rw [hT2]; exact run_string_add_sum W _ _ (by omega)
  have hS2 : T1.size ≤ 20 := by rw [hT2, ByteArray.size_append]; omega
  replace HT := Lib.hid (show T1 = arr (enc m.kind ++ enc m.page) from by rw [hT2, HT.out, show Nib.encB m.page = arr (enc m.page) from encB_arr m.page, arr_cat])
  clear hT2
  go_upto_region 7 with (go_at_call 23; first | ((with_reducible refine (i_p.out _).mono ?_); rintro e w' ⟨rfl, rfl⟩) | ((with_reducible refine (i_x.out _).mono ?_); rintro e w' ⟨rfl, rfl⟩) | ((with_reducible refine (i_n.out _).mono ?_); rintro e w' ⟨rfl, rfl⟩) | ((with_reducible refine (i_t.out _).mono ?_); rintro e w' ⟨rfl, rfl⟩) | ((with_reducible refine (i_k.out _).mono ?_); rintro e w' ⟨rfl, rfl⟩) | ((with_reducible refine (i_i.out _).mono ?_); rintro e w' ⟨rfl, rfl⟩) | ((with_reducible refine (i_e.out _).mono ?_); rintro e w' ⟨rfl, rfl⟩))
  clear hadd hE
  clear hT
  have hT := hS2
  clear hS2
  go_wp2_with (go_at_call 23; first | ((with_reducible refine (i_p.out _).mono ?_); rintro e w' ⟨rfl, rfl⟩) | ((with_reducible refine (i_x.out _).mono ?_); rintro e w' ⟨rfl, rfl⟩) | ((with_reducible refine (i_n.out _).mono ?_); rintro e w' ⟨rfl, rfl⟩) | ((with_reducible refine (i_t.out _).mono ?_); rintro e w' ⟨rfl, rfl⟩) | ((with_reducible refine (i_k.out _).mono ?_); rintro e w' ⟨rfl, rfl⟩) | ((with_reducible refine (i_i.out _).mono ?_); rintro e w' ⟨rfl, rfl⟩) | ((with_reducible refine (i_e.out _).mono ?_); rintro e w' ⟨rfl, rfl⟩))
  refine (one_any m.x _).mono ?_
  rintro e wa ⟨rfl, ba⟩
  replace HM := Lib.hid (HM.out.below ba hs)
  replace HB := Lib.hid (below_next HB.out ba)
  replace HI := Lib.hid (HI.out.below ba)
  replace hs := Nat.lt_of_lt_of_le hs ba.size
  clear c0 c1 c2 c3 c4 c5 c6 c7 c8 c9 c10 ba
  obtain ⟨c0, c1, c2, c3, c4, c5, c6, c7, c8, c9, c10⟩ := msg_cells HM.out
  have hE : (Nib.encB (b1 m.x)).size ≤ 10 := Nib.encB_le (flag_fits m.x)
  obtain ⟨T2, hT2⟩ : ∃ x, x = T1 ++ Nib.encB (b1 m.x) := ⟨_, rfl⟩
  have hadd : ∀ W, (Op.stringOp .add T1 (Nib.encB (b1 m.x))).run Try.prog W = .ok (.string T2) W := fun W => by rw [hT2]; exact run_string_add_sum W _ _ (by omega)
  have hS2 : T2.size ≤ 30 := by rw [hT2, ByteArray.size_append]; omega
  replace HT := Lib.hid (show T2 = arr (enc m.kind ++ enc m.page ++ enc (b1 m.x)) from by rw [hT2, HT.out, show Nib.encB (b1 m.x) = arr (enc (b1 m.x)) from encB_arr (b1 m.x), arr_cat])
  clear hT2
  go_upto_region 9 with (go_at_call 23; first | ((with_reducible refine (i_p.out _).mono ?_); rintro e w' ⟨rfl, rfl⟩) | ((with_reducible refine (i_x.out _).mono ?_); rintro e w' ⟨rfl, rfl⟩) | ((with_reducible refine (i_n.out _).mono ?_); rintro e w' ⟨rfl, rfl⟩) | ((with_reducible refine (i_t.out _).mono ?_); rintro e w' ⟨rfl, rfl⟩) | ((with_reducible refine (i_k.out _).mono ?_); rintro e w' ⟨rfl, rfl⟩) | ((with_reducible refine (i_i.out _).mono ?_); rintro e w' ⟨rfl, rfl⟩) | ((with_reducible refine (i_e.out _).mono ?_); rintro e w' ⟨rfl, rfl⟩))
  clear hadd hE
  clear hT
  have hT := hS2
  clear hS2
  go_wp2_with (go_at_call 23; first | ((with_reducible refine (i_p.out _).mono ?_); rintro e w' ⟨rfl, rfl⟩) | ((with_reducible refine (i_x.out _).mono ?_); rintro e w' ⟨rfl, rfl⟩) | ((with_reducible refine (i_n.out _).mono ?_); rintro e w' ⟨rfl, rfl⟩) | ((with_reducible refine (i_t.out _).mono ?_); rintro e w' ⟨rfl, rfl⟩) | ((with_reducible refine (i_k.out _).mono ?_); rintro e w' ⟨rfl, rfl⟩) | ((with_reducible refine (i_i.out _).mono ?_); rintro e w' ⟨rfl, rfl⟩) | ((with_reducible refine (i_e.out _).mono ?_); rintro e w' ⟨rfl, rfl⟩))
  refine (one_any m.need _).mono ?_
  rintro e wa ⟨rfl, ba⟩
  replace HM := Lib.hid (HM.out.below ba hs)
  replace HB := Lib.hid (below_next HB.out ba)
  replace HI := Lib.hid (HI.out.below ba)
  replace hs := Nat.lt_of_lt_of_le hs ba.size
  clear c0 c1 c2 c3 c4 c5 c6 c7 c8 c9 c10 ba
  obtain ⟨c0, c1, c2, c3, c4, c5, c6, c7, c8, c9, c10⟩ := msg_cells HM.out
  have hE : (Nib.encB (b1 m.need)).size ≤ 10 := Nib.encB_le (flag_fits m.need)
  obtain ⟨T3, hT2⟩ : ∃ x, x = T2 ++ Nib.encB (b1 m.need) := ⟨_, rfl⟩
  have hadd : ∀ W, (Op.stringOp .add T2 (Nib.encB (b1 m.need))).run Try.prog W = .ok (.string T3) W := fun W => by rw [hT2]; exact run_string_add_sum W _ _ (by omega)
  have hS2 : T3.size ≤ 40 := by rw [hT2, ByteArray.size_append]; omega
  replace HT := Lib.hid (show T3 = arr (enc m.kind ++ enc m.page ++ enc (b1 m.x) ++ enc (b1 m.need)) from by rw [hT2, HT.out, show Nib.encB (b1 m.need) = arr (enc (b1 m.need)) from encB_arr (b1 m.need), arr_cat])
  clear hT2
  go_upto_region 11 with (go_at_call 23; first | ((with_reducible refine (i_p.out _).mono ?_); rintro e w' ⟨rfl, rfl⟩) | ((with_reducible refine (i_x.out _).mono ?_); rintro e w' ⟨rfl, rfl⟩) | ((with_reducible refine (i_n.out _).mono ?_); rintro e w' ⟨rfl, rfl⟩) | ((with_reducible refine (i_t.out _).mono ?_); rintro e w' ⟨rfl, rfl⟩) | ((with_reducible refine (i_k.out _).mono ?_); rintro e w' ⟨rfl, rfl⟩) | ((with_reducible refine (i_i.out _).mono ?_); rintro e w' ⟨rfl, rfl⟩) | ((with_reducible refine (i_e.out _).mono ?_); rintro e w' ⟨rfl, rfl⟩))
  clear hadd hE
  clear hT
  have hT := hS2
  clear hS2
  have HEI := Lib.hid (show Slab.encS' m.lsn m.zs = arr (Slab.encB m.lsn.toNat m.zs) from by unfold Slab.encS'; rw [HIM.out]; rfl)
  go_wp2_with (go_at_call 23; first | ((with_reducible refine (i_p.out _).mono ?_); rintro e w' ⟨rfl, rfl⟩) | ((with_reducible refine (i_x.out _).mono ?_); rintro e w' ⟨rfl, rfl⟩) | ((with_reducible refine (i_n.out _).mono ?_); rintro e w' ⟨rfl, rfl⟩) | ((with_reducible refine (i_t.out _).mono ?_); rintro e w' ⟨rfl, rfl⟩) | ((with_reducible refine (i_k.out _).mono ?_); rintro e w' ⟨rfl, rfl⟩) | ((with_reducible refine (i_i.out _).mono ?_); rintro e w' ⟨rfl, rfl⟩) | ((with_reducible refine (i_e.out _).mono ?_); rintro e w' ⟨rfl, rfl⟩))
  refine (Slab.renc_any m.lsn h.a h.an h.ac m.zs _ HI.out.s ha).mono ?_
  rw [HEI.out]
  rintro e wa ⟨rfl, ba⟩
  replace HM := Lib.hid (HM.out.below ba hs)
  replace HB := Lib.hid (below_next HB.out ba)
  replace HI := Lib.hid (HI.out.below ba)
  replace hs := Nat.lt_of_lt_of_le hs ba.size
  clear c0 c1 c2 c3 c4 c5 c6 c7 c8 c9 c10 ba
  obtain ⟨c0, c1, c2, c3, c4, c5, c6, c7, c8, c9, c10⟩ := msg_cells HM.out
  generalize Slab.encCode m.lsn m.zs = code
  have hE : (arr (Slab.encB m.lsn.toNat m.zs)).size ≤ 240 := by rw [arr_size, Slab.encB_len (Slab.good_parts HIM.out).2.2.2.2.2]; omega
  obtain ⟨T4, hT2⟩ : ∃ x, x = T3 ++ arr (Slab.encB m.lsn.toNat m.zs) := ⟨_, rfl⟩
  have hadd : ∀ W, (Op.stringOp .add T3 (arr (Slab.encB m.lsn.toNat m.zs))).run Try.prog W = .ok (.string T4) W := fun W => by rw [hT2]; exact run_string_add_sum W _ _ (by omega)
  have hS2 : T4.size ≤ 280 := by rw [hT2, ByteArray.size_append]; omega
  replace HT := Lib.hid (show T4 = arr (enc m.kind ++ enc m.page ++ enc (b1 m.x) ++ enc (b1 m.need) ++ Slab.encB m.lsn.toNat m.zs) from by rw [hT2, HT.out, show arr (Slab.encB m.lsn.toNat m.zs) = arr (Slab.encB m.lsn.toNat m.zs) from rfl, arr_cat])
  clear hT2
  go_upto_region 18 with (go_at_call 23; first | ((with_reducible refine (i_p.out _).mono ?_); rintro e w' ⟨rfl, rfl⟩) | ((with_reducible refine (i_x.out _).mono ?_); rintro e w' ⟨rfl, rfl⟩) | ((with_reducible refine (i_n.out _).mono ?_); rintro e w' ⟨rfl, rfl⟩) | ((with_reducible refine (i_t.out _).mono ?_); rintro e w' ⟨rfl, rfl⟩) | ((with_reducible refine (i_k.out _).mono ?_); rintro e w' ⟨rfl, rfl⟩) | ((with_reducible refine (i_i.out _).mono ?_); rintro e w' ⟨rfl, rfl⟩) | ((with_reducible refine (i_e.out _).mono ?_); rintro e w' ⟨rfl, rfl⟩))
  clear hadd hE
  clear hT
  have hT := hS2
  clear hS2
  have HFIN := Lib.hid (show enc m.kind ++ enc m.page ++ enc (b1 m.x) ++ enc (b1 m.need) ++ Slab.encB m.lsn.toNat m.zs ++ entsB m.es = body m from by rw [HBODY.out]; unfold bodyH pPage pX pNeed pTxn pN pImage pCount; rw [HES.out]; simp [hGrant])
  generalize enc m.kind ++ enc m.page ++ enc (b1 m.x) ++ enc (b1 m.need) ++ Slab.encB m.lsn.toNat m.zs = L at HT HFIN
  have HWH := Lib.hid hs
  rw [HBN.out] at c10
  have HTB := Lib.hid (show T4 = arr (body m) from by rw [HT.out, ← HFIN.out, HES.out]; simp [entsB])
  go_upto_region 20 with (go_at_call 23; first | ((with_reducible refine (i_p.out _).mono ?_); rintro e w' ⟨rfl, rfl⟩) | ((with_reducible refine (i_x.out _).mono ?_); rintro e w' ⟨rfl, rfl⟩) | ((with_reducible refine (i_n.out _).mono ?_); rintro e w' ⟨rfl, rfl⟩) | ((with_reducible refine (i_t.out _).mono ?_); rintro e w' ⟨rfl, rfl⟩) | ((with_reducible refine (i_k.out _).mono ?_); rintro e w' ⟨rfl, rfl⟩) | ((with_reducible refine (i_i.out _).mono ?_); rintro e w' ⟨rfl, rfl⟩) | ((with_reducible refine (i_e.out _).mono ?_); rintro e w' ⟨rfl, rfl⟩))
  have hTz : T4.size ≤ 8000 := by rw [HTB.out, arr_size]; exact hbl8
  have HO := Lib.hid (fun w => Sum.ref_any T4 w (by omega))
  have HTL := Lib.hid (show T4.data.toList = body m from by rw [HTB.out, arr_list])
  have HQ := Lib.hid (quadH_str (Sum.check T4.data.toList))
  have HRES := Lib.hid (show arr (quadH (Sum.check T4.data.toList)) ++ T4 = arr (encL m) from by rw [HTL.out]; (conv => lhs; rw [HTB.out]); rw [arr_cat]; rfl)
  generalize Sum.check T4.data.toList = c at HO HQ HRES
  have hc := c.isLt
  have hqz : (strOfNums [(c.toNat : Int) / 16777216, (c.toNat : Int) / 65536 % 256, (c.toNat : Int) / 256 % 256, (c.toNat : Int) % 256]).size = 4 := by rw [HQ.out, arr_size]; rfl
  have hadd : ∀ W, (Op.stringOp .add (strOfNums [(c.toNat : Int) / 16777216, (c.toNat : Int) / 65536 % 256, (c.toNat : Int) / 256 % 256, (c.toNat : Int) % 256]) T4).run Try.prog W = .ok (.string (arr (encL m))) W := fun W => by
    rw [← HRES.out, ← HQ.out]
    exact run_string_add_sum W _ _ (by omega)
  clear hqz hTz hbl8
  have hconv := Sum.conv4
  go_wp2_with fail
  refine (HO.out _).mono ?_
  rintro e w8 ⟨rfl, rfl⟩
  go_wp2
  go_ret2
  exact ⟨rfl, below_next HB.out (below_box _ _)⟩
set_option maxRecDepth 100000 in
set_option maxHeartbeats 4000000 in
theorem renc_None (m : Ms) (h : Hd) (w : World) (hi : In w m h) (ha : h.an ≤ 1000000) (hbn : h.bn ≤ 1000000) (hg : goodM m = true) (hH : partsH m.kind m.need = hNone)
    (hh : ∀ w, Calls Try.prog 21 #[.agg #[.int .i64 m.kind, .int .i64 m.page, .bool m.x, .bool m.need, .int .i64 m.n, .int .i64 m.cl, .int .i64 m.ep, .int .i64 m.tn, .int .i64 m.lsn, .slice h.a h.an h.ac, .slice h.b h.bn h.bc]] w fun e w' => e = .returned (.string ⟨#[]⟩) ∧ Below w.heap.size w w') :
    Calls Try.prog 12 #[.agg #[.int .i64 m.kind, .int .i64 m.page, .bool m.x, .bool m.need, .int .i64 m.n, .int .i64 m.cl, .int .i64 m.ep, .int .i64 m.tn, .int .i64 m.lsn, .slice h.a h.an h.ac, .slice h.b h.bn h.bc]] w fun e w' => e = .returned (.tuple #[.string (arr (encL m)), .int .i64 0]) ∧ Below w.heap.size w w' := by
  obtain ⟨hk, hw, hr⟩ := good_parts hg
  rw [hH] at hw hr
  have HBODY := Lib.hid (show body m = bodyH hNone m from by unfold body; rw [hH])
  have HGD := Lib.hid (fun (w : World) (hj : In w m h) => (show Calls Try.prog 14 #[.agg #[.int .i64 m.kind, .int .i64 m.page, .bool m.x, .bool m.need, .int .i64 m.n, .int .i64 m.cl, .int .i64 m.ep, .int .i64 m.tn, .int .i64 m.lsn, .slice h.a h.an h.ac, .slice h.b h.bn h.bc]] w fun e w' => e = .returned (.bool true) ∧ Below w.heap.size w w' from by have := rgood_any m h w hj ha hbn; rw [hg] at this; exact this))
  have hbl8 := (body_len hg).2
  have hfk : Fits m.kind := ⟨by omega, by omega⟩
  obtain ⟨w1, w2, w3, w4, w5⟩ := whole_parts hw
  obtain ⟨r1, r2, r3, r4, r5, r6, r7⟩ := bare_parts hr
  have HES := Lib.hid (r7 rfl)
  have HBN := Lib.hid (show h.bn = 0 from by have := hi.e.len; rw [r7 rfl] at this; exact this.symm)
  have Hhfk := Lib.hid hfk
  clear hfk
  have HLN := Lib.hid hi.e.len
  clear w1 w2 w3 w4 w5 r1 r2 r3 r4 r5 r6 r7 hw hr hk hg hH
  have i_p := Lib.hid (fun w => in_is ⟨#[]⟩ 112 false (by decide) (by decide) w 112 (by decide))
  have i_x := Lib.hid (fun w => in_is ⟨#[]⟩ 120 false (by decide) (by decide) w 120 (by decide))
  have i_n := Lib.hid (fun w => in_is ⟨#[]⟩ 110 false (by decide) (by decide) w 110 (by decide))
  have i_t := Lib.hid (fun w => in_is ⟨#[]⟩ 116 false (by decide) (by decide) w 116 (by decide))
  have i_k := Lib.hid (fun w => in_is ⟨#[]⟩ 107 false (by decide) (by decide) w 107 (by decide))
  have i_i := Lib.hid (fun w => in_is ⟨#[]⟩ 105 false (by decide) (by decide) w 105 (by decide))
  have i_e := Lib.hid (fun w => in_is ⟨#[]⟩ 101 false (by decide) (by decide) w 101 (by decide))
  have hb := below_box w (.cells #[.int .i64 m.kind, .int .i64 m.page, .bool m.x, .bool m.need, .int .i64 m.n, .int .i64 m.cl, .int .i64 m.ep, .int .i64 m.tn, .int .i64 m.lsn, .slice h.a h.an h.ac, .slice h.b h.bn h.bc] 29)
  have hM := Blk.new w 29 #[.int .i64 m.kind, .int .i64 m.page, .bool m.x, .bool m.need, .int .i64 m.n, .int .i64 m.cl, .int .i64 m.ep, .int .i64 m.tn, .int .i64 m.lsn, .slice h.a h.an h.ac, .slice h.b h.bn h.bc]
  have hs := alloc_lt w (.cells #[.int .i64 m.kind, .int .i64 m.page, .bool m.x, .bool m.need, .int .i64 m.n, .int .i64 m.cl, .int .i64 m.ep, .int .i64 m.tn, .int .i64 m.lsn, .slice h.a h.an h.ac, .slice h.b h.bn h.bc] 29)
  have HH := Lib.hid hh
  have HI := Lib.hid (hi.below hb)
  clear hh hi
  go_enter Try.func12, Try.ntmps12
  try dsimp only [List.append]
  go_upto_region 1 with (fail)
  generalize hGen : w.alloc (.cells #[.int .i64 m.kind, .int .i64 m.page, .bool m.x, .bool m.need, .int .i64 m.n, .int .i64 m.cl, .int .i64 m.ep, .int .i64 m.tn, .int .i64 m.lsn, .slice h.a h.an h.ac, .slice h.b h.bn h.bc] 29) = W at hb hM hs HI ⊢
  clear hGen
  obtain ⟨c0, c1, c2, c3, c4, c5, c6, c7, c8, c9, c10⟩ := msg_cells hM
  have HM := Lib.hid hM
  have HB := Lib.hid hb
  clear hM hb
  go_wp2_with (go_at_call 23; first | ((with_reducible refine (i_p.out _).mono ?_); rintro e w' ⟨rfl, rfl⟩) | ((with_reducible refine (i_x.out _).mono ?_); rintro e w' ⟨rfl, rfl⟩) | ((with_reducible refine (i_n.out _).mono ?_); rintro e w' ⟨rfl, rfl⟩) | ((with_reducible refine (i_t.out _).mono ?_); rintro e w' ⟨rfl, rfl⟩) | ((with_reducible refine (i_k.out _).mono ?_); rintro e w' ⟨rfl, rfl⟩) | ((with_reducible refine (i_i.out _).mono ?_); rintro e w' ⟨rfl, rfl⟩) | ((with_reducible refine (i_e.out _).mono ?_); rintro e w' ⟨rfl, rfl⟩))
  refine (HGD.out _ HI.out).mono ?_
  rintro e wa ⟨rfl, ba⟩
  replace HM := Lib.hid (HM.out.below ba hs)
  replace HB := Lib.hid (below_next HB.out ba)
  replace HI := Lib.hid (HI.out.below ba)
  replace hs := Nat.lt_of_lt_of_le hs ba.size
  clear c0 c1 c2 c3 c4 c5 c6 c7 c8 c9 c10 ba
  obtain ⟨c0, c1, c2, c3, c4, c5, c6, c7, c8, c9, c10⟩ := msg_cells HM.out
  go_wp2_with (go_at_call 23; first | ((with_reducible refine (i_p.out _).mono ?_); rintro e w' ⟨rfl, rfl⟩) | ((with_reducible refine (i_x.out _).mono ?_); rintro e w' ⟨rfl, rfl⟩) | ((with_reducible refine (i_n.out _).mono ?_); rintro e w' ⟨rfl, rfl⟩) | ((with_reducible refine (i_t.out _).mono ?_); rintro e w' ⟨rfl, rfl⟩) | ((with_reducible refine (i_k.out _).mono ?_); rintro e w' ⟨rfl, rfl⟩) | ((with_reducible refine (i_i.out _).mono ?_); rintro e w' ⟨rfl, rfl⟩) | ((with_reducible refine (i_e.out _).mono ?_); rintro e w' ⟨rfl, rfl⟩))
  refine (HH.out _).mono ?_
  rintro e wa ⟨rfl, ba⟩
  replace HM := Lib.hid (HM.out.below ba hs)
  replace HB := Lib.hid (below_next HB.out ba)
  replace HI := Lib.hid (HI.out.below ba)
  replace hs := Nat.lt_of_lt_of_le hs ba.size
  clear c0 c1 c2 c3 c4 c5 c6 c7 c8 c9 c10 ba
  obtain ⟨c0, c1, c2, c3, c4, c5, c6, c7, c8, c9, c10⟩ := msg_cells HM.out
  go_wp2_with (go_at_call 23; first | ((with_reducible refine (i_p.out _).mono ?_); rintro e w' ⟨rfl, rfl⟩) | ((with_reducible refine (i_x.out _).mono ?_); rintro e w' ⟨rfl, rfl⟩) | ((with_reducible refine (i_n.out _).mono ?_); rintro e w' ⟨rfl, rfl⟩) | ((with_reducible refine (i_t.out _).mono ?_); rintro e w' ⟨rfl, rfl⟩) | ((with_reducible refine (i_k.out _).mono ?_); rintro e w' ⟨rfl, rfl⟩) | ((with_reducible refine (i_i.out _).mono ?_); rintro e w' ⟨rfl, rfl⟩) | ((with_reducible refine (i_e.out _).mono ?_); rintro e w' ⟨rfl, rfl⟩))
  refine (Nib.refInt m.kind _ Hhfk.out).mono ?_
  rintro e wa ⟨rfl, ba⟩
  replace HM := Lib.hid (HM.out.below ba hs)
  replace HB := Lib.hid (below_next HB.out ba)
  replace HI := Lib.hid (HI.out.below ba)
  replace hs := Nat.lt_of_lt_of_le hs ba.size
  clear c0 c1 c2 c3 c4 c5 c6 c7 c8 c9 c10 ba
  obtain ⟨c0, c1, c2, c3, c4, c5, c6, c7, c8, c9, c10⟩ := msg_cells HM.out
  have HT := Lib.hid (encB_arr m.kind)
  have hT : (Nib.encB m.kind).size ≤ 10 := Nib.encB_le Hhfk.out
  generalize Nib.encB m.kind = T at HT hT ⊢
  have HFIN := Lib.hid (show enc m.kind ++ entsB m.es = body m from by rw [HBODY.out]; unfold bodyH pPage pX pNeed pTxn pN pImage pCount; rw [HES.out]; simp [hNone])
  generalize enc m.kind = L at HT HFIN
  have HWH := Lib.hid hs
  rw [HBN.out] at c10
  have HTB := Lib.hid (show T = arr (body m) from by rw [HT.out, ← HFIN.out, HES.out]; simp [entsB])
  go_upto_region 20 with (go_at_call 23; first | ((with_reducible refine (i_p.out _).mono ?_); rintro e w' ⟨rfl, rfl⟩) | ((with_reducible refine (i_x.out _).mono ?_); rintro e w' ⟨rfl, rfl⟩) | ((with_reducible refine (i_n.out _).mono ?_); rintro e w' ⟨rfl, rfl⟩) | ((with_reducible refine (i_t.out _).mono ?_); rintro e w' ⟨rfl, rfl⟩) | ((with_reducible refine (i_k.out _).mono ?_); rintro e w' ⟨rfl, rfl⟩) | ((with_reducible refine (i_i.out _).mono ?_); rintro e w' ⟨rfl, rfl⟩) | ((with_reducible refine (i_e.out _).mono ?_); rintro e w' ⟨rfl, rfl⟩))
  have hTz : T.size ≤ 8000 := by rw [HTB.out, arr_size]; exact hbl8
  have HO := Lib.hid (fun w => Sum.ref_any T w (by omega))
  have HTL := Lib.hid (show T.data.toList = body m from by rw [HTB.out, arr_list])
  have HQ := Lib.hid (quadH_str (Sum.check T.data.toList))
  have HRES := Lib.hid (show arr (quadH (Sum.check T.data.toList)) ++ T = arr (encL m) from by rw [HTL.out]; (conv => lhs; rw [HTB.out]); rw [arr_cat]; rfl)
  generalize Sum.check T.data.toList = c at HO HQ HRES
  have hc := c.isLt
  have hqz : (strOfNums [(c.toNat : Int) / 16777216, (c.toNat : Int) / 65536 % 256, (c.toNat : Int) / 256 % 256, (c.toNat : Int) % 256]).size = 4 := by rw [HQ.out, arr_size]; rfl
  have hadd : ∀ W, (Op.stringOp .add (strOfNums [(c.toNat : Int) / 16777216, (c.toNat : Int) / 65536 % 256, (c.toNat : Int) / 256 % 256, (c.toNat : Int) % 256]) T).run Try.prog W = .ok (.string (arr (encL m))) W := fun W => by
    rw [← HRES.out, ← HQ.out]
    exact run_string_add_sum W _ _ (by omega)
  clear hqz hTz hbl8
  have hconv := Sum.conv4
  go_wp2_with fail
  refine (HO.out _).mono ?_
  rintro e w8 ⟨rfl, rfl⟩
  go_wp2
  go_ret2
  exact ⟨rfl, below_next HB.out (below_box _ _)⟩
set_option maxRecDepth 100000 in
set_option maxHeartbeats 4000000 in
theorem renc_Room (m : Ms) (h : Hd) (w : World) (hi : In w m h) (ha : h.an ≤ 1000000) (hbn : h.bn ≤ 1000000) (hg : goodM m = true) (hH : partsH m.kind m.need = hRoom)
    (hh : ∀ w, Calls Try.prog 21 #[.agg #[.int .i64 m.kind, .int .i64 m.page, .bool m.x, .bool m.need, .int .i64 m.n, .int .i64 m.cl, .int .i64 m.ep, .int .i64 m.tn, .int .i64 m.lsn, .slice h.a h.an h.ac, .slice h.b h.bn h.bc]] w fun e w' => e = .returned (.string ⟨#[107]⟩) ∧ Below w.heap.size w w') :
    Calls Try.prog 12 #[.agg #[.int .i64 m.kind, .int .i64 m.page, .bool m.x, .bool m.need, .int .i64 m.n, .int .i64 m.cl, .int .i64 m.ep, .int .i64 m.tn, .int .i64 m.lsn, .slice h.a h.an h.ac, .slice h.b h.bn h.bc]] w fun e w' => e = .returned (.tuple #[.string (arr (encL m)), .int .i64 0]) ∧ Below w.heap.size w w' := by
  obtain ⟨hk, hw, hr⟩ := good_parts hg
  rw [hH] at hw hr
  have HBODY := Lib.hid (show body m = bodyH hRoom m from by unfold body; rw [hH])
  have HGD := Lib.hid (fun (w : World) (hj : In w m h) => (show Calls Try.prog 14 #[.agg #[.int .i64 m.kind, .int .i64 m.page, .bool m.x, .bool m.need, .int .i64 m.n, .int .i64 m.cl, .int .i64 m.ep, .int .i64 m.tn, .int .i64 m.lsn, .slice h.a h.an h.ac, .slice h.b h.bn h.bc]] w fun e w' => e = .returned (.bool true) ∧ Below w.heap.size w w' from by have := rgood_any m h w hj ha hbn; rw [hg] at this; exact this))
  have hbl8 := (body_len hg).2
  have hfk : Fits m.kind := ⟨by omega, by omega⟩
  obtain ⟨w1, w2, w3, w4, w5⟩ := whole_parts hw
  obtain ⟨r1, r2, r3, r4, r5, r6, r7⟩ := bare_parts hr
  have hfn : Fits m.n := ⟨by have := w3 rfl; omega, by have := w3 rfl; omega⟩
  have HES := Lib.hid (r7 rfl)
  have HBN := Lib.hid (show h.bn = 0 from by have := hi.e.len; rw [r7 rfl] at this; exact this.symm)
  have Hhfk := Lib.hid hfk
  clear hfk
  have Hhfn := Lib.hid hfn
  clear hfn
  have HLN := Lib.hid hi.e.len
  clear w1 w2 w3 w4 w5 r1 r2 r3 r4 r5 r6 r7 hw hr hk hg hH
  have i_p := Lib.hid (fun w => in_is ⟨#[107]⟩ 112 false (by decide) (by decide) w 112 (by decide))
  have i_x := Lib.hid (fun w => in_is ⟨#[107]⟩ 120 false (by decide) (by decide) w 120 (by decide))
  have i_n := Lib.hid (fun w => in_is ⟨#[107]⟩ 110 false (by decide) (by decide) w 110 (by decide))
  have i_t := Lib.hid (fun w => in_is ⟨#[107]⟩ 116 false (by decide) (by decide) w 116 (by decide))
  have i_k := Lib.hid (fun w => in_is ⟨#[107]⟩ 107 true (by decide) (by decide) w 107 (by decide))
  have i_i := Lib.hid (fun w => in_is ⟨#[107]⟩ 105 false (by decide) (by decide) w 105 (by decide))
  have i_e := Lib.hid (fun w => in_is ⟨#[107]⟩ 101 false (by decide) (by decide) w 101 (by decide))
  have hb := below_box w (.cells #[.int .i64 m.kind, .int .i64 m.page, .bool m.x, .bool m.need, .int .i64 m.n, .int .i64 m.cl, .int .i64 m.ep, .int .i64 m.tn, .int .i64 m.lsn, .slice h.a h.an h.ac, .slice h.b h.bn h.bc] 29)
  have hM := Blk.new w 29 #[.int .i64 m.kind, .int .i64 m.page, .bool m.x, .bool m.need, .int .i64 m.n, .int .i64 m.cl, .int .i64 m.ep, .int .i64 m.tn, .int .i64 m.lsn, .slice h.a h.an h.ac, .slice h.b h.bn h.bc]
  have hs := alloc_lt w (.cells #[.int .i64 m.kind, .int .i64 m.page, .bool m.x, .bool m.need, .int .i64 m.n, .int .i64 m.cl, .int .i64 m.ep, .int .i64 m.tn, .int .i64 m.lsn, .slice h.a h.an h.ac, .slice h.b h.bn h.bc] 29)
  have HH := Lib.hid hh
  have HI := Lib.hid (hi.below hb)
  clear hh hi
  go_enter Try.func12, Try.ntmps12
  try dsimp only [List.append]
  go_upto_region 1 with (fail)
  generalize hGen : w.alloc (.cells #[.int .i64 m.kind, .int .i64 m.page, .bool m.x, .bool m.need, .int .i64 m.n, .int .i64 m.cl, .int .i64 m.ep, .int .i64 m.tn, .int .i64 m.lsn, .slice h.a h.an h.ac, .slice h.b h.bn h.bc] 29) = W at hb hM hs HI ⊢
  clear hGen
  obtain ⟨c0, c1, c2, c3, c4, c5, c6, c7, c8, c9, c10⟩ := msg_cells hM
  have HM := Lib.hid hM
  have HB := Lib.hid hb
  clear hM hb
  go_wp2_with (go_at_call 23; first | ((with_reducible refine (i_p.out _).mono ?_); rintro e w' ⟨rfl, rfl⟩) | ((with_reducible refine (i_x.out _).mono ?_); rintro e w' ⟨rfl, rfl⟩) | ((with_reducible refine (i_n.out _).mono ?_); rintro e w' ⟨rfl, rfl⟩) | ((with_reducible refine (i_t.out _).mono ?_); rintro e w' ⟨rfl, rfl⟩) | ((with_reducible refine (i_k.out _).mono ?_); rintro e w' ⟨rfl, rfl⟩) | ((with_reducible refine (i_i.out _).mono ?_); rintro e w' ⟨rfl, rfl⟩) | ((with_reducible refine (i_e.out _).mono ?_); rintro e w' ⟨rfl, rfl⟩))
  refine (HGD.out _ HI.out).mono ?_
  rintro e wa ⟨rfl, ba⟩
  replace HM := Lib.hid (HM.out.below ba hs)
  replace HB := Lib.hid (below_next HB.out ba)
  replace HI := Lib.hid (HI.out.below ba)
  replace hs := Nat.lt_of_lt_of_le hs ba.size
  clear c0 c1 c2 c3 c4 c5 c6 c7 c8 c9 c10 ba
  obtain ⟨c0, c1, c2, c3, c4, c5, c6, c7, c8, c9, c10⟩ := msg_cells HM.out
  go_wp2_with (go_at_call 23; first | ((with_reducible refine (i_p.out _).mono ?_); rintro e w' ⟨rfl, rfl⟩) | ((with_reducible refine (i_x.out _).mono ?_); rintro e w' ⟨rfl, rfl⟩) | ((with_reducible refine (i_n.out _).mono ?_); rintro e w' ⟨rfl, rfl⟩) | ((with_reducible refine (i_t.out _).mono ?_); rintro e w' ⟨rfl, rfl⟩) | ((with_reducible refine (i_k.out _).mono ?_); rintro e w' ⟨rfl, rfl⟩) | ((with_reducible refine (i_i.out _).mono ?_); rintro e w' ⟨rfl, rfl⟩) | ((with_reducible refine (i_e.out _).mono ?_); rintro e w' ⟨rfl, rfl⟩))
  refine (HH.out _).mono ?_
  rintro e wa ⟨rfl, ba⟩
  replace HM := Lib.hid (HM.out.below ba hs)
  replace HB := Lib.hid (below_next HB.out ba)
  replace HI := Lib.hid (HI.out.below ba)
  replace hs := Nat.lt_of_lt_of_le hs ba.size
  clear c0 c1 c2 c3 c4 c5 c6 c7 c8 c9 c10 ba
  obtain ⟨c0, c1, c2, c3, c4, c5, c6, c7, c8, c9, c10⟩ := msg_cells HM.out
  go_wp2_with (go_at_call 23; first | ((with_reducible refine (i_p.out _).mono ?_); rintro e w' ⟨rfl, rfl⟩) | ((with_reducible refine (i_x.out _).mono ?_); rintro e w' ⟨rfl, rfl⟩) | ((with_reducible refine (i_n.out _).mono ?_); rintro e w' ⟨rfl, rfl⟩) | ((with_reducible refine (i_t.out _).mono ?_); rintro e w' ⟨rfl, rfl⟩) | ((with_reducible refine (i_k.out _).mono ?_); rintro e w' ⟨rfl, rfl⟩) | ((with_reducible refine (i_i.out _).mono ?_); rintro e w' ⟨rfl, rfl⟩) | ((with_reducible refine (i_e.out _).mono ?_); rintro e w' ⟨rfl, rfl⟩))
  refine (Nib.refInt m.kind _ Hhfk.out).mono ?_
  rintro e wa ⟨rfl, ba⟩
  replace HM := Lib.hid (HM.out.below ba hs)
  replace HB := Lib.hid (below_next HB.out ba)
  replace HI := Lib.hid (HI.out.below ba)
  replace hs := Nat.lt_of_lt_of_le hs ba.size
  clear c0 c1 c2 c3 c4 c5 c6 c7 c8 c9 c10 ba
  obtain ⟨c0, c1, c2, c3, c4, c5, c6, c7, c8, c9, c10⟩ := msg_cells HM.out
  have HT := Lib.hid (encB_arr m.kind)
  have hT : (Nib.encB m.kind).size ≤ 10 := Nib.encB_le Hhfk.out
  generalize Nib.encB m.kind = T at HT hT ⊢
  go_wp2_with (go_at_call 23; first | ((with_reducible refine (i_p.out _).mono ?_); rintro e w' ⟨rfl, rfl⟩) | ((with_reducible refine (i_x.out _).mono ?_); rintro e w' ⟨rfl, rfl⟩) | ((with_reducible refine (i_n.out _).mono ?_); rintro e w' ⟨rfl, rfl⟩) | ((with_reducible refine (i_t.out _).mono ?_); rintro e w' ⟨rfl, rfl⟩) | ((with_reducible refine (i_k.out _).mono ?_); rintro e w' ⟨rfl, rfl⟩) | ((with_reducible refine (i_i.out _).mono ?_); rintro e w' ⟨rfl, rfl⟩) | ((with_reducible refine (i_e.out _).mono ?_); rintro e w' ⟨rfl, rfl⟩))
  refine (Nib.refInt m.n _ Hhfn.out).mono ?_
  rintro e wa ⟨rfl, ba⟩
  replace HM := Lib.hid (HM.out.below ba hs)
  replace HB := Lib.hid (below_next HB.out ba)
  replace HI := Lib.hid (HI.out.below ba)
  replace hs := Nat.lt_of_lt_of_le hs ba.size
  clear c0 c1 c2 c3 c4 c5 c6 c7 c8 c9 c10 ba
  obtain ⟨c0, c1, c2, c3, c4, c5, c6, c7, c8, c9, c10⟩ := msg_cells HM.out
  have hE : (Nib.encB m.n).size ≤ 10 := Nib.encB_le Hhfn.out
  obtain ⟨T1, hT2⟩ : ∃ x, x = T ++ Nib.encB m.n := ⟨_, rfl⟩
  have hadd : ∀ W, (Op.stringOp .add T (Nib.encB m.n)).run Try.prog W = .ok (.string T1) W := fun W => by rw [hT2]; exact run_string_add_sum W _ _ (by omega)
  have hS2 : T1.size ≤ 20 := by rw [hT2, ByteArray.size_append]; omega
  replace HT := Lib.hid (show T1 = arr (enc m.kind ++ enc m.n) from by rw [hT2, HT.out, show Nib.encB m.n = arr (enc m.n) from encB_arr m.n, arr_cat])
  clear hT2
  go_upto_region 15 with (go_at_call 23; first | ((with_reducible refine (i_p.out _).mono ?_); rintro e w' ⟨rfl, rfl⟩) | ((with_reducible refine (i_x.out _).mono ?_); rintro e w' ⟨rfl, rfl⟩) | ((with_reducible refine (i_n.out _).mono ?_); rintro e w' ⟨rfl, rfl⟩) | ((with_reducible refine (i_t.out _).mono ?_); rintro e w' ⟨rfl, rfl⟩) | ((with_reducible refine (i_k.out _).mono ?_); rintro e w' ⟨rfl, rfl⟩) | ((with_reducible refine (i_i.out _).mono ?_); rintro e w' ⟨rfl, rfl⟩) | ((with_reducible refine (i_e.out _).mono ?_); rintro e w' ⟨rfl, rfl⟩))
  clear hadd hE
  clear hT
  have hT := hS2
  clear hS2
  have HFIN := Lib.hid (show enc m.kind ++ enc m.n ++ entsB m.es = body m from by rw [HBODY.out]; unfold bodyH pPage pX pNeed pTxn pN pImage pCount; rw [HES.out]; simp [hRoom])
  generalize enc m.kind ++ enc m.n = L at HT HFIN
  have HWH := Lib.hid hs
  rw [HBN.out] at c10
  have HTB := Lib.hid (show T1 = arr (body m) from by rw [HT.out, ← HFIN.out, HES.out]; simp [entsB])
  go_upto_region 20 with (go_at_call 23; first | ((with_reducible refine (i_p.out _).mono ?_); rintro e w' ⟨rfl, rfl⟩) | ((with_reducible refine (i_x.out _).mono ?_); rintro e w' ⟨rfl, rfl⟩) | ((with_reducible refine (i_n.out _).mono ?_); rintro e w' ⟨rfl, rfl⟩) | ((with_reducible refine (i_t.out _).mono ?_); rintro e w' ⟨rfl, rfl⟩) | ((with_reducible refine (i_k.out _).mono ?_); rintro e w' ⟨rfl, rfl⟩) | ((with_reducible refine (i_i.out _).mono ?_); rintro e w' ⟨rfl, rfl⟩) | ((with_reducible refine (i_e.out _).mono ?_); rintro e w' ⟨rfl, rfl⟩))
  have hTz : T1.size ≤ 8000 := by rw [HTB.out, arr_size]; exact hbl8
  have HO := Lib.hid (fun w => Sum.ref_any T1 w (by omega))
  have HTL := Lib.hid (show T1.data.toList = body m from by rw [HTB.out, arr_list])
  have HQ := Lib.hid (quadH_str (Sum.check T1.data.toList))
  have HRES := Lib.hid (show arr (quadH (Sum.check T1.data.toList)) ++ T1 = arr (encL m) from by rw [HTL.out]; (conv => lhs; rw [HTB.out]); rw [arr_cat]; rfl)
  generalize Sum.check T1.data.toList = c at HO HQ HRES
  have hc := c.isLt
  have hqz : (strOfNums [(c.toNat : Int) / 16777216, (c.toNat : Int) / 65536 % 256, (c.toNat : Int) / 256 % 256, (c.toNat : Int) % 256]).size = 4 := by rw [HQ.out, arr_size]; rfl
  have hadd : ∀ W, (Op.stringOp .add (strOfNums [(c.toNat : Int) / 16777216, (c.toNat : Int) / 65536 % 256, (c.toNat : Int) / 256 % 256, (c.toNat : Int) % 256]) T1).run Try.prog W = .ok (.string (arr (encL m))) W := fun W => by
    rw [← HRES.out, ← HQ.out]
    exact run_string_add_sum W _ _ (by omega)
  clear hqz hTz hbl8
  have hconv := Sum.conv4
  go_wp2_with fail
  refine (HO.out _).mono ?_
  rintro e w8 ⟨rfl, rfl⟩
  go_wp2
  go_ret2
  exact ⟨rfl, below_next HB.out (below_box _ _)⟩
set_option maxRecDepth 100000 in
set_option maxHeartbeats 1000000 in
theorem renc_bad (m : Ms) (h : Hd) (w : World) (hi : In w m h) (ha : h.an ≤ 1000000) (hbn : h.bn ≤ 1000000) (hg : goodM m = false) :
    Calls Try.prog 12 #[.agg #[.int .i64 m.kind, .int .i64 m.page, .bool m.x, .bool m.need, .int .i64 m.n, .int .i64 m.cl, .int .i64 m.ep, .int .i64 m.tn, .int .i64 m.lsn, .slice h.a h.an h.ac, .slice h.b h.bn h.bc]] w fun e w' => e = .returned (.tuple #[.string ⟨#[]⟩, .int .i64 1]) ∧ Below w.heap.size w w' := by
  have HG := Lib.hid (fun (w : World) (hj : In w m h) => (show Calls Try.prog 14 #[.agg #[.int .i64 m.kind, .int .i64 m.page, .bool m.x, .bool m.need, .int .i64 m.n, .int .i64 m.cl, .int .i64 m.ep, .int .i64 m.tn, .int .i64 m.lsn, .slice h.a h.an h.ac, .slice h.b h.bn h.bc]] w fun e w' => e = .returned (.bool false) ∧ Below w.heap.size w w' from by have := rgood_any m h w hj ha hbn; rw [hg] at this; exact this))
  clear hg
  have hb := below_box w (.cells #[.int .i64 m.kind, .int .i64 m.page, .bool m.x, .bool m.need, .int .i64 m.n, .int .i64 m.cl, .int .i64 m.ep, .int .i64 m.tn, .int .i64 m.lsn, .slice h.a h.an h.ac, .slice h.b h.bn h.bc] 29)
  have hM := Blk.new w 29 #[.int .i64 m.kind, .int .i64 m.page, .bool m.x, .bool m.need, .int .i64 m.n, .int .i64 m.cl, .int .i64 m.ep, .int .i64 m.tn, .int .i64 m.lsn, .slice h.a h.an h.ac, .slice h.b h.bn h.bc]
  have HI := Lib.hid (hi.below hb)
  clear hi
  go_enter Try.func12, Try.ntmps12
  try dsimp only [List.append]
  go_upto_region 1 with (fail)
  generalize hGen : w.alloc (.cells #[.int .i64 m.kind, .int .i64 m.page, .bool m.x, .bool m.need, .int .i64 m.n, .int .i64 m.cl, .int .i64 m.ep, .int .i64 m.tn, .int .i64 m.lsn, .slice h.a h.an h.ac, .slice h.b h.bn h.bc] 29) = W at hb hM HI ⊢
  clear hGen
  obtain ⟨c0, c1, c2, c3, c4, c5, c6, c7, c8, c9, c10⟩ := msg_cells hM
  clear hM
  go_wp2_with fail
  refine (HG.out _ HI.out).mono ?_
  rintro e w1 ⟨rfl, b1⟩
  go_wp2
  go_ret2
  exact ⟨rfl, below_next hb b1⟩
/-- the document's own Encode, of every message -/
theorem rencode_any (m : Ms) (h : Hd) (w : World) (hi : In w m h) (ha : h.an ≤ 1000000) (hbn : h.bn ≤ 1000000) :
    Calls Try.prog 12 #[.agg #[.int .i64 m.kind, .int .i64 m.page, .bool m.x, .bool m.need, .int .i64 m.n, .int .i64 m.cl, .int .i64 m.ep, .int .i64 m.tn, .int .i64 m.lsn, .slice h.a h.an h.ac, .slice h.b h.bn h.bc]] w fun e w' => e = .returned (.tuple #[.string (encMsg m), .int .i64 (codeM m)]) ∧ Below w.heap.size w w' := by
  cases hg : goodM m with
  | false => rw [(enc_bad hg).1, (enc_bad hg).2]; exact renc_bad m h w hi ha hbn hg
  | true =>
  have hem : encMsg m = arr (encL m) ∧ codeM m = 0 := by unfold encMsg codeM; rw [hg]; exact ⟨rfl, rfl⟩
  rw [hem.1, hem.2]
  have hk := (good_parts hg).1
  cases kind_of m.kind with
  | lock hq hh ho => exact renc_Lock m h w hi ha hbn hg (hh _) (fun w => has_1 m h w hq)
  | use hq hh ho => exact renc_Use m h w hi ha hbn hg (hh _) (fun w => has_3 m h w hq)
  | log hq hh ho => exact renc_Log m h w hi ha hbn hg (hh _) (fun w => has_4 m h w hq)
  | image hq hh ho => exact renc_Image m h w hi ha hbn hg (hh _) (fun w => has_5 m h w hq)
  | victim hq hh ho => exact renc_None m h w hi ha hbn hg (hh _) (fun w => has_12 m h w hq)
  | room hq hh ho => exact renc_Room m h w hi ha hbn hg (hh _) (fun w => has_13 m h w hq)
  | free hq hh ho => exact renc_Free m h w hi ha hbn hg (hh _) (fun w => by rcases hq with hq | hq; exact has_2 m h w hq; exact has_10 m h w hq)
  | txn hq hh ho => exact renc_Txn m h w hi ha hbn hg (hh _) (fun w => by rcases hq with hq | hq; exact has_6 m h w hq; exact has_11 m h w hq)
  | space hq hh ho => exact renc_Space m h w hi ha hbn hg (hh _) (fun w => by rcases hq with hq | hq; exact has_7 m h w hq; exact has_8 m h w hq)
  | none hq hh ho => exact absurd hk (by omega)
  | grant hq hh ho =>
    rcases Bool.eq_false_or_eq_true m.need with hn | hn
    · exact renc_Grant m h w hi ha hbn hg (by rw [hh, hn]) (fun w => has_grant m h w hq hn)
    · exact renc_Lock m h w hi ha hbn hg (by rw [hh, hn]; rfl) (fun w => has_9 m h w hq hn)
end Go.Proofs.Ytnoplekjdbakkaa.Note
