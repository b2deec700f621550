/- The walk of the statement NoteBack. -/
import Derived.Test.YtnoplekjdbakkaaQNoteFormsWalk
namespace Go.Proofs.Ytnoplekjdbakkaa.Note
set_option maxRecDepth 100000
open Go.RowKit Go.Sort
open Go.Proofs.Ytnoplekjdbakkaa.Nib (enc below_next below_drew Fits takeInt)
open Go.Proofs.Ytnoplekjdbakkaa.Slab (Slot Slots Blk ret_bool' ret_int')
open Go.Proofs.Ytnoplekjdbakkaa.Ent (Ent Ents EntAt SmallE withinB knownB noE entA below_box alloc_lt arr arr_list list_arr arr_size ent_cells Only)
theorem encL_inj {a b : Ms} (ha : goodM a = true) (hb : goodM b = true) (h : encL a = encL b) : a = b := by
  have h2 := congrArg (List.drop 4) h
  rw [encL_drop, encL_drop] at h2
  exact body_inj ha hb h2
theorem enc_same {a b : Ms} (ha : goodM a = true) (hb : goodM b = true) : ((arr (encL a)).toList == (arr (encL b)).toList) = true ↔ a = b := by
  rw [beq_iff_eq]
  constructor
  · intro h
    rw [ByteArray.toList_eq, ByteArray.toList_eq, arr_list, arr_list] at h
    exact encL_inj ha hb h
  · rintro rfl; rfl
set_option maxRecDepth 100000 in
set_option maxHeartbeats 8000000 in
theorem back_walk (m : Ms) (h : Hd) (m' : Ms) (h' : Hd) (s : ByteArray) (w : World) (hi : In w m h) (hi' : In w m' h') (hs0 : s.size ≤ 140737488351232) :
    Calls Try.prog 5 #[.agg #[.int .i64 m.kind, .int .i64 m.page, .bool m.x, .bool m.need, .int .i64 m.n, .int .i64 m.cl, .int .i64 m.ep, .int .i64 m.tn, .int .i64 m.lsn, .slice h.a h.an h.ac, .slice h.b h.bn h.bc], .agg #[.int .i64 m'.kind, .int .i64 m'.page, .bool m'.x, .bool m'.need, .int .i64 m'.n, .int .i64 m'.cl, .int .i64 m'.ep, .int .i64 m'.tn, .int .i64 m'.lsn, .slice h'.a h'.an h'.ac, .slice h'.b h'.bn h'.bc], .string s] w fun e w' => e = .returned (.bool true) ∧ Below w.heap.size w w' := by
  have hb := (below_box w (.cells #[.int .i64 m.kind, .int .i64 m.page, .bool m.x, .bool m.need, .int .i64 m.n, .int .i64 m.cl, .int .i64 m.ep, .int .i64 m.tn, .int .i64 m.lsn, .slice h.a h.an h.ac, .slice h.b h.bn h.bc] 29)).trans ((below_box (w.alloc (.cells #[.int .i64 m.kind, .int .i64 m.page, .bool m.x, .bool m.need, .int .i64 m.n, .int .i64 m.cl, .int .i64 m.ep, .int .i64 m.tn, .int .i64 m.lsn, .slice h.a h.an h.ac, .slice h.b h.bn h.bc] 29)) (.cells #[.int .i64 m'.kind, .int .i64 m'.page, .bool m'.x, .bool m'.need, .int .i64 m'.n, .int .i64 m'.cl, .int .i64 m'.ep, .int .i64 m'.tn, .int .i64 m'.lsn, .slice h'.a h'.an h'.ac, .slice h'.b h'.bn h'.bc] 29)).mono (by simp))
  have hM := (Blk.new w 29 #[.int .i64 m.kind, .int .i64 m.page, .bool m.x, .bool m.need, .int .i64 m.n, .int .i64 m.cl, .int .i64 m.ep, .int .i64 m.tn, .int .i64 m.lsn, .slice h.a h.an h.ac, .slice h.b h.bn h.bc]).alloc (.cells #[.int .i64 m'.kind, .int .i64 m'.page, .bool m'.x, .bool m'.need, .int .i64 m'.n, .int .i64 m'.cl, .int .i64 m'.ep, .int .i64 m'.tn, .int .i64 m'.lsn, .slice h'.a h'.an h'.ac, .slice h'.b h'.bn h'.bc] 29)
  have hN := Blk.new (w.alloc (.cells #[.int .i64 m.kind, .int .i64 m.page, .bool m.x, .bool m.need, .int .i64 m.n, .int .i64 m.cl, .int .i64 m.ep, .int .i64 m.tn, .int .i64 m.lsn, .slice h.a h.an h.ac, .slice h.b h.bn h.bc] 29)) 29 #[.int .i64 m'.kind, .int .i64 m'.page, .bool m'.x, .bool m'.need, .int .i64 m'.n, .int .i64 m'.cl, .int .i64 m'.ep, .int .i64 m'.tn, .int .i64 m'.lsn, .slice h'.a h'.an h'.ac, .slice h'.b h'.bn h'.bc]
  have hs : w.heap.size + 2 ≤ ((w.alloc (.cells #[.int .i64 m.kind, .int .i64 m.page, .bool m.x, .bool m.need, .int .i64 m.n, .int .i64 m.cl, .int .i64 m.ep, .int .i64 m.tn, .int .i64 m.lsn, .slice h.a h.an h.ac, .slice h.b h.bn h.bc] 29)).alloc (.cells #[.int .i64 m'.kind, .int .i64 m'.page, .bool m'.x, .bool m'.need, .int .i64 m'.n, .int .i64 m'.cl, .int .i64 m'.ep, .int .i64 m'.tn, .int .i64 m'.lsn, .slice h'.a h'.an h'.ac, .slice h'.b h'.bn h'.bc] 29)).heap.size := by simp
  rw [World.size_alloc] at hN
  have HI := Lib.hid (hi.below hb)
  have HJ := Lib.hid (hi'.below hb)
  have HSL := Lib.hid hs0
  clear hi hi' hs0
  go_enter Try.func5, Try.ntmps5
  try dsimp only [List.append]
  go_upto_region 1 with (fail)
  generalize hGen : (w.alloc (.cells #[.int .i64 m.kind, .int .i64 m.page, .bool m.x, .bool m.need, .int .i64 m.n, .int .i64 m.cl, .int .i64 m.ep, .int .i64 m.tn, .int .i64 m.lsn, .slice h.a h.an h.ac, .slice h.b h.bn h.bc] 29)).alloc (.cells #[.int .i64 m'.kind, .int .i64 m'.page, .bool m'.x, .bool m'.need, .int .i64 m'.n, .int .i64 m'.cl, .int .i64 m'.ep, .int .i64 m'.tn, .int .i64 m'.lsn, .slice h'.a h'.an h'.ac, .slice h'.b h'.bn h'.bc] 29) = W at hb hM hN hs HI HJ ⊢
  clear hGen
  have HM := Lib.hid hM
  have HN := Lib.hid hN
  have HB := Lib.hid hb
  have HS := Lib.hid hs
  clear hM hN hb hs
  go_wp2_with fail
  refine (awake_any _).mono ?_
  rintro e w1 ⟨rfl, b1⟩
  replace HM := Lib.hid (HM.out.below b1 (by have := HS.out; omega))
  replace HN := Lib.hid (HN.out.below b1 (by have := HS.out; omega))
  replace HB := Lib.hid (below_next HB.out b1)
  replace HS := Lib.hid (Nat.le_trans HS.out b1.size)
  replace HI := Lib.hid (HI.out.below b1)
  replace HJ := Lib.hid (HJ.out.below b1)
  clear b1
  obtain ⟨c0, c1, c2, c3, c4, c5, c6, c7, c8, c9, c10⟩ := msg_cells HM.out
  obtain ⟨d0, d1, d2, d3, d4, d5, d6, d7, d8, d9, d10⟩ := msg_cells HN.out
  go_wp2_with fail
  refine (great_any m h _ HI.out).mono ?_
  rintro e w2 ⟨g, rfl, hg, b2⟩
  replace HM := Lib.hid (HM.out.below b2 (by have := HS.out; omega))
  replace HN := Lib.hid (HN.out.below b2 (by have := HS.out; omega))
  replace HB := Lib.hid (below_next HB.out b2)
  replace HS := Lib.hid (Nat.le_trans HS.out b2.size)
  replace HI := Lib.hid (HI.out.below b2)
  replace HJ := Lib.hid (HJ.out.below b2)
  clear b2
  clear c0 c1 c2 c3 c4 c5 c6 c7 c8 c9 c10 d0 d1 d2 d3 d4 d5 d6 d7 d8 d9 d10
  obtain ⟨c0, c1, c2, c3, c4, c5, c6, c7, c8, c9, c10⟩ := msg_cells HM.out
  obtain ⟨d0, d1, d2, d3, d4, d5, d6, d7, d8, d9, d10⟩ := msg_cells HN.out
  cases g with
  | true =>
    go_wp2
    go_ret
    exact ⟨rfl, HB.out⟩
  | false =>
  obtain ⟨hga, hgb⟩ := hg rfl
  have HGA := Lib.hid hga
  have HGB := Lib.hid hgb
  clear hg hga hgb
  go_wp2_with fail
  refine (great_any m' h' _ HJ.out).mono ?_
  rintro e w3 ⟨g, rfl, hg, b3⟩
  replace HM := Lib.hid (HM.out.below b3 (by have := HS.out; omega))
  replace HN := Lib.hid (HN.out.below b3 (by have := HS.out; omega))
  replace HB := Lib.hid (below_next HB.out b3)
  replace HS := Lib.hid (Nat.le_trans HS.out b3.size)
  replace HI := Lib.hid (HI.out.below b3)
  replace HJ := Lib.hid (HJ.out.below b3)
  clear b3
  clear c0 c1 c2 c3 c4 c5 c6 c7 c8 c9 c10 d0 d1 d2 d3 d4 d5 d6 d7 d8 d9 d10
  obtain ⟨c0, c1, c2, c3, c4, c5, c6, c7, c8, c9, c10⟩ := msg_cells HM.out
  obtain ⟨d0, d1, d2, d3, d4, d5, d6, d7, d8, d9, d10⟩ := msg_cells HN.out
  cases g with
  | true =>
    go_wp2
    go_ret
    exact ⟨rfl, HB.out⟩
  | false =>
  obtain ⟨hga, hgb⟩ := hg rfl
  have HJA := Lib.hid hga
  have HJB := Lib.hid hgb
  clear hg hga hgb
  by_cases hlong : (65536 : Int) < (s.size : Int)
  · go_wp2
    go_ret
    exact ⟨rfl, HB.out⟩
  have HE := Lib.hid (encode_any m h w3 HI.out (by have := HGA.out; omega) (by have := HGB.out; omega))
  have HE2 := Lib.hid (fun w (hj : In w m' h') => encode_any m' h' w hj (by have := HJA.out; omega) (by have := HJB.out; omega))
  have HG := Lib.hid (fun w (hj : In w m h) => good_any m h w hj (by have := HGA.out; omega) (by have := HGB.out; omega))
  have HSA := Lib.hid (fun w (m2 : Ms) (h2 : Hd) (B : Bool) (hi : In w m h) (hj : In w m2 h2) (hB : B = true ↔ m = m2) => same_any m m2 h h2 B w hi hj (by have := HGA.out; omega) (by have := HGB.out; omega) hB)
  have HSN := Lib.hid (fun w (hd : Hd) (hi : In w m hd) (hj : In w m h) => same_any m m hd h true w hi hj (by have h1 := hi.s.len; have h2 := hj.s.len; have := HGA.out; omega) (by have h1 := hi.e.len; have h2 := hj.e.len; have := HGB.out; omega) ⟨fun _ => rfl, fun _ => rfl⟩)
  -- the bytes that came
  have HDS := Lib.hid (fun w => decode_any s.data.toList w (by have := HSL.out; simpa using this))
  have hss : arr s.data.toList = s := list_arr s
  rw [hss] at HDS
  have HDI := Lib.hid (dec_is s.data.toList)
  clear hss
  cases hgd : goodM m with
  | false =>
    have he := enc_bad hgd
    rw [he.1, he.2] at HE
    have HGF := Lib.hid (show ∀ w, In w m h → Calls Try.prog 13 #[.agg #[.int .i64 m.kind, .int .i64 m.page, .bool m.x, .bool m.need, .int .i64 m.n, .int .i64 m.cl, .int .i64 m.ep, .int .i64 m.tn, .int .i64 m.lsn, .slice h.a h.an h.ac, .slice h.b h.bn h.bc]] w fun e w' => e = .returned (.bool false) ∧ Below w.heap.size w w' from fun w hj => by have := HG.out w hj; rw [hgd] at this; exact this)
    clear he hgd
    go_wp2_with fail
    refine HE.out.mono ?_
    rintro e w4 ⟨rfl, b4⟩
    replace HM := Lib.hid (HM.out.below b4 (by have := HS.out; omega))
    replace HN := Lib.hid (HN.out.below b4 (by have := HS.out; omega))
    replace HB := Lib.hid (below_next HB.out b4)
    replace HS := Lib.hid (Nat.le_trans HS.out b4.size)
    replace HI := Lib.hid (HI.out.below b4)
    replace HJ := Lib.hid (HJ.out.below b4)
    clear b4
    clear c0 c1 c2 c3 c4 c5 c6 c7 c8 c9 c10 d0 d1 d2 d3 d4 d5 d6 d7 d8 d9 d10
    obtain ⟨c0, c1, c2, c3, c4, c5, c6, c7, c8, c9, c10⟩ := msg_cells HM.out
    obtain ⟨d0, d1, d2, d3, d4, d5, d6, d7, d8, d9, d10⟩ := msg_cells HN.out
    go_wp2_with fail
    refine (HE2.out _ HJ.out).mono ?_
    rintro e w5 ⟨rfl, b5⟩
    replace HM := Lib.hid (HM.out.below b5 (by have := HS.out; omega))
    replace HN := Lib.hid (HN.out.below b5 (by have := HS.out; omega))
    replace HB := Lib.hid (below_next HB.out b5)
    replace HS := Lib.hid (Nat.le_trans HS.out b5.size)
    replace HI := Lib.hid (HI.out.below b5)
    replace HJ := Lib.hid (HJ.out.below b5)
    clear b5
    clear c0 c1 c2 c3 c4 c5 c6 c7 c8 c9 c10 d0 d1 d2 d3 d4 d5 d6 d7 d8 d9 d10
    obtain ⟨c0, c1, c2, c3, c4, c5, c6, c7, c8, c9, c10⟩ := msg_cells HM.out
    obtain ⟨d0, d1, d2, d3, d4, d5, d6, d7, d8, d9, d10⟩ := msg_cells HN.out
    generalize encMsg m' = T2
    generalize codeM m' = C2
    go_wp2_with fail
    refine (HGF.out _ HI.out).mono ?_
    rintro e w6 ⟨rfl, b6⟩
    replace HM := Lib.hid (HM.out.below b6 (by have := HS.out; omega))
    replace HN := Lib.hid (HN.out.below b6 (by have := HS.out; omega))
    replace HB := Lib.hid (below_next HB.out b6)
    replace HS := Lib.hid (Nat.le_trans HS.out b6.size)
    replace HI := Lib.hid (HI.out.below b6)
    replace HJ := Lib.hid (HJ.out.below b6)
    clear b6
    clear c0 c1 c2 c3 c4 c5 c6 c7 c8 c9 c10 d0 d1 d2 d3 d4 d5 d6 d7 d8 d9 d10
    obtain ⟨c0, c1, c2, c3, c4, c5, c6, c7, c8, c9, c10⟩ := msg_cells HM.out
    obtain ⟨d0, d1, d2, d3, d4, d5, d6, d7, d8, d9, d10⟩ := msg_cells HN.out
    go_wp2_with fail
    refine (HDS.out _).mono ?_
    rcases HDI.out with ⟨n, hn, hgn, hen⟩ | ⟨code, hn, hcode⟩
    · rw [hn]
      rintro e v1 ⟨hd, rfl, hin, bb⟩
      have HB2 := Lib.hid (below_next HB.out bb)
      clear bb hn
      go_upto_region 14 with (fail)
      have hK := Blk.new v1 29 #[.int .i64 n.kind, .int .i64 n.page, .bool n.x, .bool n.need, .int .i64 n.n, .int .i64 n.cl, .int .i64 n.ep, .int .i64 n.tn, .int .i64 n.lsn, .slice hd.a hd.an hd.ac, .slice hd.b hd.bn hd.bc]
      have HB3 := Lib.hid (below_next HB2.out (below_box v1 (.cells #[.int .i64 n.kind, .int .i64 n.page, .bool n.x, .bool n.need, .int .i64 n.n, .int .i64 n.cl, .int .i64 n.ep, .int .i64 n.tn, .int .i64 n.lsn, .slice hd.a hd.an hd.ac, .slice hd.b hd.bn hd.bc] 29)))
      have HIN := Lib.hid (hin.below (below_box v1 (.cells #[.int .i64 n.kind, .int .i64 n.page, .bool n.x, .bool n.need, .int .i64 n.n, .int .i64 n.cl, .int .i64 n.ep, .int .i64 n.tn, .int .i64 n.lsn, .slice hd.a hd.an hd.ac, .slice hd.b hd.bn hd.bc] 29)))
      generalize hGen : v1.alloc (.cells #[.int .i64 n.kind, .int .i64 n.page, .bool n.x, .bool n.need, .int .i64 n.n, .int .i64 n.cl, .int .i64 n.ep, .int .i64 n.tn, .int .i64 n.lsn, .slice hd.a hd.an hd.ac, .slice hd.b hd.bn hd.bc] 29) = v2 at hK HB3 HIN ⊢
      clear hGen
      clear c0 c1 c2 c3 c4 c5 c6 c7 c8 c9 c10 d0 d1 d2 d3 d4 d5 d6 d7 d8 d9 d10
      obtain ⟨k0, k1, k2, k3, k4, k5, k6, k7, k8, k9, k10⟩ := msg_cells hK
      clear hK hin
      have HEN := Lib.hid (show Calls Try.prog 11 #[.agg #[.int .i64 n.kind, .int .i64 n.page, .bool n.x, .bool n.need, .int .i64 n.n, .int .i64 n.cl, .int .i64 n.ep, .int .i64 n.tn, .int .i64 n.lsn, .slice hd.a hd.an hd.ac, .slice hd.b hd.bn hd.bc]] v2 fun e w' => e = .returned (.tuple #[.string s, .int .i64 0]) ∧ Below v2.heap.size v2 w' from by
        have h1 := HIN.out.i.s.len
        have h2 := HIN.out.i.e.len
        obtain ⟨h3, h4⟩ := good_lens hgn
        have := encode_any n hd v2 HIN.out.i (by omega) (by omega)
        rw [(encMsg_good hgn).1, (encMsg_good hgn).2, hen, list_arr] at this
        exact this)
      clear hgn hen
      go_wp2_with fail
      refine HEN.out.mono ?_
      rintro e v3 ⟨rfl, bb⟩
      go_wp2
      go_ret
      exact ⟨rfl, below_next HB3.out bb⟩
    · rw [hn]
      rintro e v1 ⟨hd, rfl, hin, bb⟩
      have HB2 := Lib.hid (below_next HB.out bb)
      clear bb hn
      have hc0 : (code == 0) = false := beq_eq_false_iff_ne.2 hcode
      have hc1 : (code != 0) = true := bne_iff_ne.2 hcode
      clear hcode
      go_upto_region 14 with (fail)
      have hK := Blk.new v1 29 #[.int .i64 noM.kind, .int .i64 noM.page, .bool noM.x, .bool noM.need, .int .i64 noM.n, .int .i64 noM.cl, .int .i64 noM.ep, .int .i64 noM.tn, .int .i64 noM.lsn, .slice hd.a hd.an hd.ac, .slice hd.b hd.bn hd.bc]
      have HB3 := Lib.hid (below_next HB2.out (below_box v1 (.cells #[.int .i64 noM.kind, .int .i64 noM.page, .bool noM.x, .bool noM.need, .int .i64 noM.n, .int .i64 noM.cl, .int .i64 noM.ep, .int .i64 noM.tn, .int .i64 noM.lsn, .slice hd.a hd.an hd.ac, .slice hd.b hd.bn hd.bc] 29)))
      have HIN := Lib.hid (hin.below (below_box v1 (.cells #[.int .i64 noM.kind, .int .i64 noM.page, .bool noM.x, .bool noM.need, .int .i64 noM.n, .int .i64 noM.cl, .int .i64 noM.ep, .int .i64 noM.tn, .int .i64 noM.lsn, .slice hd.a hd.an hd.ac, .slice hd.b hd.bn hd.bc] 29)))
      generalize hGen : v1.alloc (.cells #[.int .i64 noM.kind, .int .i64 noM.page, .bool noM.x, .bool noM.need, .int .i64 noM.n, .int .i64 noM.cl, .int .i64 noM.ep, .int .i64 noM.tn, .int .i64 noM.lsn, .slice hd.a hd.an hd.ac, .slice hd.b hd.bn hd.bc] 29) = v2 at hK HB3 HIN ⊢
      clear hGen
      clear c0 c1 c2 c3 c4 c5 c6 c7 c8 c9 c10 d0 d1 d2 d3 d4 d5 d6 d7 d8 d9 d10
      obtain ⟨k0, k1, k2, k3, k4, k5, k6, k7, k8, k9, k10⟩ := msg_cells hK
      clear hK hin
      have HSZ := Lib.hid (show Calls Try.prog 17 #[.agg #[.int .i64 noM.kind, .int .i64 noM.page, .bool noM.x, .bool noM.need, .int .i64 noM.n, .int .i64 noM.cl, .int .i64 noM.ep, .int .i64 noM.tn, .int .i64 noM.lsn, .slice hd.a hd.an hd.ac, .slice hd.b hd.bn hd.bc], .agg #[.int .i64 0, .int .i64 0, .bool false, .bool false, .int .i64 0, .int .i64 0, .int .i64 0, .int .i64 0, .int .i64 0, .slice none 0 0, .slice none 0 0]] v2 fun e w' => e = .returned (.bool true) ∧ Below v2.heap.size v2 w' from by
        have h1 : 0 = hd.an := HIN.out.i.s.len
        have h2 : 0 = hd.bn := HIN.out.i.e.len
        exact same_any noM noM hd hd0 true v2 HIN.out.i (InN.nil 0 v2 noM rfl rfl).i (by omega) (by omega) ⟨fun _ => rfl, fun _ => rfl⟩)
      go_wp2_with fail
      refine HSZ.out.mono ?_
      rintro e v3 ⟨rfl, bb⟩
      go_wp2
      go_ret
      exact ⟨rfl, below_next HB3.out bb⟩
  | true =>
    have hl := body_len hgd
    have he := encMsg_good hgd
    rw [he.1, he.2] at HE
    have HGF := Lib.hid (show ∀ w, In w m h → Calls Try.prog 13 #[.agg #[.int .i64 m.kind, .int .i64 m.page, .bool m.x, .bool m.need, .int .i64 m.n, .int .i64 m.cl, .int .i64 m.ep, .int .i64 m.tn, .int .i64 m.lsn, .slice h.a h.an h.ac, .slice h.b h.bn h.bc]] w fun e w' => e = .returned (.bool true) ∧ Below w.heap.size w w' from fun w hj => by have := HG.out w hj; rw [hgd] at this; exact this)
    have HDA := Lib.hid (show ∀ w, Calls Try.prog 15 #[.string (arr (encL m))] w (DecRes m 0 w) from fun w => by
      have hll : (encL m).length ≤ 140737488351232 := by unfold encL; rw [List.length_append, quadH_len]; omega
      have := decode_any (encL m) w hll
      rw [dec_enc hgd] at this
      exact this)
    have HES := Lib.hid (fun (h2 : goodM m' = true) => enc_same hgd h2)
    clear he hl hgd
    generalize arr (encL m) = A at HE HDA HES
    go_wp2_with fail
    refine HE.out.mono ?_
    rintro e w4 ⟨rfl, b4⟩
    replace HM := Lib.hid (HM.out.below b4 (by have := HS.out; omega))
    replace HN := Lib.hid (HN.out.below b4 (by have := HS.out; omega))
    replace HB := Lib.hid (below_next HB.out b4)
    replace HS := Lib.hid (Nat.le_trans HS.out b4.size)
    replace HI := Lib.hid (HI.out.below b4)
    replace HJ := Lib.hid (HJ.out.below b4)
    clear b4
    clear c0 c1 c2 c3 c4 c5 c6 c7 c8 c9 c10 d0 d1 d2 d3 d4 d5 d6 d7 d8 d9 d10
    obtain ⟨c0, c1, c2, c3, c4, c5, c6, c7, c8, c9, c10⟩ := msg_cells HM.out
    obtain ⟨d0, d1, d2, d3, d4, d5, d6, d7, d8, d9, d10⟩ := msg_cells HN.out
    cases hgd : goodM m' with
    | false =>
      have he := enc_bad hgd
      have HE3 := Lib.hid (show ∀ w, In w m' h' → Calls Try.prog 11 #[.agg #[.int .i64 m'.kind, .int .i64 m'.page, .bool m'.x, .bool m'.need, .int .i64 m'.n, .int .i64 m'.cl, .int .i64 m'.ep, .int .i64 m'.tn, .int .i64 m'.lsn, .slice h'.a h'.an h'.ac, .slice h'.b h'.bn h'.bc]] w fun e w' => e = .returned (.tuple #[.string ⟨#[]⟩, .int .i64 1]) ∧ Below w.heap.size w w' from fun w hj => by have := HE2.out w hj; rw [he.1, he.2] at this; exact this)
      clear he hgd
      go_wp2_with fail
      refine (HE3.out _ HJ.out).mono ?_
      rintro e w5 ⟨rfl, b5⟩
      replace HM := Lib.hid (HM.out.below b5 (by have := HS.out; omega))
      replace HN := Lib.hid (HN.out.below b5 (by have := HS.out; omega))
      replace HB := Lib.hid (below_next HB.out b5)
      replace HS := Lib.hid (Nat.le_trans HS.out b5.size)
      replace HI := Lib.hid (HI.out.below b5)
      replace HJ := Lib.hid (HJ.out.below b5)
      clear b5
      clear c0 c1 c2 c3 c4 c5 c6 c7 c8 c9 c10 d0 d1 d2 d3 d4 d5 d6 d7 d8 d9 d10
      obtain ⟨c0, c1, c2, c3, c4, c5, c6, c7, c8, c9, c10⟩ := msg_cells HM.out
      obtain ⟨d0, d1, d2, d3, d4, d5, d6, d7, d8, d9, d10⟩ := msg_cells HN.out
      go_wp2_with fail
      refine (HGF.out _ HI.out).mono ?_
      rintro e w6 ⟨rfl, b6⟩
      replace HM := Lib.hid (HM.out.below b6 (by have := HS.out; omega))
      replace HN := Lib.hid (HN.out.below b6 (by have := HS.out; omega))
      replace HB := Lib.hid (below_next HB.out b6)
      replace HS := Lib.hid (Nat.le_trans HS.out b6.size)
      replace HI := Lib.hid (HI.out.below b6)
      replace HJ := Lib.hid (HJ.out.below b6)
      clear b6
      clear c0 c1 c2 c3 c4 c5 c6 c7 c8 c9 c10 d0 d1 d2 d3 d4 d5 d6 d7 d8 d9 d10
      obtain ⟨c0, c1, c2, c3, c4, c5, c6, c7, c8, c9, c10⟩ := msg_cells HM.out
      obtain ⟨d0, d1, d2, d3, d4, d5, d6, d7, d8, d9, d10⟩ := msg_cells HN.out
      go_wp2_with fail
      refine (HDA.out _).mono ?_
      rintro e w7 ⟨hd, rfl, hin, b7⟩
      replace HM := Lib.hid (HM.out.below b7 (by have := HS.out; omega))
      replace HN := Lib.hid (HN.out.below b7 (by have := HS.out; omega))
      replace HB := Lib.hid (below_next HB.out b7)
      replace HS := Lib.hid (Nat.le_trans HS.out b7.size)
      replace HI := Lib.hid (HI.out.below b7)
      replace HJ := Lib.hid (HJ.out.below b7)
      clear b7
      clear c0 c1 c2 c3 c4 c5 c6 c7 c8 c9 c10 d0 d1 d2 d3 d4 d5 d6 d7 d8 d9 d10
      go_upto_region 11 with (fail)
      have hK := Blk.new w7 29 #[.int .i64 m.kind, .int .i64 m.page, .bool m.x, .bool m.need, .int .i64 m.n, .int .i64 m.cl, .int .i64 m.ep, .int .i64 m.tn, .int .i64 m.lsn, .slice hd.a hd.an hd.ac, .slice hd.b hd.bn hd.bc]
      have hin2 := hin.below (below_box w7 (.cells #[.int .i64 m.kind, .int .i64 m.page, .bool m.x, .bool m.need, .int .i64 m.n, .int .i64 m.cl, .int .i64 m.ep, .int .i64 m.tn, .int .i64 m.lsn, .slice hd.a hd.an hd.ac, .slice hd.b hd.bn hd.bc] 29))
      have b8 := below_box w7 (.cells #[.int .i64 m.kind, .int .i64 m.page, .bool m.x, .bool m.need, .int .i64 m.n, .int .i64 m.cl, .int .i64 m.ep, .int .i64 m.tn, .int .i64 m.lsn, .slice hd.a hd.an hd.ac, .slice hd.b hd.bn hd.bc] 29)
      replace HM := Lib.hid (HM.out.below b8 (by have := HS.out; omega))
      replace HN := Lib.hid (HN.out.below b8 (by have := HS.out; omega))
      replace HB := Lib.hid (below_next HB.out b8)
      replace HS := Lib.hid (Nat.le_trans HS.out b8.size)
      replace HI := Lib.hid (HI.out.below b8)
      replace HJ := Lib.hid (HJ.out.below b8)
      generalize hGen : w7.alloc (.cells #[.int .i64 m.kind, .int .i64 m.page, .bool m.x, .bool m.need, .int .i64 m.n, .int .i64 m.cl, .int .i64 m.ep, .int .i64 m.tn, .int .i64 m.lsn, .slice hd.a hd.an hd.ac, .slice hd.b hd.bn hd.bc] 29) = w8 at hK hin2 HM HN HB HS HI HJ b8 ⊢
      clear hGen
      clear b8 hin
      have HIN := Lib.hid hin2.i
      clear hin2
      obtain ⟨c0, c1, c2, c3, c4, c5, c6, c7, c8, c9, c10⟩ := msg_cells HM.out
      obtain ⟨d0, d1, d2, d3, d4, d5, d6, d7, d8, d9, d10⟩ := msg_cells HN.out
      obtain ⟨k0, k1, k2, k3, k4, k5, k6, k7, k8, k9, k10⟩ := msg_cells hK
      clear hK
      go_wp2_with fail
      refine (HSN.out _ hd HIN.out HI.out).mono ?_
      rintro e w9 ⟨rfl, b9⟩
      replace HM := Lib.hid (HM.out.below b9 (by have := HS.out; omega))
      replace HN := Lib.hid (HN.out.below b9 (by have := HS.out; omega))
      replace HB := Lib.hid (below_next HB.out b9)
      replace HS := Lib.hid (Nat.le_trans HS.out b9.size)
      replace HI := Lib.hid (HI.out.below b9)
      replace HJ := Lib.hid (HJ.out.below b9)
      clear b9
      clear c0 c1 c2 c3 c4 c5 c6 c7 c8 c9 c10 d0 d1 d2 d3 d4 d5 d6 d7 d8 d9 d10
      clear k0 k1 k2 k3 k4 k5 k6 k7 k8 k9 k10
      obtain ⟨c0, c1, c2, c3, c4, c5, c6, c7, c8, c9, c10⟩ := msg_cells HM.out
      obtain ⟨d0, d1, d2, d3, d4, d5, d6, d7, d8, d9, d10⟩ := msg_cells HN.out
      go_wp2_with fail
      refine (HDS.out _).mono ?_
      rcases HDI.out with ⟨n, hn, hgn, hen⟩ | ⟨code, hn, hcode⟩
      · rw [hn]
        rintro e v1 ⟨hd, rfl, hin, bb⟩
        have HB2 := Lib.hid (below_next HB.out bb)
        clear bb hn
        go_upto_region 14 with (fail)
        have hK := Blk.new v1 29 #[.int .i64 n.kind, .int .i64 n.page, .bool n.x, .bool n.need, .int .i64 n.n, .int .i64 n.cl, .int .i64 n.ep, .int .i64 n.tn, .int .i64 n.lsn, .slice hd.a hd.an hd.ac, .slice hd.b hd.bn hd.bc]
        have HB3 := Lib.hid (below_next HB2.out (below_box v1 (.cells #[.int .i64 n.kind, .int .i64 n.page, .bool n.x, .bool n.need, .int .i64 n.n, .int .i64 n.cl, .int .i64 n.ep, .int .i64 n.tn, .int .i64 n.lsn, .slice hd.a hd.an hd.ac, .slice hd.b hd.bn hd.bc] 29)))
        have HIN := Lib.hid (hin.below (below_box v1 (.cells #[.int .i64 n.kind, .int .i64 n.page, .bool n.x, .bool n.need, .int .i64 n.n, .int .i64 n.cl, .int .i64 n.ep, .int .i64 n.tn, .int .i64 n.lsn, .slice hd.a hd.an hd.ac, .slice hd.b hd.bn hd.bc] 29)))
        generalize hGen : v1.alloc (.cells #[.int .i64 n.kind, .int .i64 n.page, .bool n.x, .bool n.need, .int .i64 n.n, .int .i64 n.cl, .int .i64 n.ep, .int .i64 n.tn, .int .i64 n.lsn, .slice hd.a hd.an hd.ac, .slice hd.b hd.bn hd.bc] 29) = v2 at hK HB3 HIN ⊢
        clear hGen
        clear c0 c1 c2 c3 c4 c5 c6 c7 c8 c9 c10 d0 d1 d2 d3 d4 d5 d6 d7 d8 d9 d10
        obtain ⟨k0, k1, k2, k3, k4, k5, k6, k7, k8, k9, k10⟩ := msg_cells hK
        clear hK hin
        have HEN := Lib.hid (show Calls Try.prog 11 #[.agg #[.int .i64 n.kind, .int .i64 n.page, .bool n.x, .bool n.need, .int .i64 n.n, .int .i64 n.cl, .int .i64 n.ep, .int .i64 n.tn, .int .i64 n.lsn, .slice hd.a hd.an hd.ac, .slice hd.b hd.bn hd.bc]] v2 fun e w' => e = .returned (.tuple #[.string s, .int .i64 0]) ∧ Below v2.heap.size v2 w' from by
          have h1 := HIN.out.i.s.len
          have h2 := HIN.out.i.e.len
          obtain ⟨h3, h4⟩ := good_lens hgn
          have := encode_any n hd v2 HIN.out.i (by omega) (by omega)
          rw [(encMsg_good hgn).1, (encMsg_good hgn).2, hen, list_arr] at this
          exact this)
        clear hgn hen
        go_wp2_with fail
        refine HEN.out.mono ?_
        rintro e v3 ⟨rfl, bb⟩
        go_wp2
        go_ret
        exact ⟨rfl, below_next HB3.out bb⟩
      · rw [hn]
        rintro e v1 ⟨hd, rfl, hin, bb⟩
        have HB2 := Lib.hid (below_next HB.out bb)
        clear bb hn
        have hc0 : (code == 0) = false := beq_eq_false_iff_ne.2 hcode
        have hc1 : (code != 0) = true := bne_iff_ne.2 hcode
        clear hcode
        go_upto_region 14 with (fail)
        have hK := Blk.new v1 29 #[.int .i64 noM.kind, .int .i64 noM.page, .bool noM.x, .bool noM.need, .int .i64 noM.n, .int .i64 noM.cl, .int .i64 noM.ep, .int .i64 noM.tn, .int .i64 noM.lsn, .slice hd.a hd.an hd.ac, .slice hd.b hd.bn hd.bc]
        have HB3 := Lib.hid (below_next HB2.out (below_box v1 (.cells #[.int .i64 noM.kind, .int .i64 noM.page, .bool noM.x, .bool noM.need, .int .i64 noM.n, .int .i64 noM.cl, .int .i64 noM.ep, .int .i64 noM.tn, .int .i64 noM.lsn, .slice hd.a hd.an hd.ac, .slice hd.b hd.bn hd.bc] 29)))
        have HIN := Lib.hid (hin.below (below_box v1 (.cells #[.int .i64 noM.kind, .int .i64 noM.page, .bool noM.x, .bool noM.need, .int .i64 noM.n, .int .i64 noM.cl, .int .i64 noM.ep, .int .i64 noM.tn, .int .i64 noM.lsn, .slice hd.a hd.an hd.ac, .slice hd.b hd.bn hd.bc] 29)))
        generalize hGen : v1.alloc (.cells #[.int .i64 noM.kind, .int .i64 noM.page, .bool noM.x, .bool noM.need, .int .i64 noM.n, .int .i64 noM.cl, .int .i64 noM.ep, .int .i64 noM.tn, .int .i64 noM.lsn, .slice hd.a hd.an hd.ac, .slice hd.b hd.bn hd.bc] 29) = v2 at hK HB3 HIN ⊢
        clear hGen
        clear c0 c1 c2 c3 c4 c5 c6 c7 c8 c9 c10 d0 d1 d2 d3 d4 d5 d6 d7 d8 d9 d10
        obtain ⟨k0, k1, k2, k3, k4, k5, k6, k7, k8, k9, k10⟩ := msg_cells hK
        clear hK hin
        have HSZ := Lib.hid (show Calls Try.prog 17 #[.agg #[.int .i64 noM.kind, .int .i64 noM.page, .bool noM.x, .bool noM.need, .int .i64 noM.n, .int .i64 noM.cl, .int .i64 noM.ep, .int .i64 noM.tn, .int .i64 noM.lsn, .slice hd.a hd.an hd.ac, .slice hd.b hd.bn hd.bc], .agg #[.int .i64 0, .int .i64 0, .bool false, .bool false, .int .i64 0, .int .i64 0, .int .i64 0, .int .i64 0, .int .i64 0, .slice none 0 0, .slice none 0 0]] v2 fun e w' => e = .returned (.bool true) ∧ Below v2.heap.size v2 w' from by
          have h1 : 0 = hd.an := HIN.out.i.s.len
          have h2 : 0 = hd.bn := HIN.out.i.e.len
          exact same_any noM noM hd hd0 true v2 HIN.out.i (InN.nil 0 v2 noM rfl rfl).i (by omega) (by omega) ⟨fun _ => rfl, fun _ => rfl⟩)
        go_wp2_with fail
        refine HSZ.out.mono ?_
        rintro e v3 ⟨rfl, bb⟩
        go_wp2
        go_ret
        exact ⟨rfl, below_next HB3.out bb⟩
    | true =>
      have he := encMsg_good hgd
      have HE3 := Lib.hid (show ∀ w, In w m' h' → Calls Try.prog 11 #[.agg #[.int .i64 m'.kind, .int .i64 m'.page, .bool m'.x, .bool m'.need, .int .i64 m'.n, .int .i64 m'.cl, .int .i64 m'.ep, .int .i64 m'.tn, .int .i64 m'.lsn, .slice h'.a h'.an h'.ac, .slice h'.b h'.bn h'.bc]] w fun e w' => e = .returned (.tuple #[.string (arr (encL m')), .int .i64 0]) ∧ Below w.heap.size w w' from fun w hj => by have := HE2.out w hj; rw [he.1, he.2] at this; exact this)
      have hes := HES.out hgd
      clear he hgd
      generalize arr (encL m') = A2 at HE3 hes
      obtain ⟨q, hq⟩ : ∃ q, (A.toList == A2.toList) = q := ⟨_, rfl⟩
      rw [hq] at hes
      have HQ := Lib.hid hes
      clear hes
      go_wp2_with fail
      refine (HE3.out _ HJ.out).mono ?_
      rintro e w5 ⟨rfl, b5⟩
      replace HM := Lib.hid (HM.out.below b5 (by have := HS.out; omega))
      replace HN := Lib.hid (HN.out.below b5 (by have := HS.out; omega))
      replace HB := Lib.hid (below_next HB.out b5)
      replace HS := Lib.hid (Nat.le_trans HS.out b5.size)
      replace HI := Lib.hid (HI.out.below b5)
      replace HJ := Lib.hid (HJ.out.below b5)
      clear b5
      clear c0 c1 c2 c3 c4 c5 c6 c7 c8 c9 c10 d0 d1 d2 d3 d4 d5 d6 d7 d8 d9 d10
      obtain ⟨c0, c1, c2, c3, c4, c5, c6, c7, c8, c9, c10⟩ := msg_cells HM.out
      obtain ⟨d0, d1, d2, d3, d4, d5, d6, d7, d8, d9, d10⟩ := msg_cells HN.out
      go_wp2_with fail
      refine (HGF.out _ HI.out).mono ?_
      rintro e w6 ⟨rfl, b6⟩
      replace HM := Lib.hid (HM.out.below b6 (by have := HS.out; omega))
      replace HN := Lib.hid (HN.out.below b6 (by have := HS.out; omega))
      replace HB := Lib.hid (below_next HB.out b6)
      replace HS := Lib.hid (Nat.le_trans HS.out b6.size)
      replace HI := Lib.hid (HI.out.below b6)
      replace HJ := Lib.hid (HJ.out.below b6)
      clear b6
      clear c0 c1 c2 c3 c4 c5 c6 c7 c8 c9 c10 d0 d1 d2 d3 d4 d5 d6 d7 d8 d9 d10
      obtain ⟨c0, c1, c2, c3, c4, c5, c6, c7, c8, c9, c10⟩ := msg_cells HM.out
      obtain ⟨d0, d1, d2, d3, d4, d5, d6, d7, d8, d9, d10⟩ := msg_cells HN.out
      go_wp2_with fail
      refine (HDA.out _).mono ?_
      rintro e w7 ⟨hd, rfl, hin, b7⟩
      replace HM := Lib.hid (HM.out.below b7 (by have := HS.out; omega))
      replace HN := Lib.hid (HN.out.below b7 (by have := HS.out; omega))
      replace HB := Lib.hid (below_next HB.out b7)
      replace HS := Lib.hid (Nat.le_trans HS.out b7.size)
      replace HI := Lib.hid (HI.out.below b7)
      replace HJ := Lib.hid (HJ.out.below b7)
      clear b7
      clear c0 c1 c2 c3 c4 c5 c6 c7 c8 c9 c10 d0 d1 d2 d3 d4 d5 d6 d7 d8 d9 d10
      go_upto_region 11 with (fail)
      have hK := Blk.new w7 29 #[.int .i64 m.kind, .int .i64 m.page, .bool m.x, .bool m.need, .int .i64 m.n, .int .i64 m.cl, .int .i64 m.ep, .int .i64 m.tn, .int .i64 m.lsn, .slice hd.a hd.an hd.ac, .slice hd.b hd.bn hd.bc]
      have hin2 := hin.below (below_box w7 (.cells #[.int .i64 m.kind, .int .i64 m.page, .bool m.x, .bool m.need, .int .i64 m.n, .int .i64 m.cl, .int .i64 m.ep, .int .i64 m.tn, .int .i64 m.lsn, .slice hd.a hd.an hd.ac, .slice hd.b hd.bn hd.bc] 29))
      have b8 := below_box w7 (.cells #[.int .i64 m.kind, .int .i64 m.page, .bool m.x, .bool m.need, .int .i64 m.n, .int .i64 m.cl, .int .i64 m.ep, .int .i64 m.tn, .int .i64 m.lsn, .slice hd.a hd.an hd.ac, .slice hd.b hd.bn hd.bc] 29)
      replace HM := Lib.hid (HM.out.below b8 (by have := HS.out; omega))
      replace HN := Lib.hid (HN.out.below b8 (by have := HS.out; omega))
      replace HB := Lib.hid (below_next HB.out b8)
      replace HS := Lib.hid (Nat.le_trans HS.out b8.size)
      replace HI := Lib.hid (HI.out.below b8)
      replace HJ := Lib.hid (HJ.out.below b8)
      generalize hGen : w7.alloc (.cells #[.int .i64 m.kind, .int .i64 m.page, .bool m.x, .bool m.need, .int .i64 m.n, .int .i64 m.cl, .int .i64 m.ep, .int .i64 m.tn, .int .i64 m.lsn, .slice hd.a hd.an hd.ac, .slice hd.b hd.bn hd.bc] 29) = w8 at hK hin2 HM HN HB HS HI HJ b8 ⊢
      clear hGen
      clear b8 hin
      have HIN := Lib.hid hin2.i
      clear hin2
      obtain ⟨c0, c1, c2, c3, c4, c5, c6, c7, c8, c9, c10⟩ := msg_cells HM.out
      obtain ⟨d0, d1, d2, d3, d4, d5, d6, d7, d8, d9, d10⟩ := msg_cells HN.out
      obtain ⟨k0, k1, k2, k3, k4, k5, k6, k7, k8, k9, k10⟩ := msg_cells hK
      clear hK
      go_wp2_with fail
      refine (HSN.out _ hd HIN.out HI.out).mono ?_
      rintro e w9 ⟨rfl, b9⟩
      replace HM := Lib.hid (HM.out.below b9 (by have := HS.out; omega))
      replace HN := Lib.hid (HN.out.below b9 (by have := HS.out; omega))
      replace HB := Lib.hid (below_next HB.out b9)
      replace HS := Lib.hid (Nat.le_trans HS.out b9.size)
      replace HI := Lib.hid (HI.out.below b9)
      replace HJ := Lib.hid (HJ.out.below b9)
      clear b9
      clear c0 c1 c2 c3 c4 c5 c6 c7 c8 c9 c10 d0 d1 d2 d3 d4 d5 d6 d7 d8 d9 d10
      clear k0 k1 k2 k3 k4 k5 k6 k7 k8 k9 k10
      obtain ⟨c0, c1, c2, c3, c4, c5, c6, c7, c8, c9, c10⟩ := msg_cells HM.out
      obtain ⟨d0, d1, d2, d3, d4, d5, d6, d7, d8, d9, d10⟩ := msg_cells HN.out
      go_wp2_with fail
      refine (HSA.out _ m' h' q HI.out HJ.out HQ.out).mono ?_
      rintro e w10 ⟨rfl, b10⟩
      replace HM := Lib.hid (HM.out.below b10 (by have := HS.out; omega))
      replace HN := Lib.hid (HN.out.below b10 (by have := HS.out; omega))
      replace HB := Lib.hid (below_next HB.out b10)
      replace HS := Lib.hid (Nat.le_trans HS.out b10.size)
      replace HI := Lib.hid (HI.out.below b10)
      replace HJ := Lib.hid (HJ.out.below b10)
      clear b10
      clear c0 c1 c2 c3 c4 c5 c6 c7 c8 c9 c10 d0 d1 d2 d3 d4 d5 d6 d7 d8 d9 d10
      obtain ⟨c0, c1, c2, c3, c4, c5, c6, c7, c8, c9, c10⟩ := msg_cells HM.out
      obtain ⟨d0, d1, d2, d3, d4, d5, d6, d7, d8, d9, d10⟩ := msg_cells HN.out
      go_wp2_with fail
      refine (HDS.out _).mono ?_
      rcases HDI.out with ⟨n, hn, hgn, hen⟩ | ⟨code, hn, hcode⟩
      · rw [hn]
        rintro e v1 ⟨hd, rfl, hin, bb⟩
        have HB2 := Lib.hid (below_next HB.out bb)
        clear bb hn
        go_upto_region 14 with (fail)
        have hK := Blk.new v1 29 #[.int .i64 n.kind, .int .i64 n.page, .bool n.x, .bool n.need, .int .i64 n.n, .int .i64 n.cl, .int .i64 n.ep, .int .i64 n.tn, .int .i64 n.lsn, .slice hd.a hd.an hd.ac, .slice hd.b hd.bn hd.bc]
        have HB3 := Lib.hid (below_next HB2.out (below_box v1 (.cells #[.int .i64 n.kind, .int .i64 n.page, .bool n.x, .bool n.need, .int .i64 n.n, .int .i64 n.cl, .int .i64 n.ep, .int .i64 n.tn, .int .i64 n.lsn, .slice hd.a hd.an hd.ac, .slice hd.b hd.bn hd.bc] 29)))
        have HIN := Lib.hid (hin.below (below_box v1 (.cells #[.int .i64 n.kind, .int .i64 n.page, .bool n.x, .bool n.need, .int .i64 n.n, .int .i64 n.cl, .int .i64 n.ep, .int .i64 n.tn, .int .i64 n.lsn, .slice hd.a hd.an hd.ac, .slice hd.b hd.bn hd.bc] 29)))
        generalize hGen : v1.alloc (.cells #[.int .i64 n.kind, .int .i64 n.page, .bool n.x, .bool n.need, .int .i64 n.n, .int .i64 n.cl, .int .i64 n.ep, .int .i64 n.tn, .int .i64 n.lsn, .slice hd.a hd.an hd.ac, .slice hd.b hd.bn hd.bc] 29) = v2 at hK HB3 HIN ⊢
        clear hGen
        clear c0 c1 c2 c3 c4 c5 c6 c7 c8 c9 c10 d0 d1 d2 d3 d4 d5 d6 d7 d8 d9 d10
        obtain ⟨k0, k1, k2, k3, k4, k5, k6, k7, k8, k9, k10⟩ := msg_cells hK
        clear hK hin
        have HEN := Lib.hid (show Calls Try.prog 11 #[.agg #[.int .i64 n.kind, .int .i64 n.page, .bool n.x, .bool n.need, .int .i64 n.n, .int .i64 n.cl, .int .i64 n.ep, .int .i64 n.tn, .int .i64 n.lsn, .slice hd.a hd.an hd.ac, .slice hd.b hd.bn hd.bc]] v2 fun e w' => e = .returned (.tuple #[.string s, .int .i64 0]) ∧ Below v2.heap.size v2 w' from by
          have h1 := HIN.out.i.s.len
          have h2 := HIN.out.i.e.len
          obtain ⟨h3, h4⟩ := good_lens hgn
          have := encode_any n hd v2 HIN.out.i (by omega) (by omega)
          rw [(encMsg_good hgn).1, (encMsg_good hgn).2, hen, list_arr] at this
          exact this)
        clear hgn hen
        go_wp2_with fail
        refine HEN.out.mono ?_
        rintro e v3 ⟨rfl, bb⟩
        go_wp2
        go_ret
        exact ⟨rfl, below_next HB3.out bb⟩
      · rw [hn]
        rintro e v1 ⟨hd, rfl, hin, bb⟩
        have HB2 := Lib.hid (below_next HB.out bb)
        clear bb hn
        have hc0 : (code == 0) = false := beq_eq_false_iff_ne.2 hcode
        have hc1 : (code != 0) = true := bne_iff_ne.2 hcode
        clear hcode
        go_upto_region 14 with (fail)
        have hK := Blk.new v1 29 #[.int .i64 noM.kind, .int .i64 noM.page, .bool noM.x, .bool noM.need, .int .i64 noM.n, .int .i64 noM.cl, .int .i64 noM.ep, .int .i64 noM.tn, .int .i64 noM.lsn, .slice hd.a hd.an hd.ac, .slice hd.b hd.bn hd.bc]
        have HB3 := Lib.hid (below_next HB2.out (below_box v1 (.cells #[.int .i64 noM.kind, .int .i64 noM.page, .bool noM.x, .bool noM.need, .int .i64 noM.n, .int .i64 noM.cl, .int .i64 noM.ep, .int .i64 noM.tn, .int .i64 noM.lsn, .slice hd.a hd.an hd.ac, .slice hd.b hd.bn hd.bc] 29)))
        have HIN := Lib.hid (hin.below (below_box v1 (.cells #[.int .i64 noM.kind, .int .i64 noM.page, .bool noM.x, .bool noM.need, .int .i64 noM.n, .int .i64 noM.cl, .int .i64 noM.ep, .int .i64 noM.tn, .int .i64 noM.lsn, .slice hd.a hd.an hd.ac, .slice hd.b hd.bn hd.bc] 29)))
        generalize hGen : v1.alloc (.cells #[.int .i64 noM.kind, .int .i64 noM.page, .bool noM.x, .bool noM.need, .int .i64 noM.n, .int .i64 noM.cl, .int .i64 noM.ep, .int .i64 noM.tn, .int .i64 noM.lsn, .slice hd.a hd.an hd.ac, .slice hd.b hd.bn hd.bc] 29) = v2 at hK HB3 HIN ⊢
        clear hGen
        clear c0 c1 c2 c3 c4 c5 c6 c7 c8 c9 c10 d0 d1 d2 d3 d4 d5 d6 d7 d8 d9 d10
        obtain ⟨k0, k1, k2, k3, k4, k5, k6, k7, k8, k9, k10⟩ := msg_cells hK
        clear hK hin
        have HSZ := Lib.hid (show Calls Try.prog 17 #[.agg #[.int .i64 noM.kind, .int .i64 noM.page, .bool noM.x, .bool noM.need, .int .i64 noM.n, .int .i64 noM.cl, .int .i64 noM.ep, .int .i64 noM.tn, .int .i64 noM.lsn, .slice hd.a hd.an hd.ac, .slice hd.b hd.bn hd.bc], .agg #[.int .i64 0, .int .i64 0, .bool false, .bool false, .int .i64 0, .int .i64 0, .int .i64 0, .int .i64 0, .int .i64 0, .slice none 0 0, .slice none 0 0]] v2 fun e w' => e = .returned (.bool true) ∧ Below v2.heap.size v2 w' from by
          have h1 : 0 = hd.an := HIN.out.i.s.len
          have h2 : 0 = hd.bn := HIN.out.i.e.len
          exact same_any noM noM hd hd0 true v2 HIN.out.i (InN.nil 0 v2 noM rfl rfl).i (by omega) (by omega) ⟨fun _ => rfl, fun _ => rfl⟩)
        go_wp2_with fail
        refine HSZ.out.mono ?_
        rintro e v3 ⟨rfl, bb⟩
        go_wp2
        go_ret
        exact ⟨rfl, below_next HB3.out bb⟩
end Go.Proofs.Ytnoplekjdbakkaa.Note
