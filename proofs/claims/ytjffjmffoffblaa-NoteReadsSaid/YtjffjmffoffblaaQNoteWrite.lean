/- The walks of note.write, at each of the kinds, and Encode. -/
import Derived.Test.YtjffjmffoffblaaQNoteGood
import Derived.Test.YtjffjmffoffblaaQNoteCheck
import Derived.Deep.RegionHeld3
namespace Go.Proofs.Ytjffjmffoffblaa.Note
set_option maxRecDepth 100000
open Go.RowKit
open Go.Proofs.Ytjffjmffoffblaa.Nib (enc below_next below_drew Fits)
open Go.Proofs.Ytjffjmffoffblaa.Slab (Slot Slots Blk ret_bool' ret_int' bld_next)
open Go.Proofs.Ytjffjmffoffblaa.Ent (Ent Ents EntAt SmallE withinB knownB noE entA below_box alloc_lt arr arr_list list_arr arr_size ent_cells rawL ws_any)

theorem entsB_take {l : List Ent} {k : Nat} {x : Ent} (h : l[k]? = some x) : entsB (l.take (k + 1)) = entsB (l.take k) ++ rawL x := by
  rw [takeE_next h]; simp [entsB]
theorem entsB_len {l : List Ent} (h : ∀ x ∈ l, Ent.goodB x = true) : (entsB l).length ≤ 464 * l.length := by
  induction l with
  | nil => simp [entsB]
  | cons x r ih =>
    have h1 := (Ent.raw_len (h x (by simp))).2
    have h2 := ih (fun y hy => h y (by simp [hy]))
    simp only [entsB, List.flatMap_cons, List.length_append, List.length_cons] at h2 ⊢
    omega
abbrev BA (b : Nat) (l : List UInt8) (w : World) : Prop := Lib.BuilderAt 82 5 b b (.pointer (some ⟨b, 0, none⟩)) (Lib.byteCells l) w

set_option maxRecDepth 100000 in
set_option maxHeartbeats 4000000 in
theorem write_Lock (m : Ms) (h : Hd) (w : World) (hi : In w m h) (hk : 1 ≤ m.kind ∧ m.kind ≤ 13) (hw : wholeB m hLock = true) (hr : bareB m hLock = true)
    (hp : ∀ w, Calls Try.prog 22 #[.int .i64 m.kind, .bool m.need] w fun e w' => e = .returned (.tuple #[.agg #[.bool true, .bool true, .bool true, .bool false, .bool false, .bool false, .bool false, .bool false], .bool true]) ∧ Below w.heap.size w w') :
    Calls Try.prog 21 #[.agg #[.int .i64 m.kind, .int .i64 m.page, .bool m.x, .bool m.need, .int .i64 m.n, .int .i64 m.cl, .int .i64 m.ep, .int .i64 m.tn, .int .i64 m.lsn, .slice h.a h.an h.ac, .slice h.b h.bn h.bc]] w fun e w' => e = .returned (.string (arr (bodyH hLock m))) ∧ Below w.heap.size w w' := by
  have hfk : Fits m.kind := ⟨by omega, by omega⟩
  have lkind := Lib.hid (Nib.enc_le hfk)
  obtain ⟨w1, w2, w3, w4, w5⟩ := whole_parts hw
  obtain ⟨r1, r2, r3, r4, r5, r6, r7⟩ := bare_parts hr
  have hfp : Fits m.page := ⟨by have := w1 rfl; omega, by have := w1 rfl; omega⟩
  have lpage := Lib.hid (Nib.enc_le hfp)
  have lx := Lib.hid (Nib.enc_le (flag_fits m.x))
  have ln := Lib.hid (Nib.enc_le (flag_fits m.need))
  have hes0 : m.es = [] := r7 rfl
  have HBN := Lib.hid (show h.bn = 0 from by have := hi.e.len; rw [hes0] at this; exact this.symm)
  have HES := Lib.hid hes0
  clear hes0
  have Hhfk := Lib.hid hfk
  clear hfk
  have Hhfp := Lib.hid hfp
  clear hfp
  have HLN := Lib.hid hi.e.len
  clear w1 w2 w3 w4 w5 r1 r2 r3 r4 r5 r6 r7 hw hr hk
  have hb := below_box w (.cells #[.int .i64 m.kind, .int .i64 m.page, .bool m.x, .bool m.need, .int .i64 m.n, .int .i64 m.cl, .int .i64 m.ep, .int .i64 m.tn, .int .i64 m.lsn, .slice h.a h.an h.ac, .slice h.b h.bn h.bc] 30)
  have hM := Blk.new w 30 #[.int .i64 m.kind, .int .i64 m.page, .bool m.x, .bool m.need, .int .i64 m.n, .int .i64 m.cl, .int .i64 m.ep, .int .i64 m.tn, .int .i64 m.lsn, .slice h.a h.an h.ac, .slice h.b h.bn h.bc]
  have hs := alloc_lt w (.cells #[.int .i64 m.kind, .int .i64 m.page, .bool m.x, .bool m.need, .int .i64 m.n, .int .i64 m.cl, .int .i64 m.ep, .int .i64 m.tn, .int .i64 m.lsn, .slice h.a h.an h.ac, .slice h.b h.bn h.bc] 30)
  have HP := Lib.hid hp
  have HI := Lib.hid hi
  clear hp hi
  go_enter Try.func21, Try.ntmps21
  try dsimp only [List.append]
  go_upto_region 1 with (fail)
  generalize hGen : w.alloc (.cells #[.int .i64 m.kind, .int .i64 m.page, .bool m.x, .bool m.need, .int .i64 m.n, .int .i64 m.cl, .int .i64 m.ep, .int .i64 m.tn, .int .i64 m.lsn, .slice h.a h.an h.ac, .slice h.b h.bn h.bc] 30) = W0 at hb hM hs ⊢
  clear hGen
  obtain ⟨c0, c1, c2, c3, c4, c5, c6, c7, c8, c9, c10⟩ := msg_cells hM
  go_wp2_with fail
  refine (HP.out _).mono ?_
  rintro e w1 ⟨rfl, b1⟩
  have hM1 := hM.below b1 hs
  have hb1 := below_next hb b1
  have hs1 := Nat.lt_of_lt_of_le hs b1.size
  clear c0 c1 c2 c3 c4 c5 c6 c7 c8 c9 c10 hM hb b1 hs
  go_upto_region 2 with (fail)
  have hM2 := hM1.alloc (.cells #[.bool true, .bool true, .bool true, .bool false, .bool false, .bool false, .bool false, .bool false] 61)
  have hH2 := Blk.new w1 61 #[.bool true, .bool true, .bool true, .bool false, .bool false, .bool false, .bool false, .bool false]
  have hb2 := below_next hb1 (below_box w1 (.cells #[.bool true, .bool true, .bool true, .bool false, .bool false, .bool false, .bool false, .bool false] 61))
  have hg2 := alloc_lt w1 (.cells #[.bool true, .bool true, .bool true, .bool false, .bool false, .bool false, .bool false, .bool false] 61)
  generalize hGen : w1.alloc (.cells #[.bool true, .bool true, .bool true, .bool false, .bool false, .bool false, .bool false, .bool false] 61) = W at hM2 hH2 hb2 hg2 ⊢
  clear hGen
  have hs2 : w.heap.size < W.heap.size := Nat.lt_trans hs1 hg2
  clear hM1 hb1
  generalize hGen : w1.heap.size = gh at hH2 hg2 hs1 ⊢
  clear hGen
  have HM := Lib.hid hM2
  have HH := Lib.hid hH2
  have HB0 := Lib.hid hb2
  clear hM2 hH2 hb2
  have HIN := Lib.hid (HI.out.below HB0.out)
  clear HI
  have HFR := Lib.hid (Lib.fresh_isBuilder 82 5 W)
  have HB := Lib.hid (below_box W (.cells #[.pointer none, .slice none 0 0] 82))
  have hs := alloc_lt W (.cells #[.pointer none, .slice none 0 0] 82)
  go_upto_region 3 with (fail)
  generalize hGen : W.alloc (.cells #[.pointer none, .slice none 0 0] 82) = w0 at HFR HB hs ⊢
  clear hGen
  have hMc := HM.out.below HB.out hs2
  have hHc := HH.out.below HB.out hg2
  obtain ⟨c0, c1, c2, c3, c4, c5, c6, c7, c8, c9, c10⟩ := msg_cells hMc
  obtain ⟨d0, d1, d2, d3, d4, d5, d6, d7⟩ := has_cells hHc
  clear hMc hHc
  go_wp2_with fail
  refine (Nib.intB (m.kind) _ Hhfk.out).mono ?_
  rintro e wa ⟨rfl, ba⟩
  have HX := Lib.hid (show Lib.IsBuilder 82 5 W.heap.size W.heap.size (Lib.byteCells []) wa from HFR.out.elim (fun h => .inl (bld_next h ba)) fun h => .inr (bld_next h ba))
  have HB := Lib.hid (HB.out.trans (ba.mono (Nat.le_of_lt hs)))
  have hs := Nat.lt_of_lt_of_le hs ba.size
  clear c0 c1 c2 c3 c4 c5 c6 c7 c8 c9 c10 d0 d1 d2 d3 d4 d5 d6 d7
  clear ba
  have hMc := HM.out.below HB.out hs2
  have hHc := HH.out.below HB.out hg2
  obtain ⟨c0, c1, c2, c3, c4, c5, c6, c7, c8, c9, c10⟩ := msg_cells hMc
  obtain ⟨d0, d1, d2, d3, d4, d5, d6, d7⟩ := has_cells hHc
  clear hMc hHc
  go_wp2_with fail
  refine (ws_any W.heap.size [] (enc m.kind) (Nib.encB (m.kind)) _ (Nib.encB_list _).symm HX.out (by have := lkind.out; simp only [List.length_nil]; omega) (Nat.le_of_lt hs)).mono ?_
  rintro e wb ⟨rfl, hX, bX, _⟩
  have HX := Lib.hid (show BA W.heap.size (enc m.kind) wb from hX)
  have HB := Lib.hid (HB.out.trans bX)
  have hs := Nat.lt_of_lt_of_le hs bX.size
  clear c0 c1 c2 c3 c4 c5 c6 c7 c8 c9 c10 d0 d1 d2 d3 d4 d5 d6 d7
  clear hX bX
  have hMc := HM.out.below HB.out hs2
  have hHc := HH.out.below HB.out hg2
  obtain ⟨c0, c1, c2, c3, c4, c5, c6, c7, c8, c9, c10⟩ := msg_cells hMc
  obtain ⟨d0, d1, d2, d3, d4, d5, d6, d7⟩ := has_cells hHc
  clear hMc hHc
  go_wp2_with fail
  refine (Nib.intB (m.page) _ Hhfp.out).mono ?_
  rintro e wa ⟨rfl, ba⟩
  have HX := Lib.hid (bld_next HX.out ba)
  have HB := Lib.hid (HB.out.trans (ba.mono (Nat.le_of_lt hs)))
  have hs := Nat.lt_of_lt_of_le hs ba.size
  clear c0 c1 c2 c3 c4 c5 c6 c7 c8 c9 c10 d0 d1 d2 d3 d4 d5 d6 d7
  clear ba
  have hMc := HM.out.below HB.out hs2
  have hHc := HH.out.below HB.out hg2
  obtain ⟨c0, c1, c2, c3, c4, c5, c6, c7, c8, c9, c10⟩ := msg_cells hMc
  obtain ⟨d0, d1, d2, d3, d4, d5, d6, d7⟩ := has_cells hHc
  clear hMc hHc
  go_wp2_with fail
  refine (ws_any W.heap.size (enc m.kind) (enc m.page) (Nib.encB (m.page)) _ (Nib.encB_list _).symm (.inr HX.out) (by have := lkind.out; have := lpage.out; have := lx.out; have := ln.out; (try simp only [List.length_append]); omega) (Nat.le_of_lt hs)).mono ?_
  rintro e wb ⟨rfl, hX, bX, _⟩
  have HX := Lib.hid (show BA W.heap.size (enc m.kind ++ enc m.page) wb from hX)
  have HB := Lib.hid (HB.out.trans bX)
  have hs := Nat.lt_of_lt_of_le hs bX.size
  clear c0 c1 c2 c3 c4 c5 c6 c7 c8 c9 c10 d0 d1 d2 d3 d4 d5 d6 d7
  clear hX bX
  have hMc := HM.out.below HB.out hs2
  have hHc := HH.out.below HB.out hg2
  obtain ⟨c0, c1, c2, c3, c4, c5, c6, c7, c8, c9, c10⟩ := msg_cells hMc
  obtain ⟨d0, d1, d2, d3, d4, d5, d6, d7⟩ := has_cells hHc
  clear hMc hHc
  go_wp2_with fail
  refine (flag_any m.x _).mono ?_
  rintro e wa ⟨rfl, ba⟩
  have HX := Lib.hid (bld_next HX.out ba)
  have HB := Lib.hid (HB.out.trans (ba.mono (Nat.le_of_lt hs)))
  have hs := Nat.lt_of_lt_of_le hs ba.size
  clear c0 c1 c2 c3 c4 c5 c6 c7 c8 c9 c10 d0 d1 d2 d3 d4 d5 d6 d7
  clear ba
  have hMc := HM.out.below HB.out hs2
  have hHc := HH.out.below HB.out hg2
  obtain ⟨c0, c1, c2, c3, c4, c5, c6, c7, c8, c9, c10⟩ := msg_cells hMc
  obtain ⟨d0, d1, d2, d3, d4, d5, d6, d7⟩ := has_cells hHc
  clear hMc hHc
  go_wp2_with fail
  refine (ws_any W.heap.size (enc m.kind ++ enc m.page) (enc (b1 m.x)) (Nib.encB (b1 m.x)) _ (Nib.encB_list _).symm (.inr HX.out) (by have := lkind.out; have := lpage.out; have := lx.out; have := ln.out; (try simp only [List.length_append]); omega) (Nat.le_of_lt hs)).mono ?_
  rintro e wb ⟨rfl, hX, bX, _⟩
  have HX := Lib.hid (show BA W.heap.size (enc m.kind ++ enc m.page ++ enc (b1 m.x)) wb from hX)
  have HB := Lib.hid (HB.out.trans bX)
  have hs := Nat.lt_of_lt_of_le hs bX.size
  clear c0 c1 c2 c3 c4 c5 c6 c7 c8 c9 c10 d0 d1 d2 d3 d4 d5 d6 d7
  clear hX bX
  have hMc := HM.out.below HB.out hs2
  have hHc := HH.out.below HB.out hg2
  obtain ⟨c0, c1, c2, c3, c4, c5, c6, c7, c8, c9, c10⟩ := msg_cells hMc
  obtain ⟨d0, d1, d2, d3, d4, d5, d6, d7⟩ := has_cells hHc
  clear hMc hHc
  go_wp2_with fail
  refine (flag_any m.need _).mono ?_
  rintro e wa ⟨rfl, ba⟩
  have HX := Lib.hid (bld_next HX.out ba)
  have HB := Lib.hid (HB.out.trans (ba.mono (Nat.le_of_lt hs)))
  have hs := Nat.lt_of_lt_of_le hs ba.size
  clear c0 c1 c2 c3 c4 c5 c6 c7 c8 c9 c10 d0 d1 d2 d3 d4 d5 d6 d7
  clear ba
  have hMc := HM.out.below HB.out hs2
  have hHc := HH.out.below HB.out hg2
  obtain ⟨c0, c1, c2, c3, c4, c5, c6, c7, c8, c9, c10⟩ := msg_cells hMc
  obtain ⟨d0, d1, d2, d3, d4, d5, d6, d7⟩ := has_cells hHc
  clear hMc hHc
  go_wp2_with fail
  refine (ws_any W.heap.size (enc m.kind ++ enc m.page ++ enc (b1 m.x)) (enc (b1 m.need)) (Nib.encB (b1 m.need)) _ (Nib.encB_list _).symm (.inr HX.out) (by have := lkind.out; have := lpage.out; have := lx.out; have := ln.out; (try simp only [List.length_append]); omega) (Nat.le_of_lt hs)).mono ?_
  rintro e wb ⟨rfl, hX, bX, _⟩
  have HX := Lib.hid (show BA W.heap.size (enc m.kind ++ enc m.page ++ enc (b1 m.x) ++ enc (b1 m.need)) wb from hX)
  have HB := Lib.hid (HB.out.trans bX)
  have hs := Nat.lt_of_lt_of_le hs bX.size
  clear c0 c1 c2 c3 c4 c5 c6 c7 c8 c9 c10 d0 d1 d2 d3 d4 d5 d6 d7
  clear hX bX
  have hMc := HM.out.below HB.out hs2
  have hHc := HH.out.below HB.out hg2
  obtain ⟨c0, c1, c2, c3, c4, c5, c6, c7, c8, c9, c10⟩ := msg_cells hMc
  obtain ⟨d0, d1, d2, d3, d4, d5, d6, d7⟩ := has_cells hHc
  clear hMc hHc
  have HLL := Lib.hid (show (enc m.kind ++ enc m.page ++ enc (b1 m.x) ++ enc (b1 m.need)).length ≤ 400 from (by have := lkind.out; have := lpage.out; have := lx.out; have := ln.out; (try simp only [List.length_append]); omega))
  have HFIN := Lib.hid (show enc m.kind ++ enc m.page ++ enc (b1 m.x) ++ enc (b1 m.need) ++ entsB m.es = bodyH hLock m from by unfold bodyH pPage pX pNeed pTxn pN pImage pCount; rw [HES.out]; simp [hLock])
  generalize enc m.kind ++ enc m.page ++ enc (b1 m.x) ++ enc (b1 m.need) = L at HX HLL HFIN
  clear c0 c1 c2 c3 c4 c5 c6 c7 c8 c9 c10 d0 d1 d2 d3 d4 d5 d6 d7
  have hMc := HM.out.below HB.out hs2
  have hHc := HH.out.below HB.out hg2
  obtain ⟨c0, c1, c2, c3, c4, c5, c6, c7, c8, c9, c10⟩ := msg_cells hMc
  obtain ⟨d0, d1, d2, d3, d4, d5, d6, d7⟩ := has_cells hHc
  clear hMc hHc
  have HFIN := Lib.hid (show L ++ entsB (m.es.take 0) = bodyH hLock m from by rw [← HFIN.out, HES.out]; rfl)
  rw [HBN.out] at c10
  go_wp2_with fail
  go_loopw [85] (fun i wr => i = .int .i64 0 ∧ BA W.heap.size L wr ∧ Below W.heap.size W wr) (fun _ _ => 0)
  case atStart => exact ⟨rfl, HX.out, HB.out⟩
  case round =>
    obtain ⟨rfl, hX, hB⟩ := hrel
    have HX := Lib.hid hX
    have HB := Lib.hid hB
    clear hX hB
    go_wp2_with fail
    have hss := Try.Builder_String_any W.heap.size W.heap.size _ _ (.inr HX.out) HB.out.size
    have hfin : (⟨(L).toArray⟩ : ByteArray) = arr (bodyH hLock m) := by rw [← HFIN.out]; simp [entsB, arr]
    rw [hfin] at hss
    have HSS := Lib.hid hss
    clear hss hfin
    refine HSS.out.mono ?_
    rintro e w7 ⟨rfl, b7⟩
    go_wp2
    go_ret
    exact ⟨rfl, HB0.out.trans ((HB.out.trans b7).mono (Nat.le_of_lt hs2))⟩
set_option maxRecDepth 100000 in
set_option maxHeartbeats 4000000 in
theorem write_Free (m : Ms) (h : Hd) (w : World) (hi : In w m h) (hk : 1 ≤ m.kind ∧ m.kind ≤ 13) (hw : wholeB m hFree = true) (hr : bareB m hFree = true)
    (hp : ∀ w, Calls Try.prog 22 #[.int .i64 m.kind, .bool m.need] w fun e w' => e = .returned (.tuple #[.agg #[.bool true, .bool true, .bool false, .bool false, .bool false, .bool false, .bool false, .bool false], .bool true]) ∧ Below w.heap.size w w') :
    Calls Try.prog 21 #[.agg #[.int .i64 m.kind, .int .i64 m.page, .bool m.x, .bool m.need, .int .i64 m.n, .int .i64 m.cl, .int .i64 m.ep, .int .i64 m.tn, .int .i64 m.lsn, .slice h.a h.an h.ac, .slice h.b h.bn h.bc]] w fun e w' => e = .returned (.string (arr (bodyH hFree m))) ∧ Below w.heap.size w w' := by
  have hfk : Fits m.kind := ⟨by omega, by omega⟩
  have lkind := Lib.hid (Nib.enc_le hfk)
  obtain ⟨w1, w2, w3, w4, w5⟩ := whole_parts hw
  obtain ⟨r1, r2, r3, r4, r5, r6, r7⟩ := bare_parts hr
  have hfp : Fits m.page := ⟨by have := w1 rfl; omega, by have := w1 rfl; omega⟩
  have lpage := Lib.hid (Nib.enc_le hfp)
  have lx := Lib.hid (Nib.enc_le (flag_fits m.x))
  have hes0 : m.es = [] := r7 rfl
  have HBN := Lib.hid (show h.bn = 0 from by have := hi.e.len; rw [hes0] at this; exact this.symm)
  have HES := Lib.hid hes0
  clear hes0
  have Hhfk := Lib.hid hfk
  clear hfk
  have Hhfp := Lib.hid hfp
  clear hfp
  have HLN := Lib.hid hi.e.len
  clear w1 w2 w3 w4 w5 r1 r2 r3 r4 r5 r6 r7 hw hr hk
  have hb := below_box w (.cells #[.int .i64 m.kind, .int .i64 m.page, .bool m.x, .bool m.need, .int .i64 m.n, .int .i64 m.cl, .int .i64 m.ep, .int .i64 m.tn, .int .i64 m.lsn, .slice h.a h.an h.ac, .slice h.b h.bn h.bc] 30)
  have hM := Blk.new w 30 #[.int .i64 m.kind, .int .i64 m.page, .bool m.x, .bool m.need, .int .i64 m.n, .int .i64 m.cl, .int .i64 m.ep, .int .i64 m.tn, .int .i64 m.lsn, .slice h.a h.an h.ac, .slice h.b h.bn h.bc]
  have hs := alloc_lt w (.cells #[.int .i64 m.kind, .int .i64 m.page, .bool m.x, .bool m.need, .int .i64 m.n, .int .i64 m.cl, .int .i64 m.ep, .int .i64 m.tn, .int .i64 m.lsn, .slice h.a h.an h.ac, .slice h.b h.bn h.bc] 30)
  have HP := Lib.hid hp
  have HI := Lib.hid hi
  clear hp hi
  go_enter Try.func21, Try.ntmps21
  try dsimp only [List.append]
  go_upto_region 1 with (fail)
  generalize hGen : w.alloc (.cells #[.int .i64 m.kind, .int .i64 m.page, .bool m.x, .bool m.need, .int .i64 m.n, .int .i64 m.cl, .int .i64 m.ep, .int .i64 m.tn, .int .i64 m.lsn, .slice h.a h.an h.ac, .slice h.b h.bn h.bc] 30) = W0 at hb hM hs ⊢
  clear hGen
  obtain ⟨c0, c1, c2, c3, c4, c5, c6, c7, c8, c9, c10⟩ := msg_cells hM
  go_wp2_with fail
  refine (HP.out _).mono ?_
  rintro e w1 ⟨rfl, b1⟩
  have hM1 := hM.below b1 hs
  have hb1 := below_next hb b1
  have hs1 := Nat.lt_of_lt_of_le hs b1.size
  clear c0 c1 c2 c3 c4 c5 c6 c7 c8 c9 c10 hM hb b1 hs
  go_upto_region 2 with (fail)
  have hM2 := hM1.alloc (.cells #[.bool true, .bool true, .bool false, .bool false, .bool false, .bool false, .bool false, .bool false] 61)
  have hH2 := Blk.new w1 61 #[.bool true, .bool true, .bool false, .bool false, .bool false, .bool false, .bool false, .bool false]
  have hb2 := below_next hb1 (below_box w1 (.cells #[.bool true, .bool true, .bool false, .bool false, .bool false, .bool false, .bool false, .bool false] 61))
  have hg2 := alloc_lt w1 (.cells #[.bool true, .bool true, .bool false, .bool false, .bool false, .bool false, .bool false, .bool false] 61)
  generalize hGen : w1.alloc (.cells #[.bool true, .bool true, .bool false, .bool false, .bool false, .bool false, .bool false, .bool false] 61) = W at hM2 hH2 hb2 hg2 ⊢
  clear hGen
  have hs2 : w.heap.size < W.heap.size := Nat.lt_trans hs1 hg2
  clear hM1 hb1
  generalize hGen : w1.heap.size = gh at hH2 hg2 hs1 ⊢
  clear hGen
  have HM := Lib.hid hM2
  have HH := Lib.hid hH2
  have HB0 := Lib.hid hb2
  clear hM2 hH2 hb2
  have HIN := Lib.hid (HI.out.below HB0.out)
  clear HI
  have HFR := Lib.hid (Lib.fresh_isBuilder 82 5 W)
  have HB := Lib.hid (below_box W (.cells #[.pointer none, .slice none 0 0] 82))
  have hs := alloc_lt W (.cells #[.pointer none, .slice none 0 0] 82)
  go_upto_region 3 with (fail)
  generalize hGen : W.alloc (.cells #[.pointer none, .slice none 0 0] 82) = w0 at HFR HB hs ⊢
  clear hGen
  have hMc := HM.out.below HB.out hs2
  have hHc := HH.out.below HB.out hg2
  obtain ⟨c0, c1, c2, c3, c4, c5, c6, c7, c8, c9, c10⟩ := msg_cells hMc
  obtain ⟨d0, d1, d2, d3, d4, d5, d6, d7⟩ := has_cells hHc
  clear hMc hHc
  go_wp2_with fail
  refine (Nib.intB (m.kind) _ Hhfk.out).mono ?_
  rintro e wa ⟨rfl, ba⟩
  have HX := Lib.hid (show Lib.IsBuilder 82 5 W.heap.size W.heap.size (Lib.byteCells []) wa from HFR.out.elim (fun h => .inl (bld_next h ba)) fun h => .inr (bld_next h ba))
  have HB := Lib.hid (HB.out.trans (ba.mono (Nat.le_of_lt hs)))
  have hs := Nat.lt_of_lt_of_le hs ba.size
  clear c0 c1 c2 c3 c4 c5 c6 c7 c8 c9 c10 d0 d1 d2 d3 d4 d5 d6 d7
  clear ba
  have hMc := HM.out.below HB.out hs2
  have hHc := HH.out.below HB.out hg2
  obtain ⟨c0, c1, c2, c3, c4, c5, c6, c7, c8, c9, c10⟩ := msg_cells hMc
  obtain ⟨d0, d1, d2, d3, d4, d5, d6, d7⟩ := has_cells hHc
  clear hMc hHc
  go_wp2_with fail
  refine (ws_any W.heap.size [] (enc m.kind) (Nib.encB (m.kind)) _ (Nib.encB_list _).symm HX.out (by have := lkind.out; simp only [List.length_nil]; omega) (Nat.le_of_lt hs)).mono ?_
  rintro e wb ⟨rfl, hX, bX, _⟩
  have HX := Lib.hid (show BA W.heap.size (enc m.kind) wb from hX)
  have HB := Lib.hid (HB.out.trans bX)
  have hs := Nat.lt_of_lt_of_le hs bX.size
  clear c0 c1 c2 c3 c4 c5 c6 c7 c8 c9 c10 d0 d1 d2 d3 d4 d5 d6 d7
  clear hX bX
  have hMc := HM.out.below HB.out hs2
  have hHc := HH.out.below HB.out hg2
  obtain ⟨c0, c1, c2, c3, c4, c5, c6, c7, c8, c9, c10⟩ := msg_cells hMc
  obtain ⟨d0, d1, d2, d3, d4, d5, d6, d7⟩ := has_cells hHc
  clear hMc hHc
  go_wp2_with fail
  refine (Nib.intB (m.page) _ Hhfp.out).mono ?_
  rintro e wa ⟨rfl, ba⟩
  have HX := Lib.hid (bld_next HX.out ba)
  have HB := Lib.hid (HB.out.trans (ba.mono (Nat.le_of_lt hs)))
  have hs := Nat.lt_of_lt_of_le hs ba.size
  clear c0 c1 c2 c3 c4 c5 c6 c7 c8 c9 c10 d0 d1 d2 d3 d4 d5 d6 d7
  clear ba
  have hMc := HM.out.below HB.out hs2
  have hHc := HH.out.below HB.out hg2
  obtain ⟨c0, c1, c2, c3, c4, c5, c6, c7, c8, c9, c10⟩ := msg_cells hMc
  obtain ⟨d0, d1, d2, d3, d4, d5, d6, d7⟩ := has_cells hHc
  clear hMc hHc
  go_wp2_with fail
  refine (ws_any W.heap.size (enc m.kind) (enc m.page) (Nib.encB (m.page)) _ (Nib.encB_list _).symm (.inr HX.out) (by have := lkind.out; have := lpage.out; have := lx.out; (try simp only [List.length_append]); omega) (Nat.le_of_lt hs)).mono ?_
  rintro e wb ⟨rfl, hX, bX, _⟩
  have HX := Lib.hid (show BA W.heap.size (enc m.kind ++ enc m.page) wb from hX)
  have HB := Lib.hid (HB.out.trans bX)
  have hs := Nat.lt_of_lt_of_le hs bX.size
  clear c0 c1 c2 c3 c4 c5 c6 c7 c8 c9 c10 d0 d1 d2 d3 d4 d5 d6 d7
  clear hX bX
  have hMc := HM.out.below HB.out hs2
  have hHc := HH.out.below HB.out hg2
  obtain ⟨c0, c1, c2, c3, c4, c5, c6, c7, c8, c9, c10⟩ := msg_cells hMc
  obtain ⟨d0, d1, d2, d3, d4, d5, d6, d7⟩ := has_cells hHc
  clear hMc hHc
  go_wp2_with fail
  refine (flag_any m.x _).mono ?_
  rintro e wa ⟨rfl, ba⟩
  have HX := Lib.hid (bld_next HX.out ba)
  have HB := Lib.hid (HB.out.trans (ba.mono (Nat.le_of_lt hs)))
  have hs := Nat.lt_of_lt_of_le hs ba.size
  clear c0 c1 c2 c3 c4 c5 c6 c7 c8 c9 c10 d0 d1 d2 d3 d4 d5 d6 d7
  clear ba
  have hMc := HM.out.below HB.out hs2
  have hHc := HH.out.below HB.out hg2
  obtain ⟨c0, c1, c2, c3, c4, c5, c6, c7, c8, c9, c10⟩ := msg_cells hMc
  obtain ⟨d0, d1, d2, d3, d4, d5, d6, d7⟩ := has_cells hHc
  clear hMc hHc
  go_wp2_with fail
  refine (ws_any W.heap.size (enc m.kind ++ enc m.page) (enc (b1 m.x)) (Nib.encB (b1 m.x)) _ (Nib.encB_list _).symm (.inr HX.out) (by have := lkind.out; have := lpage.out; have := lx.out; (try simp only [List.length_append]); omega) (Nat.le_of_lt hs)).mono ?_
  rintro e wb ⟨rfl, hX, bX, _⟩
  have HX := Lib.hid (show BA W.heap.size (enc m.kind ++ enc m.page ++ enc (b1 m.x)) wb from hX)
  have HB := Lib.hid (HB.out.trans bX)
  have hs := Nat.lt_of_lt_of_le hs bX.size
  clear c0 c1 c2 c3 c4 c5 c6 c7 c8 c9 c10 d0 d1 d2 d3 d4 d5 d6 d7
  clear hX bX
  have hMc := HM.out.below HB.out hs2
  have hHc := HH.out.below HB.out hg2
  obtain ⟨c0, c1, c2, c3, c4, c5, c6, c7, c8, c9, c10⟩ := msg_cells hMc
  obtain ⟨d0, d1, d2, d3, d4, d5, d6, d7⟩ := has_cells hHc
  clear hMc hHc
  have HLL := Lib.hid (show (enc m.kind ++ enc m.page ++ enc (b1 m.x)).length ≤ 400 from (by have := lkind.out; have := lpage.out; have := lx.out; (try simp only [List.length_append]); omega))
  have HFIN := Lib.hid (show enc m.kind ++ enc m.page ++ enc (b1 m.x) ++ entsB m.es = bodyH hFree m from by unfold bodyH pPage pX pNeed pTxn pN pImage pCount; rw [HES.out]; simp [hFree])
  generalize enc m.kind ++ enc m.page ++ enc (b1 m.x) = L at HX HLL HFIN
  clear c0 c1 c2 c3 c4 c5 c6 c7 c8 c9 c10 d0 d1 d2 d3 d4 d5 d6 d7
  have hMc := HM.out.below HB.out hs2
  have hHc := HH.out.below HB.out hg2
  obtain ⟨c0, c1, c2, c3, c4, c5, c6, c7, c8, c9, c10⟩ := msg_cells hMc
  obtain ⟨d0, d1, d2, d3, d4, d5, d6, d7⟩ := has_cells hHc
  clear hMc hHc
  have HFIN := Lib.hid (show L ++ entsB (m.es.take 0) = bodyH hFree m from by rw [← HFIN.out, HES.out]; rfl)
  rw [HBN.out] at c10
  go_wp2_with fail
  go_loopw [85] (fun i wr => i = .int .i64 0 ∧ BA W.heap.size L wr ∧ Below W.heap.size W wr) (fun _ _ => 0)
  case atStart => exact ⟨rfl, HX.out, HB.out⟩
  case round =>
    obtain ⟨rfl, hX, hB⟩ := hrel
    have HX := Lib.hid hX
    have HB := Lib.hid hB
    clear hX hB
    go_wp2_with fail
    have hss := Try.Builder_String_any W.heap.size W.heap.size _ _ (.inr HX.out) HB.out.size
    have hfin : (⟨(L).toArray⟩ : ByteArray) = arr (bodyH hFree m) := by rw [← HFIN.out]; simp [entsB, arr]
    rw [hfin] at hss
    have HSS := Lib.hid hss
    clear hss hfin
    refine HSS.out.mono ?_
    rintro e w7 ⟨rfl, b7⟩
    go_wp2
    go_ret
    exact ⟨rfl, HB0.out.trans ((HB.out.trans b7).mono (Nat.le_of_lt hs2))⟩
set_option maxRecDepth 100000 in
set_option maxHeartbeats 4000000 in
theorem write_Use (m : Ms) (h : Hd) (w : World) (hi : In w m h) (hk : 1 ≤ m.kind ∧ m.kind ≤ 13) (hw : wholeB m hUse = true) (hr : bareB m hUse = true)
    (hp : ∀ w, Calls Try.prog 22 #[.int .i64 m.kind, .bool m.need] w fun e w' => e = .returned (.tuple #[.agg #[.bool true, .bool false, .bool false, .bool false, .bool false, .bool false, .bool false, .bool false], .bool true]) ∧ Below w.heap.size w w') :
    Calls Try.prog 21 #[.agg #[.int .i64 m.kind, .int .i64 m.page, .bool m.x, .bool m.need, .int .i64 m.n, .int .i64 m.cl, .int .i64 m.ep, .int .i64 m.tn, .int .i64 m.lsn, .slice h.a h.an h.ac, .slice h.b h.bn h.bc]] w fun e w' => e = .returned (.string (arr (bodyH hUse m))) ∧ Below w.heap.size w w' := by
  have hfk : Fits m.kind := ⟨by omega, by omega⟩
  have lkind := Lib.hid (Nib.enc_le hfk)
  obtain ⟨w1, w2, w3, w4, w5⟩ := whole_parts hw
  obtain ⟨r1, r2, r3, r4, r5, r6, r7⟩ := bare_parts hr
  have hfp : Fits m.page := ⟨by have := w1 rfl; omega, by have := w1 rfl; omega⟩
  have lpage := Lib.hid (Nib.enc_le hfp)
  have hes0 : m.es = [] := r7 rfl
  have HBN := Lib.hid (show h.bn = 0 from by have := hi.e.len; rw [hes0] at this; exact this.symm)
  have HES := Lib.hid hes0
  clear hes0
  have Hhfk := Lib.hid hfk
  clear hfk
  have Hhfp := Lib.hid hfp
  clear hfp
  have HLN := Lib.hid hi.e.len
  clear w1 w2 w3 w4 w5 r1 r2 r3 r4 r5 r6 r7 hw hr hk
  have hb := below_box w (.cells #[.int .i64 m.kind, .int .i64 m.page, .bool m.x, .bool m.need, .int .i64 m.n, .int .i64 m.cl, .int .i64 m.ep, .int .i64 m.tn, .int .i64 m.lsn, .slice h.a h.an h.ac, .slice h.b h.bn h.bc] 30)
  have hM := Blk.new w 30 #[.int .i64 m.kind, .int .i64 m.page, .bool m.x, .bool m.need, .int .i64 m.n, .int .i64 m.cl, .int .i64 m.ep, .int .i64 m.tn, .int .i64 m.lsn, .slice h.a h.an h.ac, .slice h.b h.bn h.bc]
  have hs := alloc_lt w (.cells #[.int .i64 m.kind, .int .i64 m.page, .bool m.x, .bool m.need, .int .i64 m.n, .int .i64 m.cl, .int .i64 m.ep, .int .i64 m.tn, .int .i64 m.lsn, .slice h.a h.an h.ac, .slice h.b h.bn h.bc] 30)
  have HP := Lib.hid hp
  have HI := Lib.hid hi
  clear hp hi
  go_enter Try.func21, Try.ntmps21
  try dsimp only [List.append]
  go_upto_region 1 with (fail)
  generalize hGen : w.alloc (.cells #[.int .i64 m.kind, .int .i64 m.page, .bool m.x, .bool m.need, .int .i64 m.n, .int .i64 m.cl, .int .i64 m.ep, .int .i64 m.tn, .int .i64 m.lsn, .slice h.a h.an h.ac, .slice h.b h.bn h.bc] 30) = W0 at hb hM hs ⊢
  clear hGen
  obtain ⟨c0, c1, c2, c3, c4, c5, c6, c7, c8, c9, c10⟩ := msg_cells hM
  go_wp2_with fail
  refine (HP.out _).mono ?_
  rintro e w1 ⟨rfl, b1⟩
  have hM1 := hM.below b1 hs
  have hb1 := below_next hb b1
  have hs1 := Nat.lt_of_lt_of_le hs b1.size
  clear c0 c1 c2 c3 c4 c5 c6 c7 c8 c9 c10 hM hb b1 hs
  go_upto_region 2 with (fail)
  have hM2 := hM1.alloc (.cells #[.bool true, .bool false, .bool false, .bool false, .bool false, .bool false, .bool false, .bool false] 61)
  have hH2 := Blk.new w1 61 #[.bool true, .bool false, .bool false, .bool false, .bool false, .bool false, .bool false, .bool false]
  have hb2 := below_next hb1 (below_box w1 (.cells #[.bool true, .bool false, .bool false, .bool false, .bool false, .bool false, .bool false, .bool false] 61))
  have hg2 := alloc_lt w1 (.cells #[.bool true, .bool false, .bool false, .bool false, .bool false, .bool false, .bool false, .bool false] 61)
  generalize hGen : w1.alloc (.cells #[.bool true, .bool false, .bool false, .bool false, .bool false, .bool false, .bool false, .bool false] 61) = W at hM2 hH2 hb2 hg2 ⊢
  clear hGen
  have hs2 : w.heap.size < W.heap.size := Nat.lt_trans hs1 hg2
  clear hM1 hb1
  generalize hGen : w1.heap.size = gh at hH2 hg2 hs1 ⊢
  clear hGen
  have HM := Lib.hid hM2
  have HH := Lib.hid hH2
  have HB0 := Lib.hid hb2
  clear hM2 hH2 hb2
  have HIN := Lib.hid (HI.out.below HB0.out)
  clear HI
  have HFR := Lib.hid (Lib.fresh_isBuilder 82 5 W)
  have HB := Lib.hid (below_box W (.cells #[.pointer none, .slice none 0 0] 82))
  have hs := alloc_lt W (.cells #[.pointer none, .slice none 0 0] 82)
  go_upto_region 3 with (fail)
  generalize hGen : W.alloc (.cells #[.pointer none, .slice none 0 0] 82) = w0 at HFR HB hs ⊢
  clear hGen
  have hMc := HM.out.below HB.out hs2
  have hHc := HH.out.below HB.out hg2
  obtain ⟨c0, c1, c2, c3, c4, c5, c6, c7, c8, c9, c10⟩ := msg_cells hMc
  obtain ⟨d0, d1, d2, d3, d4, d5, d6, d7⟩ := has_cells hHc
  clear hMc hHc
  go_wp2_with fail
  refine (Nib.intB (m.kind) _ Hhfk.out).mono ?_
  rintro e wa ⟨rfl, ba⟩
  have HX := Lib.hid (show Lib.IsBuilder 82 5 W.heap.size W.heap.size (Lib.byteCells []) wa from HFR.out.elim (fun h => .inl (bld_next h ba)) fun h => .inr (bld_next h ba))
  have HB := Lib.hid (HB.out.trans (ba.mono (Nat.le_of_lt hs)))
  have hs := Nat.lt_of_lt_of_le hs ba.size
  clear c0 c1 c2 c3 c4 c5 c6 c7 c8 c9 c10 d0 d1 d2 d3 d4 d5 d6 d7
  clear ba
  have hMc := HM.out.below HB.out hs2
  have hHc := HH.out.below HB.out hg2
  obtain ⟨c0, c1, c2, c3, c4, c5, c6, c7, c8, c9, c10⟩ := msg_cells hMc
  obtain ⟨d0, d1, d2, d3, d4, d5, d6, d7⟩ := has_cells hHc
  clear hMc hHc
  go_wp2_with fail
  refine (ws_any W.heap.size [] (enc m.kind) (Nib.encB (m.kind)) _ (Nib.encB_list _).symm HX.out (by have := lkind.out; simp only [List.length_nil]; omega) (Nat.le_of_lt hs)).mono ?_
  rintro e wb ⟨rfl, hX, bX, _⟩
  have HX := Lib.hid (show BA W.heap.size (enc m.kind) wb from hX)
  have HB := Lib.hid (HB.out.trans bX)
  have hs := Nat.lt_of_lt_of_le hs bX.size
  clear c0 c1 c2 c3 c4 c5 c6 c7 c8 c9 c10 d0 d1 d2 d3 d4 d5 d6 d7
  clear hX bX
  have hMc := HM.out.below HB.out hs2
  have hHc := HH.out.below HB.out hg2
  obtain ⟨c0, c1, c2, c3, c4, c5, c6, c7, c8, c9, c10⟩ := msg_cells hMc
  obtain ⟨d0, d1, d2, d3, d4, d5, d6, d7⟩ := has_cells hHc
  clear hMc hHc
  go_wp2_with fail
  refine (Nib.intB (m.page) _ Hhfp.out).mono ?_
  rintro e wa ⟨rfl, ba⟩
  have HX := Lib.hid (bld_next HX.out ba)
  have HB := Lib.hid (HB.out.trans (ba.mono (Nat.le_of_lt hs)))
  have hs := Nat.lt_of_lt_of_le hs ba.size
  clear c0 c1 c2 c3 c4 c5 c6 c7 c8 c9 c10 d0 d1 d2 d3 d4 d5 d6 d7
  clear ba
  have hMc := HM.out.below HB.out hs2
  have hHc := HH.out.below HB.out hg2
  obtain ⟨c0, c1, c2, c3, c4, c5, c6, c7, c8, c9, c10⟩ := msg_cells hMc
  obtain ⟨d0, d1, d2, d3, d4, d5, d6, d7⟩ := has_cells hHc
  clear hMc hHc
  go_wp2_with fail
  refine (ws_any W.heap.size (enc m.kind) (enc m.page) (Nib.encB (m.page)) _ (Nib.encB_list _).symm (.inr HX.out) (by have := lkind.out; have := lpage.out; (try simp only [List.length_append]); omega) (Nat.le_of_lt hs)).mono ?_
  rintro e wb ⟨rfl, hX, bX, _⟩
  have HX := Lib.hid (show BA W.heap.size (enc m.kind ++ enc m.page) wb from hX)
  have HB := Lib.hid (HB.out.trans bX)
  have hs := Nat.lt_of_lt_of_le hs bX.size
  clear c0 c1 c2 c3 c4 c5 c6 c7 c8 c9 c10 d0 d1 d2 d3 d4 d5 d6 d7
  clear hX bX
  have hMc := HM.out.below HB.out hs2
  have hHc := HH.out.below HB.out hg2
  obtain ⟨c0, c1, c2, c3, c4, c5, c6, c7, c8, c9, c10⟩ := msg_cells hMc
  obtain ⟨d0, d1, d2, d3, d4, d5, d6, d7⟩ := has_cells hHc
  clear hMc hHc
  have HLL := Lib.hid (show (enc m.kind ++ enc m.page).length ≤ 400 from (by have := lkind.out; have := lpage.out; (try simp only [List.length_append]); omega))
  have HFIN := Lib.hid (show enc m.kind ++ enc m.page ++ entsB m.es = bodyH hUse m from by unfold bodyH pPage pX pNeed pTxn pN pImage pCount; rw [HES.out]; simp [hUse])
  generalize enc m.kind ++ enc m.page = L at HX HLL HFIN
  clear c0 c1 c2 c3 c4 c5 c6 c7 c8 c9 c10 d0 d1 d2 d3 d4 d5 d6 d7
  have hMc := HM.out.below HB.out hs2
  have hHc := HH.out.below HB.out hg2
  obtain ⟨c0, c1, c2, c3, c4, c5, c6, c7, c8, c9, c10⟩ := msg_cells hMc
  obtain ⟨d0, d1, d2, d3, d4, d5, d6, d7⟩ := has_cells hHc
  clear hMc hHc
  have HFIN := Lib.hid (show L ++ entsB (m.es.take 0) = bodyH hUse m from by rw [← HFIN.out, HES.out]; rfl)
  rw [HBN.out] at c10
  go_wp2_with fail
  go_loopw [85] (fun i wr => i = .int .i64 0 ∧ BA W.heap.size L wr ∧ Below W.heap.size W wr) (fun _ _ => 0)
  case atStart => exact ⟨rfl, HX.out, HB.out⟩
  case round =>
    obtain ⟨rfl, hX, hB⟩ := hrel
    have HX := Lib.hid hX
    have HB := Lib.hid hB
    clear hX hB
    go_wp2_with fail
    have hss := Try.Builder_String_any W.heap.size W.heap.size _ _ (.inr HX.out) HB.out.size
    have hfin : (⟨(L).toArray⟩ : ByteArray) = arr (bodyH hUse m) := by rw [← HFIN.out]; simp [entsB, arr]
    rw [hfin] at hss
    have HSS := Lib.hid hss
    clear hss hfin
    refine HSS.out.mono ?_
    rintro e w7 ⟨rfl, b7⟩
    go_wp2
    go_ret
    exact ⟨rfl, HB0.out.trans ((HB.out.trans b7).mono (Nat.le_of_lt hs2))⟩
set_option maxRecDepth 100000 in
set_option maxHeartbeats 4000000 in
theorem write_Log' (m : Ms) (qa : Option Addr) (qan qac : Nat) (qb : Option Addr) (qbn qbc : Nat) (w : World) (hi : In w m ⟨qa, qan, qac, qb, qbn, qbc⟩) (hk : 1 ≤ m.kind ∧ m.kind ≤ 13) (hw : wholeB m hLog = true) (hr : bareB m hLog = true)
    (hp : ∀ w, Calls Try.prog 22 #[.int .i64 m.kind, .bool m.need] w fun e w' => e = .returned (.tuple #[.agg #[.bool false, .bool false, .bool false, .bool false, .bool false, .bool false, .bool false, .bool true], .bool true]) ∧ Below w.heap.size w w') :
    Calls Try.prog 21 #[.agg #[.int .i64 m.kind, .int .i64 m.page, .bool m.x, .bool m.need, .int .i64 m.n, .int .i64 m.cl, .int .i64 m.ep, .int .i64 m.tn, .int .i64 m.lsn, .slice qa qan qac, .slice qb qbn qbc]] w fun e w' => e = .returned (.string (arr (bodyH hLog m))) ∧ Below w.heap.size w w' := by
  have hfk : Fits m.kind := ⟨by omega, by omega⟩
  have lkind := Lib.hid (Nib.enc_le hfk)
  obtain ⟨w1, w2, w3, w4, w5⟩ := whole_parts hw
  obtain ⟨r1, r2, r3, r4, r5, r6, r7⟩ := bare_parts hr
  have hes := (w5 rfl).1
  have HEG := Lib.hid (w5 rfl).2
  have hfe : Fits (m.es.length : Int) := ⟨by omega, by omega⟩
  have lE := Lib.hid (Nib.enc_le hfe)
  have Hhfk := Lib.hid hfk
  clear hfk
  have Hhfe := Lib.hid hfe
  clear hfe
  have HLN := Lib.hid (show m.es.length = qbn from hi.e.len)
  have hbl : qbn ≤ 16 := by have : m.es.length = qbn := hi.e.len; omega
  clear w1 w2 w3 w4 w5 r1 r2 r3 r4 r5 r6 r7 hw hr hk
  have hb := below_box w (.cells #[.int .i64 m.kind, .int .i64 m.page, .bool m.x, .bool m.need, .int .i64 m.n, .int .i64 m.cl, .int .i64 m.ep, .int .i64 m.tn, .int .i64 m.lsn, .slice qa qan qac, .slice qb qbn qbc] 30)
  have hM := Blk.new w 30 #[.int .i64 m.kind, .int .i64 m.page, .bool m.x, .bool m.need, .int .i64 m.n, .int .i64 m.cl, .int .i64 m.ep, .int .i64 m.tn, .int .i64 m.lsn, .slice qa qan qac, .slice qb qbn qbc]
  have hs := alloc_lt w (.cells #[.int .i64 m.kind, .int .i64 m.page, .bool m.x, .bool m.need, .int .i64 m.n, .int .i64 m.cl, .int .i64 m.ep, .int .i64 m.tn, .int .i64 m.lsn, .slice qa qan qac, .slice qb qbn qbc] 30)
  have HP := Lib.hid hp
  have HI := Lib.hid hi
  clear hp hi
  go_enter Try.func21, Try.ntmps21
  try dsimp only [List.append]
  go_upto_region 1 with (fail)
  generalize hGen : w.alloc (.cells #[.int .i64 m.kind, .int .i64 m.page, .bool m.x, .bool m.need, .int .i64 m.n, .int .i64 m.cl, .int .i64 m.ep, .int .i64 m.tn, .int .i64 m.lsn, .slice qa qan qac, .slice qb qbn qbc] 30) = W0 at hb hM hs ⊢
  clear hGen
  obtain ⟨c0, c1, c2, c3, c4, c5, c6, c7, c8, c9, c10⟩ := msg_cells (m := m) (h := ⟨qa, qan, qac, qb, qbn, qbc⟩) hM
  simp only at c9 c10
  go_wp2_with fail
  refine (HP.out _).mono ?_
  rintro e w1 ⟨rfl, b1⟩
  have hM1 := hM.below b1 hs
  have hb1 := below_next hb b1
  have hs1 := Nat.lt_of_lt_of_le hs b1.size
  clear c0 c1 c2 c3 c4 c5 c6 c7 c8 c9 c10 hM hb b1 hs
  go_upto_region 2 with (fail)
  have hM2 := hM1.alloc (.cells #[.bool false, .bool false, .bool false, .bool false, .bool false, .bool false, .bool false, .bool true] 61)
  have hH2 := Blk.new w1 61 #[.bool false, .bool false, .bool false, .bool false, .bool false, .bool false, .bool false, .bool true]
  have hb2 := below_next hb1 (below_box w1 (.cells #[.bool false, .bool false, .bool false, .bool false, .bool false, .bool false, .bool false, .bool true] 61))
  have hg2 := alloc_lt w1 (.cells #[.bool false, .bool false, .bool false, .bool false, .bool false, .bool false, .bool false, .bool true] 61)
  generalize hGen : w1.alloc (.cells #[.bool false, .bool false, .bool false, .bool false, .bool false, .bool false, .bool false, .bool true] 61) = W at hM2 hH2 hb2 hg2 ⊢
  clear hGen
  have hs2 : w.heap.size < W.heap.size := Nat.lt_trans hs1 hg2
  clear hM1 hb1
  generalize hGen : w1.heap.size = gh at hH2 hg2 hs1 ⊢
  clear hGen
  have HM := Lib.hid hM2
  have HH := Lib.hid hH2
  have HB0 := Lib.hid hb2
  clear hM2 hH2 hb2
  have HIN := Lib.hid (HI.out.below HB0.out)
  clear HI
  have HFR := Lib.hid (Lib.fresh_isBuilder 82 5 W)
  have HB := Lib.hid (below_box W (.cells #[.pointer none, .slice none 0 0] 82))
  have hs := alloc_lt W (.cells #[.pointer none, .slice none 0 0] 82)
  go_upto_region 3 with (fail)
  generalize hGen : W.alloc (.cells #[.pointer none, .slice none 0 0] 82) = w0 at HFR HB hs ⊢
  clear hGen
  have hMc := HM.out.below HB.out hs2
  have hHc := HH.out.below HB.out hg2
  obtain ⟨c0, c1, c2, c3, c4, c5, c6, c7, c8, c9, c10⟩ := msg_cells (m := m) (h := ⟨qa, qan, qac, qb, qbn, qbc⟩) hMc
  simp only at c9 c10
  obtain ⟨d0, d1, d2, d3, d4, d5, d6, d7⟩ := has_cells hHc
  clear hMc hHc
  go_wp2_with fail
  refine (Nib.intB (m.kind) _ Hhfk.out).mono ?_
  rintro e wa ⟨rfl, ba⟩
  have HX := Lib.hid (show Lib.IsBuilder 82 5 W.heap.size W.heap.size (Lib.byteCells []) wa from HFR.out.elim (fun h => .inl (bld_next h ba)) fun h => .inr (bld_next h ba))
  have HB := Lib.hid (HB.out.trans (ba.mono (Nat.le_of_lt hs)))
  have hs := Nat.lt_of_lt_of_le hs ba.size
  clear c0 c1 c2 c3 c4 c5 c6 c7 c8 c9 c10 d0 d1 d2 d3 d4 d5 d6 d7
  clear ba
  have hMc := HM.out.below HB.out hs2
  have hHc := HH.out.below HB.out hg2
  obtain ⟨c0, c1, c2, c3, c4, c5, c6, c7, c8, c9, c10⟩ := msg_cells (m := m) (h := ⟨qa, qan, qac, qb, qbn, qbc⟩) hMc
  simp only at c9 c10
  obtain ⟨d0, d1, d2, d3, d4, d5, d6, d7⟩ := has_cells hHc
  clear hMc hHc
  go_wp2_with fail
  refine (ws_any W.heap.size [] (enc m.kind) (Nib.encB (m.kind)) _ (Nib.encB_list _).symm HX.out (by have := lkind.out; simp only [List.length_nil]; omega) (Nat.le_of_lt hs)).mono ?_
  rintro e wb ⟨rfl, hX, bX, _⟩
  have HX := Lib.hid (show BA W.heap.size (enc m.kind) wb from hX)
  have HB := Lib.hid (HB.out.trans bX)
  have hs := Nat.lt_of_lt_of_le hs bX.size
  clear c0 c1 c2 c3 c4 c5 c6 c7 c8 c9 c10 d0 d1 d2 d3 d4 d5 d6 d7
  clear hX bX
  have hMc := HM.out.below HB.out hs2
  have hHc := HH.out.below HB.out hg2
  obtain ⟨c0, c1, c2, c3, c4, c5, c6, c7, c8, c9, c10⟩ := msg_cells (m := m) (h := ⟨qa, qan, qac, qb, qbn, qbc⟩) hMc
  simp only at c9 c10
  obtain ⟨d0, d1, d2, d3, d4, d5, d6, d7⟩ := has_cells hHc
  clear hMc hHc
  have HLI := Lib.hid (show ((qbn : Nat) : Int) = (m.es.length : Int) from by rw [HLN.out])
  go_wp2_with fail
  refine (Nib.intB ((qbn : Nat) : Int) _ (by rw [HLI.out]; exact Hhfe.out)).mono ?_
  rw [HLI.out]
  rintro e wa ⟨rfl, ba⟩
  have HX := Lib.hid (bld_next HX.out ba)
  have HB := Lib.hid (HB.out.trans (ba.mono (Nat.le_of_lt hs)))
  have hs := Nat.lt_of_lt_of_le hs ba.size
  clear c0 c1 c2 c3 c4 c5 c6 c7 c8 c9 c10 d0 d1 d2 d3 d4 d5 d6 d7
  clear ba
  have hMc := HM.out.below HB.out hs2
  have hHc := HH.out.below HB.out hg2
  obtain ⟨c0, c1, c2, c3, c4, c5, c6, c7, c8, c9, c10⟩ := msg_cells (m := m) (h := ⟨qa, qan, qac, qb, qbn, qbc⟩) hMc
  simp only at c9 c10
  obtain ⟨d0, d1, d2, d3, d4, d5, d6, d7⟩ := has_cells hHc
  clear hMc hHc
  go_wp2_with fail
  refine (ws_any W.heap.size (enc m.kind) (enc (m.es.length : Int)) (Nib.encB (m.es.length : Int)) _ (Nib.encB_list _).symm (.inr HX.out) (by have := lkind.out; have := lE.out; (try simp only [List.length_append]); omega) (Nat.le_of_lt hs)).mono ?_
  rintro e wb ⟨rfl, hX, bX, _⟩
  have HX := Lib.hid (show BA W.heap.size (enc m.kind ++ enc (m.es.length : Int)) wb from hX)
  have HB := Lib.hid (HB.out.trans bX)
  have hs := Nat.lt_of_lt_of_le hs bX.size
  clear c0 c1 c2 c3 c4 c5 c6 c7 c8 c9 c10 d0 d1 d2 d3 d4 d5 d6 d7
  clear hX bX
  have hMc := HM.out.below HB.out hs2
  have hHc := HH.out.below HB.out hg2
  obtain ⟨c0, c1, c2, c3, c4, c5, c6, c7, c8, c9, c10⟩ := msg_cells (m := m) (h := ⟨qa, qan, qac, qb, qbn, qbc⟩) hMc
  simp only at c9 c10
  obtain ⟨d0, d1, d2, d3, d4, d5, d6, d7⟩ := has_cells hHc
  clear hMc hHc
  have HLL := Lib.hid (show (enc m.kind ++ enc (m.es.length : Int)).length ≤ 400 from (by have := lkind.out; have := lE.out; (try simp only [List.length_append]); omega))
  have HFIN := Lib.hid (show enc m.kind ++ enc (m.es.length : Int) ++ entsB m.es = bodyH hLog m from by unfold bodyH pPage pX pNeed pTxn pN pImage pCount; simp [hLog])
  generalize enc m.kind ++ enc (m.es.length : Int) = L at HX HLL HFIN
  clear c0 c1 c2 c3 c4 c5 c6 c7 c8 c9 c10 d0 d1 d2 d3 d4 d5 d6 d7
  have hMc := HM.out.below HB.out hs2
  have hHc := HH.out.below HB.out hg2
  obtain ⟨c0, c1, c2, c3, c4, c5, c6, c7, c8, c9, c10⟩ := msg_cells (m := m) (h := ⟨qa, qan, qac, qb, qbn, qbc⟩) hMc
  simp only at c9 c10
  obtain ⟨d0, d1, d2, d3, d4, d5, d6, d7⟩ := has_cells hHc
  clear hMc hHc
  go_wp2_with fail
  go_loopw [85] (fun i wr => ∃ k : Nat, k ≤ qbn ∧ i = .int .i64 (k : Int) ∧ BA W.heap.size (L ++ entsB (m.es.take k)) wr ∧ Below W.heap.size W wr) (fun i _ => qbn - (intOf i).toNat)
  case atStart => exact ⟨0, by omega, rfl, by simpa [entsB] using HX.out, HB.out⟩
  case round =>
    obtain ⟨k, hk, rfl, hX, hB⟩ := hrel
    have HX := Lib.hid hX
    have HB := Lib.hid hB
    clear hX hB
    by_cases hlt : k < qbn
    · have hEN : Ents wr qb qbn m.es := (HIN.out.below HB.out).e
      obtain ⟨b, off, x, rfl, hbl2, hg, hat, hsm⟩ := hEN.at_ hlt
      clear hEN
      obtain ⟨x0, x1, x2, x3, x4, x5, x6, x7, x8, x9, x10, x11, x12⟩ := hat.cells
      have hgx : Ent.goodB x = true := HEG.out x (List.mem_of_getElem? hg)
      have HNX := Lib.hid (entsB_take hg)
      have hlr := (Ent.raw_len hgx).2
      have hlk : (entsB (m.es.take k)).length ≤ 7424 := by
        have h1 := entsB_len (l := m.es.take k) (fun y hy => HEG.out y (List.mem_of_mem_take hy))
        have h2 : (m.es.take k).length ≤ 16 := by rw [List.length_take]; omega
        omega
      have HEE := Lib.hid (show Ent.encE x = arr (rawL x) from by unfold Ent.encE; rw [hgx]; rfl)
      have HSM := Lib.hid hsm
      have HLR := Lib.hid hlr
      have HLK := Lib.hid hlk
      clear hat hg hgx hlr hlk hsm
      have hsr : W.heap.size ≤ wr.heap.size := HB.out.size
      go_wp2_with fail
      have HB2 := Lib.hid (HB.out.trans ((below_box wr (.cells #[.int .i64 x.kind, .int .i64 x.cl, .int .i64 x.ep, .int .i64 x.n, .int .i64 x.lsn, .int .i64 x.prev, .int .i64 x.page, .int .i64 x.slot, .bool x.wu, .string x.wd, .bool x.iu, .string x.id, .int .i64 x.next] 56)).mono hsr))
      have HX2 := Lib.hid (bld_next HX.out (below_box wr (.cells #[.int .i64 x.kind, .int .i64 x.cl, .int .i64 x.ep, .int .i64 x.n, .int .i64 x.lsn, .int .i64 x.prev, .int .i64 x.page, .int .i64 x.slot, .bool x.wu, .string x.wd, .bool x.iu, .string x.id, .int .i64 x.next] 56)))
      have hsr2 : W.heap.size ≤ (wr.alloc (.cells #[.int .i64 x.kind, .int .i64 x.cl, .int .i64 x.ep, .int .i64 x.n, .int .i64 x.lsn, .int .i64 x.prev, .int .i64 x.page, .int .i64 x.slot, .bool x.wu, .string x.wd, .bool x.iu, .string x.id, .int .i64 x.next] 56)).heap.size := by simp; omega
      generalize hGen : wr.alloc (.cells #[.int .i64 x.kind, .int .i64 x.cl, .int .i64 x.ep, .int .i64 x.n, .int .i64 x.lsn, .int .i64 x.prev, .int .i64 x.page, .int .i64 x.slot, .bool x.wu, .string x.wd, .bool x.iu, .string x.id, .int .i64 x.next] 56) = w4 at HB2 HX2 hsr2 ⊢
      clear hGen
      refine (Ent.encode_any x _ HSM.out).mono ?_
      rw [HEE.out]
      rintro e w5 ⟨rfl, b5⟩
      have HB3 := Lib.hid (HB2.out.trans (b5.mono hsr2))
      have HX3 := Lib.hid (bld_next HX2.out b5)
      have hsr3 := Nat.le_trans hsr2 b5.size
      clear HB2 HX2 b5
      generalize Ent.codeE x = code
      go_wp2_with fail
      refine (ws_any W.heap.size (L ++ entsB (m.es.take k)) (rawL x) (arr (rawL x)) _ (arr_list _) (.inr HX3.out) (by have := HLL.out; have := HLR.out; have := HLK.out; simp only [List.length_append]; omega) hsr3).mono ?_
      rintro e w6 ⟨rfl, hX, bX, _⟩
      have HX4 := Lib.hid (show BA W.heap.size (L ++ entsB (m.es.take (k + 1))) w6 from by rw [HNX.out, ← List.append_assoc]; exact hX)
      have HB4 := Lib.hid (HB3.out.trans bX)
      clear hX bX
      go_wp2
      go_roundw
      case rel => exact ⟨k + 1, by omega, by go_num, HX4.out, HB4.out⟩
      case measure => simp [intOf]; omega
    · obtain rfl : qbn = k := by omega
      go_wp2_with fail
      have hss := Try.Builder_String_any W.heap.size W.heap.size _ _ (.inr HX.out) HB.out.size
      have hfin : (⟨(L ++ entsB (m.es.take qbn)).toArray⟩ : ByteArray) = arr (bodyH hLog m) := by rw [← HFIN.out, ← HLN.out, List.take_length]; rfl
      rw [hfin] at hss
      have HSS := Lib.hid hss
      clear hss hfin
      refine HSS.out.mono ?_
      rintro e w7 ⟨rfl, b7⟩
      go_wp2
      go_ret
      exact ⟨rfl, HB0.out.trans ((HB.out.trans b7).mono (Nat.le_of_lt hs2))⟩
theorem write_Log (m : Ms) (h : Hd) (w : World) (hi : In w m h) (hk : 1 ≤ m.kind ∧ m.kind ≤ 13) (hw : wholeB m hLog = true) (hr : bareB m hLog = true)
    (hp : ∀ w, Calls Try.prog 22 #[.int .i64 m.kind, .bool m.need] w fun e w' => e = .returned (.tuple #[.agg #[.bool false, .bool false, .bool false, .bool false, .bool false, .bool false, .bool false, .bool true], .bool true]) ∧ Below w.heap.size w w') :
    Calls Try.prog 21 #[.agg #[.int .i64 m.kind, .int .i64 m.page, .bool m.x, .bool m.need, .int .i64 m.n, .int .i64 m.cl, .int .i64 m.ep, .int .i64 m.tn, .int .i64 m.lsn, .slice h.a h.an h.ac, .slice h.b h.bn h.bc]] w fun e w' => e = .returned (.string (arr (bodyH hLog m))) ∧ Below w.heap.size w w' :=
  write_Log' m h.a h.an h.ac h.b h.bn h.bc w hi hk hw hr hp
set_option maxRecDepth 100000 in
set_option maxHeartbeats 4000000 in
theorem write_Image (m : Ms) (h : Hd) (w : World) (hi : In w m h) (hk : 1 ≤ m.kind ∧ m.kind ≤ 13) (hw : wholeB m hImage = true) (hr : bareB m hImage = true)
    (hp : ∀ w, Calls Try.prog 22 #[.int .i64 m.kind, .bool m.need] w fun e w' => e = .returned (.tuple #[.agg #[.bool true, .bool false, .bool false, .bool false, .bool false, .bool false, .bool true, .bool false], .bool true]) ∧ Below w.heap.size w w') :
    Calls Try.prog 21 #[.agg #[.int .i64 m.kind, .int .i64 m.page, .bool m.x, .bool m.need, .int .i64 m.n, .int .i64 m.cl, .int .i64 m.ep, .int .i64 m.tn, .int .i64 m.lsn, .slice h.a h.an h.ac, .slice h.b h.bn h.bc]] w fun e w' => e = .returned (.string (arr (bodyH hImage m))) ∧ Below w.heap.size w w' := by
  have hfk : Fits m.kind := ⟨by omega, by omega⟩
  have lkind := Lib.hid (Nib.enc_le hfk)
  obtain ⟨w1, w2, w3, w4, w5⟩ := whole_parts hw
  obtain ⟨r1, r2, r3, r4, r5, r6, r7⟩ := bare_parts hr
  have hfp : Fits m.page := ⟨by have := w1 rfl; omega, by have := w1 rfl; omega⟩
  have lpage := Lib.hid (Nib.enc_le hfp)
  have HIM := Lib.hid (w4 rfl)
  have limg := Lib.hid (show (Slab.encB m.lsn.toNat m.zs).length ≤ 240 from Nat.le_of_eq (Slab.encB_len (Slab.good_parts (w4 rfl)).2.2.2.2.2))
  have hes0 : m.es = [] := r7 rfl
  have HBN := Lib.hid (show h.bn = 0 from by have := hi.e.len; rw [hes0] at this; exact this.symm)
  have HES := Lib.hid hes0
  clear hes0
  have Hhfk := Lib.hid hfk
  clear hfk
  have Hhfp := Lib.hid hfp
  clear hfp
  have HLN := Lib.hid hi.e.len
  have han : h.an ≤ 1000000 := by have h1 := hi.s.len; have h2 := (Slab.good_parts (w4 rfl)).2.2.1; omega
  clear w1 w2 w3 w4 w5 r1 r2 r3 r4 r5 r6 r7 hw hr hk
  have hb := below_box w (.cells #[.int .i64 m.kind, .int .i64 m.page, .bool m.x, .bool m.need, .int .i64 m.n, .int .i64 m.cl, .int .i64 m.ep, .int .i64 m.tn, .int .i64 m.lsn, .slice h.a h.an h.ac, .slice h.b h.bn h.bc] 30)
  have hM := Blk.new w 30 #[.int .i64 m.kind, .int .i64 m.page, .bool m.x, .bool m.need, .int .i64 m.n, .int .i64 m.cl, .int .i64 m.ep, .int .i64 m.tn, .int .i64 m.lsn, .slice h.a h.an h.ac, .slice h.b h.bn h.bc]
  have hs := alloc_lt w (.cells #[.int .i64 m.kind, .int .i64 m.page, .bool m.x, .bool m.need, .int .i64 m.n, .int .i64 m.cl, .int .i64 m.ep, .int .i64 m.tn, .int .i64 m.lsn, .slice h.a h.an h.ac, .slice h.b h.bn h.bc] 30)
  have HP := Lib.hid hp
  have HI := Lib.hid hi
  clear hp hi
  go_enter Try.func21, Try.ntmps21
  try dsimp only [List.append]
  go_upto_region 1 with (fail)
  generalize hGen : w.alloc (.cells #[.int .i64 m.kind, .int .i64 m.page, .bool m.x, .bool m.need, .int .i64 m.n, .int .i64 m.cl, .int .i64 m.ep, .int .i64 m.tn, .int .i64 m.lsn, .slice h.a h.an h.ac, .slice h.b h.bn h.bc] 30) = W0 at hb hM hs ⊢
  clear hGen
  obtain ⟨c0, c1, c2, c3, c4, c5, c6, c7, c8, c9, c10⟩ := msg_cells hM
  go_wp2_with fail
  refine (HP.out _).mono ?_
  rintro e w1 ⟨rfl, b1⟩
  have hM1 := hM.below b1 hs
  have hb1 := below_next hb b1
  have hs1 := Nat.lt_of_lt_of_le hs b1.size
  clear c0 c1 c2 c3 c4 c5 c6 c7 c8 c9 c10 hM hb b1 hs
  go_upto_region 2 with (fail)
  have hM2 := hM1.alloc (.cells #[.bool true, .bool false, .bool false, .bool false, .bool false, .bool false, .bool true, .bool false] 61)
  have hH2 := Blk.new w1 61 #[.bool true, .bool false, .bool false, .bool false, .bool false, .bool false, .bool true, .bool false]
  have hb2 := below_next hb1 (below_box w1 (.cells #[.bool true, .bool false, .bool false, .bool false, .bool false, .bool false, .bool true, .bool false] 61))
  have hg2 := alloc_lt w1 (.cells #[.bool true, .bool false, .bool false, .bool false, .bool false, .bool false, .bool true, .bool false] 61)
  generalize hGen : w1.alloc (.cells #[.bool true, .bool false, .bool false, .bool false, .bool false, .bool false, .bool true, .bool false] 61) = W at hM2 hH2 hb2 hg2 ⊢
  clear hGen
  have hs2 : w.heap.size < W.heap.size := Nat.lt_trans hs1 hg2
  clear hM1 hb1
  generalize hGen : w1.heap.size = gh at hH2 hg2 hs1 ⊢
  clear hGen
  have HM := Lib.hid hM2
  have HH := Lib.hid hH2
  have HB0 := Lib.hid hb2
  clear hM2 hH2 hb2
  have HIN := Lib.hid (HI.out.below HB0.out)
  clear HI
  have HFR := Lib.hid (Lib.fresh_isBuilder 82 5 W)
  have HB := Lib.hid (below_box W (.cells #[.pointer none, .slice none 0 0] 82))
  have hs := alloc_lt W (.cells #[.pointer none, .slice none 0 0] 82)
  go_upto_region 3 with (fail)
  generalize hGen : W.alloc (.cells #[.pointer none, .slice none 0 0] 82) = w0 at HFR HB hs ⊢
  clear hGen
  have hMc := HM.out.below HB.out hs2
  have hHc := HH.out.below HB.out hg2
  obtain ⟨c0, c1, c2, c3, c4, c5, c6, c7, c8, c9, c10⟩ := msg_cells hMc
  obtain ⟨d0, d1, d2, d3, d4, d5, d6, d7⟩ := has_cells hHc
  clear hMc hHc
  go_wp2_with fail
  refine (Nib.intB (m.kind) _ Hhfk.out).mono ?_
  rintro e wa ⟨rfl, ba⟩
  have HX := Lib.hid (show Lib.IsBuilder 82 5 W.heap.size W.heap.size (Lib.byteCells []) wa from HFR.out.elim (fun h => .inl (bld_next h ba)) fun h => .inr (bld_next h ba))
  have HB := Lib.hid (HB.out.trans (ba.mono (Nat.le_of_lt hs)))
  have hs := Nat.lt_of_lt_of_le hs ba.size
  clear c0 c1 c2 c3 c4 c5 c6 c7 c8 c9 c10 d0 d1 d2 d3 d4 d5 d6 d7
  clear ba
  have hMc := HM.out.below HB.out hs2
  have hHc := HH.out.below HB.out hg2
  obtain ⟨c0, c1, c2, c3, c4, c5, c6, c7, c8, c9, c10⟩ := msg_cells hMc
  obtain ⟨d0, d1, d2, d3, d4, d5, d6, d7⟩ := has_cells hHc
  clear hMc hHc
  go_wp2_with fail
  refine (ws_any W.heap.size [] (enc m.kind) (Nib.encB (m.kind)) _ (Nib.encB_list _).symm HX.out (by have := lkind.out; simp only [List.length_nil]; omega) (Nat.le_of_lt hs)).mono ?_
  rintro e wb ⟨rfl, hX, bX, _⟩
  have HX := Lib.hid (show BA W.heap.size (enc m.kind) wb from hX)
  have HB := Lib.hid (HB.out.trans bX)
  have hs := Nat.lt_of_lt_of_le hs bX.size
  clear c0 c1 c2 c3 c4 c5 c6 c7 c8 c9 c10 d0 d1 d2 d3 d4 d5 d6 d7
  clear hX bX
  have hMc := HM.out.below HB.out hs2
  have hHc := HH.out.below HB.out hg2
  obtain ⟨c0, c1, c2, c3, c4, c5, c6, c7, c8, c9, c10⟩ := msg_cells hMc
  obtain ⟨d0, d1, d2, d3, d4, d5, d6, d7⟩ := has_cells hHc
  clear hMc hHc
  go_wp2_with fail
  refine (Nib.intB (m.page) _ Hhfp.out).mono ?_
  rintro e wa ⟨rfl, ba⟩
  have HX := Lib.hid (bld_next HX.out ba)
  have HB := Lib.hid (HB.out.trans (ba.mono (Nat.le_of_lt hs)))
  have hs := Nat.lt_of_lt_of_le hs ba.size
  clear c0 c1 c2 c3 c4 c5 c6 c7 c8 c9 c10 d0 d1 d2 d3 d4 d5 d6 d7
  clear ba
  have hMc := HM.out.below HB.out hs2
  have hHc := HH.out.below HB.out hg2
  obtain ⟨c0, c1, c2, c3, c4, c5, c6, c7, c8, c9, c10⟩ := msg_cells hMc
  obtain ⟨d0, d1, d2, d3, d4, d5, d6, d7⟩ := has_cells hHc
  clear hMc hHc
  go_wp2_with fail
  refine (ws_any W.heap.size (enc m.kind) (enc m.page) (Nib.encB (m.page)) _ (Nib.encB_list _).symm (.inr HX.out) (by have := lkind.out; have := lpage.out; have := limg.out; (try simp only [List.length_append]); omega) (Nat.le_of_lt hs)).mono ?_
  rintro e wb ⟨rfl, hX, bX, _⟩
  have HX := Lib.hid (show BA W.heap.size (enc m.kind ++ enc m.page) wb from hX)
  have HB := Lib.hid (HB.out.trans bX)
  have hs := Nat.lt_of_lt_of_le hs bX.size
  clear c0 c1 c2 c3 c4 c5 c6 c7 c8 c9 c10 d0 d1 d2 d3 d4 d5 d6 d7
  clear hX bX
  have hMc := HM.out.below HB.out hs2
  have hHc := HH.out.below HB.out hg2
  obtain ⟨c0, c1, c2, c3, c4, c5, c6, c7, c8, c9, c10⟩ := msg_cells hMc
  obtain ⟨d0, d1, d2, d3, d4, d5, d6, d7⟩ := has_cells hHc
  clear hMc hHc
  have HEI := Lib.hid (show Slab.encS' m.lsn m.zs = arr (Slab.encB m.lsn.toNat m.zs) from by unfold Slab.encS'; rw [HIM.out]; rfl)
  go_wp2_with fail
  refine (Slab.enc_any m.lsn h.a h.an h.ac m.zs _ (HIN.out.below HB.out).s han).mono ?_
  rw [HEI.out]
  rintro e wa ⟨rfl, ba⟩
  have HX := Lib.hid (bld_next HX.out ba)
  have HB := Lib.hid (HB.out.trans (ba.mono (Nat.le_of_lt hs)))
  have hs := Nat.lt_of_lt_of_le hs ba.size
  clear c0 c1 c2 c3 c4 c5 c6 c7 c8 c9 c10 d0 d1 d2 d3 d4 d5 d6 d7
  clear ba
  generalize Slab.encCode m.lsn m.zs = code
  have hMc := HM.out.below HB.out hs2
  have hHc := HH.out.below HB.out hg2
  obtain ⟨c0, c1, c2, c3, c4, c5, c6, c7, c8, c9, c10⟩ := msg_cells hMc
  obtain ⟨d0, d1, d2, d3, d4, d5, d6, d7⟩ := has_cells hHc
  clear hMc hHc
  go_wp2_with fail
  refine (ws_any W.heap.size (enc m.kind ++ enc m.page) (Slab.encB m.lsn.toNat m.zs) (arr (Slab.encB m.lsn.toNat m.zs)) _ (arr_list _) (.inr HX.out) (by have := lkind.out; have := lpage.out; have := limg.out; (try simp only [List.length_append]); omega) (Nat.le_of_lt hs)).mono ?_
  rintro e wb ⟨rfl, hX, bX, _⟩
  have HX := Lib.hid (show BA W.heap.size (enc m.kind ++ enc m.page ++ Slab.encB m.lsn.toNat m.zs) wb from hX)
  have HB := Lib.hid (HB.out.trans bX)
  have hs := Nat.lt_of_lt_of_le hs bX.size
  clear c0 c1 c2 c3 c4 c5 c6 c7 c8 c9 c10 d0 d1 d2 d3 d4 d5 d6 d7
  clear hX bX
  have hMc := HM.out.below HB.out hs2
  have hHc := HH.out.below HB.out hg2
  obtain ⟨c0, c1, c2, c3, c4, c5, c6, c7, c8, c9, c10⟩ := msg_cells hMc
  obtain ⟨d0, d1, d2, d3, d4, d5, d6, d7⟩ := has_cells hHc
  clear hMc hHc
  have HLL := Lib.hid (show (enc m.kind ++ enc m.page ++ Slab.encB m.lsn.toNat m.zs).length ≤ 400 from (by have := lkind.out; have := lpage.out; have := limg.out; (try simp only [List.length_append]); omega))
  have HFIN := Lib.hid (show enc m.kind ++ enc m.page ++ Slab.encB m.lsn.toNat m.zs ++ entsB m.es = bodyH hImage m from by unfold bodyH pPage pX pNeed pTxn pN pImage pCount; rw [HES.out]; simp [hImage])
  generalize enc m.kind ++ enc m.page ++ Slab.encB m.lsn.toNat m.zs = L at HX HLL HFIN
  clear c0 c1 c2 c3 c4 c5 c6 c7 c8 c9 c10 d0 d1 d2 d3 d4 d5 d6 d7
  have hMc := HM.out.below HB.out hs2
  have hHc := HH.out.below HB.out hg2
  obtain ⟨c0, c1, c2, c3, c4, c5, c6, c7, c8, c9, c10⟩ := msg_cells hMc
  obtain ⟨d0, d1, d2, d3, d4, d5, d6, d7⟩ := has_cells hHc
  clear hMc hHc
  have HFIN := Lib.hid (show L ++ entsB (m.es.take 0) = bodyH hImage m from by rw [← HFIN.out, HES.out]; rfl)
  rw [HBN.out] at c10
  go_wp2_with fail
  go_loopw [85] (fun i wr => i = .int .i64 0 ∧ BA W.heap.size L wr ∧ Below W.heap.size W wr) (fun _ _ => 0)
  case atStart => exact ⟨rfl, HX.out, HB.out⟩
  case round =>
    obtain ⟨rfl, hX, hB⟩ := hrel
    have HX := Lib.hid hX
    have HB := Lib.hid hB
    clear hX hB
    go_wp2_with fail
    have hss := Try.Builder_String_any W.heap.size W.heap.size _ _ (.inr HX.out) HB.out.size
    have hfin : (⟨(L).toArray⟩ : ByteArray) = arr (bodyH hImage m) := by rw [← HFIN.out]; simp [entsB, arr]
    rw [hfin] at hss
    have HSS := Lib.hid hss
    clear hss hfin
    refine HSS.out.mono ?_
    rintro e w7 ⟨rfl, b7⟩
    go_wp2
    go_ret
    exact ⟨rfl, HB0.out.trans ((HB.out.trans b7).mono (Nat.le_of_lt hs2))⟩
set_option maxRecDepth 100000 in
set_option maxHeartbeats 4000000 in
theorem write_Txn (m : Ms) (h : Hd) (w : World) (hi : In w m h) (hk : 1 ≤ m.kind ∧ m.kind ≤ 13) (hw : wholeB m hTxn = true) (hr : bareB m hTxn = true)
    (hp : ∀ w, Calls Try.prog 22 #[.int .i64 m.kind, .bool m.need] w fun e w' => e = .returned (.tuple #[.agg #[.bool false, .bool false, .bool false, .bool true, .bool false, .bool false, .bool false, .bool false], .bool true]) ∧ Below w.heap.size w w') :
    Calls Try.prog 21 #[.agg #[.int .i64 m.kind, .int .i64 m.page, .bool m.x, .bool m.need, .int .i64 m.n, .int .i64 m.cl, .int .i64 m.ep, .int .i64 m.tn, .int .i64 m.lsn, .slice h.a h.an h.ac, .slice h.b h.bn h.bc]] w fun e w' => e = .returned (.string (arr (bodyH hTxn m))) ∧ Below w.heap.size w w' := by
  have hfk : Fits m.kind := ⟨by omega, by omega⟩
  have lkind := Lib.hid (Nib.enc_le hfk)
  obtain ⟨w1, w2, w3, w4, w5⟩ := whole_parts hw
  obtain ⟨r1, r2, r3, r4, r5, r6, r7⟩ := bare_parts hr
  obtain ⟨hf1, hf2, hf3⟩ := known_fits (w2 rfl)
  have l1 := Lib.hid (Nib.enc_le hf1)
  have l2 := Lib.hid (Nib.enc_le hf2)
  have l3 := Lib.hid (Nib.enc_le hf3)
  have HF := Lib.hid (And.intro hf1 (And.intro hf2 hf3))
  clear hf1 hf2 hf3
  have hes0 : m.es = [] := r7 rfl
  have HBN := Lib.hid (show h.bn = 0 from by have := hi.e.len; rw [hes0] at this; exact this.symm)
  have HES := Lib.hid hes0
  clear hes0
  have Hhfk := Lib.hid hfk
  clear hfk
  have HLN := Lib.hid hi.e.len
  clear w1 w2 w3 w4 w5 r1 r2 r3 r4 r5 r6 r7 hw hr hk
  have hb := below_box w (.cells #[.int .i64 m.kind, .int .i64 m.page, .bool m.x, .bool m.need, .int .i64 m.n, .int .i64 m.cl, .int .i64 m.ep, .int .i64 m.tn, .int .i64 m.lsn, .slice h.a h.an h.ac, .slice h.b h.bn h.bc] 30)
  have hM := Blk.new w 30 #[.int .i64 m.kind, .int .i64 m.page, .bool m.x, .bool m.need, .int .i64 m.n, .int .i64 m.cl, .int .i64 m.ep, .int .i64 m.tn, .int .i64 m.lsn, .slice h.a h.an h.ac, .slice h.b h.bn h.bc]
  have hs := alloc_lt w (.cells #[.int .i64 m.kind, .int .i64 m.page, .bool m.x, .bool m.need, .int .i64 m.n, .int .i64 m.cl, .int .i64 m.ep, .int .i64 m.tn, .int .i64 m.lsn, .slice h.a h.an h.ac, .slice h.b h.bn h.bc] 30)
  have HP := Lib.hid hp
  have HI := Lib.hid hi
  clear hp hi
  go_enter Try.func21, Try.ntmps21
  try dsimp only [List.append]
  go_upto_region 1 with (fail)
  generalize hGen : w.alloc (.cells #[.int .i64 m.kind, .int .i64 m.page, .bool m.x, .bool m.need, .int .i64 m.n, .int .i64 m.cl, .int .i64 m.ep, .int .i64 m.tn, .int .i64 m.lsn, .slice h.a h.an h.ac, .slice h.b h.bn h.bc] 30) = W0 at hb hM hs ⊢
  clear hGen
  obtain ⟨c0, c1, c2, c3, c4, c5, c6, c7, c8, c9, c10⟩ := msg_cells hM
  go_wp2_with fail
  refine (HP.out _).mono ?_
  rintro e w1 ⟨rfl, b1⟩
  have hM1 := hM.below b1 hs
  have hb1 := below_next hb b1
  have hs1 := Nat.lt_of_lt_of_le hs b1.size
  clear c0 c1 c2 c3 c4 c5 c6 c7 c8 c9 c10 hM hb b1 hs
  go_upto_region 2 with (fail)
  have hM2 := hM1.alloc (.cells #[.bool false, .bool false, .bool false, .bool true, .bool false, .bool false, .bool false, .bool false] 61)
  have hH2 := Blk.new w1 61 #[.bool false, .bool false, .bool false, .bool true, .bool false, .bool false, .bool false, .bool false]
  have hb2 := below_next hb1 (below_box w1 (.cells #[.bool false, .bool false, .bool false, .bool true, .bool false, .bool false, .bool false, .bool false] 61))
  have hg2 := alloc_lt w1 (.cells #[.bool false, .bool false, .bool false, .bool true, .bool false, .bool false, .bool false, .bool false] 61)
  generalize hGen : w1.alloc (.cells #[.bool false, .bool false, .bool false, .bool true, .bool false, .bool false, .bool false, .bool false] 61) = W at hM2 hH2 hb2 hg2 ⊢
  clear hGen
  have hs2 : w.heap.size < W.heap.size := Nat.lt_trans hs1 hg2
  clear hM1 hb1
  generalize hGen : w1.heap.size = gh at hH2 hg2 hs1 ⊢
  clear hGen
  have HM := Lib.hid hM2
  have HH := Lib.hid hH2
  have HB0 := Lib.hid hb2
  clear hM2 hH2 hb2
  have HIN := Lib.hid (HI.out.below HB0.out)
  clear HI
  have HFR := Lib.hid (Lib.fresh_isBuilder 82 5 W)
  have HB := Lib.hid (below_box W (.cells #[.pointer none, .slice none 0 0] 82))
  have hs := alloc_lt W (.cells #[.pointer none, .slice none 0 0] 82)
  go_upto_region 3 with (fail)
  generalize hGen : W.alloc (.cells #[.pointer none, .slice none 0 0] 82) = w0 at HFR HB hs ⊢
  clear hGen
  have hMc := HM.out.below HB.out hs2
  have hHc := HH.out.below HB.out hg2
  obtain ⟨c0, c1, c2, c3, c4, c5, c6, c7, c8, c9, c10⟩ := msg_cells hMc
  obtain ⟨d0, d1, d2, d3, d4, d5, d6, d7⟩ := has_cells hHc
  clear hMc hHc
  go_wp2_with fail
  refine (Nib.intB (m.kind) _ Hhfk.out).mono ?_
  rintro e wa ⟨rfl, ba⟩
  have HX := Lib.hid (show Lib.IsBuilder 82 5 W.heap.size W.heap.size (Lib.byteCells []) wa from HFR.out.elim (fun h => .inl (bld_next h ba)) fun h => .inr (bld_next h ba))
  have HB := Lib.hid (HB.out.trans (ba.mono (Nat.le_of_lt hs)))
  have hs := Nat.lt_of_lt_of_le hs ba.size
  clear c0 c1 c2 c3 c4 c5 c6 c7 c8 c9 c10 d0 d1 d2 d3 d4 d5 d6 d7
  clear ba
  have hMc := HM.out.below HB.out hs2
  have hHc := HH.out.below HB.out hg2
  obtain ⟨c0, c1, c2, c3, c4, c5, c6, c7, c8, c9, c10⟩ := msg_cells hMc
  obtain ⟨d0, d1, d2, d3, d4, d5, d6, d7⟩ := has_cells hHc
  clear hMc hHc
  go_wp2_with fail
  refine (ws_any W.heap.size [] (enc m.kind) (Nib.encB (m.kind)) _ (Nib.encB_list _).symm HX.out (by have := lkind.out; simp only [List.length_nil]; omega) (Nat.le_of_lt hs)).mono ?_
  rintro e wb ⟨rfl, hX, bX, _⟩
  have HX := Lib.hid (show BA W.heap.size (enc m.kind) wb from hX)
  have HB := Lib.hid (HB.out.trans bX)
  have hs := Nat.lt_of_lt_of_le hs bX.size
  clear c0 c1 c2 c3 c4 c5 c6 c7 c8 c9 c10 d0 d1 d2 d3 d4 d5 d6 d7
  clear hX bX
  have hMc := HM.out.below HB.out hs2
  have hHc := HH.out.below HB.out hg2
  obtain ⟨c0, c1, c2, c3, c4, c5, c6, c7, c8, c9, c10⟩ := msg_cells hMc
  obtain ⟨d0, d1, d2, d3, d4, d5, d6, d7⟩ := has_cells hHc
  clear hMc hHc
  go_upto_region 11 with (fail)
  clear c0 c1 c2 c3 c4 c5 c6 c7 c8 c9 c10 d0 d1 d2 d3 d4 d5 d6 d7
  have hMc := HM.out.below HB.out hs2
  have hS : wb.cell? ⟨w.heap.size, 5, none⟩ = some (.int .i64 m.cl) ∧ wb.cell? ⟨w.heap.size, 5 + 1, none⟩ = some (.int .i64 m.ep) ∧ wb.cell? ⟨w.heap.size, 5 + 2, none⟩ = some (.int .i64 m.tn) := ⟨hMc.cell 5, hMc.cell 6, hMc.cell 7⟩
  clear hMc
  have HS := Lib.hid hS
  have hI1 := Lib.hid (fun w => Nib.intB m.cl w HF.out.1)
  have hI2 := Lib.hid (fun w => Nib.intB m.ep w HF.out.2.1)
  have hI3 := Lib.hid (fun w => Nib.intB m.tn w HF.out.2.2)
  have HCAT := Lib.hid (show (Nib.encB m.cl ++ Nib.encB m.ep ++ Nib.encB m.tn).data.toList = enc m.cl ++ (enc m.ep ++ enc m.tn) from by simp only [Ent.app_list, ← Nib.encB_list, List.append_assoc])
  have hz1 : (Nib.encB m.cl).size ≤ 10 := Nib.encB_le HF.out.1
  have hz2 : (Nib.encB m.ep).size ≤ 10 := Nib.encB_le HF.out.2.1
  have hz3 : (Nib.encB m.tn).size ≤ 10 := Nib.encB_le HF.out.2.2
  generalize Nib.encB m.cl = E1 at hI1 HCAT hz1
  generalize Nib.encB m.ep = E2 at hI2 HCAT hz2
  generalize Nib.encB m.tn = E3 at hI3 HCAT hz3
  have HWS := Lib.hid (fun (w' : World) (hb' : Below wb.heap.size wb w') => ws_any W.heap.size (enc m.kind) (enc m.cl ++ (enc m.ep ++ enc m.tn)) (E1 ++ E2 ++ E3) w' HCAT.out (.inr (bld_next HX.out hb')) (by have := lkind.out; have := l1.out; have := l2.out; have := l3.out; (try simp only [List.length_append]); omega) (Nat.le_trans (Nat.le_of_lt hs) hb'.size))
  have h12 : (E1 ++ E2).size ≤ 20 := by rw [ByteArray.size_append]; omega
  have hadd1 : ∀ W, (Op.stringOp .add E1 E2).run Try.prog W = .ok (.string (E1 ++ E2)) W := fun W => run_string_add_sum W _ _ (by omega)
  have hadd2 : ∀ W, (Op.stringOp .add (E1 ++ E2) E3).run Try.prog W = .ok (.string (E1 ++ E2 ++ E3)) W := fun W => run_string_add_sum W _ _ (by omega)
  go_region_held3 (fun w' => w'.cell? ⟨w.heap.size, 5, none⟩ = some (.int .i64 m.cl) ∧ w'.cell? ⟨w.heap.size, 5 + 1, none⟩ = some (.int .i64 m.ep) ∧ w'.cell? ⟨w.heap.size, 5 + 2, none⟩ = some (.int .i64 m.tn)) (first | assumption | exact HS.out) (first
    | (go_at_call 36; (with_reducible refine (hI1.out _).mono ?_); rintro e wA ⟨rfl, bq⟩; have hbW := nextW (W := wb) (by first | assumption | exact (Below.refl _ _).drew) bq; have hz := cells3 HS.out hbW (Nat.lt_trans hs2 hs))
    | (go_at_call 36; (with_reducible refine (hI2.out _).mono ?_); rintro e wA ⟨rfl, bq⟩; have hbW := nextW (W := wb) (by first | assumption | exact (Below.refl _ _).drew) bq; have hz := cells3 HS.out hbW (Nat.lt_trans hs2 hs))
    | (go_at_call 36; (with_reducible refine (hI3.out _).mono ?_); rintro e wA ⟨rfl, bq⟩; have hbW := nextW (W := wb) (by first | assumption | exact (Below.refl _ _).drew) bq; have hz := cells3 HS.out hbW (Nat.lt_trans hs2 hs))
    | (go_at_call 35; (with_reducible refine (HWS.out _ ?_).mono ?_); (first | assumption | exact (Below.refl _ _).drew); rintro e wW ⟨rfl, hX, bX, _⟩; have hz4 := cells3 hz bX hs2))
  all_goals
  have HX := Lib.hid (show BA W.heap.size (enc m.kind ++ (enc m.cl ++ (enc m.ep ++ enc m.tn))) wW from hX)
  have HB := Lib.hid ((HB.out.trans (hbW.mono (Nat.le_of_lt hs))).trans bX)
  have hs := Nat.lt_of_lt_of_le (Nat.lt_of_lt_of_le hs hbW.size) bX.size
  clear hX bX hz hz4 hbW bq hS HWS
  have hMc := HM.out.below HB.out hs2
  have hHc := HH.out.below HB.out hg2
  obtain ⟨c0, c1, c2, c3, c4, c5, c6, c7, c8, c9, c10⟩ := msg_cells hMc
  obtain ⟨d0, d1, d2, d3, d4, d5, d6, d7⟩ := has_cells hHc
  clear hMc hHc
  have HLL := Lib.hid (show (enc m.kind ++ (enc m.cl ++ (enc m.ep ++ enc m.tn))).length ≤ 400 from (by have := lkind.out; have := l1.out; have := l2.out; have := l3.out; (try simp only [List.length_append]); omega))
  have HFIN := Lib.hid (show enc m.kind ++ (enc m.cl ++ (enc m.ep ++ enc m.tn)) ++ entsB m.es = bodyH hTxn m from by unfold bodyH pPage pX pNeed pTxn pN pImage pCount; rw [HES.out]; simp [hTxn])
  generalize enc m.kind ++ (enc m.cl ++ (enc m.ep ++ enc m.tn)) = L at HX HLL HFIN
  clear c0 c1 c2 c3 c4 c5 c6 c7 c8 c9 c10 d0 d1 d2 d3 d4 d5 d6 d7
  have hMc := HM.out.below HB.out hs2
  have hHc := HH.out.below HB.out hg2
  obtain ⟨c0, c1, c2, c3, c4, c5, c6, c7, c8, c9, c10⟩ := msg_cells hMc
  obtain ⟨d0, d1, d2, d3, d4, d5, d6, d7⟩ := has_cells hHc
  clear hMc hHc
  have HFIN := Lib.hid (show L ++ entsB (m.es.take 0) = bodyH hTxn m from by rw [← HFIN.out, HES.out]; rfl)
  rw [HBN.out] at c10
  go_wp2_with fail
  go_loopw [85] (fun i wr => i = .int .i64 0 ∧ BA W.heap.size L wr ∧ Below W.heap.size W wr) (fun _ _ => 0)
  case atStart => exact ⟨rfl, HX.out, HB.out⟩
  case round =>
    obtain ⟨rfl, hX, hB⟩ := hrel
    have HX := Lib.hid hX
    have HB := Lib.hid hB
    clear hX hB
    go_wp2_with fail
    have hss := Try.Builder_String_any W.heap.size W.heap.size _ _ (.inr HX.out) HB.out.size
    have hfin : (⟨(L).toArray⟩ : ByteArray) = arr (bodyH hTxn m) := by rw [← HFIN.out]; simp [entsB, arr]
    rw [hfin] at hss
    have HSS := Lib.hid hss
    clear hss hfin
    refine HSS.out.mono ?_
    rintro e w7 ⟨rfl, b7⟩
    go_wp2
    go_ret
    exact ⟨rfl, HB0.out.trans ((HB.out.trans b7).mono (Nat.le_of_lt hs2))⟩
set_option maxRecDepth 100000 in
set_option maxHeartbeats 4000000 in
theorem write_Space (m : Ms) (h : Hd) (w : World) (hi : In w m h) (hk : 1 ≤ m.kind ∧ m.kind ≤ 13) (hw : wholeB m hSpace = true) (hr : bareB m hSpace = true)
    (hp : ∀ w, Calls Try.prog 22 #[.int .i64 m.kind, .bool m.need] w fun e w' => e = .returned (.tuple #[.agg #[.bool false, .bool false, .bool false, .bool false, .bool true, .bool false, .bool false, .bool false], .bool true]) ∧ Below w.heap.size w w') :
    Calls Try.prog 21 #[.agg #[.int .i64 m.kind, .int .i64 m.page, .bool m.x, .bool m.need, .int .i64 m.n, .int .i64 m.cl, .int .i64 m.ep, .int .i64 m.tn, .int .i64 m.lsn, .slice h.a h.an h.ac, .slice h.b h.bn h.bc]] w fun e w' => e = .returned (.string (arr (bodyH hSpace m))) ∧ Below w.heap.size w w' := by
  have hfk : Fits m.kind := ⟨by omega, by omega⟩
  have lkind := Lib.hid (Nib.enc_le hfk)
  obtain ⟨w1, w2, w3, w4, w5⟩ := whole_parts hw
  obtain ⟨r1, r2, r3, r4, r5, r6, r7⟩ := bare_parts hr
  have hfn : Fits m.n := ⟨by have := w3 rfl; omega, by have := w3 rfl; omega⟩
  have lN := Lib.hid (Nib.enc_le hfn)
  have hes0 : m.es = [] := r7 rfl
  have HBN := Lib.hid (show h.bn = 0 from by have := hi.e.len; rw [hes0] at this; exact this.symm)
  have HES := Lib.hid hes0
  clear hes0
  have Hhfk := Lib.hid hfk
  clear hfk
  have Hhfn := Lib.hid hfn
  clear hfn
  have HLN := Lib.hid hi.e.len
  clear w1 w2 w3 w4 w5 r1 r2 r3 r4 r5 r6 r7 hw hr hk
  have hb := below_box w (.cells #[.int .i64 m.kind, .int .i64 m.page, .bool m.x, .bool m.need, .int .i64 m.n, .int .i64 m.cl, .int .i64 m.ep, .int .i64 m.tn, .int .i64 m.lsn, .slice h.a h.an h.ac, .slice h.b h.bn h.bc] 30)
  have hM := Blk.new w 30 #[.int .i64 m.kind, .int .i64 m.page, .bool m.x, .bool m.need, .int .i64 m.n, .int .i64 m.cl, .int .i64 m.ep, .int .i64 m.tn, .int .i64 m.lsn, .slice h.a h.an h.ac, .slice h.b h.bn h.bc]
  have hs := alloc_lt w (.cells #[.int .i64 m.kind, .int .i64 m.page, .bool m.x, .bool m.need, .int .i64 m.n, .int .i64 m.cl, .int .i64 m.ep, .int .i64 m.tn, .int .i64 m.lsn, .slice h.a h.an h.ac, .slice h.b h.bn h.bc] 30)
  have HP := Lib.hid hp
  have HI := Lib.hid hi
  clear hp hi
  go_enter Try.func21, Try.ntmps21
  try dsimp only [List.append]
  go_upto_region 1 with (fail)
  generalize hGen : w.alloc (.cells #[.int .i64 m.kind, .int .i64 m.page, .bool m.x, .bool m.need, .int .i64 m.n, .int .i64 m.cl, .int .i64 m.ep, .int .i64 m.tn, .int .i64 m.lsn, .slice h.a h.an h.ac, .slice h.b h.bn h.bc] 30) = W0 at hb hM hs ⊢
  clear hGen
  obtain ⟨c0, c1, c2, c3, c4, c5, c6, c7, c8, c9, c10⟩ := msg_cells hM
  go_wp2_with fail
  refine (HP.out _).mono ?_
  rintro e w1 ⟨rfl, b1⟩
  have hM1 := hM.below b1 hs
  have hb1 := below_next hb b1
  have hs1 := Nat.lt_of_lt_of_le hs b1.size
  clear c0 c1 c2 c3 c4 c5 c6 c7 c8 c9 c10 hM hb b1 hs
  go_upto_region 2 with (fail)
  have hM2 := hM1.alloc (.cells #[.bool false, .bool false, .bool false, .bool false, .bool true, .bool false, .bool false, .bool false] 61)
  have hH2 := Blk.new w1 61 #[.bool false, .bool false, .bool false, .bool false, .bool true, .bool false, .bool false, .bool false]
  have hb2 := below_next hb1 (below_box w1 (.cells #[.bool false, .bool false, .bool false, .bool false, .bool true, .bool false, .bool false, .bool false] 61))
  have hg2 := alloc_lt w1 (.cells #[.bool false, .bool false, .bool false, .bool false, .bool true, .bool false, .bool false, .bool false] 61)
  generalize hGen : w1.alloc (.cells #[.bool false, .bool false, .bool false, .bool false, .bool true, .bool false, .bool false, .bool false] 61) = W at hM2 hH2 hb2 hg2 ⊢
  clear hGen
  have hs2 : w.heap.size < W.heap.size := Nat.lt_trans hs1 hg2
  clear hM1 hb1
  generalize hGen : w1.heap.size = gh at hH2 hg2 hs1 ⊢
  clear hGen
  have HM := Lib.hid hM2
  have HH := Lib.hid hH2
  have HB0 := Lib.hid hb2
  clear hM2 hH2 hb2
  have HIN := Lib.hid (HI.out.below HB0.out)
  clear HI
  have HFR := Lib.hid (Lib.fresh_isBuilder 82 5 W)
  have HB := Lib.hid (below_box W (.cells #[.pointer none, .slice none 0 0] 82))
  have hs := alloc_lt W (.cells #[.pointer none, .slice none 0 0] 82)
  go_upto_region 3 with (fail)
  generalize hGen : W.alloc (.cells #[.pointer none, .slice none 0 0] 82) = w0 at HFR HB hs ⊢
  clear hGen
  have hMc := HM.out.below HB.out hs2
  have hHc := HH.out.below HB.out hg2
  obtain ⟨c0, c1, c2, c3, c4, c5, c6, c7, c8, c9, c10⟩ := msg_cells hMc
  obtain ⟨d0, d1, d2, d3, d4, d5, d6, d7⟩ := has_cells hHc
  clear hMc hHc
  go_wp2_with fail
  refine (Nib.intB (m.kind) _ Hhfk.out).mono ?_
  rintro e wa ⟨rfl, ba⟩
  have HX := Lib.hid (show Lib.IsBuilder 82 5 W.heap.size W.heap.size (Lib.byteCells []) wa from HFR.out.elim (fun h => .inl (bld_next h ba)) fun h => .inr (bld_next h ba))
  have HB := Lib.hid (HB.out.trans (ba.mono (Nat.le_of_lt hs)))
  have hs := Nat.lt_of_lt_of_le hs ba.size
  clear c0 c1 c2 c3 c4 c5 c6 c7 c8 c9 c10 d0 d1 d2 d3 d4 d5 d6 d7
  clear ba
  have hMc := HM.out.below HB.out hs2
  have hHc := HH.out.below HB.out hg2
  obtain ⟨c0, c1, c2, c3, c4, c5, c6, c7, c8, c9, c10⟩ := msg_cells hMc
  obtain ⟨d0, d1, d2, d3, d4, d5, d6, d7⟩ := has_cells hHc
  clear hMc hHc
  go_wp2_with fail
  refine (ws_any W.heap.size [] (enc m.kind) (Nib.encB (m.kind)) _ (Nib.encB_list _).symm HX.out (by have := lkind.out; simp only [List.length_nil]; omega) (Nat.le_of_lt hs)).mono ?_
  rintro e wb ⟨rfl, hX, bX, _⟩
  have HX := Lib.hid (show BA W.heap.size (enc m.kind) wb from hX)
  have HB := Lib.hid (HB.out.trans bX)
  have hs := Nat.lt_of_lt_of_le hs bX.size
  clear c0 c1 c2 c3 c4 c5 c6 c7 c8 c9 c10 d0 d1 d2 d3 d4 d5 d6 d7
  clear hX bX
  have hMc := HM.out.below HB.out hs2
  have hHc := HH.out.below HB.out hg2
  obtain ⟨c0, c1, c2, c3, c4, c5, c6, c7, c8, c9, c10⟩ := msg_cells hMc
  obtain ⟨d0, d1, d2, d3, d4, d5, d6, d7⟩ := has_cells hHc
  clear hMc hHc
  go_wp2_with fail
  refine (Nib.intB (m.n) _ Hhfn.out).mono ?_
  rintro e wa ⟨rfl, ba⟩
  have HX := Lib.hid (bld_next HX.out ba)
  have HB := Lib.hid (HB.out.trans (ba.mono (Nat.le_of_lt hs)))
  have hs := Nat.lt_of_lt_of_le hs ba.size
  clear c0 c1 c2 c3 c4 c5 c6 c7 c8 c9 c10 d0 d1 d2 d3 d4 d5 d6 d7
  clear ba
  have hMc := HM.out.below HB.out hs2
  have hHc := HH.out.below HB.out hg2
  obtain ⟨c0, c1, c2, c3, c4, c5, c6, c7, c8, c9, c10⟩ := msg_cells hMc
  obtain ⟨d0, d1, d2, d3, d4, d5, d6, d7⟩ := has_cells hHc
  clear hMc hHc
  go_wp2_with fail
  refine (ws_any W.heap.size (enc m.kind) (enc m.n) (Nib.encB (m.n)) _ (Nib.encB_list _).symm (.inr HX.out) (by have := lkind.out; have := lN.out; (try simp only [List.length_append]); omega) (Nat.le_of_lt hs)).mono ?_
  rintro e wb ⟨rfl, hX, bX, _⟩
  have HX := Lib.hid (show BA W.heap.size (enc m.kind ++ enc m.n) wb from hX)
  have HB := Lib.hid (HB.out.trans bX)
  have hs := Nat.lt_of_lt_of_le hs bX.size
  clear c0 c1 c2 c3 c4 c5 c6 c7 c8 c9 c10 d0 d1 d2 d3 d4 d5 d6 d7
  clear hX bX
  have hMc := HM.out.below HB.out hs2
  have hHc := HH.out.below HB.out hg2
  obtain ⟨c0, c1, c2, c3, c4, c5, c6, c7, c8, c9, c10⟩ := msg_cells hMc
  obtain ⟨d0, d1, d2, d3, d4, d5, d6, d7⟩ := has_cells hHc
  clear hMc hHc
  have HLL := Lib.hid (show (enc m.kind ++ enc m.n).length ≤ 400 from (by have := lkind.out; have := lN.out; (try simp only [List.length_append]); omega))
  have HFIN := Lib.hid (show enc m.kind ++ enc m.n ++ entsB m.es = bodyH hSpace m from by unfold bodyH pPage pX pNeed pTxn pN pImage pCount; rw [HES.out]; simp [hSpace])
  generalize enc m.kind ++ enc m.n = L at HX HLL HFIN
  clear c0 c1 c2 c3 c4 c5 c6 c7 c8 c9 c10 d0 d1 d2 d3 d4 d5 d6 d7
  have hMc := HM.out.below HB.out hs2
  have hHc := HH.out.below HB.out hg2
  obtain ⟨c0, c1, c2, c3, c4, c5, c6, c7, c8, c9, c10⟩ := msg_cells hMc
  obtain ⟨d0, d1, d2, d3, d4, d5, d6, d7⟩ := has_cells hHc
  clear hMc hHc
  have HFIN := Lib.hid (show L ++ entsB (m.es.take 0) = bodyH hSpace m from by rw [← HFIN.out, HES.out]; rfl)
  rw [HBN.out] at c10
  go_wp2_with fail
  go_loopw [85] (fun i wr => i = .int .i64 0 ∧ BA W.heap.size L wr ∧ Below W.heap.size W wr) (fun _ _ => 0)
  case atStart => exact ⟨rfl, HX.out, HB.out⟩
  case round =>
    obtain ⟨rfl, hX, hB⟩ := hrel
    have HX := Lib.hid hX
    have HB := Lib.hid hB
    clear hX hB
    go_wp2_with fail
    have hss := Try.Builder_String_any W.heap.size W.heap.size _ _ (.inr HX.out) HB.out.size
    have hfin : (⟨(L).toArray⟩ : ByteArray) = arr (bodyH hSpace m) := by rw [← HFIN.out]; simp [entsB, arr]
    rw [hfin] at hss
    have HSS := Lib.hid hss
    clear hss hfin
    refine HSS.out.mono ?_
    rintro e w7 ⟨rfl, b7⟩
    go_wp2
    go_ret
    exact ⟨rfl, HB0.out.trans ((HB.out.trans b7).mono (Nat.le_of_lt hs2))⟩
set_option maxRecDepth 100000 in
set_option maxHeartbeats 4000000 in
theorem write_Grant (m : Ms) (h : Hd) (w : World) (hi : In w m h) (hk : 1 ≤ m.kind ∧ m.kind ≤ 13) (hw : wholeB m (hGrant true) = true) (hr : bareB m (hGrant true) = true)
    (hp : ∀ w, Calls Try.prog 22 #[.int .i64 m.kind, .bool m.need] w fun e w' => e = .returned (.tuple #[.agg #[.bool true, .bool true, .bool true, .bool false, .bool false, .bool false, .bool true, .bool false], .bool true]) ∧ Below w.heap.size w w') :
    Calls Try.prog 21 #[.agg #[.int .i64 m.kind, .int .i64 m.page, .bool m.x, .bool m.need, .int .i64 m.n, .int .i64 m.cl, .int .i64 m.ep, .int .i64 m.tn, .int .i64 m.lsn, .slice h.a h.an h.ac, .slice h.b h.bn h.bc]] w fun e w' => e = .returned (.string (arr (bodyH (hGrant true) m))) ∧ Below w.heap.size w w' := by
  have hfk : Fits m.kind := ⟨by omega, by omega⟩
  have lkind := Lib.hid (Nib.enc_le hfk)
  obtain ⟨w1, w2, w3, w4, w5⟩ := whole_parts hw
  obtain ⟨r1, r2, r3, r4, r5, r6, r7⟩ := bare_parts hr
  have hfp : Fits m.page := ⟨by have := w1 rfl; omega, by have := w1 rfl; omega⟩
  have lpage := Lib.hid (Nib.enc_le hfp)
  have lx := Lib.hid (Nib.enc_le (flag_fits m.x))
  have ln := Lib.hid (Nib.enc_le (flag_fits m.need))
  have HIM := Lib.hid (w4 rfl)
  have limg := Lib.hid (show (Slab.encB m.lsn.toNat m.zs).length ≤ 240 from Nat.le_of_eq (Slab.encB_len (Slab.good_parts (w4 rfl)).2.2.2.2.2))
  have hes0 : m.es = [] := r7 rfl
  have HBN := Lib.hid (show h.bn = 0 from by have := hi.e.len; rw [hes0] at this; exact this.symm)
  have HES := Lib.hid hes0
  clear hes0
  have Hhfk := Lib.hid hfk
  clear hfk
  have Hhfp := Lib.hid hfp
  clear hfp
  have HLN := Lib.hid hi.e.len
  have han : h.an ≤ 1000000 := by have h1 := hi.s.len; have h2 := (Slab.good_parts (w4 rfl)).2.2.1; omega
  clear w1 w2 w3 w4 w5 r1 r2 r3 r4 r5 r6 r7 hw hr hk
  have hb := below_box w (.cells #[.int .i64 m.kind, .int .i64 m.page, .bool m.x, .bool m.need, .int .i64 m.n, .int .i64 m.cl, .int .i64 m.ep, .int .i64 m.tn, .int .i64 m.lsn, .slice h.a h.an h.ac, .slice h.b h.bn h.bc] 30)
  have hM := Blk.new w 30 #[.int .i64 m.kind, .int .i64 m.page, .bool m.x, .bool m.need, .int .i64 m.n, .int .i64 m.cl, .int .i64 m.ep, .int .i64 m.tn, .int .i64 m.lsn, .slice h.a h.an h.ac, .slice h.b h.bn h.bc]
  have hs := alloc_lt w (.cells #[.int .i64 m.kind, .int .i64 m.page, .bool m.x, .bool m.need, .int .i64 m.n, .int .i64 m.cl, .int .i64 m.ep, .int .i64 m.tn, .int .i64 m.lsn, .slice h.a h.an h.ac, .slice h.b h.bn h.bc] 30)
  have HP := Lib.hid hp
  have HI := Lib.hid hi
  clear hp hi
  go_enter Try.func21, Try.ntmps21
  try dsimp only [List.append]
  go_upto_region 1 with (fail)
  generalize hGen : w.alloc (.cells #[.int .i64 m.kind, .int .i64 m.page, .bool m.x, .bool m.need, .int .i64 m.n, .int .i64 m.cl, .int .i64 m.ep, .int .i64 m.tn, .int .i64 m.lsn, .slice h.a h.an h.ac, .slice h.b h.bn h.bc] 30) = W0 at hb hM hs ⊢
  clear hGen
  obtain ⟨c0, c1, c2, c3, c4, c5, c6, c7, c8, c9, c10⟩ := msg_cells hM
  go_wp2_with fail
  refine (HP.out _).mono ?_
  rintro e w1 ⟨rfl, b1⟩
  have hM1 := hM.below b1 hs
  have hb1 := below_next hb b1
  have hs1 := Nat.lt_of_lt_of_le hs b1.size
  clear c0 c1 c2 c3 c4 c5 c6 c7 c8 c9 c10 hM hb b1 hs
  go_upto_region 2 with (fail)
  have hM2 := hM1.alloc (.cells #[.bool true, .bool true, .bool true, .bool false, .bool false, .bool false, .bool true, .bool false] 61)
  have hH2 := Blk.new w1 61 #[.bool true, .bool true, .bool true, .bool false, .bool false, .bool false, .bool true, .bool false]
  have hb2 := below_next hb1 (below_box w1 (.cells #[.bool true, .bool true, .bool true, .bool false, .bool false, .bool false, .bool true, .bool false] 61))
  have hg2 := alloc_lt w1 (.cells #[.bool true, .bool true, .bool true, .bool false, .bool false, .bool false, .bool true, .bool false] 61)
  generalize hGen : w1.alloc (.cells #[.bool true, .bool true, .bool true, .bool false, .bool false, .bool false, .bool true, .bool false] 61) = W at hM2 hH2 hb2 hg2 ⊢
  clear hGen
  have hs2 : w.heap.size < W.heap.size := Nat.lt_trans hs1 hg2
  clear hM1 hb1
  generalize hGen : w1.heap.size = gh at hH2 hg2 hs1 ⊢
  clear hGen
  have HM := Lib.hid hM2
  have HH := Lib.hid hH2
  have HB0 := Lib.hid hb2
  clear hM2 hH2 hb2
  have HIN := Lib.hid (HI.out.below HB0.out)
  clear HI
  have HFR := Lib.hid (Lib.fresh_isBuilder 82 5 W)
  have HB := Lib.hid (below_box W (.cells #[.pointer none, .slice none 0 0] 82))
  have hs := alloc_lt W (.cells #[.pointer none, .slice none 0 0] 82)
  go_upto_region 3 with (fail)
  generalize hGen : W.alloc (.cells #[.pointer none, .slice none 0 0] 82) = w0 at HFR HB hs ⊢
  clear hGen
  have hMc := HM.out.below HB.out hs2
  have hHc := HH.out.below HB.out hg2
  obtain ⟨c0, c1, c2, c3, c4, c5, c6, c7, c8, c9, c10⟩ := msg_cells hMc
  obtain ⟨d0, d1, d2, d3, d4, d5, d6, d7⟩ := has_cells hHc
  clear hMc hHc
  go_wp2_with fail
  refine (Nib.intB (m.kind) _ Hhfk.out).mono ?_
  rintro e wa ⟨rfl, ba⟩
  have HX := Lib.hid (show Lib.IsBuilder 82 5 W.heap.size W.heap.size (Lib.byteCells []) wa from HFR.out.elim (fun h => .inl (bld_next h ba)) fun h => .inr (bld_next h ba))
  have HB := Lib.hid (HB.out.trans (ba.mono (Nat.le_of_lt hs)))
  have hs := Nat.lt_of_lt_of_le hs ba.size
  clear c0 c1 c2 c3 c4 c5 c6 c7 c8 c9 c10 d0 d1 d2 d3 d4 d5 d6 d7
  clear ba
  have hMc := HM.out.below HB.out hs2
  have hHc := HH.out.below HB.out hg2
  obtain ⟨c0, c1, c2, c3, c4, c5, c6, c7, c8, c9, c10⟩ := msg_cells hMc
  obtain ⟨d0, d1, d2, d3, d4, d5, d6, d7⟩ := has_cells hHc
  clear hMc hHc
  go_wp2_with fail
  refine (ws_any W.heap.size [] (enc m.kind) (Nib.encB (m.kind)) _ (Nib.encB_list _).symm HX.out (by have := lkind.out; simp only [List.length_nil]; omega) (Nat.le_of_lt hs)).mono ?_
  rintro e wb ⟨rfl, hX, bX, _⟩
  have HX := Lib.hid (show BA W.heap.size (enc m.kind) wb from hX)
  have HB := Lib.hid (HB.out.trans bX)
  have hs := Nat.lt_of_lt_of_le hs bX.size
  clear c0 c1 c2 c3 c4 c5 c6 c7 c8 c9 c10 d0 d1 d2 d3 d4 d5 d6 d7
  clear hX bX
  have hMc := HM.out.below HB.out hs2
  have hHc := HH.out.below HB.out hg2
  obtain ⟨c0, c1, c2, c3, c4, c5, c6, c7, c8, c9, c10⟩ := msg_cells hMc
  obtain ⟨d0, d1, d2, d3, d4, d5, d6, d7⟩ := has_cells hHc
  clear hMc hHc
  go_wp2_with fail
  refine (Nib.intB (m.page) _ Hhfp.out).mono ?_
  rintro e wa ⟨rfl, ba⟩
  have HX := Lib.hid (bld_next HX.out ba)
  have HB := Lib.hid (HB.out.trans (ba.mono (Nat.le_of_lt hs)))
  have hs := Nat.lt_of_lt_of_le hs ba.size
  clear c0 c1 c2 c3 c4 c5 c6 c7 c8 c9 c10 d0 d1 d2 d3 d4 d5 d6 d7
  clear ba
  have hMc := HM.out.below HB.out hs2
  have hHc := HH.out.below HB.out hg2
  obtain ⟨c0, c1, c2, c3, c4, c5, c6, c7, c8, c9, c10⟩ := msg_cells hMc
  obtain ⟨d0, d1, d2, d3, d4, d5, d6, d7⟩ := has_cells hHc
  clear hMc hHc
  go_wp2_with fail
  refine (ws_any W.heap.size (enc m.kind) (enc m.page) (Nib.encB (m.page)) _ (Nib.encB_list _).symm (.inr HX.out) (by have := lkind.out; have := lpage.out; have := lx.out; have := ln.out; have := limg.out; (try simp only [List.length_append]); omega) (Nat.le_of_lt hs)).mono ?_
  rintro e wb ⟨rfl, hX, bX, _⟩
  have HX := Lib.hid (show BA W.heap.size (enc m.kind ++ enc m.page) wb from hX)
  have HB := Lib.hid (HB.out.trans bX)
  have hs := Nat.lt_of_lt_of_le hs bX.size
  clear c0 c1 c2 c3 c4 c5 c6 c7 c8 c9 c10 d0 d1 d2 d3 d4 d5 d6 d7
  clear hX bX
  have hMc := HM.out.below HB.out hs2
  have hHc := HH.out.below HB.out hg2
  obtain ⟨c0, c1, c2, c3, c4, c5, c6, c7, c8, c9, c10⟩ := msg_cells hMc
  obtain ⟨d0, d1, d2, d3, d4, d5, d6, d7⟩ := has_cells hHc
  clear hMc hHc
  go_wp2_with fail
  refine (flag_any m.x _).mono ?_
  rintro e wa ⟨rfl, ba⟩
  have HX := Lib.hid (bld_next HX.out ba)
  have HB := Lib.hid (HB.out.trans (ba.mono (Nat.le_of_lt hs)))
  have hs := Nat.lt_of_lt_of_le hs ba.size
  clear c0 c1 c2 c3 c4 c5 c6 c7 c8 c9 c10 d0 d1 d2 d3 d4 d5 d6 d7
  clear ba
  have hMc := HM.out.below HB.out hs2
  have hHc := HH.out.below HB.out hg2
  obtain ⟨c0, c1, c2, c3, c4, c5, c6, c7, c8, c9, c10⟩ := msg_cells hMc
  obtain ⟨d0, d1, d2, d3, d4, d5, d6, d7⟩ := has_cells hHc
  clear hMc hHc
  go_wp2_with fail
  refine (ws_any W.heap.size (enc m.kind ++ enc m.page) (enc (b1 m.x)) (Nib.encB (b1 m.x)) _ (Nib.encB_list _).symm (.inr HX.out) (by have := lkind.out; have := lpage.out; have := lx.out; have := ln.out; have := limg.out; (try simp only [List.length_append]); omega) (Nat.le_of_lt hs)).mono ?_
  rintro e wb ⟨rfl, hX, bX, _⟩
  have HX := Lib.hid (show BA W.heap.size (enc m.kind ++ enc m.page ++ enc (b1 m.x)) wb from hX)
  have HB := Lib.hid (HB.out.trans bX)
  have hs := Nat.lt_of_lt_of_le hs bX.size
  clear c0 c1 c2 c3 c4 c5 c6 c7 c8 c9 c10 d0 d1 d2 d3 d4 d5 d6 d7
  clear hX bX
  have hMc := HM.out.below HB.out hs2
  have hHc := HH.out.below HB.out hg2
  obtain ⟨c0, c1, c2, c3, c4, c5, c6, c7, c8, c9, c10⟩ := msg_cells hMc
  obtain ⟨d0, d1, d2, d3, d4, d5, d6, d7⟩ := has_cells hHc
  clear hMc hHc
  go_wp2_with fail
  refine (flag_any m.need _).mono ?_
  rintro e wa ⟨rfl, ba⟩
  have HX := Lib.hid (bld_next HX.out ba)
  have HB := Lib.hid (HB.out.trans (ba.mono (Nat.le_of_lt hs)))
  have hs := Nat.lt_of_lt_of_le hs ba.size
  clear c0 c1 c2 c3 c4 c5 c6 c7 c8 c9 c10 d0 d1 d2 d3 d4 d5 d6 d7
  clear ba
  have hMc := HM.out.below HB.out hs2
  have hHc := HH.out.below HB.out hg2
  obtain ⟨c0, c1, c2, c3, c4, c5, c6, c7, c8, c9, c10⟩ := msg_cells hMc
  obtain ⟨d0, d1, d2, d3, d4, d5, d6, d7⟩ := has_cells hHc
  clear hMc hHc
  go_wp2_with fail
  refine (ws_any W.heap.size (enc m.kind ++ enc m.page ++ enc (b1 m.x)) (enc (b1 m.need)) (Nib.encB (b1 m.need)) _ (Nib.encB_list _).symm (.inr HX.out) (by have := lkind.out; have := lpage.out; have := lx.out; have := ln.out; have := limg.out; (try simp only [List.length_append]); omega) (Nat.le_of_lt hs)).mono ?_
  rintro e wb ⟨rfl, hX, bX, _⟩
  have HX := Lib.hid (show BA W.heap.size (enc m.kind ++ enc m.page ++ enc (b1 m.x) ++ enc (b1 m.need)) wb from hX)
  have HB := Lib.hid (HB.out.trans bX)
  have hs := Nat.lt_of_lt_of_le hs bX.size
  clear c0 c1 c2 c3 c4 c5 c6 c7 c8 c9 c10 d0 d1 d2 d3 d4 d5 d6 d7
  clear hX bX
  have hMc := HM.out.below HB.out hs2
  have hHc := HH.out.below HB.out hg2
  obtain ⟨c0, c1, c2, c3, c4, c5, c6, c7, c8, c9, c10⟩ := msg_cells hMc
  obtain ⟨d0, d1, d2, d3, d4, d5, d6, d7⟩ := has_cells hHc
  clear hMc hHc
  have HEI := Lib.hid (show Slab.encS' m.lsn m.zs = arr (Slab.encB m.lsn.toNat m.zs) from by unfold Slab.encS'; rw [HIM.out]; rfl)
  go_wp2_with fail
  refine (Slab.enc_any m.lsn h.a h.an h.ac m.zs _ (HIN.out.below HB.out).s han).mono ?_
  rw [HEI.out]
  rintro e wa ⟨rfl, ba⟩
  have HX := Lib.hid (bld_next HX.out ba)
  have HB := Lib.hid (HB.out.trans (ba.mono (Nat.le_of_lt hs)))
  have hs := Nat.lt_of_lt_of_le hs ba.size
  clear c0 c1 c2 c3 c4 c5 c6 c7 c8 c9 c10 d0 d1 d2 d3 d4 d5 d6 d7
  clear ba
  generalize Slab.encCode m.lsn m.zs = code
  have hMc := HM.out.below HB.out hs2
  have hHc := HH.out.below HB.out hg2
  obtain ⟨c0, c1, c2, c3, c4, c5, c6, c7, c8, c9, c10⟩ := msg_cells hMc
  obtain ⟨d0, d1, d2, d3, d4, d5, d6, d7⟩ := has_cells hHc
  clear hMc hHc
  go_wp2_with fail
  refine (ws_any W.heap.size (enc m.kind ++ enc m.page ++ enc (b1 m.x) ++ enc (b1 m.need)) (Slab.encB m.lsn.toNat m.zs) (arr (Slab.encB m.lsn.toNat m.zs)) _ (arr_list _) (.inr HX.out) (by have := lkind.out; have := lpage.out; have := lx.out; have := ln.out; have := limg.out; (try simp only [List.length_append]); omega) (Nat.le_of_lt hs)).mono ?_
  rintro e wb ⟨rfl, hX, bX, _⟩
  have HX := Lib.hid (show BA W.heap.size (enc m.kind ++ enc m.page ++ enc (b1 m.x) ++ enc (b1 m.need) ++ Slab.encB m.lsn.toNat m.zs) wb from hX)
  have HB := Lib.hid (HB.out.trans bX)
  have hs := Nat.lt_of_lt_of_le hs bX.size
  clear c0 c1 c2 c3 c4 c5 c6 c7 c8 c9 c10 d0 d1 d2 d3 d4 d5 d6 d7
  clear hX bX
  have hMc := HM.out.below HB.out hs2
  have hHc := HH.out.below HB.out hg2
  obtain ⟨c0, c1, c2, c3, c4, c5, c6, c7, c8, c9, c10⟩ := msg_cells hMc
  obtain ⟨d0, d1, d2, d3, d4, d5, d6, d7⟩ := has_cells hHc
  clear hMc hHc
  have HLL := Lib.hid (show (enc m.kind ++ enc m.page ++ enc (b1 m.x) ++ enc (b1 m.need) ++ Slab.encB m.lsn.toNat m.zs).length ≤ 400 from (by have := lkind.out; have := lpage.out; have := lx.out; have := ln.out; have := limg.out; (try simp only [List.length_append]); omega))
  have HFIN := Lib.hid (show enc m.kind ++ enc m.page ++ enc (b1 m.x) ++ enc (b1 m.need) ++ Slab.encB m.lsn.toNat m.zs ++ entsB m.es = bodyH (hGrant true) m from by unfold bodyH pPage pX pNeed pTxn pN pImage pCount; rw [HES.out]; simp [hGrant])
  generalize enc m.kind ++ enc m.page ++ enc (b1 m.x) ++ enc (b1 m.need) ++ Slab.encB m.lsn.toNat m.zs = L at HX HLL HFIN
  clear c0 c1 c2 c3 c4 c5 c6 c7 c8 c9 c10 d0 d1 d2 d3 d4 d5 d6 d7
  have hMc := HM.out.below HB.out hs2
  have hHc := HH.out.below HB.out hg2
  obtain ⟨c0, c1, c2, c3, c4, c5, c6, c7, c8, c9, c10⟩ := msg_cells hMc
  obtain ⟨d0, d1, d2, d3, d4, d5, d6, d7⟩ := has_cells hHc
  clear hMc hHc
  have HFIN := Lib.hid (show L ++ entsB (m.es.take 0) = bodyH (hGrant true) m from by rw [← HFIN.out, HES.out]; rfl)
  rw [HBN.out] at c10
  go_wp2_with fail
  go_loopw [85] (fun i wr => i = .int .i64 0 ∧ BA W.heap.size L wr ∧ Below W.heap.size W wr) (fun _ _ => 0)
  case atStart => exact ⟨rfl, HX.out, HB.out⟩
  case round =>
    obtain ⟨rfl, hX, hB⟩ := hrel
    have HX := Lib.hid hX
    have HB := Lib.hid hB
    clear hX hB
    go_wp2_with fail
    have hss := Try.Builder_String_any W.heap.size W.heap.size _ _ (.inr HX.out) HB.out.size
    have hfin : (⟨(L).toArray⟩ : ByteArray) = arr (bodyH (hGrant true) m) := by rw [← HFIN.out]; simp [entsB, arr]
    rw [hfin] at hss
    have HSS := Lib.hid hss
    clear hss hfin
    refine HSS.out.mono ?_
    rintro e w7 ⟨rfl, b7⟩
    go_wp2
    go_ret
    exact ⟨rfl, HB0.out.trans ((HB.out.trans b7).mono (Nat.le_of_lt hs2))⟩
set_option maxRecDepth 100000 in
set_option maxHeartbeats 4000000 in
theorem write_None (m : Ms) (h : Hd) (w : World) (hi : In w m h) (hk : 1 ≤ m.kind ∧ m.kind ≤ 13) (hw : wholeB m hNone = true) (hr : bareB m hNone = true)
    (hp : ∀ w, Calls Try.prog 22 #[.int .i64 m.kind, .bool m.need] w fun e w' => e = .returned (.tuple #[.agg #[.bool false, .bool false, .bool false, .bool false, .bool false, .bool false, .bool false, .bool false], .bool true]) ∧ Below w.heap.size w w') :
    Calls Try.prog 21 #[.agg #[.int .i64 m.kind, .int .i64 m.page, .bool m.x, .bool m.need, .int .i64 m.n, .int .i64 m.cl, .int .i64 m.ep, .int .i64 m.tn, .int .i64 m.lsn, .slice h.a h.an h.ac, .slice h.b h.bn h.bc]] w fun e w' => e = .returned (.string (arr (bodyH hNone m))) ∧ Below w.heap.size w w' := by
  have hfk : Fits m.kind := ⟨by omega, by omega⟩
  have lkind := Lib.hid (Nib.enc_le hfk)
  obtain ⟨w1, w2, w3, w4, w5⟩ := whole_parts hw
  obtain ⟨r1, r2, r3, r4, r5, r6, r7⟩ := bare_parts hr
  have hes0 : m.es = [] := r7 rfl
  have HBN := Lib.hid (show h.bn = 0 from by have := hi.e.len; rw [hes0] at this; exact this.symm)
  have HES := Lib.hid hes0
  clear hes0
  have Hhfk := Lib.hid hfk
  clear hfk
  have HLN := Lib.hid hi.e.len
  clear w1 w2 w3 w4 w5 r1 r2 r3 r4 r5 r6 r7 hw hr hk
  have hb := below_box w (.cells #[.int .i64 m.kind, .int .i64 m.page, .bool m.x, .bool m.need, .int .i64 m.n, .int .i64 m.cl, .int .i64 m.ep, .int .i64 m.tn, .int .i64 m.lsn, .slice h.a h.an h.ac, .slice h.b h.bn h.bc] 30)
  have hM := Blk.new w 30 #[.int .i64 m.kind, .int .i64 m.page, .bool m.x, .bool m.need, .int .i64 m.n, .int .i64 m.cl, .int .i64 m.ep, .int .i64 m.tn, .int .i64 m.lsn, .slice h.a h.an h.ac, .slice h.b h.bn h.bc]
  have hs := alloc_lt w (.cells #[.int .i64 m.kind, .int .i64 m.page, .bool m.x, .bool m.need, .int .i64 m.n, .int .i64 m.cl, .int .i64 m.ep, .int .i64 m.tn, .int .i64 m.lsn, .slice h.a h.an h.ac, .slice h.b h.bn h.bc] 30)
  have HP := Lib.hid hp
  have HI := Lib.hid hi
  clear hp hi
  go_enter Try.func21, Try.ntmps21
  try dsimp only [List.append]
  go_upto_region 1 with (fail)
  generalize hGen : w.alloc (.cells #[.int .i64 m.kind, .int .i64 m.page, .bool m.x, .bool m.need, .int .i64 m.n, .int .i64 m.cl, .int .i64 m.ep, .int .i64 m.tn, .int .i64 m.lsn, .slice h.a h.an h.ac, .slice h.b h.bn h.bc] 30) = W0 at hb hM hs ⊢
  clear hGen
  obtain ⟨c0, c1, c2, c3, c4, c5, c6, c7, c8, c9, c10⟩ := msg_cells hM
  go_wp2_with fail
  refine (HP.out _).mono ?_
  rintro e w1 ⟨rfl, b1⟩
  have hM1 := hM.below b1 hs
  have hb1 := below_next hb b1
  have hs1 := Nat.lt_of_lt_of_le hs b1.size
  clear c0 c1 c2 c3 c4 c5 c6 c7 c8 c9 c10 hM hb b1 hs
  go_upto_region 2 with (fail)
  have hM2 := hM1.alloc (.cells #[.bool false, .bool false, .bool false, .bool false, .bool false, .bool false, .bool false, .bool false] 61)
  have hH2 := Blk.new w1 61 #[.bool false, .bool false, .bool false, .bool false, .bool false, .bool false, .bool false, .bool false]
  have hb2 := below_next hb1 (below_box w1 (.cells #[.bool false, .bool false, .bool false, .bool false, .bool false, .bool false, .bool false, .bool false] 61))
  have hg2 := alloc_lt w1 (.cells #[.bool false, .bool false, .bool false, .bool false, .bool false, .bool false, .bool false, .bool false] 61)
  generalize hGen : w1.alloc (.cells #[.bool false, .bool false, .bool false, .bool false, .bool false, .bool false, .bool false, .bool false] 61) = W at hM2 hH2 hb2 hg2 ⊢
  clear hGen
  have hs2 : w.heap.size < W.heap.size := Nat.lt_trans hs1 hg2
  clear hM1 hb1
  generalize hGen : w1.heap.size = gh at hH2 hg2 hs1 ⊢
  clear hGen
  have HM := Lib.hid hM2
  have HH := Lib.hid hH2
  have HB0 := Lib.hid hb2
  clear hM2 hH2 hb2
  have HIN := Lib.hid (HI.out.below HB0.out)
  clear HI
  have HFR := Lib.hid (Lib.fresh_isBuilder 82 5 W)
  have HB := Lib.hid (below_box W (.cells #[.pointer none, .slice none 0 0] 82))
  have hs := alloc_lt W (.cells #[.pointer none, .slice none 0 0] 82)
  go_upto_region 3 with (fail)
  generalize hGen : W.alloc (.cells #[.pointer none, .slice none 0 0] 82) = w0 at HFR HB hs ⊢
  clear hGen
  have hMc := HM.out.below HB.out hs2
  have hHc := HH.out.below HB.out hg2
  obtain ⟨c0, c1, c2, c3, c4, c5, c6, c7, c8, c9, c10⟩ := msg_cells hMc
  obtain ⟨d0, d1, d2, d3, d4, d5, d6, d7⟩ := has_cells hHc
  clear hMc hHc
  go_wp2_with fail
  refine (Nib.intB (m.kind) _ Hhfk.out).mono ?_
  rintro e wa ⟨rfl, ba⟩
  have HX := Lib.hid (show Lib.IsBuilder 82 5 W.heap.size W.heap.size (Lib.byteCells []) wa from HFR.out.elim (fun h => .inl (bld_next h ba)) fun h => .inr (bld_next h ba))
  have HB := Lib.hid (HB.out.trans (ba.mono (Nat.le_of_lt hs)))
  have hs := Nat.lt_of_lt_of_le hs ba.size
  clear c0 c1 c2 c3 c4 c5 c6 c7 c8 c9 c10 d0 d1 d2 d3 d4 d5 d6 d7
  clear ba
  have hMc := HM.out.below HB.out hs2
  have hHc := HH.out.below HB.out hg2
  obtain ⟨c0, c1, c2, c3, c4, c5, c6, c7, c8, c9, c10⟩ := msg_cells hMc
  obtain ⟨d0, d1, d2, d3, d4, d5, d6, d7⟩ := has_cells hHc
  clear hMc hHc
  go_wp2_with fail
  refine (ws_any W.heap.size [] (enc m.kind) (Nib.encB (m.kind)) _ (Nib.encB_list _).symm HX.out (by have := lkind.out; simp only [List.length_nil]; omega) (Nat.le_of_lt hs)).mono ?_
  rintro e wb ⟨rfl, hX, bX, _⟩
  have HX := Lib.hid (show BA W.heap.size (enc m.kind) wb from hX)
  have HB := Lib.hid (HB.out.trans bX)
  have hs := Nat.lt_of_lt_of_le hs bX.size
  clear c0 c1 c2 c3 c4 c5 c6 c7 c8 c9 c10 d0 d1 d2 d3 d4 d5 d6 d7
  clear hX bX
  have hMc := HM.out.below HB.out hs2
  have hHc := HH.out.below HB.out hg2
  obtain ⟨c0, c1, c2, c3, c4, c5, c6, c7, c8, c9, c10⟩ := msg_cells hMc
  obtain ⟨d0, d1, d2, d3, d4, d5, d6, d7⟩ := has_cells hHc
  clear hMc hHc
  have HLL := Lib.hid (show (enc m.kind).length ≤ 400 from (by have := lkind.out; (try simp only [List.length_append]); omega))
  have HFIN := Lib.hid (show enc m.kind ++ entsB m.es = bodyH hNone m from by unfold bodyH pPage pX pNeed pTxn pN pImage pCount; rw [HES.out]; simp [hNone])
  generalize enc m.kind = L at HX HLL HFIN
  clear c0 c1 c2 c3 c4 c5 c6 c7 c8 c9 c10 d0 d1 d2 d3 d4 d5 d6 d7
  have hMc := HM.out.below HB.out hs2
  have hHc := HH.out.below HB.out hg2
  obtain ⟨c0, c1, c2, c3, c4, c5, c6, c7, c8, c9, c10⟩ := msg_cells hMc
  obtain ⟨d0, d1, d2, d3, d4, d5, d6, d7⟩ := has_cells hHc
  clear hMc hHc
  have HFIN := Lib.hid (show L ++ entsB (m.es.take 0) = bodyH hNone m from by rw [← HFIN.out, HES.out]; rfl)
  rw [HBN.out] at c10
  go_wp2_with fail
  go_loopw [85] (fun i wr => i = .int .i64 0 ∧ BA W.heap.size L wr ∧ Below W.heap.size W wr) (fun _ _ => 0)
  case atStart => exact ⟨rfl, HX.out, HB.out⟩
  case round =>
    obtain ⟨rfl, hX, hB⟩ := hrel
    have HX := Lib.hid hX
    have HB := Lib.hid hB
    clear hX hB
    go_wp2_with fail
    have hss := Try.Builder_String_any W.heap.size W.heap.size _ _ (.inr HX.out) HB.out.size
    have hfin : (⟨(L).toArray⟩ : ByteArray) = arr (bodyH hNone m) := by rw [← HFIN.out]; simp [entsB, arr]
    rw [hfin] at hss
    have HSS := Lib.hid hss
    clear hss hfin
    refine HSS.out.mono ?_
    rintro e w7 ⟨rfl, b7⟩
    go_wp2
    go_ret
    exact ⟨rfl, HB0.out.trans ((HB.out.trans b7).mono (Nat.le_of_lt hs2))⟩
set_option maxRecDepth 100000 in
set_option maxHeartbeats 4000000 in
theorem write_Room (m : Ms) (h : Hd) (w : World) (hi : In w m h) (hk : 1 ≤ m.kind ∧ m.kind ≤ 13) (hw : wholeB m hRoom = true) (hr : bareB m hRoom = true)
    (hp : ∀ w, Calls Try.prog 22 #[.int .i64 m.kind, .bool m.need] w fun e w' => e = .returned (.tuple #[.agg #[.bool false, .bool false, .bool false, .bool false, .bool true, .bool true, .bool false, .bool false], .bool true]) ∧ Below w.heap.size w w') :
    Calls Try.prog 21 #[.agg #[.int .i64 m.kind, .int .i64 m.page, .bool m.x, .bool m.need, .int .i64 m.n, .int .i64 m.cl, .int .i64 m.ep, .int .i64 m.tn, .int .i64 m.lsn, .slice h.a h.an h.ac, .slice h.b h.bn h.bc]] w fun e w' => e = .returned (.string (arr (bodyH hRoom m))) ∧ Below w.heap.size w w' := by
  have hfk : Fits m.kind := ⟨by omega, by omega⟩
  have lkind := Lib.hid (Nib.enc_le hfk)
  obtain ⟨w1, w2, w3, w4, w5⟩ := whole_parts hw
  obtain ⟨r1, r2, r3, r4, r5, r6, r7⟩ := bare_parts hr
  have hfn : Fits m.n := ⟨by have := w3 rfl; omega, by have := w3 rfl; omega⟩
  have lN := Lib.hid (Nib.enc_le hfn)
  have hes0 : m.es = [] := r7 rfl
  have HBN := Lib.hid (show h.bn = 0 from by have := hi.e.len; rw [hes0] at this; exact this.symm)
  have HES := Lib.hid hes0
  clear hes0
  have Hhfk := Lib.hid hfk
  clear hfk
  have Hhfn := Lib.hid hfn
  clear hfn
  have HLN := Lib.hid hi.e.len
  clear w1 w2 w3 w4 w5 r1 r2 r3 r4 r5 r6 r7 hw hr hk
  have hb := below_box w (.cells #[.int .i64 m.kind, .int .i64 m.page, .bool m.x, .bool m.need, .int .i64 m.n, .int .i64 m.cl, .int .i64 m.ep, .int .i64 m.tn, .int .i64 m.lsn, .slice h.a h.an h.ac, .slice h.b h.bn h.bc] 30)
  have hM := Blk.new w 30 #[.int .i64 m.kind, .int .i64 m.page, .bool m.x, .bool m.need, .int .i64 m.n, .int .i64 m.cl, .int .i64 m.ep, .int .i64 m.tn, .int .i64 m.lsn, .slice h.a h.an h.ac, .slice h.b h.bn h.bc]
  have hs := alloc_lt w (.cells #[.int .i64 m.kind, .int .i64 m.page, .bool m.x, .bool m.need, .int .i64 m.n, .int .i64 m.cl, .int .i64 m.ep, .int .i64 m.tn, .int .i64 m.lsn, .slice h.a h.an h.ac, .slice h.b h.bn h.bc] 30)
  have HP := Lib.hid hp
  have HI := Lib.hid hi
  clear hp hi
  go_enter Try.func21, Try.ntmps21
  try dsimp only [List.append]
  go_upto_region 1 with (fail)
  generalize hGen : w.alloc (.cells #[.int .i64 m.kind, .int .i64 m.page, .bool m.x, .bool m.need, .int .i64 m.n, .int .i64 m.cl, .int .i64 m.ep, .int .i64 m.tn, .int .i64 m.lsn, .slice h.a h.an h.ac, .slice h.b h.bn h.bc] 30) = W0 at hb hM hs ⊢
  clear hGen
  obtain ⟨c0, c1, c2, c3, c4, c5, c6, c7, c8, c9, c10⟩ := msg_cells hM
  go_wp2_with fail
  refine (HP.out _).mono ?_
  rintro e w1 ⟨rfl, b1⟩
  have hM1 := hM.below b1 hs
  have hb1 := below_next hb b1
  have hs1 := Nat.lt_of_lt_of_le hs b1.size
  clear c0 c1 c2 c3 c4 c5 c6 c7 c8 c9 c10 hM hb b1 hs
  go_upto_region 2 with (fail)
  have hM2 := hM1.alloc (.cells #[.bool false, .bool false, .bool false, .bool false, .bool true, .bool true, .bool false, .bool false] 61)
  have hH2 := Blk.new w1 61 #[.bool false, .bool false, .bool false, .bool false, .bool true, .bool true, .bool false, .bool false]
  have hb2 := below_next hb1 (below_box w1 (.cells #[.bool false, .bool false, .bool false, .bool false, .bool true, .bool true, .bool false, .bool false] 61))
  have hg2 := alloc_lt w1 (.cells #[.bool false, .bool false, .bool false, .bool false, .bool true, .bool true, .bool false, .bool false] 61)
  generalize hGen : w1.alloc (.cells #[.bool false, .bool false, .bool false, .bool false, .bool true, .bool true, .bool false, .bool false] 61) = W at hM2 hH2 hb2 hg2 ⊢
  clear hGen
  have hs2 : w.heap.size < W.heap.size := Nat.lt_trans hs1 hg2
  clear hM1 hb1
  generalize hGen : w1.heap.size = gh at hH2 hg2 hs1 ⊢
  clear hGen
  have HM := Lib.hid hM2
  have HH := Lib.hid hH2
  have HB0 := Lib.hid hb2
  clear hM2 hH2 hb2
  have HIN := Lib.hid (HI.out.below HB0.out)
  clear HI
  have HFR := Lib.hid (Lib.fresh_isBuilder 82 5 W)
  have HB := Lib.hid (below_box W (.cells #[.pointer none, .slice none 0 0] 82))
  have hs := alloc_lt W (.cells #[.pointer none, .slice none 0 0] 82)
  go_upto_region 3 with (fail)
  generalize hGen : W.alloc (.cells #[.pointer none, .slice none 0 0] 82) = w0 at HFR HB hs ⊢
  clear hGen
  have hMc := HM.out.below HB.out hs2
  have hHc := HH.out.below HB.out hg2
  obtain ⟨c0, c1, c2, c3, c4, c5, c6, c7, c8, c9, c10⟩ := msg_cells hMc
  obtain ⟨d0, d1, d2, d3, d4, d5, d6, d7⟩ := has_cells hHc
  clear hMc hHc
  go_wp2_with fail
  refine (Nib.intB (m.kind) _ Hhfk.out).mono ?_
  rintro e wa ⟨rfl, ba⟩
  have HX := Lib.hid (show Lib.IsBuilder 82 5 W.heap.size W.heap.size (Lib.byteCells []) wa from HFR.out.elim (fun h => .inl (bld_next h ba)) fun h => .inr (bld_next h ba))
  have HB := Lib.hid (HB.out.trans (ba.mono (Nat.le_of_lt hs)))
  have hs := Nat.lt_of_lt_of_le hs ba.size
  clear c0 c1 c2 c3 c4 c5 c6 c7 c8 c9 c10 d0 d1 d2 d3 d4 d5 d6 d7
  clear ba
  have hMc := HM.out.below HB.out hs2
  have hHc := HH.out.below HB.out hg2
  obtain ⟨c0, c1, c2, c3, c4, c5, c6, c7, c8, c9, c10⟩ := msg_cells hMc
  obtain ⟨d0, d1, d2, d3, d4, d5, d6, d7⟩ := has_cells hHc
  clear hMc hHc
  go_wp2_with fail
  refine (ws_any W.heap.size [] (enc m.kind) (Nib.encB (m.kind)) _ (Nib.encB_list _).symm HX.out (by have := lkind.out; simp only [List.length_nil]; omega) (Nat.le_of_lt hs)).mono ?_
  rintro e wb ⟨rfl, hX, bX, _⟩
  have HX := Lib.hid (show BA W.heap.size (enc m.kind) wb from hX)
  have HB := Lib.hid (HB.out.trans bX)
  have hs := Nat.lt_of_lt_of_le hs bX.size
  clear c0 c1 c2 c3 c4 c5 c6 c7 c8 c9 c10 d0 d1 d2 d3 d4 d5 d6 d7
  clear hX bX
  have hMc := HM.out.below HB.out hs2
  have hHc := HH.out.below HB.out hg2
  obtain ⟨c0, c1, c2, c3, c4, c5, c6, c7, c8, c9, c10⟩ := msg_cells hMc
  obtain ⟨d0, d1, d2, d3, d4, d5, d6, d7⟩ := has_cells hHc
  clear hMc hHc
  go_wp2_with fail
  refine (Nib.intB (m.n) _ Hhfn.out).mono ?_
  rintro e wa ⟨rfl, ba⟩
  have HX := Lib.hid (bld_next HX.out ba)
  have HB := Lib.hid (HB.out.trans (ba.mono (Nat.le_of_lt hs)))
  have hs := Nat.lt_of_lt_of_le hs ba.size
  clear c0 c1 c2 c3 c4 c5 c6 c7 c8 c9 c10 d0 d1 d2 d3 d4 d5 d6 d7
  clear ba
  have hMc := HM.out.below HB.out hs2
  have hHc := HH.out.below HB.out hg2
  obtain ⟨c0, c1, c2, c3, c4, c5, c6, c7, c8, c9, c10⟩ := msg_cells hMc
  obtain ⟨d0, d1, d2, d3, d4, d5, d6, d7⟩ := has_cells hHc
  clear hMc hHc
  go_wp2_with fail
  refine (ws_any W.heap.size (enc m.kind) (enc m.n) (Nib.encB (m.n)) _ (Nib.encB_list _).symm (.inr HX.out) (by have := lkind.out; have := lN.out; (try simp only [List.length_append]); omega) (Nat.le_of_lt hs)).mono ?_
  rintro e wb ⟨rfl, hX, bX, _⟩
  have HX := Lib.hid (show BA W.heap.size (enc m.kind ++ enc m.n) wb from hX)
  have HB := Lib.hid (HB.out.trans bX)
  have hs := Nat.lt_of_lt_of_le hs bX.size
  clear c0 c1 c2 c3 c4 c5 c6 c7 c8 c9 c10 d0 d1 d2 d3 d4 d5 d6 d7
  clear hX bX
  have hMc := HM.out.below HB.out hs2
  have hHc := HH.out.below HB.out hg2
  obtain ⟨c0, c1, c2, c3, c4, c5, c6, c7, c8, c9, c10⟩ := msg_cells hMc
  obtain ⟨d0, d1, d2, d3, d4, d5, d6, d7⟩ := has_cells hHc
  clear hMc hHc
  have HLL := Lib.hid (show (enc m.kind ++ enc m.n).length ≤ 400 from (by have := lkind.out; have := lN.out; (try simp only [List.length_append]); omega))
  have HFIN := Lib.hid (show enc m.kind ++ enc m.n ++ entsB m.es = bodyH hRoom m from by unfold bodyH pPage pX pNeed pTxn pN pImage pCount; rw [HES.out]; simp [hRoom])
  generalize enc m.kind ++ enc m.n = L at HX HLL HFIN
  clear c0 c1 c2 c3 c4 c5 c6 c7 c8 c9 c10 d0 d1 d2 d3 d4 d5 d6 d7
  have hMc := HM.out.below HB.out hs2
  have hHc := HH.out.below HB.out hg2
  obtain ⟨c0, c1, c2, c3, c4, c5, c6, c7, c8, c9, c10⟩ := msg_cells hMc
  obtain ⟨d0, d1, d2, d3, d4, d5, d6, d7⟩ := has_cells hHc
  clear hMc hHc
  have HFIN := Lib.hid (show L ++ entsB (m.es.take 0) = bodyH hRoom m from by rw [← HFIN.out, HES.out]; rfl)
  rw [HBN.out] at c10
  go_wp2_with fail
  go_loopw [85] (fun i wr => i = .int .i64 0 ∧ BA W.heap.size L wr ∧ Below W.heap.size W wr) (fun _ _ => 0)
  case atStart => exact ⟨rfl, HX.out, HB.out⟩
  case round =>
    obtain ⟨rfl, hX, hB⟩ := hrel
    have HX := Lib.hid hX
    have HB := Lib.hid hB
    clear hX hB
    go_wp2_with fail
    have hss := Try.Builder_String_any W.heap.size W.heap.size _ _ (.inr HX.out) HB.out.size
    have hfin : (⟨(L).toArray⟩ : ByteArray) = arr (bodyH hRoom m) := by rw [← HFIN.out]; simp [entsB, arr]
    rw [hfin] at hss
    have HSS := Lib.hid hss
    clear hss hfin
    refine HSS.out.mono ?_
    rintro e w7 ⟨rfl, b7⟩
    go_wp2
    go_ret
    exact ⟨rfl, HB0.out.trans ((HB.out.trans b7).mono (Nat.le_of_lt hs2))⟩
/-- note.write, of a right message -/
theorem write_any (m : Ms) (h : Hd) (w : World) (hi : In w m h) (hg : goodM m = true) :
    Calls Try.prog 21 #[.agg #[.int .i64 m.kind, .int .i64 m.page, .bool m.x, .bool m.need, .int .i64 m.n, .int .i64 m.cl, .int .i64 m.ep, .int .i64 m.tn, .int .i64 m.lsn, .slice h.a h.an h.ac, .slice h.b h.bn h.bc]] w fun e w' => e = .returned (.string (arr (body m))) ∧ Below w.heap.size w w' := by
  have hP := fun w => parts_any m.kind m.need w
  obtain ⟨hk, hw, hr⟩ := good_parts hg
  unfold body
  cases kind_of m.kind with
  | lock _ hh ho => rw [hh] at hP hw hr ⊢; rw [ho] at hP; exact write_Lock m h w hi hk hw hr hP
  | free _ hh ho => rw [hh] at hP hw hr ⊢; rw [ho] at hP; exact write_Free m h w hi hk hw hr hP
  | use _ hh ho => rw [hh] at hP hw hr ⊢; rw [ho] at hP; exact write_Use m h w hi hk hw hr hP
  | log _ hh ho => rw [hh] at hP hw hr ⊢; rw [ho] at hP; exact write_Log m h w hi hk hw hr hP
  | image _ hh ho => rw [hh] at hP hw hr ⊢; rw [ho] at hP; exact write_Image m h w hi hk hw hr hP
  | txn _ hh ho => rw [hh] at hP hw hr ⊢; rw [ho] at hP; exact write_Txn m h w hi hk hw hr hP
  | space _ hh ho => rw [hh] at hP hw hr ⊢; rw [ho] at hP; exact write_Space m h w hi hk hw hr hP
  | victim _ hh ho => rw [hh] at hP hw hr ⊢; rw [ho] at hP; exact write_None m h w hi hk hw hr hP
  | room _ hh ho => rw [hh] at hP hw hr ⊢; rw [ho] at hP; exact write_Room m h w hi hk hw hr hP
  | none hn _ _ => exact absurd hk (by omega)
  | grant _ hh ho =>
    rw [hh] at hP hw hr ⊢; rw [ho] at hP
    rcases Bool.eq_false_or_eq_true m.need with hn | hn
    · rw [show hGrant m.need = hGrant true by rw [hn]] at hP hw hr ⊢
      exact write_Grant m h w hi hk hw hr hP
    · rw [show hGrant m.need = hLock by rw [hn]; rfl] at hP hw hr ⊢
      exact write_Lock m h w hi hk hw hr hP
theorem body_len {m : Ms} (hg : goodM m = true) : 1 ≤ (body m).length ∧ (body m).length ≤ 8000 := by
  obtain ⟨hk, hw, hr⟩ := good_parts hg
  obtain ⟨w1, w2, w3, w4, w5⟩ := whole_parts hw
  obtain ⟨r1, r2, r3, r4, r5, r6, r7⟩ := bare_parts hr
  unfold body bodyH
  generalize partsH m.kind m.need = H at *
  have e0 := Nib.enc_le (n := m.kind) ⟨by omega, by omega⟩
  have e0' := Nib.enc_pos m.kind
  have e1 : (pPage H m).length ≤ 10 := by
    unfold pPage; cases c : H.page with
    | true => exact Nib.enc_le ⟨by have := w1 c; omega, by have := w1 c; omega⟩
    | false => simp
  have e2 : (pX H m).length ≤ 10 := by
    unfold pX; cases c : H.x with
    | true => exact Nib.enc_le (flag_fits m.x)
    | false => simp
  have e3 : (pNeed H m).length ≤ 10 := by
    unfold pNeed; cases c : H.need with
    | true => exact Nib.enc_le (flag_fits m.need)
    | false => simp
  have e4 : (pTxn H m).length ≤ 30 := by
    unfold pTxn; cases c : H.txn with
    | true =>
      obtain ⟨f1, f2, f3⟩ := known_fits (w2 c)
      have h1 := Nib.enc_le f1; have h2 := Nib.enc_le f2; have h3 := Nib.enc_le f3
      simp only [if_true, List.length_append]; omega
    | false => simp
  have e5 : (pN H m).length ≤ 10 := by
    unfold pN; cases c : H.n with
    | true => exact Nib.enc_le ⟨by have := w3 c; omega, by have := w3 c; omega⟩
    | false => simp
  have e6 : (pImage H m).length ≤ 240 := by
    unfold pImage; cases c : H.image with
    | true => exact Nat.le_of_eq (Slab.encB_len (Slab.good_parts (w4 c)).2.2.2.2.2)
    | false => simp
  have e7 : (pCount H m).length ≤ 10 ∧ (entsB m.es).length ≤ 7424 := by
    unfold pCount; cases c : H.entries with
    | true =>
      have h1 := (w5 c).1
      have h2 := entsB_len (w5 c).2
      exact ⟨Nib.enc_le ⟨by omega, by omega⟩, by omega⟩
    | false => rw [r7 c]; exact ⟨by simp, by simp [entsB]⟩
  simp only [List.length_append]
  omega
theorem enc_good {m : Ms} (hg : goodM m = true) : encMsg m = chkB (body m) ++ arr (body m) ∧ codeM m = 0 := by
  unfold encMsg codeM chkB
  rw [hg]
  refine ⟨?_, rfl⟩
  simp only [if_true]
  apply Slab.str_inj
  simp [arr]
theorem enc_bad {m : Ms} (hg : goodM m = false) : encMsg m = ⟨#[]⟩ ∧ codeM m = 1 := by
  unfold encMsg codeM; rw [hg]; exact ⟨rfl, rfl⟩
set_option maxRecDepth 100000 in
set_option maxHeartbeats 1000000 in
theorem encode_any (m : Ms) (h : Hd) (w : World) (hi : In w m h) (ha : h.an ≤ 1000000) (hbn : h.bn ≤ 1000000) :
    Calls Try.prog 8 #[.agg #[.int .i64 m.kind, .int .i64 m.page, .bool m.x, .bool m.need, .int .i64 m.n, .int .i64 m.cl, .int .i64 m.ep, .int .i64 m.tn, .int .i64 m.lsn, .slice h.a h.an h.ac, .slice h.b h.bn h.bc]] w fun e w' => e = .returned (.tuple #[.string (encMsg m), .int .i64 (codeM m)]) ∧ Below w.heap.size w w' := by
  have hb := below_box w (.cells #[.int .i64 m.kind, .int .i64 m.page, .bool m.x, .bool m.need, .int .i64 m.n, .int .i64 m.cl, .int .i64 m.ep, .int .i64 m.tn, .int .i64 m.lsn, .slice h.a h.an h.ac, .slice h.b h.bn h.bc] 30)
  have hM := Blk.new w 30 #[.int .i64 m.kind, .int .i64 m.page, .bool m.x, .bool m.need, .int .i64 m.n, .int .i64 m.cl, .int .i64 m.ep, .int .i64 m.tn, .int .i64 m.lsn, .slice h.a h.an h.ac, .slice h.b h.bn h.bc]
  have hs := alloc_lt w (.cells #[.int .i64 m.kind, .int .i64 m.page, .bool m.x, .bool m.need, .int .i64 m.n, .int .i64 m.cl, .int .i64 m.ep, .int .i64 m.tn, .int .i64 m.lsn, .slice h.a h.an h.ac, .slice h.b h.bn h.bc] 30)
  have HI := Lib.hid hi
  clear hi
  go_enter Try.func8, Try.ntmps8
  go_upto_region 1 with (fail)
  generalize hGen : w.alloc (.cells #[.int .i64 m.kind, .int .i64 m.page, .bool m.x, .bool m.need, .int .i64 m.n, .int .i64 m.cl, .int .i64 m.ep, .int .i64 m.tn, .int .i64 m.lsn, .slice h.a h.an h.ac, .slice h.b h.bn h.bc] 30) = W at hb hM hs ⊢
  clear hGen
  obtain ⟨c0, c1, c2, c3, c4, c5, c6, c7, c8, c9, c10⟩ := msg_cells hM
  go_wp2_with fail
  refine (good_any m h _ (HI.out.below hb) ha hbn).mono ?_
  rintro e w1 ⟨rfl, b1⟩
  have hM1 := hM.below b1 hs
  have hb1 := below_next hb b1
  clear c0 c1 c2 c3 c4 c5 c6 c7 c8 c9 c10 b1 hM
  cases hg : goodM m with
  | false =>
    have HE := Lib.hid (enc_bad hg)
    clear hg hM1
    go_wp2
    go_ret2
    exact ⟨by rw [HE.out.1, HE.out.2]; rfl, hb1⟩
  | true =>
    have HE := Lib.hid (enc_good hg)
    have hl := (body_len hg).2
    have HG := Lib.hid hg
    clear hg
    obtain ⟨c0, c1, c2, c3, c4, c5, c6, c7, c8, c9, c10⟩ := msg_cells hM1
    clear hM1
    go_wp2_with fail
    refine (write_any m h _ (HI.out.below hb1) HG.out).mono ?_
    rintro e w2 ⟨rfl, b2⟩
    have hb2 := below_next hb1 b2
    clear c0 c1 c2 c3 c4 c5 c6 c7 c8 c9 c10 b2
    have hsz : (arr (body m)).size ≤ 8000 := by rw [arr_size]; exact hl
    have HC := Lib.hid (fun w => check_any (arr (body m)) w (by omega))
    rw [arr_list] at HC
    have hcs := chkB_size (body m)
    generalize chkB (body m) = C at HC hcs HE
    generalize arr (body m) = D at HC hsz HE ⊢
    clear hl
    have hadd : ∀ W, (Op.stringOp .add C D).run Try.prog W = .ok (.string (C ++ D)) W := fun W => run_string_add_sum W _ _ (by omega)
    go_wp2_with fail
    refine (HC.out _).mono ?_
    rintro e w3 ⟨rfl, b3⟩
    go_wp2
    go_ret2
    exact ⟨by rw [HE.out.1, HE.out.2]; rfl, below_next hb2 b3⟩
end Go.Proofs.Ytjffjmffoffblaa.Note
