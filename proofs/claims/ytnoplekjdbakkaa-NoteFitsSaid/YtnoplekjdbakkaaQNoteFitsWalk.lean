/- The walk of the statement NoteFits. -/
import Derived.Test.YtnoplekjdbakkaaQNoteLaws
namespace Go.Proofs.Ytnoplekjdbakkaa.Note
set_option maxRecDepth 100000
open Go.RowKit Go.Sort
open Go.Proofs.Ytnoplekjdbakkaa.Nib (enc below_next below_drew Fits takeInt)
open Go.Proofs.Ytnoplekjdbakkaa.Slab (Slot Slots Blk ret_bool' ret_int')
open Go.Proofs.Ytnoplekjdbakkaa.Ent (Ent Ents EntAt SmallE withinB knownB noE entA below_box alloc_lt arr arr_list list_arr arr_size ent_cells Only)
set_option maxRecDepth 100000 in
set_option maxHeartbeats 2000000 in
theorem fits_walk (m : Ms) (h : Hd) (w : World) (hi : In w m h) :
    Calls Try.prog 8 #[.agg #[.int .i64 m.kind, .int .i64 m.page, .bool m.x, .bool m.need, .int .i64 m.n, .int .i64 m.cl, .int .i64 m.ep, .int .i64 m.tn, .int .i64 m.lsn, .slice h.a h.an h.ac, .slice h.b h.bn h.bc]] w fun e w' => e = .returned (.bool true) ∧ Below w.heap.size w w' := by
  have hb := below_box w (.cells #[.int .i64 m.kind, .int .i64 m.page, .bool m.x, .bool m.need, .int .i64 m.n, .int .i64 m.cl, .int .i64 m.ep, .int .i64 m.tn, .int .i64 m.lsn, .slice h.a h.an h.ac, .slice h.b h.bn h.bc] 29)
  have hM := Blk.new w 29 #[.int .i64 m.kind, .int .i64 m.page, .bool m.x, .bool m.need, .int .i64 m.n, .int .i64 m.cl, .int .i64 m.ep, .int .i64 m.tn, .int .i64 m.lsn, .slice h.a h.an h.ac, .slice h.b h.bn h.bc]
  have hs := alloc_lt w (.cells #[.int .i64 m.kind, .int .i64 m.page, .bool m.x, .bool m.need, .int .i64 m.n, .int .i64 m.cl, .int .i64 m.ep, .int .i64 m.tn, .int .i64 m.lsn, .slice h.a h.an h.ac, .slice h.b h.bn h.bc] 29)
  have HI := Lib.hid (hi.below hb)
  clear hi
  go_enter Try.func8, Try.ntmps8
  try dsimp only [List.append]
  go_upto_region 1 with (fail)
  generalize hGen : w.alloc (.cells #[.int .i64 m.kind, .int .i64 m.page, .bool m.x, .bool m.need, .int .i64 m.n, .int .i64 m.cl, .int .i64 m.ep, .int .i64 m.tn, .int .i64 m.lsn, .slice h.a h.an h.ac, .slice h.b h.bn h.bc] 29) = W at hb hM hs HI ⊢
  clear hGen
  go_wp2_with fail
  refine (awake_any _).mono ?_
  rintro e w1 ⟨rfl, b1⟩
  have hM1 := hM.below b1 hs
  have hb1 := below_next hb b1
  have hs1 := Nat.lt_of_lt_of_le hs b1.size
  have HI1 := Lib.hid (HI.out.below b1)
  clear hM hb hs HI b1
  obtain ⟨c0, c1, c2, c3, c4, c5, c6, c7, c8, c9, c10⟩ := msg_cells hM1
  go_wp2_with fail
  refine (great_any m h _ HI1.out).mono ?_
  rintro e w2 ⟨g, rfl, hg, b2⟩
  have hM2 := hM1.below b2 hs1
  have hb2 := below_next hb1 b2
  have hs2 := Nat.lt_of_lt_of_le hs1 b2.size
  have HI2 := Lib.hid (HI1.out.below b2)
  clear c0 c1 c2 c3 c4 c5 c6 c7 c8 c9 c10 hM1 hb1 hs1 HI1 b2
  cases g with
  | true =>
    go_wp2
    go_ret
    exact ⟨rfl, hb2⟩
  | false =>
    obtain ⟨ha, hbn⟩ := hg rfl
    have HE := Lib.hid (encode_any m h w2 HI2.out (by omega) (by omega))
    clear hg ha hbn
    obtain ⟨c0, c1, c2, c3, c4, c5, c6, c7, c8, c9, c10⟩ := msg_cells hM2
    clear hM2
    cases hgd : goodM m with
    | true =>
      have hl := body_len hgd
      have hsz : (arr (encL m)).size = 4 + (body m).length := by rw [arr_size]; unfold encL; rw [List.length_append, quadH_len]
      have he := encMsg_good hgd
      rw [he.1, he.2] at HE
      clear he hgd
      generalize arr (encL m) = S at HE hsz
      generalize (body m).length = L at hl hsz
      have h1 : (4 : Int) < (S.size : Int) := by omega
      have h2 : (S.size : Int) ≤ 16384 := by omega
      clear hl hsz
      go_wp2_with fail
      refine HE.out.mono ?_
      rintro e w3 ⟨rfl, b3⟩
      go_wp2
      go_ret
      exact ⟨rfl, below_next hb2 b3⟩
    | false =>
      have he := enc_bad hgd
      rw [he.1, he.2] at HE
      clear he hgd
      go_wp2_with fail
      refine HE.out.mono ?_
      rintro e w3 ⟨rfl, b3⟩
      go_wp2
      go_ret
      exact ⟨rfl, below_next hb2 b3⟩
end Go.Proofs.Ytnoplekjdbakkaa.Note
