/- The walk of the statement NoteReads. -/
import Derived.Test.YtjffjmffoffblaaQNoteRefDec
import Derived.Test.YtjffjmffoffblaaQNoteLaws
import Derived.Test.YtjffjmffoffblaaQNoteSame
namespace Go.Proofs.Ytjffjmffoffblaa.Note
set_option maxRecDepth 100000
open Go.RowKit Go.Sort
open Go.Proofs.Ytjffjmffoffblaa.Nib (below_next below_drew)
open Go.Proofs.Ytjffjmffoffblaa.Slab (Slot Slots Blk)
open Go.Proofs.Ytjffjmffoffblaa.Ent (Ent Ents below_box alloc_lt arr list_arr)
theorem good_lens' {m : Ms} (hg : goodM m = true) : m.zs.length ≤ 32 ∧ m.es.length ≤ 16 := by
  obtain ⟨_, hw, hr⟩ := good_parts hg
  obtain ⟨_, _, _, w4, w5⟩ := whole_parts hw
  obtain ⟨_, _, _, _, _, r6, r7⟩ := bare_parts hr
  constructor
  · cases c : (partsH m.kind m.need).image with
    | true => exact (Slab.good_parts (w4 c)).2.2.1
    | false => rw [(r6 c).2]; simp
  · cases c : (partsH m.kind m.need).entries with
    | true => exact (w5 c).1.2
    | false => rw [r7 c]; simp
theorem dec_lens (s : List UInt8) : (decS s).1.zs.length ≤ 1000000 ∧ (decS s).1.es.length ≤ 1000000 := by
  rcases dec_is s with ⟨m, h, hg, _⟩ | ⟨c, h, _⟩
  · rw [h]
    have := good_lens' hg
    exact ⟨Nat.le_trans this.1 (by decide), Nat.le_trans this.2 (by decide)⟩
  · rw [h]; exact ⟨Nat.zero_le _, Nat.zero_le _⟩
set_option maxRecDepth 100000 in
set_option maxHeartbeats 4000000 in
theorem reads_walk (s : ByteArray) (w : World) (hs0 : s.size ≤ 140737488351232) :
    Calls Try.prog 3 #[.string s] w fun e w' => e = .returned (.bool true) ∧ Below w.heap.size w w' := by
  have hsz : s.data.toList.length = s.size := by simp
  have HDS := Lib.hid (fun w => decode_any s.data.toList w (by omega))
  rw [list_arr s] at HDS
  have HDR := Lib.hid (fun w => rdecode_any s w hs0)
  have hln := dec_lens s.data.toList
  generalize decS s.data.toList = D at HDS HDR hln
  obtain ⟨m, code⟩ := D
  have HLN := Lib.hid hln
  have hce : (code == code) = true := beq_self_eq_true _
  clear hln hsz hs0
  go_enter Try.func3, Try.ntmps3
  try dsimp only [List.append]
  go_wp2_with fail
  refine (awake_any _).mono ?_
  rintro e w1 ⟨rfl, b1⟩
  by_cases hlong : (65536 : Int) < (s.size : Int)
  · go_wp2
    go_ret
    exact ⟨rfl, b1⟩
  have B1 := Lib.hid b1
  clear b1
  go_wp2_with fail
  refine (HDS.out _).mono ?_
  rintro e w2 ⟨hd, rfl, hin, b2⟩
  have B2 := Lib.hid (below_next B1.out b2)
  clear b2
  go_upto_region 6 with (fail)
  have hA := Blk.new w2 30 #[.int .i64 m.kind, .int .i64 m.page, .bool m.x, .bool m.need, .int .i64 m.n, .int .i64 m.cl, .int .i64 m.ep, .int .i64 m.tn, .int .i64 m.lsn, .slice hd.a hd.an hd.ac, .slice hd.b hd.bn hd.bc]
  have B3 := Lib.hid (below_next B2.out (below_box w2 (.cells #[.int .i64 m.kind, .int .i64 m.page, .bool m.x, .bool m.need, .int .i64 m.n, .int .i64 m.cl, .int .i64 m.ep, .int .i64 m.tn, .int .i64 m.lsn, .slice hd.a hd.an hd.ac, .slice hd.b hd.bn hd.bc] 30)))
  have HIN := Lib.hid (hin.below (below_box w2 (.cells #[.int .i64 m.kind, .int .i64 m.page, .bool m.x, .bool m.need, .int .i64 m.n, .int .i64 m.cl, .int .i64 m.ep, .int .i64 m.tn, .int .i64 m.lsn, .slice hd.a hd.an hd.ac, .slice hd.b hd.bn hd.bc] 30)))
  have hs3 := alloc_lt w2 (.cells #[.int .i64 m.kind, .int .i64 m.page, .bool m.x, .bool m.need, .int .i64 m.n, .int .i64 m.cl, .int .i64 m.ep, .int .i64 m.tn, .int .i64 m.lsn, .slice hd.a hd.an hd.ac, .slice hd.b hd.bn hd.bc] 30)
  clear hin
  generalize hGen : w2.alloc (.cells #[.int .i64 m.kind, .int .i64 m.page, .bool m.x, .bool m.need, .int .i64 m.n, .int .i64 m.cl, .int .i64 m.ep, .int .i64 m.tn, .int .i64 m.lsn, .slice hd.a hd.an hd.ac, .slice hd.b hd.bn hd.bc] 30) = w3 at hA B3 HIN hs3 ⊢
  clear hGen
  generalize hGen : w2.heap.size = ga at hA hs3 ⊢
  clear hGen
  have HA := Lib.hid hA
  clear hA
  go_wp2_with fail
  refine (HDR.out _).mono ?_
  rintro e w4 ⟨hd2, rfl, hin2, b4⟩
  have hA4 := HA.out.below b4 hs3
  have HA4 := Lib.hid hA4
  have B4 := Lib.hid (below_next B3.out b4)
  have HIN4 := Lib.hid (HIN.out.i.below b4)
  have hs4 := Nat.lt_of_lt_of_le hs3 b4.size
  clear b4 hA4
  go_upto_region 7 with (fail)
  have hK := Blk.new w4 30 #[.int .i64 m.kind, .int .i64 m.page, .bool m.x, .bool m.need, .int .i64 m.n, .int .i64 m.cl, .int .i64 m.ep, .int .i64 m.tn, .int .i64 m.lsn, .slice hd2.a hd2.an hd2.ac, .slice hd2.b hd2.bn hd2.bc]
  have B5 := Lib.hid (below_next B4.out (below_box w4 (.cells #[.int .i64 m.kind, .int .i64 m.page, .bool m.x, .bool m.need, .int .i64 m.n, .int .i64 m.cl, .int .i64 m.ep, .int .i64 m.tn, .int .i64 m.lsn, .slice hd2.a hd2.an hd2.ac, .slice hd2.b hd2.bn hd2.bc] 30)))
  have HI5 := Lib.hid (HIN4.out.below (below_box w4 (.cells #[.int .i64 m.kind, .int .i64 m.page, .bool m.x, .bool m.need, .int .i64 m.n, .int .i64 m.cl, .int .i64 m.ep, .int .i64 m.tn, .int .i64 m.lsn, .slice hd2.a hd2.an hd2.ac, .slice hd2.b hd2.bn hd2.bc] 30)))
  have HJ5 := Lib.hid (hin2.i.below (below_box w4 (.cells #[.int .i64 m.kind, .int .i64 m.page, .bool m.x, .bool m.need, .int .i64 m.n, .int .i64 m.cl, .int .i64 m.ep, .int .i64 m.tn, .int .i64 m.lsn, .slice hd2.a hd2.an hd2.ac, .slice hd2.b hd2.bn hd2.bc] 30)))
  have hA5 := HA4.out.below (below_box w4 (.cells #[.int .i64 m.kind, .int .i64 m.page, .bool m.x, .bool m.need, .int .i64 m.n, .int .i64 m.cl, .int .i64 m.ep, .int .i64 m.tn, .int .i64 m.lsn, .slice hd2.a hd2.an hd2.ac, .slice hd2.b hd2.bn hd2.bc] 30)) hs4
  clear hin2
  generalize hGen : w4.alloc (.cells #[.int .i64 m.kind, .int .i64 m.page, .bool m.x, .bool m.need, .int .i64 m.n, .int .i64 m.cl, .int .i64 m.ep, .int .i64 m.tn, .int .i64 m.lsn, .slice hd2.a hd2.an hd2.ac, .slice hd2.b hd2.bn hd2.bc] 30) = w5 at hK B5 HI5 HJ5 hA5 ⊢
  clear hGen
  obtain ⟨c0, c1, c2, c3, c4, c5, c6, c7, c8, c9, c10⟩ := msg_cells hA5
  obtain ⟨k0, k1, k2, k3, k4, k5, k6, k7, k8, k9, k10⟩ := msg_cells hK
  clear hA5 hK
  have HS := Lib.hid (same_any m m hd hd2 true w5 HI5.out HJ5.out (by have h1 := HI5.out.s.len; have h2 := HLN.out.1; omega) (by have h1 := HI5.out.e.len; have h2 := HLN.out.2; omega) ⟨fun _ => rfl, fun _ => rfl⟩)
  go_wp2_with fail
  refine HS.out.mono ?_
  rintro e w6 ⟨rfl, b6⟩
  go_wp2
  go_ret
  exact ⟨rfl, below_next B5.out b6⟩
end Go.Proofs.Ytjffjmffoffblaa.Note
