/- The walks of the statements' own beginning and of great. -/
import Derived.Test.YtjffjmffoffblaaQNoteDecode
import Derived.Test.YtjffjmffoffblaaQNoteWrite
namespace Go.Proofs.Ytjffjmffoffblaa.Note
set_option maxRecDepth 100000
open Go.RowKit Go.Sort
open Go.Proofs.Ytjffjmffoffblaa.Nib (enc below_next below_drew Fits takeInt)
open Go.Proofs.Ytjffjmffoffblaa.Slab (Slot Slots Blk ret_bool' ret_int')
open Go.Proofs.Ytjffjmffoffblaa.Ent (Ent Ents EntAt SmallE withinB knownB noE entA below_box alloc_lt arr arr_list list_arr arr_size ent_cells Only)

/-- a message's bytes as a list -/
def encL (m : Ms) : List UInt8 := quadH (Sum.check (body m)) ++ body m
theorem encL_take (m : Ms) : (encL m).take 4 = quadH (Sum.check (body m)) := rfl
theorem encL_drop (m : Ms) : (encL m).drop 4 = body m := rfl
theorem encMsg_good {m : Ms} (hg : goodM m = true) : encMsg m = arr (encL m) ∧ codeM m = 0 := by
  unfold encMsg codeM; rw [hg]; exact ⟨rfl, rfl⟩
theorem dec_enc {m : Ms} (hg : goodM m = true) : decS (encL m) = (m, 0) := by
  obtain ⟨h1, h2⟩ := read_back hg
  have hl : ¬ (encL m).length < 4 := by unfold encL; rw [List.length_append, quadH_len]; omega
  unfold decS
  rw [if_neg hl, encL_take, encL_drop, if_pos rfl, h1, h2, hg]
  rfl
/-- what is read is a right message, written so; or nothing -/
theorem dec_is (s : List UInt8) : (∃ m, decS s = (m, 0) ∧ goodM m = true ∧ encL m = s) ∨ ∃ c, decS s = (noM, c) ∧ c ≠ 0 := by
  unfold decS
  by_cases h4 : s.length < 4
  · rw [if_pos h4]; exact .inr ⟨3, rfl, by decide⟩
  rw [if_neg h4]
  by_cases hq : s.take 4 = quadH (Sum.check (s.drop 4))
  · rw [if_pos hq]
    cases hr : readOk (s.drop 4) with
    | false => exact .inr ⟨4, rfl, by decide⟩
    | true =>
      cases hg : goodM (sAll (s.drop 4)).m with
      | false => exact .inr ⟨4, rfl, by decide⟩
      | true =>
        refine .inl ⟨_, rfl, hg, ?_⟩
        have hb := read_body hr hg
        unfold encL
        rw [hb, ← hq, List.take_append_drop]
  · rw [if_neg hq]; exact .inr ⟨20, rfl, by decide⟩

def M0 : Ms := ⟨10, 1, true, false, 0, 0, 0, 0, 0, [], []⟩
theorem good0 : goodM M0 = true := by decide
theorem body0 : body M0 = [20, 2, 2] := by
  have e10 : enc 10 = [20] := Ent.enc_one (k := 20) rfl (by omega) rfl
  have e1 : enc 1 = [2] := Ent.enc_one (k := 2) rfl (by omega) rfl
  show enc 10 ++ (enc 1 ++ (enc 1 ++ ([] ++ ([] ++ ([] ++ ([] ++ ([] ++ []))))))) = _
  rw [e10, e1]; rfl
theorem goodZ : goodM noM = false := by decide
theorem ext_encL (m : Ms) : (arr (encL m)).extract 4 (arr (encL m)).size = arr (body m) := by rw [ext_drop, encL_drop]
theorem in_lens {w : World} {m : Ms} {h : Hd} (hi : In w m h) : m.zs.length = h.an ∧ m.es.length = h.bn := ⟨hi.s.len, hi.e.len⟩

set_option maxRecDepth 100000 in
set_option maxHeartbeats 4000000 in
theorem awake_any (w : World) :
    Calls Try.prog 4 #[] w fun e w' => e = .returned (.bool true) ∧ Below w.heap.size w w' := by
  have hI0 : ∀ w, In w M0 hd0 := fun w => (InN.nil 0 w M0 rfl rfl).i
  have hIz : ∀ w, In w noM hd0 := fun w => (InN.nil 0 w noM rfl rfl).i
  have HE := Lib.hid (show ∀ w, Calls Try.prog 8 #[.agg #[.int .i64 10, .int .i64 1, .bool true, .bool false, .int .i64 0, .int .i64 0, .int .i64 0, .int .i64 0, .int .i64 0, .slice none 0 0, .slice none 0 0]] w fun e w' => e = .returned (.tuple #[.string (arr (encL M0)), .int .i64 0]) ∧ Below w.heap.size w w' from fun w => by
    have := encode_any M0 hd0 w (hI0 w) (by decide) (by decide)
    rw [(encMsg_good good0).1, (encMsg_good good0).2] at this
    exact this)
  have HD := Lib.hid (show ∀ w, Calls Try.prog 5 #[.string (arr (encL M0))] w (fun e w' => ∃ hd : Hd, e = .returned (.tuple #[.agg #[.int .i64 10, .int .i64 1, .bool true, .bool false, .int .i64 0, .int .i64 0, .int .i64 0, .int .i64 0, .int .i64 0, .slice hd.a hd.an hd.ac, .slice hd.b hd.bn hd.bc], .int .i64 0]) ∧ InN w.heap.size w' M0 hd ∧ Below w.heap.size w w') from fun w => by
    have hl : (encL M0).length ≤ 140737488351232 := by unfold encL; rw [body0]; decide
    have := decode_any (encL M0) w hl
    rw [dec_enc good0] at this
    exact this)
  have HX := Lib.hid (show ∀ w, Calls Try.prog 5 #[.string ⟨#[120]⟩] w (fun e w' => ∃ hd : Hd, e = .returned (.tuple #[.agg #[.int .i64 0, .int .i64 0, .bool false, .bool false, .int .i64 0, .int .i64 0, .int .i64 0, .int .i64 0, .int .i64 0, .slice hd.a hd.an hd.ac, .slice hd.b hd.bn hd.bc], .int .i64 3]) ∧ InN w.heap.size w' noM hd ∧ Below w.heap.size w w') from fun w => decode_any [120] w (by decide))
  have HG := Lib.hid (show ∀ w hd, In w M0 hd → Calls Try.prog 9 #[.agg #[.int .i64 10, .int .i64 1, .bool true, .bool false, .int .i64 0, .int .i64 0, .int .i64 0, .int .i64 0, .int .i64 0, .slice hd.a hd.an hd.ac, .slice hd.b hd.bn hd.bc]] w fun e w' => e = .returned (.bool true) ∧ Below w.heap.size w w' from fun w hd hi => by
    obtain ⟨h1, h2⟩ := in_lens hi
    have e1 : hd.an = 0 := h1.symm
    have e2 : hd.bn = 0 := h2.symm
    have := good_any M0 hd w hi (by omega) (by omega)
    rw [good0] at this
    exact this)
  have HZ := Lib.hid (show ∀ w, Calls Try.prog 9 #[.agg #[.int .i64 0, .int .i64 0, .bool false, .bool false, .int .i64 0, .int .i64 0, .int .i64 0, .int .i64 0, .int .i64 0, .slice none 0 0, .slice none 0 0]] w fun e w' => e = .returned (.bool false) ∧ Below w.heap.size w w' from fun w => by
    have := good_any noM hd0 w (hIz w) (by decide) (by decide)
    rw [goodZ] at this
    exact this)
  clear hI0 hIz
  have hsz : (arr (encL M0)).size = 7 := by rw [arr_size]; unfold encL; rw [body0]; rfl
  have hex : (arr (encL M0)).extract 4 7 = ⟨#[20, 2, 2]⟩ := by have := ext_encL M0; rw [hsz, body0] at this; exact this
  generalize arr (encL M0) = S at HE HD hsz hex
  go_enter Try.func4, Try.ntmps4
  try dsimp only [List.append]
  go_wp2_with fail
  refine (HE.out _).mono ?_
  rintro e w1 ⟨rfl, b1⟩
  go_wp2_with fail
  refine (HD.out _).mono ?_
  rintro e w2 ⟨hd, rfl, hin, b2⟩
  have hb2 := below_next b1 b2
  clear b1 b2
  go_upto_region 3 with (fail)
  have hM := Blk.new w2 30 #[.int .i64 10, .int .i64 1, .bool true, .bool false, .int .i64 0, .int .i64 0, .int .i64 0, .int .i64 0, .int .i64 0, .slice hd.a hd.an hd.ac, .slice hd.b hd.bn hd.bc]
  have hb3 := below_next hb2 (below_box w2 (.cells #[.int .i64 10, .int .i64 1, .bool true, .bool false, .int .i64 0, .int .i64 0, .int .i64 0, .int .i64 0, .int .i64 0, .slice hd.a hd.an hd.ac, .slice hd.b hd.bn hd.bc] 30))
  have hin3 := hin.below (below_box w2 (.cells #[.int .i64 10, .int .i64 1, .bool true, .bool false, .int .i64 0, .int .i64 0, .int .i64 0, .int .i64 0, .int .i64 0, .slice hd.a hd.an hd.ac, .slice hd.b hd.bn hd.bc] 30))
  generalize hGen : w2.alloc (.cells #[.int .i64 10, .int .i64 1, .bool true, .bool false, .int .i64 0, .int .i64 0, .int .i64 0, .int .i64 0, .int .i64 0, .slice hd.a hd.an hd.ac, .slice hd.b hd.bn hd.bc] 30) = W3 at hM hb3 hin3 ⊢
  clear hGen
  clear hb2 hin
  go_wp2_with fail
  refine (HX.out _).mono ?_
  rintro e w4 ⟨hd', rfl, _, b4⟩
  have hM4 := hM.below b4 hM.lt
  have hb4 := below_next hb3 b4
  have hin4 := hin3.below b4
  clear hM hb3 hin3 b4
  go_upto_region 4 with (fail)
  have hM5 := hM4.alloc (.cells #[.int .i64 0, .int .i64 0, .bool false, .bool false, .int .i64 0, .int .i64 0, .int .i64 0, .int .i64 0, .int .i64 0, .slice hd'.a hd'.an hd'.ac, .slice hd'.b hd'.bn hd'.bc] 30)
  have hb5 := below_next hb4 (below_box w4 (.cells #[.int .i64 0, .int .i64 0, .bool false, .bool false, .int .i64 0, .int .i64 0, .int .i64 0, .int .i64 0, .int .i64 0, .slice hd'.a hd'.an hd'.ac, .slice hd'.b hd'.bn hd'.bc] 30))
  have hin5 := hin4.below (below_box w4 (.cells #[.int .i64 0, .int .i64 0, .bool false, .bool false, .int .i64 0, .int .i64 0, .int .i64 0, .int .i64 0, .int .i64 0, .slice hd'.a hd'.an hd'.ac, .slice hd'.b hd'.bn hd'.bc] 30))
  generalize hGen : w4.alloc (.cells #[.int .i64 0, .int .i64 0, .bool false, .bool false, .int .i64 0, .int .i64 0, .int .i64 0, .int .i64 0, .int .i64 0, .slice hd'.a hd'.an hd'.ac, .slice hd'.b hd'.bn hd'.bc] 30) = W5 at hM5 hb5 hin5 ⊢
  clear hGen
  have c0 := Blk.cell hM5 0
  have c1 := Blk.cell hM5 1
  have c2 := Blk.cell hM5 2
  have c3 := Blk.cell hM5 3
  have c4 := Blk.cell hM5 4
  have c5 := Blk.cell hM5 5
  have c6 := Blk.cell hM5 6
  have c7 := Blk.cell hM5 7
  have c8 := Blk.cell hM5 8
  have c9 := Blk.cell hM5 9
  have c10 := Blk.cell hM5 10
  simp at c0 c1 c2 c3 c4 c5 c6 c7 c8 c9 c10
  have HIN := Lib.hid hin5.i
  clear hM4 hb4 hin4 hM5 hin5
  go_wp2_with fail
  refine (HG.out _ hd HIN.out).mono ?_
  rintro e w6 ⟨rfl, b6⟩
  have hb6 := below_next hb5 b6
  clear c0 c1 c2 c3 c4 c5 c6 c7 c8 c9 c10 b6
  go_wp2_with fail
  refine (HZ.out _).mono ?_
  rintro e w7 ⟨rfl, b7⟩
  go_wp2
  go_ret
  exact ⟨rfl, below_next hb6 b7⟩

end Go.Proofs.Ytjffjmffoffblaa.Note
