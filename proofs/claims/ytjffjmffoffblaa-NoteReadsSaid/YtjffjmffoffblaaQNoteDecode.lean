/- The walk of note.Decode. -/
import Derived.Test.YtjffjmffoffblaaQNoteDec
import Derived.Lib.QuietBelow
namespace Go.Proofs.Ytjffjmffoffblaa.Note
set_option maxRecDepth 100000
open Go.RowKit Go.Sort
open Go.Proofs.Ytjffjmffoffblaa.Nib (enc below_next below_drew Fits takeInt)
open Go.Proofs.Ytjffjmffoffblaa.Slab (Slot Slots Blk ret_bool' ret_int')
open Go.Proofs.Ytjffjmffoffblaa.Ent (Ent Ents EntAt SmallE withinB knownB noE entA below_box alloc_lt arr arr_list list_arr arr_size ent_cells Only)

/-- what Decode answers -/
def decS (s : List UInt8) : Ms × Int :=
  if s.length < 4 then (noM, 3) else if s.take 4 = quadH (Sum.check (s.drop 4)) then (if readOk (s.drop 4) && goodM (sAll (s.drop 4)).m then ((sAll (s.drop 4)).m, 0) else (noM, 4)) else (noM, 20)
/-- a message and an error's number are handed back, in new memory -/
def DecRes (m : Ms) (code : Int) (w : World) (e : Ending) (w' : World) : Prop :=
  ∃ hd : Hd, e = .returned (.tuple #[.agg #[.int .i64 m.kind, .int .i64 m.page, .bool m.x, .bool m.need, .int .i64 m.n, .int .i64 m.cl, .int .i64 m.ep, .int .i64 m.tn, .int .i64 m.lsn, .slice hd.a hd.an hd.ac, .slice hd.b hd.bn hd.bc], .int .i64 code]) ∧ InN w.heap.size w' m hd ∧ Below w.heap.size w w'
theorem msg_frozen {w : World} {g : Nat} {t : TypeId} {cs : Array Value} (h : Blk w g t cs) :
    w.frozen? ⟨g, 0, none⟩ = false ∧ w.frozen? ⟨g, 1, none⟩ = false ∧ w.frozen? ⟨g, 2, none⟩ = false ∧ w.frozen? ⟨g, 3, none⟩ = false ∧ w.frozen? ⟨g, 4, none⟩ = false ∧ w.frozen? ⟨g, 5, none⟩ = false ∧ w.frozen? ⟨g, 6, none⟩ = false ∧
    w.frozen? ⟨g, 7, none⟩ = false ∧ w.frozen? ⟨g, 8, none⟩ = false ∧ w.frozen? ⟨g, 9, none⟩ = false ∧ w.frozen? ⟨g, 10, none⟩ = false :=
  ⟨h.frozen 0, h.frozen 1, h.frozen 2, h.frozen 3, h.frozen 4, h.frozen 5, h.frozen 6, h.frozen 7, h.frozen 8, h.frozen 9, h.frozen 10⟩
theorem InN.below {B : Nat} {w w' : World} {m : Ms} {h : Hd} (hi : InN B w m h) (hb : Below w.heap.size w w') : InN B w' m h := ⟨hi.i.below hb, hi.a, hi.b⟩
theorem InN.mono {B B' : Nat} {w : World} {m : Ms} {h : Hd} (hi : InN B w m h) (hb : B' ≤ B) : InN B' w m h := ⟨hi.i, fun g off e h => Nat.lt_of_le_of_lt hb (hi.a g off e h), fun g off e h => Nat.lt_of_le_of_lt hb (hi.b g off e h)⟩
theorem imR_len (s : List UInt8) : (imR s).2.1.length ≤ 32 := by
  rcases Slab.dec_is (s.take (imE s)) with ⟨L, z, hd, hg, _⟩ | hd
  · have e : imR s = ((L : Int), z, 0) := hd
    rw [e]; exact (Slab.good_parts hg).2.2.1
  · have e : imR s = (0, [], 4) := hd
    rw [e]; simp
theorem esL_len (s : List UInt8) : (esL s).length ≤ 16 := by
  unfold esL; rw [entsL_len]; unfold esN; split <;> omega
theorem sAll_len (s : List UInt8) : (sAll s).m.zs.length ≤ 32 ∧ (sAll s).m.es.length ≤ 16 := by
  have h1 : (sHead s).m.zs = [] := by unfold sHead; simp only [sPage_zs, sX_zs, sNeed_zs, sTxn_zs, sN_zs]; rfl
  have h2 := sHead_es s
  unfold sAll
  simp only
  generalize partsH (sHead s).m.kind (sHead s).m.need = H
  constructor
  · rw [sEnts_zs]
    unfold sImage
    split
    · exact imR_len _
    · rw [h1]; simp
  · unfold sEnts
    split
    · exact esL_len _
    · rw [sImage_es, h2]; simp
theorem chk_eq {s : List UInt8} (h : s.take 4 = quadH (Sum.check (s.drop 4))) : ((arr (s.take 4)).toList == (chkB (s.drop 4)).toList) = true := by
  unfold chkB; rw [← h]; exact beq_self_eq_true _
theorem chk_ne {s : List UInt8} (h : ¬ s.take 4 = quadH (Sum.check (s.drop 4))) : ((arr (s.take 4)).toList == (chkB (s.drop 4)).toList) = false := by
  apply beq_eq_false_iff_ne.2
  rw [ByteArray.toList_eq, ByteArray.toList_eq, arr_list]
  unfold chkB
  rw [arr_list]; exact h

set_option maxRecDepth 100000 in
set_option maxHeartbeats 4000000 in
theorem decode_any (s : List UInt8) (w : World) (hs : s.length ≤ 140737488351232) :
    Calls Try.prog 5 #[.string (arr s)] w (DecRes (decS s).1 (decS s).2 w) := by
  have hb := below_box w (.cells #[.int .i64 0, .int .i64 0, .bool false, .bool false, .int .i64 0, .int .i64 0, .int .i64 0, .int .i64 0, .int .i64 0, .slice none 0 0, .slice none 0 0] 30)
  have hZ := Blk.new w 30 #[.int .i64 0, .int .i64 0, .bool false, .bool false, .int .i64 0, .int .i64 0, .int .i64 0, .int .i64 0, .int .i64 0, .slice none 0 0, .slice none 0 0]
  have hg := alloc_lt w (.cells #[.int .i64 0, .int .i64 0, .bool false, .bool false, .int .i64 0, .int .i64 0, .int .i64 0, .int .i64 0, .int .i64 0, .slice none 0 0, .slice none 0 0] 30)
  have HN := Lib.hid (arr_size s)
  have hi0 : ∀ W, InN w.heap.size W noM hd0 := fun W => InN.nil _ W noM rfl rfl
  have HI0 := Lib.hid hi0
  clear hi0
  by_cases h4 : s.length < 4
  · have HE := Lib.hid (show decS s = (noM, 3) from by unfold decS; rw [if_pos h4])
    have h4' : ((arr s).size : Int) < 4 := by have := HN.out; omega
    go_enter Try.func5, Try.ntmps5
    go_upto_region 1 with (fail)
    generalize hGen : w.alloc (.cells #[.int .i64 0, .int .i64 0, .bool false, .bool false, .int .i64 0, .int .i64 0, .int .i64 0, .int .i64 0, .int .i64 0, .slice none 0 0, .slice none 0 0] 30) = W at hb hZ hg ⊢
    clear hGen
    obtain ⟨z0, z1, z2, z3, z4, z5, z6, z7, z8, z9, z10⟩ := msg_cells (m := noM) (h := hd0) hZ
    obtain ⟨q0, q1, q2, q3, q4, q5, q6, q7, q8, q9, q10⟩ := msg_frozen hZ
    simp only [noM, hd0] at z0 z1 z2 z3 z4 z5 z6 z7 z8 z9 z10
    clear hZ
    go_wp2
    refine bodyPost_ret (v := .tuple #[.agg #[.int .i64 0, .int .i64 0, .bool false, .bool false, .int .i64 0, .int .i64 0, .int .i64 0, .int .i64 0, .int .i64 0, .slice none 0 0, .slice none 0 0], .int .i64 3]) (by simp [results, Try.results5, go_sem, z0, z1, z2, z3, z4, z5, z6, z7, z8, z9, z10]) rfl ?_
    rw [HE.out]
    exact ⟨hd0, rfl, (HI0.out _).set11 _ _ _ _ _ _ _ _ _ _ _, below11 hb (Nat.le_refl _) _ _ _ _ _ _ _ _ _ _ _⟩
  have hs4 : 4 ≤ (arr s).size := by have := HN.out; omega
  have hs4' : ¬ (((arr s).size : Int) < 4) := by omega
  have he1 := ext_take s 4
  have he2 := ext_drop s 4
  have hdl : (s.drop 4).length ≤ 140737488351232 := by rw [List.length_drop]; omega
  have HC := Lib.hid (fun w => check_any (arr (s.drop 4)) w (by rw [arr_size]; exact hdl))
  rw [arr_list] at HC
  have HRD := Lib.hid (fun w => read_any (s.drop 4) w hdl)
  by_cases hq : s.take 4 = quadH (Sum.check (s.drop 4))
  rotate_left
  · have HE := Lib.hid (show decS s = (noM, 20) from by unfold decS; rw [if_neg h4, if_neg hq])
    have hc := chk_ne hq
    clear hq HRD
    generalize chkB (s.drop 4) = K at HC hc
    generalize arr (s.take 4) = A at he1 hc
    generalize arr (s.drop 4) = D at HC he2
    go_enter Try.func5, Try.ntmps5
    go_upto_region 1 with (fail)
    generalize hGen : w.alloc (.cells #[.int .i64 0, .int .i64 0, .bool false, .bool false, .int .i64 0, .int .i64 0, .int .i64 0, .int .i64 0, .int .i64 0, .slice none 0 0, .slice none 0 0] 30) = W at hb hZ hg ⊢
    clear hGen
    go_upto_region 4 with (fail)
    have cC : ∀ dd os, Calls Try.prog 10 #[.string D] (grow (redrawn W dd) os) fun e w'' => e = .returned (.string K) ∧ ∃ p : Regrown, w'' = grow (redrawn W p.d) p.os := fun dd os => Calls.regrown_of (HC.out _)
    refine wp_region_quiet_below (by kernel_rfl) (by kernel_rfl) ?_
    repeat (go_big_quiet_step ((with_reducible exact cC _ _)))
    refine wpQuiet_nil ?_
    intro _ hw'
    obtain ⟨⟨dq, osq⟩, hw''⟩ := hw'
    subst hw''
    have b5 := below_regrown W dq osq
    generalize grow (redrawn W dq) osq = W5 at b5 ⊢
    have hZ5 := hZ.below b5 hg
    have hb5 := below_next hb b5
    obtain ⟨z0, z1, z2, z3, z4, z5, z6, z7, z8, z9, z10⟩ := msg_cells (m := noM) (h := hd0) hZ5
    obtain ⟨q0, q1, q2, q3, q4, q5, q6, q7, q8, q9, q10⟩ := msg_frozen hZ5
    simp only [noM, hd0] at z0 z1 z2 z3 z4 z5 z6 z7 z8 z9 z10
    clear hZ5 hZ hb b5 cC
    go_wp2
    refine bodyPost_ret (v := .tuple #[.agg #[.int .i64 0, .int .i64 0, .bool false, .bool false, .int .i64 0, .int .i64 0, .int .i64 0, .int .i64 0, .int .i64 0, .slice none 0 0, .slice none 0 0], .int .i64 20]) (by simp [results, Try.results5, go_sem, z0, z1, z2, z3, z4, z5, z6, z7, z8, z9, z10]) rfl ?_
    rw [HE.out]
    exact ⟨hd0, rfl, (HI0.out _).set11 _ _ _ _ _ _ _ _ _ _ _, below11 hb5 (Nat.le_refl _) _ _ _ _ _ _ _ _ _ _ _⟩
  have HE := Lib.hid (show decS s = if readOk (s.drop 4) && goodM (sAll (s.drop 4)).m then ((sAll (s.drop 4)).m, 0) else (noM, 4) from by unfold decS; rw [if_neg h4, if_pos hq])
  have HLZ := Lib.hid (sAll_len (s.drop 4))
  have hc := chk_eq hq
  clear hq
  have HRO := Lib.hid (show readOk (s.drop 4) = (!(sAll (s.drop 4)).bad && ((sAll (s.drop 4)).r == [])) from rfl)
  generalize sAll (s.drop 4) = t at HRD HE HLZ HRO
  generalize chkB (s.drop 4) = K at HC hc
  generalize arr (s.take 4) = A at he1 hc
  generalize arr (s.drop 4) = D at HC he2 HRD
  generalize readOk (s.drop 4) = ok at HE HRO
  obtain ⟨m, rr, bad⟩ := t
  have hro : ok = (!bad && (rr == [])) := HRO.out
  replace HRD := Lib.hid (show ∀ w, Calls Try.prog 11 #[.string D] w (fun e w' => ∃ hd : Hd, e = .returned (.tuple #[.agg #[.int .i64 m.kind, .int .i64 m.page, .bool m.x, .bool m.need, .int .i64 m.n, .int .i64 m.cl, .int .i64 m.ep, .int .i64 m.tn, .int .i64 m.lsn, .slice hd.a hd.an hd.ac, .slice hd.b hd.bn hd.bc], .bool ok]) ∧ InN w.heap.size w' m hd ∧ Below w.heap.size w w') from fun w => by rw [hro]; exact HRD.out w)
  clear hro HRO
  go_enter Try.func5, Try.ntmps5
  go_upto_region 1 with (fail)
  generalize hGen : w.alloc (.cells #[.int .i64 0, .int .i64 0, .bool false, .bool false, .int .i64 0, .int .i64 0, .int .i64 0, .int .i64 0, .int .i64 0, .slice none 0 0, .slice none 0 0] 30) = W at hb hZ hg ⊢
  clear hGen
  go_upto_region 4 with (fail)
  have cC : ∀ dd os, Calls Try.prog 10 #[.string D] (grow (redrawn W dd) os) fun e w'' => e = .returned (.string K) ∧ ∃ p : Regrown, w'' = grow (redrawn W p.d) p.os := fun dd os => Calls.regrown_of (HC.out _)
  refine wp_region_quiet_below (by kernel_rfl) (by kernel_rfl) ?_
  repeat (go_big_quiet_step ((with_reducible exact cC _ _)))
  refine wpQuiet_nil ?_
  intro _ hw'
  obtain ⟨⟨dq, osq⟩, hw''⟩ := hw'
  subst hw''
  have b5 := below_regrown W dq osq
  generalize grow (redrawn W dq) osq = W5 at b5 ⊢
  have hZ5 := hZ.below b5 hg
  have hb5 := below_next hb b5
  have hg5 := Nat.lt_of_lt_of_le hg b5.size
  clear hZ hb b5 cC hg
  go_wp2_with fail
  refine (HRD.out _).mono ?_
  rintro e w6 ⟨hd, rfl, hin, b6⟩
  have HIN := Lib.hid (hin.mono (Nat.le_of_lt hg5))
  have hZ6 := hZ5.below b6 hg5
  have hb6 := below_next hb5 b6
  have hg6 := Nat.lt_of_lt_of_le hg5 b6.size
  clear hZ5 hb5 b6 hin
  go_upto_region 7 with (fail)
  have hZ7 := hZ6.alloc (.cells #[.int .i64 m.kind, .int .i64 m.page, .bool m.x, .bool m.need, .int .i64 m.n, .int .i64 m.cl, .int .i64 m.ep, .int .i64 m.tn, .int .i64 m.lsn, .slice hd.a hd.an hd.ac, .slice hd.b hd.bn hd.bc] 30)
  have hM7 := Blk.new w6 30 #[.int .i64 m.kind, .int .i64 m.page, .bool m.x, .bool m.need, .int .i64 m.n, .int .i64 m.cl, .int .i64 m.ep, .int .i64 m.tn, .int .i64 m.lsn, .slice hd.a hd.an hd.ac, .slice hd.b hd.bn hd.bc]
  have hb7 := below_next hb6 (below_box w6 (.cells #[.int .i64 m.kind, .int .i64 m.page, .bool m.x, .bool m.need, .int .i64 m.n, .int .i64 m.cl, .int .i64 m.ep, .int .i64 m.tn, .int .i64 m.lsn, .slice hd.a hd.an hd.ac, .slice hd.b hd.bn hd.bc] 30))
  have HIN7 := Lib.hid (HIN.out.below (below_box w6 (.cells #[.int .i64 m.kind, .int .i64 m.page, .bool m.x, .bool m.need, .int .i64 m.n, .int .i64 m.cl, .int .i64 m.ep, .int .i64 m.tn, .int .i64 m.lsn, .slice hd.a hd.an hd.ac, .slice hd.b hd.bn hd.bc] 30)))
  have hg7 := alloc_lt w6 (.cells #[.int .i64 m.kind, .int .i64 m.page, .bool m.x, .bool m.need, .int .i64 m.n, .int .i64 m.cl, .int .i64 m.ep, .int .i64 m.tn, .int .i64 m.lsn, .slice hd.a hd.an hd.ac, .slice hd.b hd.bn hd.bc] 30)
  generalize hGen : w6.alloc (.cells #[.int .i64 m.kind, .int .i64 m.page, .bool m.x, .bool m.need, .int .i64 m.n, .int .i64 m.cl, .int .i64 m.ep, .int .i64 m.tn, .int .i64 m.lsn, .slice hd.a hd.an hd.ac, .slice hd.b hd.bn hd.bc] 30) = W7 at hZ7 hM7 hb7 HIN7 hg7 ⊢
  clear hGen
  clear hZ6 hb6 HIN
  cases ok with
  | false =>
    have HE := Lib.hid (show decS s = (noM, 4) from by rw [HE.out]; rfl)
    obtain ⟨z0, z1, z2, z3, z4, z5, z6, z7, z8, z9, z10⟩ := msg_cells (m := noM) (h := hd0) hZ7
    obtain ⟨q0, q1, q2, q3, q4, q5, q6, q7, q8, q9, q10⟩ := msg_frozen hZ7
    simp only [noM, hd0] at z0 z1 z2 z3 z4 z5 z6 z7 z8 z9 z10
    clear hZ7 hM7
    go_wp2
    refine bodyPost_ret (v := .tuple #[.agg #[.int .i64 0, .int .i64 0, .bool false, .bool false, .int .i64 0, .int .i64 0, .int .i64 0, .int .i64 0, .int .i64 0, .slice none 0 0, .slice none 0 0], .int .i64 4]) (by simp [results, Try.results5, go_sem, z0, z1, z2, z3, z4, z5, z6, z7, z8, z9, z10]) rfl ?_
    rw [HE.out]
    exact ⟨hd0, rfl, (HI0.out _).set11 _ _ _ _ _ _ _ _ _ _ _, below11 hb7 (Nat.le_refl _) _ _ _ _ _ _ _ _ _ _ _⟩
  | true =>
    obtain ⟨c0, c1, c2, c3, c4, c5, c6, c7, c8, c9, c10⟩ := msg_cells hM7
    have hla := HIN7.out.i.s.len
    have hlb := HIN7.out.i.e.len
    have hz1 : m.zs.length ≤ 32 := HLZ.out.1
    have hz2 : m.es.length ≤ 16 := HLZ.out.2
    have HGD := Lib.hid (fun w' (b : Below W7.heap.size W7 w') => good_any m hd w' (HIN7.out.below b).i (by omega) (by omega))
    clear hla hlb hz1 hz2
    go_wp2_with fail
    refine (HGD.out _ (Below.refl _ _)).mono ?_
    rintro e w8 ⟨rfl, b8⟩
    have hZ8 := hZ7.below b8 (by omega)
    have hM8 := hM7.below b8 hg7
    have hb8 := below_next hb7 b8
    have HIN8 := Lib.hid (HIN7.out.below b8)
    have hne : w6.heap.size ≠ w.heap.size := by omega
    clear c0 c1 c2 c3 c4 c5 c6 c7 c8 c9 c10 hZ7 hM7 hb7 HIN7 b8
    obtain ⟨z0, z1, z2, z3, z4, z5, z6, z7, z8, z9, z10⟩ := msg_cells (m := noM) (h := hd0) hZ8
    obtain ⟨q0, q1, q2, q3, q4, q5, q6, q7, q8, q9, q10⟩ := msg_frozen hZ8
    simp only [noM, hd0] at z0 z1 z2 z3 z4 z5 z6 z7 z8 z9 z10
    clear hZ8
    cases hgd : goodM m with
    | false =>
      have HE := Lib.hid (show decS s = (noM, 4) from by rw [HE.out]; simp only [hgd]; rfl)
      clear hgd hM8
      go_wp2
      refine bodyPost_ret (v := .tuple #[.agg #[.int .i64 0, .int .i64 0, .bool false, .bool false, .int .i64 0, .int .i64 0, .int .i64 0, .int .i64 0, .int .i64 0, .slice none 0 0, .slice none 0 0], .int .i64 4]) (by simp [results, Try.results5, go_sem, z0, z1, z2, z3, z4, z5, z6, z7, z8, z9, z10]) rfl ?_
      rw [HE.out]
      exact ⟨hd0, rfl, (HI0.out _).set11 _ _ _ _ _ _ _ _ _ _ _, below11 hb8 (Nat.le_refl _) _ _ _ _ _ _ _ _ _ _ _⟩
    | true =>
      have HE := Lib.hid (show decS s = (m, 0) from by rw [HE.out]; simp only [hgd]; rfl)
      clear hgd
      obtain ⟨c0, c1, c2, c3, c4, c5, c6, c7, c8, c9, c10⟩ := msg_cells hM8
      clear hM8
      go_wp2
      refine bodyPost_ret (v := .tuple #[.agg #[.int .i64 m.kind, .int .i64 m.page, .bool m.x, .bool m.need, .int .i64 m.n, .int .i64 m.cl, .int .i64 m.ep, .int .i64 m.tn, .int .i64 m.lsn, .slice hd.a hd.an hd.ac, .slice hd.b hd.bn hd.bc], .int .i64 0]) (by simp [results, Try.results5, go_sem, z0, z1, z2, z3, z4, z5, z6, z7, z8, z9, z10]) rfl ?_
      rw [HE.out]
      exact ⟨hd, rfl, HIN8.out.set11 _ _ _ _ _ _ _ _ _ _ _, below11 hb8 (Nat.le_refl _) _ _ _ _ _ _ _ _ _ _ _⟩
end Go.Proofs.Ytjffjmffoffblaa.Note
