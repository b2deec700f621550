/- The walks of the document's own Decode, at each of the kinds. -/
import Derived.Test.YtjffjmffoffblaaQNoteRDec0
import Derived.Test.YtjffjmffoffblaaQNoteDecode
import Derived.Test.YtjffjmffoffblaaQSlabRDec
import Derived.Test.YtjffjmffoffblaaQEntRefDec
namespace Go.Proofs.Ytjffjmffoffblaa.Note
set_option maxRecDepth 100000
open Go.RowKit Go.Sort
open Go.Proofs.Ytjffjmffoffblaa.Nib (enc below_next below_drew Fits takeInt)
open Go.Proofs.Ytjffjmffoffblaa.Slab (Slot Slots Blk ret_bool' ret_int' decR)
open Go.Proofs.Ytjffjmffoffblaa.Ent (Ent Ents EntAt SmallE withinB knownB noE entA below_box alloc_lt arr arr_list list_arr arr_size ent_cells Only decX decT decC cellsE cellsE_snoc infoE)
/-- what the document's own Decode holds: the cursor, the message, the result -/
structure RC (w wk : World) (r mb : Nat) (t : St) (hd : Hd) : Prop where
  rd : CRd wk r t.r t.bad
  m : Blk wk mb 30 (msgA t.m hd)
  z : Blk wk w.heap.size 30 (msgA noM hd0)
  bel : Below w.heap.size w wk
  len : t.r.length ≤ 140737488351232
structure PC (w : World) (r mb : Nat) : Prop where
  pr : w.heap.size < r
  pm : r < mb
section
variable {w wk wk' : World} {r mb : Nat} {t : St} {hd : Hd}
theorem RC.next (S : RC w wk r mb t hd) (b : Below wk.heap.size wk wk') : RC w wk' r mb t hd :=
  ⟨S.rd.below b, S.m.below b S.m.lt, S.z.below b S.z.lt, below_next S.bel b, S.len⟩
theorem RC.num (S : RC w wk r mb t hd) (P : PC w r mb) {s' : List UInt8} {bad' : Bool} (h1 : CRd wk' r s' bad') (o : Only r wk wk') (hl : s'.length ≤ t.r.length) : RC w wk' r mb ⟨t.m, s', bad'⟩ hd :=
  ⟨h1, o.blk S.m (Nat.ne_of_gt P.pm), o.blk S.z (Nat.ne_of_lt P.pr), S.bel.trans (o.below (Nat.le_of_lt P.pr) (Nat.le_of_lt S.z.lt)), Nat.le_trans hl S.len⟩
theorem RC.setm (S : RC w wk r mb t hd) (P : PC w r mb) (i : Nat) (v : Value) {m' : Ms} {hd' : Hd} (h : (msgA t.m hd).setIfInBounds i v = msgA m' hd') : RC w (wk.setCell ⟨mb, i, none⟩ v) r mb ⟨m', t.r, t.bad⟩ hd' :=
  ⟨S.rd.far (Nat.ne_of_lt P.pm) i v, h ▸ Slab.Blk.set_ S.m i v, Slab.Blk.far S.z (p := ⟨mb, i, none⟩) (Nat.ne_of_lt (Nat.lt_trans P.pr P.pm)) v, S.bel.setCell (p := ⟨mb, i, none⟩) (Nat.le_of_lt (Nat.lt_trans P.pr P.pm)) v, S.len⟩
theorem RC.bad (S : RC w wk r mb t hd) (P : PC w r mb) (k : Bool) : RC w (wk.setCell ⟨r, 1, none⟩ (.bool k)) r mb ⟨t.m, t.r, k⟩ hd :=
  ⟨S.rd.set1, Slab.Blk.far S.m (p := ⟨r, 1, none⟩) (Nat.ne_of_gt P.pm) _, Slab.Blk.far S.z (p := ⟨r, 1, none⟩) (Nat.ne_of_lt P.pr) _, S.bel.setCell (p := ⟨r, 1, none⟩) (Nat.le_of_lt P.pr) _, S.len⟩
theorem RC.rest (S : RC w wk r mb t hd) (P : PC w r mb) (s' : List UInt8) (hl : s'.length ≤ t.r.length) : RC w (wk.setCell ⟨r, 0, none⟩ (.string (arr s'))) r mb ⟨t.m, s', t.bad⟩ hd :=
  ⟨S.rd.set0, Slab.Blk.far S.m (p := ⟨r, 0, none⟩) (Nat.ne_of_gt P.pm) _, Slab.Blk.far S.z (p := ⟨r, 0, none⟩) (Nat.ne_of_lt P.pr) _, S.bel.setCell (p := ⟨r, 0, none⟩) (Nat.le_of_lt P.pr) _, Nat.le_trans hl S.len⟩
theorem RC.page1 (S : RC w wk r mb t hd) (P : PC w r mb) (l : Int) (z : List Slot) (a : Option Addr) (n c : Nat) :
    RC w ((wk.setCell ⟨mb, 8, none⟩ (.int .i64 l)).setCell ⟨mb, 9, none⟩ (.slice a n c)) r mb ⟨{ t.m with lsn := l, zs := z }, t.r, t.bad⟩ ⟨a, n, c, hd.b, hd.bn, hd.bc⟩ :=
  (S.setm P 8 (.int .i64 l) (m' := { t.m with lsn := l, zs := z }) (hd' := hd) rfl).setm P 9 _ rfl
end
theorem nx_len (s : List UInt8) : (nx s).length ≤ s.length := Nib.takeInt_len s
theorem imR_short {s : List UInt8} (h : s.length < 240) : imR s = (0, [], 4) := by
  unfold imR decR
  have : imE s = s.length := by unfold imE; omega
  rw [this, List.take_length, if_neg (by omega)]
theorem imE_long {s : List UInt8} (h : ¬ s.length < 240) : imE s = 240 := by unfold imE; omega
/-- what the answer is, by what the whole reading comes to -/
theorem decS_of {s : List UInt8} (h4 : 4 ≤ s.length) (hq : s.take 4 = quadH (Sum.check (s.drop 4))) {t : St} (ht : sAll (s.drop 4) = t) :
    decS s = if (!t.bad && (t.r == [])) && goodM t.m then (t.m, 0) else (noM, 4) := by
  subst ht
  unfold decS readOk
  rw [if_neg (by omega), if_pos hq]

set_option maxRecDepth 100000 in
set_option maxHeartbeats 4000000 in
theorem rdec_short (S : ByteArray) (w : World) (h4 : S.size < 4) :
    Calls Try.prog 6 #[.string S] w (DecRes (decS S.data.toList).1 (decS S.data.toList).2 w) := by
  have hZ := Blk.new w 30 #[.int .i64 0, .int .i64 0, .bool false, .bool false, .int .i64 0, .int .i64 0, .int .i64 0, .int .i64 0, .int .i64 0, .slice none 0 0, .slice none 0 0]
  have hb := below_box w (.cells #[.int .i64 0, .int .i64 0, .bool false, .bool false, .int .i64 0, .int .i64 0, .int .i64 0, .int .i64 0, .int .i64 0, .slice none 0 0, .slice none 0 0] 30)
  have hg := alloc_lt w (.cells #[.int .i64 0, .int .i64 0, .bool false, .bool false, .int .i64 0, .int .i64 0, .int .i64 0, .int .i64 0, .int .i64 0, .slice none 0 0, .slice none 0 0] 30)
  have HI0 := Lib.hid (fun W => InN.nil w.heap.size W noM rfl rfl)
  have hsz : S.size = S.data.toList.length := by simp
  have HSZ := Lib.hid hsz
  clear hsz
  have HE := Lib.hid (show decS S.data.toList = (noM, 3) from by unfold decS; rw [if_pos (by have := HSZ.out; omega)])
  have h4' : (S.size : Int) < 4 := by omega
  go_enter Try.func6, Try.ntmps6
  try dsimp only [List.append]
  go_upto_region 1 with (fail)
  generalize hGen : w.alloc (.cells #[.int .i64 0, .int .i64 0, .bool false, .bool false, .int .i64 0, .int .i64 0, .int .i64 0, .int .i64 0, .int .i64 0, .slice none 0 0, .slice none 0 0] 30) = W at hb hZ hg ⊢
  clear hGen
  obtain ⟨z0, z1, z2, z3, z4, z5, z6, z7, z8, z9, z10⟩ := msg_cells (m := noM) (h := hd0) hZ
  obtain ⟨q0, q1, q2, q3, q4, q5, q6, q7, q8, q9, q10⟩ := msg_frozen hZ
  simp only [noM, hd0] at z0 z1 z2 z3 z4 z5 z6 z7 z8 z9 z10
  clear hZ
  go_wp2
  refine bodyPost_ret (v := .tuple #[.agg #[.int .i64 0, .int .i64 0, .bool false, .bool false, .int .i64 0, .int .i64 0, .int .i64 0, .int .i64 0, .int .i64 0, .slice none 0 0, .slice none 0 0], .int .i64 3]) (by simp [results, Try.results6, go_sem, z0, z1, z2, z3, z4, z5, z6, z7, z8, z9, z10]) rfl ?_
  rw [HE.out]
  exact ⟨hd0, rfl, (HI0.out _).set11 _ _ _ _ _ _ _ _ _ _ _, below11 hb (Nat.le_refl _) _ _ _ _ _ _ _ _ _ _ _⟩
set_option maxRecDepth 100000 in
set_option maxHeartbeats 4000000 in
theorem rdec_sum (S : ByteArray) (w : World) (hs : S.size ≤ 140737488351232) (h4 : 4 ≤ S.size) (hq : ¬ S.data.toList.take 4 = quadH (Sum.check (S.data.toList.drop 4))) :
    Calls Try.prog 6 #[.string S] w (DecRes (decS S.data.toList).1 (decS S.data.toList).2 w) := by
  have hZ := Blk.new w 30 #[.int .i64 0, .int .i64 0, .bool false, .bool false, .int .i64 0, .int .i64 0, .int .i64 0, .int .i64 0, .int .i64 0, .slice none 0 0, .slice none 0 0]
  have hb := below_box w (.cells #[.int .i64 0, .int .i64 0, .bool false, .bool false, .int .i64 0, .int .i64 0, .int .i64 0, .int .i64 0, .int .i64 0, .slice none 0 0, .slice none 0 0] 30)
  have hg := alloc_lt w (.cells #[.int .i64 0, .int .i64 0, .bool false, .bool false, .int .i64 0, .int .i64 0, .int .i64 0, .int .i64 0, .int .i64 0, .slice none 0 0, .slice none 0 0] 30)
  have HI0 := Lib.hid (fun W => InN.nil w.heap.size W noM rfl rfl)
  have hsz : S.size = S.data.toList.length := by simp
  have HSZ := Lib.hid hsz
  clear hsz
  have HE := Lib.hid (show decS S.data.toList = (noM, 20) from by unfold decS; rw [if_neg (by have := HSZ.out; omega), if_neg hq])
  have h4' : ¬ ((S.size : Int) < 4) := by omega
  have i0 : (0 : Int) < (S.size : Int) := by omega
  have i1 : (1 : Int) < (S.size : Int) := by omega
  have i2 : (2 : Int) < (S.size : Int) := by omega
  have i3 : (3 : Int) < (S.size : Int) := by omega
  have j0 : 0 < S.size := by omega
  have j1 : 1 < S.size := by omega
  have j2 : 2 < S.size := by omega
  have j3 : 3 < S.size := by omega
  have b0 := (S[0]'(by omega)).toNat_lt
  have b1 := (S[1]'(by omega)).toNat_lt
  have b2 := (S[2]'(by omega)).toNat_lt
  have b3 := (S[3]'(by omega)).toNat_lt
  have hs4 : 4 ≤ S.size := h4
  have HQN := Lib.hid (quad_num h4 (Sum.check (S.data.toList.drop 4)))
  have HDR := Lib.hid (show (S.extract 4 S.size).data.toList = S.data.toList.drop 4 from by rw [← Nib.str_drop])
  have HOF := Lib.hid (fun w => Sum.ref_any (S.extract 4 S.size) w (by rw [ByteArray.size_extract]; omega))
  rw [HDR.out] at HOF
  go_enter Try.func6, Try.ntmps6
  try dsimp only [List.append]
  go_upto_region 3 with (fail)
  generalize hGen : w.alloc (.cells #[.int .i64 0, .int .i64 0, .bool false, .bool false, .int .i64 0, .int .i64 0, .int .i64 0, .int .i64 0, .int .i64 0, .slice none 0 0, .slice none 0 0] 30) = W at hb hZ hg ⊢
  clear hGen
  go_quiet (fail)
  have hbq := below_drew hb nq
  have hZq : Blk (W.drewN nq) w.heap.size 30 #[.int .i64 0, .int .i64 0, .bool false, .bool false, .int .i64 0, .int .i64 0, .int .i64 0, .int .i64 0, .int .i64 0, .slice none 0 0, .slice none 0 0] := hZ
  have hgq : w.heap.size < (W.drewN nq).heap.size := hg
  generalize hGen : W.drewN nq = Wq at hbq hZq hgq ⊢
  clear hGen
  clear hb hZ hg
  have hne := fun e => hq (HQN.out.2 e)
  clear hq
  generalize ((S[0]'(by omega)).toNat : Int) * 16777216 + ((S[1]'(by omega)).toNat : Int) * 65536 + ((S[2]'(by omega)).toNat : Int) * 256 + ((S[3]'(by omega)).toNat : Int) = V at hne ⊢
  have hcmp : (((Sum.check (S.data.toList.drop 4)).toNat : Int) != V) = true := bne_iff_ne.2 (fun e => hne e.symm)
  clear hne b0 b1 b2 b3
  go_wp2_with fail
  refine (HOF.out _).mono ?_
  rintro e w1 ⟨rfl, rfl⟩
  obtain ⟨z0, z1, z2, z3, z4, z5, z6, z7, z8, z9, z10⟩ := msg_cells (m := noM) (h := hd0) hZq
  obtain ⟨q0, q1, q2, q3, q4, q5, q6, q7, q8, q9, q10⟩ := msg_frozen hZq
  simp only [noM, hd0] at z0 z1 z2 z3 z4 z5 z6 z7 z8 z9 z10
  clear hZq
  go_wp2
  refine bodyPost_ret (v := .tuple #[.agg #[.int .i64 0, .int .i64 0, .bool false, .bool false, .int .i64 0, .int .i64 0, .int .i64 0, .int .i64 0, .int .i64 0, .slice none 0 0, .slice none 0 0], .int .i64 20]) (by simp [results, Try.results6, go_sem, z0, z1, z2, z3, z4, z5, z6, z7, z8, z9, z10]) rfl ?_
  rw [HE.out]
  exact ⟨hd0, rfl, (HI0.out _).set11 _ _ _ _ _ _ _ _ _ _ _, below11 hbq (Nat.le_refl _) _ _ _ _ _ _ _ _ _ _ _⟩
end Go.Proofs.Ytjffjmffoffblaa.Note
