/- The walks of note.read, at each of the kinds, and Decode. -/
import Derived.Test.YtjffjmffoffblaaQNoteEnts
import Derived.Test.YtjffjmffoffblaaQNoteCheck
namespace Go.Proofs.Ytjffjmffoffblaa.Note
set_option maxRecDepth 100000
open Go.RowKit Go.Sort
open Go.Proofs.Ytjffjmffoffblaa.Nib (enc below_next below_drew Fits takeInt)
open Go.Proofs.Ytjffjmffoffblaa.Slab (Slot Slots Blk ret_bool' ret_int')
open Go.Proofs.Ytjffjmffoffblaa.Ent (Ent Ents EntAt SmallE withinB knownB noE entA below_box alloc_lt arr arr_list list_arr arr_size ent_cells Only)

def hd0 : Hd := ⟨none, 0, 0, none, 0, 0⟩
/-- what the reader's caller holds: the reader, the message, what the kind has, the result -/
structure RS (w wk : World) (r mb hb : Nat) (t : St) (hd : Hd) (hc : Array Value) : Prop where
  rd : Rd wk r t.r t.bad
  m : Blk wk mb 30 (msgA t.m hd)
  h : Blk wk hb 61 hc
  z : Blk wk w.heap.size 30 (msgA noM hd0)
  bel : Below w.heap.size w wk
  len : t.r.length ≤ 140737488351232
/-- where these lie -/
structure PL (w : World) (r mb hb : Nat) : Prop where
  pr : w.heap.size < r
  pm : r < mb
  ph : mb < hb
section
variable {w wk wk' : World} {r mb hb : Nat} {t : St} {hd : Hd} {hc : Array Value}
theorem RS.next (S : RS w wk r mb hb t hd hc) (b : Below wk.heap.size wk wk') : RS w wk' r mb hb t hd hc :=
  ⟨S.rd.below b, S.m.below b S.m.lt, S.h.below b S.h.lt, S.z.below b S.z.lt, below_next S.bel b, S.len⟩
theorem RS.only (S : RS w wk r mb hb t hd hc) (P : PL w r mb hb) {s' : List UInt8} {bad' : Bool} (h1 : Rd wk' r s' bad') (o : Only r wk wk') (hl : s'.length ≤ 140737488351232) : RS w wk' r mb hb ⟨t.m, s', bad'⟩ hd hc :=
  ⟨h1, o.blk S.m (Nat.ne_of_gt P.pm), o.blk S.h (Nat.ne_of_gt (Nat.lt_trans P.pm P.ph)), o.blk S.z (Nat.ne_of_lt P.pr), S.bel.trans (o.below (Nat.le_of_lt P.pr) (Nat.le_of_lt S.z.lt)), hl⟩
theorem RS.setm (S : RS w wk r mb hb t hd hc) (P : PL w r mb hb) (i : Nat) (v : Value) {m' : Ms} {hd' : Hd} (h : (msgA t.m hd).setIfInBounds i v = msgA m' hd') : RS w (wk.setCell ⟨mb, i, none⟩ v) r mb hb ⟨m', t.r, t.bad⟩ hd' hc :=
  ⟨S.rd.far (Nat.ne_of_lt P.pm) i v, h ▸ Slab.Blk.set_ S.m i v, Slab.Blk.far S.h (p := ⟨mb, i, none⟩) (Nat.ne_of_gt P.ph) v, Slab.Blk.far S.z (p := ⟨mb, i, none⟩) (Nat.ne_of_lt (Nat.lt_trans P.pr P.pm)) v, S.bel.setCell (p := ⟨mb, i, none⟩) (Nat.le_of_lt (Nat.lt_trans P.pr P.pm)) v, S.len⟩
theorem RS.seth1 (S : RS w wk r mb hb t hd hc) (P : PL w r mb hb) (i : Nat) (v : Value) {hc' : Array Value} (he : hc.setIfInBounds i v = hc') : RS w (wk.setCell ⟨hb, i, none⟩ v) r mb hb t hd hc' :=
  ⟨S.rd.far (Nat.ne_of_lt (Nat.lt_trans P.pm P.ph)) i v, Slab.Blk.far S.m (p := ⟨hb, i, none⟩) (Nat.ne_of_lt P.ph) v, he ▸ Slab.Blk.set_ S.h i v, Slab.Blk.far S.z (p := ⟨hb, i, none⟩) (Nat.ne_of_lt (Nat.lt_trans P.pr (Nat.lt_trans P.pm P.ph))) v, S.bel.setCell (p := ⟨hb, i, none⟩) (Nat.le_of_lt (Nat.lt_trans P.pr (Nat.lt_trans P.pm P.ph))) v, S.len⟩
theorem RS.seth {a0 a1 a2 a3 a4 a5 a6 a7 : Value} (S : RS w wk r mb hb t hd #[a0, a1, a2, a3, a4, a5, a6, a7]) (P : PL w r mb hb) (c0 c1 c2 c3 c4 c5 c6 c7 : Value) :
    RS w ((((((((wk.setCell ⟨hb, 0, none⟩ c0).setCell ⟨hb, 1, none⟩ c1).setCell ⟨hb, 2, none⟩ c2).setCell ⟨hb, 3, none⟩ c3).setCell ⟨hb, 4, none⟩ c4).setCell ⟨hb, 5, none⟩ c5).setCell ⟨hb, 6, none⟩ c6).setCell ⟨hb, 7, none⟩ c7) r mb hb t hd #[c0, c1, c2, c3, c4, c5, c6, c7] :=
  ((((((((S.seth1 P 0 c0 (hc' := #[c0, a1, a2, a3, a4, a5, a6, a7]) rfl).seth1 P 1 c1 (hc' := #[c0, c1, a2, a3, a4, a5, a6, a7]) rfl).seth1 P 2 c2 (hc' := #[c0, c1, c2, a3, a4, a5, a6, a7]) rfl).seth1 P 3 c3 (hc' := #[c0, c1, c2, c3, a4, a5, a6, a7]) rfl).seth1 P 4 c4 (hc' := #[c0, c1, c2, c3, c4, a5, a6, a7]) rfl).seth1 P 5 c5 (hc' := #[c0, c1, c2, c3, c4, c5, a6, a7]) rfl).seth1 P 6 c6 (hc' := #[c0, c1, c2, c3, c4, c5, c6, a7]) rfl).seth1 P 7 c7 (hc' := #[c0, c1, c2, c3, c4, c5, c6, c7]) rfl)
theorem RS.page (S : RS w wk r mb hb t hd hc) (P : PL w r mb hb) (h1 : Rd wk' r (nx t.r) (t.bad || wr t.r)) (o : Only r wk wk') :
    RS w (wk'.setCell ⟨mb, 1, none⟩ (.int .i64 (vl t.r))) r mb hb ⟨{ t.m with page := vl t.r }, nx t.r, t.bad || wr t.r⟩ hd hc :=
  (S.only P h1 o (Nat.le_trans (Nib.takeInt_len _) S.len)).setm P 1 _ rfl
theorem RS.x (S : RS w wk r mb hb t hd hc) (P : PL w r mb hb) (h1 : Rd wk' r (nx t.r) (wf t.r t.bad)) (o : Only r wk wk') :
    RS w (wk'.setCell ⟨mb, 2, none⟩ (.bool (fg t.r))) r mb hb ⟨{ t.m with x := fg t.r }, nx t.r, wf t.r t.bad⟩ hd hc :=
  (S.only P h1 o (Nat.le_trans (Nib.takeInt_len _) S.len)).setm P 2 _ rfl
theorem RS.need (S : RS w wk r mb hb t hd hc) (P : PL w r mb hb) (h1 : Rd wk' r (nx t.r) (wf t.r t.bad)) (o : Only r wk wk') :
    RS w (wk'.setCell ⟨mb, 3, none⟩ (.bool (fg t.r))) r mb hb ⟨{ t.m with need := fg t.r }, nx t.r, wf t.r t.bad⟩ hd hc :=
  (S.only P h1 o (Nat.le_trans (Nib.takeInt_len _) S.len)).setm P 3 _ rfl
theorem RS.n (S : RS w wk r mb hb t hd hc) (P : PL w r mb hb) (h1 : Rd wk' r (nx t.r) (t.bad || wr t.r)) (o : Only r wk wk') :
    RS w (wk'.setCell ⟨mb, 4, none⟩ (.int .i64 (vl t.r))) r mb hb ⟨{ t.m with n := vl t.r }, nx t.r, t.bad || wr t.r⟩ hd hc :=
  (S.only P h1 o (Nat.le_trans (Nib.takeInt_len _) S.len)).setm P 4 _ rfl
/-- a number taken, the message as it was -/
theorem RS.num (S : RS w wk r mb hb t hd hc) (P : PL w r mb hb) (h1 : Rd wk' r (nx t.r) (t.bad || wr t.r)) (o : Only r wk wk') :
    RS w wk' r mb hb ⟨t.m, nx t.r, t.bad || wr t.r⟩ hd hc := S.only P h1 o (Nat.le_trans (Nib.takeInt_len _) S.len)
theorem RS.txn (S : RS w wk r mb hb t hd hc) (P : PL w r mb hb) (a b c : Int) :
    RS w (((wk.setCell ⟨mb, 5, none⟩ (.int .i64 a)).setCell ⟨mb, 6, none⟩ (.int .i64 b)).setCell ⟨mb, 7, none⟩ (.int .i64 c)) r mb hb ⟨{ t.m with cl := a, ep := b, tn := c }, t.r, t.bad⟩ hd hc :=
  ((S.setm P 5 (.int .i64 a) (m' := { t.m with cl := a }) (hd' := hd) rfl).setm P 6 (.int .i64 b) (m' := { t.m with cl := a, ep := b }) (hd' := hd) rfl).setm P 7 _ rfl
theorem RS.page1 (S : RS w wk r mb hb t hd hc) (P : PL w r mb hb) (l : Int) (z : List Slot) (a : Option Addr) (n c : Nat) :
    RS w ((wk.setCell ⟨mb, 8, none⟩ (.int .i64 l)).setCell ⟨mb, 9, none⟩ (.slice a n c)) r mb hb ⟨{ t.m with lsn := l, zs := z }, t.r, t.bad⟩ ⟨a, n, c, hd.b, hd.bn, hd.bc⟩ hc :=
  (S.setm P 8 (.int .i64 l) (m' := { t.m with lsn := l, zs := z }) (hd' := hd) rfl).setm P 9 _ rfl
theorem RS.ents1 (S : RS w wk r mb hb t hd hc) (P : PL w r mb hb) (z : List Ent) (a : Option Addr) (n c : Nat) :
    RS w (wk.setCell ⟨mb, 10, none⟩ (.slice a n c)) r mb hb ⟨{ t.m with es := z }, t.r, t.bad⟩ ⟨hd.a, hd.an, hd.ac, a, n, c⟩ hc :=
  S.setm P 10 _ rfl
theorem RS.frozen (S : RS w wk r mb hb t hd hc) (i : Nat) : wk.frozen? ⟨mb, i, none⟩ = false := Blk.frozen S.m i
end
theorem below11 {B r : Nat} {w W : World} (h : Below B w W) (hr : B ≤ r) (v0 v1 v2 v3 v4 v5 v6 v7 v8 v9 v10 : Value) : Below B w (((((((((((W.setCell ⟨r, 0, none⟩ v0).setCell ⟨r, 1, none⟩ v1).setCell ⟨r, 2, none⟩ v2).setCell ⟨r, 3, none⟩ v3).setCell ⟨r, 4, none⟩ v4).setCell ⟨r, 5, none⟩ v5).setCell ⟨r, 6, none⟩ v6).setCell ⟨r, 7, none⟩ v7).setCell ⟨r, 8, none⟩ v8).setCell ⟨r, 9, none⟩ v9).setCell ⟨r, 10, none⟩ v10) :=
  ((((((((((h.setCell (p := ⟨r, 0, none⟩) hr v0).setCell (p := ⟨r, 1, none⟩) hr v1).setCell (p := ⟨r, 2, none⟩) hr v2).setCell (p := ⟨r, 3, none⟩) hr v3).setCell (p := ⟨r, 4, none⟩) hr v4).setCell (p := ⟨r, 5, none⟩) hr v5).setCell (p := ⟨r, 6, none⟩) hr v6).setCell (p := ⟨r, 7, none⟩) hr v7).setCell (p := ⟨r, 8, none⟩) hr v8).setCell (p := ⟨r, 9, none⟩) hr v9).setCell (p := ⟨r, 10, none⟩) hr v10
/-- the rows of a message lie in memory that is new since B -/
structure InN (B : Nat) (w : World) (m : Ms) (h : Hd) : Prop where
  i : In w m h
  a : ∀ g off e, h.a = some ⟨g, off, e⟩ → B < g
  b : ∀ g off e, h.b = some ⟨g, off, e⟩ → B < g
theorem InN.set_ {B : Nat} {w : World} {m : Ms} {h : Hd} (hi : InN B w m h) {r : Nat} (hr : r ≤ B) (i : Nat) (v : Value) : InN B (w.setCell ⟨r, i, none⟩ v) m h :=
  ⟨⟨slots_set hi.i.s (fun g off e he => by have := hi.a g off e he; omega) i v, ents_set hi.i.e (fun g off e he => by have := hi.b g off e he; omega) i v⟩, hi.a, hi.b⟩
theorem InN.drew {B : Nat} {w : World} {m : Ms} {h : Hd} (hi : InN B w m h) : InN B w.drew m h := ⟨⟨hi.i.s, hi.i.e⟩, hi.a, hi.b⟩
theorem InN.set11 {r : Nat} {W : World} {m : Ms} {h : Hd} (hi : InN r W m h) (v0 v1 v2 v3 v4 v5 v6 v7 v8 v9 v10 : Value) : InN r (((((((((((W.setCell ⟨r, 0, none⟩ v0).setCell ⟨r, 1, none⟩ v1).setCell ⟨r, 2, none⟩ v2).setCell ⟨r, 3, none⟩ v3).setCell ⟨r, 4, none⟩ v4).setCell ⟨r, 5, none⟩ v5).setCell ⟨r, 6, none⟩ v6).setCell ⟨r, 7, none⟩ v7).setCell ⟨r, 8, none⟩ v8).setCell ⟨r, 9, none⟩ v9).setCell ⟨r, 10, none⟩ v10) m h :=
  have hr := Nat.le_refl r
  ((((((((((hi.set_ hr 0 v0).set_ hr 1 v1).set_ hr 2 v2).set_ hr 3 v3).set_ hr 4 v4).set_ hr 5 v5).set_ hr 6 v6).set_ hr 7 v7).set_ hr 8 v8).set_ hr 9 v9).set_ hr 10 v10
theorem InN.nil (B : Nat) (w : World) (m : Ms) (h1 : m.zs = []) (h2 : m.es = []) : InN B w m hd0 :=
  ⟨⟨by rw [h1]; exact ⟨rfl, by simp, fun h => absurd h (Nat.lt_irrefl 0)⟩, by rw [h2]; exact ⟨rfl, by simp, fun h => absurd h (Nat.lt_irrefl 0)⟩⟩, fun _ _ _ h => (by cases h), fun _ _ _ h => (by cases h)⟩
/-- a message and whether it was all in its form are handed back, in new memory -/
def ReadRes (t : St) (w : World) (e : Ending) (w' : World) : Prop :=
  ∃ hd : Hd, e = .returned (.tuple #[.agg #[.int .i64 t.m.kind, .int .i64 t.m.page, .bool t.m.x, .bool t.m.need, .int .i64 t.m.n, .int .i64 t.m.cl, .int .i64 t.m.ep, .int .i64 t.m.tn, .int .i64 t.m.lsn, .slice hd.a hd.an hd.ac, .slice hd.b hd.bn hd.bc], .bool (!t.bad && (t.r == []))]) ∧ InN w.heap.size w' t.m hd ∧ Below w.heap.size w w'
theorem arr_ne {s : List UInt8} (h : ¬ s = []) : ((arr s).toList == []) = false := by
  apply beq_eq_false_iff_ne.2
  rw [ByteArray.toList_eq, arr_list]; exact h
theorem arr_ne2 {s : List UInt8} (h : ¬ s = []) : (arr s).toList.isEmpty = false := by
  rw [ByteArray.toList_eq, arr_list]
  cases s with | nil => exact absurd rfl h | cons a b => rfl

set_option maxRecDepth 100000 in
set_option maxHeartbeats 4000000 in
theorem read_Lock (s : List UInt8) (w : World) (hs : s.length ≤ 140737488351232)
    (hp0 : ∀ w, ∃ ok, Calls Try.prog 22 #[.int .i64 (vl s), .bool false] w fun e w' => e = .returned (.tuple #[.agg #[.bool true, .bool true, .bool true, .bool false, .bool false, .bool false, .bool false, .bool false], .bool ok]) ∧ Below w.heap.size w w')
    (hp1 : ∀ w, ∃ ok, Calls Try.prog 22 #[.int .i64 (vl s), .bool (sN hLock (sTxn hLock (sNeed hLock (sX hLock (sPage hLock (sKind s)))))).m.need] w fun e w' => e = .returned (.tuple #[.agg #[.bool true, .bool true, .bool true, .bool false, .bool false, .bool false, .bool false, .bool false], .bool ok]) ∧ Below w.heap.size w w') :
    Calls Try.prog 11 #[.string (arr s)] w (ReadRes (sEnts hLock (sImage hLock (sN hLock (sTxn hLock (sNeed hLock (sX hLock (sPage hLock (sKind s)))))))) w) := by
  have hb := (below_box w (.cells #[.int .i64 0, .int .i64 0, .bool false, .bool false, .int .i64 0, .int .i64 0, .int .i64 0, .int .i64 0, .int .i64 0, .slice none 0 0, .slice none 0 0] 30)).trans ((below_box (w.alloc (.cells #[.int .i64 0, .int .i64 0, .bool false, .bool false, .int .i64 0, .int .i64 0, .int .i64 0, .int .i64 0, .int .i64 0, .slice none 0 0, .slice none 0 0] 30)) (.cells #[.string (arr s), .bool false] 68)).mono (by simp))
  have hZ := (Blk.new w 30 #[.int .i64 0, .int .i64 0, .bool false, .bool false, .int .i64 0, .int .i64 0, .int .i64 0, .int .i64 0, .int .i64 0, .slice none 0 0, .slice none 0 0]).alloc (.cells #[.string (arr s), .bool false] 68)
  have hR := Blk.new (w.alloc (.cells #[.int .i64 0, .int .i64 0, .bool false, .bool false, .int .i64 0, .int .i64 0, .int .i64 0, .int .i64 0, .int .i64 0, .slice none 0 0, .slice none 0 0] 30)) 68 #[.string (arr s), .bool false]
  have hsz : w.heap.size + 2 ≤ ((w.alloc (.cells #[.int .i64 0, .int .i64 0, .bool false, .bool false, .int .i64 0, .int .i64 0, .int .i64 0, .int .i64 0, .int .i64 0, .slice none 0 0, .slice none 0 0] 30)).alloc (.cells #[.string (arr s), .bool false] 68)).heap.size := by simp
  rw [World.size_alloc] at hR
  have HP0 := Lib.hid hp0
  have HP1 := Lib.hid hp1
  clear hp0 hp1
  go_enter Try.func11, Try.ntmps11
  try dsimp only [List.append]
  go_upto_region 2 with (fail)
  generalize hGen : (w.alloc (.cells #[.int .i64 0, .int .i64 0, .bool false, .bool false, .int .i64 0, .int .i64 0, .int .i64 0, .int .i64 0, .int .i64 0, .slice none 0 0, .slice none 0 0] 30)).alloc (.cells #[.string (arr s), .bool false] 68) = W at hb hZ hR hsz ⊢
  clear hGen
  have HRD := Lib.hid (show Rd W (w.heap.size + 1) s false from hR)
  have HZ := Lib.hid hZ
  have HBL := Lib.hid hb
  clear hR hZ hb
  go_wp2_with fail
  refine (number_any (w.heap.size + 1) s false _ HRD.out (by omega)).mono ?_
  rintro e w1 ⟨rfl, h1, o1⟩
  have R1 := Lib.hid h1
  have Z1 := Lib.hid (o1.blk HZ.out (by omega))
  have B1 := Lib.hid (HBL.out.trans (o1.below (B := w.heap.size) (by omega) (by omega)))
  have hsz1 := Nat.le_trans hsz o1.size
  clear h1 o1 HRD HZ HBL
  go_upto_region 3 with (fail)
  have R2 := Lib.hid (R1.out.alloc (.cells #[.int .i64 (vl s), .int .i64 0, .bool false, .bool false, .int .i64 0, .int .i64 0, .int .i64 0, .int .i64 0, .int .i64 0, .slice none 0 0, .slice none 0 0] 30))
  have Z2 := Lib.hid (Z1.out.alloc (.cells #[.int .i64 (vl s), .int .i64 0, .bool false, .bool false, .int .i64 0, .int .i64 0, .int .i64 0, .int .i64 0, .int .i64 0, .slice none 0 0, .slice none 0 0] 30))
  have B2 := Lib.hid (below_next B1.out (below_box w1 (.cells #[.int .i64 (vl s), .int .i64 0, .bool false, .bool false, .int .i64 0, .int .i64 0, .int .i64 0, .int .i64 0, .int .i64 0, .slice none 0 0, .slice none 0 0] 30)))
  have hM := Blk.new w1 30 #[.int .i64 (vl s), .int .i64 0, .bool false, .bool false, .int .i64 0, .int .i64 0, .int .i64 0, .int .i64 0, .int .i64 0, .slice none 0 0, .slice none 0 0]
  have hg2 := alloc_lt w1 (.cells #[.int .i64 (vl s), .int .i64 0, .bool false, .bool false, .int .i64 0, .int .i64 0, .int .i64 0, .int .i64 0, .int .i64 0, .slice none 0 0, .slice none 0 0] 30)
  generalize hGen : w1.alloc (.cells #[.int .i64 (vl s), .int .i64 0, .bool false, .bool false, .int .i64 0, .int .i64 0, .int .i64 0, .int .i64 0, .int .i64 0, .slice none 0 0, .slice none 0 0] 30) = w2 at R2 Z2 B2 hM hg2 ⊢
  clear hGen
  clear R1 Z1 B1
  generalize hGen : w1.heap.size = mb at hM hg2 hsz1 ⊢
  clear hGen
  have c0 := Blk.cell hM 0
  have M2 := Lib.hid (show Blk w2 mb 30 (msgA (sKind s).m hd0) from hM)
  clear hM
  simp only [List.getElem?_toArray, List.getElem?_cons_zero] at c0
  obtain ⟨ok0, hP0⟩ := HP0.out w2
  go_wp2_with fail
  refine hP0.mono ?_
  rintro e w3 ⟨rfl, b3⟩
  clear hP0 c0
  have R3 := Lib.hid (R2.out.below b3)
  have Z3 := Lib.hid (Z2.out.below b3 (by omega))
  have M3 := Lib.hid (M2.out.below b3 hg2)
  have B3 := Lib.hid (below_next B2.out b3)
  have hsz3 := Nat.lt_of_lt_of_le hg2 b3.size
  clear R2 Z2 M2 B2 b3 HP0
  go_upto_region 4 with (fail)
  have R4 := Lib.hid (R3.out.alloc (.cells #[.bool true, .bool true, .bool true, .bool false, .bool false, .bool false, .bool false, .bool false] 61))
  have Z4 := Lib.hid (Z3.out.alloc (.cells #[.bool true, .bool true, .bool true, .bool false, .bool false, .bool false, .bool false, .bool false] 61))
  have M4 := Lib.hid (M3.out.alloc (.cells #[.bool true, .bool true, .bool true, .bool false, .bool false, .bool false, .bool false, .bool false] 61))
  have B4 := Lib.hid (below_next B3.out (below_box w3 (.cells #[.bool true, .bool true, .bool true, .bool false, .bool false, .bool false, .bool false, .bool false] 61)))
  have hH := Blk.new w3 61 #[.bool true, .bool true, .bool true, .bool false, .bool false, .bool false, .bool false, .bool false]
  generalize hGen : w3.alloc (.cells #[.bool true, .bool true, .bool true, .bool false, .bool false, .bool false, .bool false, .bool false] 61) = wb at R4 Z4 M4 B4 hH ⊢
  clear hGen
  generalize hGen : w3.heap.size = hb at hH hsz3 ⊢
  clear hGen
  have P := Lib.hid (show PL w (w.heap.size + 1) mb hb from ⟨by omega, by omega, by omega⟩)
  replace S := Lib.hid (show RS w wb (w.heap.size + 1) mb hb (sKind s) hd0 #[.bool true, .bool true, .bool true, .bool false, .bool false, .bool false, .bool false, .bool false] from ⟨R4.out, M4.out, hH, Z4.out, B4.out, Nat.le_trans (Nib.takeInt_len _) hs⟩)
  clear R3 Z3 M3 B3 R4 Z4 M4 B4 hH hg2 hsz hsz1 hsz3
  generalize hr : w.heap.size + 1 = r at S P ⊢
  clear hr
  generalize ht : sKind s = t0 at S
  have HT0 := Lib.hid ht
  clear ht
  have hHc := S.out.h
  obtain ⟨d0, d1, d2, d3, d4, d5, d6, d7⟩ := has_cells hHc
  clear hHc
  go_wp2_with fail
  refine (number_any r t0.r t0.bad _ S.out.rd (by have := S.out.len; omega)).mono ?_
  rintro e wa ⟨rfl, h1, o1⟩
  clear d0 d1 d2 d3 d4 d5 d6 d7
  have hm := o1.blk S.out.m (Nat.ne_of_gt P.out.pm)
  have y := Blk.cell hm 1
  have f := Blk.frozen hm 1
  clear hm
  simp [msgA] at y
  replace S := Lib.hid (S.out.page P.out h1 o1)
  go_upto_region 6 with (fail)
  generalize hGen : wa.setCell ⟨mb, 1, none⟩ (.int .i64 (vl t0.r)) = wb at S ⊢
  clear hGen
  clear y f h1 o1
  replace S := Lib.hid (show RS w wb r mb hb (sPage hLock t0) hd0 #[.bool true, .bool true, .bool true, .bool false, .bool false, .bool false, .bool false, .bool false] from S.out)
  generalize ht : sPage hLock t0 = t1 at S
  have HT1 := Lib.hid ht
  clear ht
  have hHc := S.out.h
  obtain ⟨d0, d1, d2, d3, d4, d5, d6, d7⟩ := has_cells hHc
  clear hHc
  go_wp2_with fail
  refine (rflag_any r t1.r t1.bad _ S.out.rd (by have := S.out.len; omega)).mono ?_
  rintro e wa ⟨rfl, h1, o1⟩
  clear d0 d1 d2 d3 d4 d5 d6 d7
  have hm := o1.blk S.out.m (Nat.ne_of_gt P.out.pm)
  have y := Blk.cell hm 2
  have f := Blk.frozen hm 2
  clear hm
  simp [msgA] at y
  replace S := Lib.hid (S.out.x P.out h1 o1)
  go_upto_region 8 with (fail)
  generalize hGen : wa.setCell ⟨mb, 2, none⟩ (.bool (fg t1.r)) = wb at S ⊢
  clear hGen
  clear y f h1 o1
  replace S := Lib.hid (show RS w wb r mb hb (sX hLock t1) hd0 #[.bool true, .bool true, .bool true, .bool false, .bool false, .bool false, .bool false, .bool false] from S.out)
  generalize ht : sX hLock t1 = t2 at S
  have HT2 := Lib.hid ht
  clear ht
  have hHc := S.out.h
  obtain ⟨d0, d1, d2, d3, d4, d5, d6, d7⟩ := has_cells hHc
  clear hHc
  go_wp2_with fail
  refine (rflag_any r t2.r t2.bad _ S.out.rd (by have := S.out.len; omega)).mono ?_
  rintro e wa ⟨rfl, h1, o1⟩
  clear d0 d1 d2 d3 d4 d5 d6 d7
  have hm := o1.blk S.out.m (Nat.ne_of_gt P.out.pm)
  have y := Blk.cell hm 3
  have f := Blk.frozen hm 3
  clear hm
  simp [msgA] at y
  replace S := Lib.hid (S.out.need P.out h1 o1)
  go_upto_region 10 with (fail)
  generalize hGen : wa.setCell ⟨mb, 3, none⟩ (.bool (fg t2.r)) = wb at S ⊢
  clear hGen
  clear y f h1 o1
  replace S := Lib.hid (show RS w wb r mb hb (sNeed hLock t2) hd0 #[.bool true, .bool true, .bool true, .bool false, .bool false, .bool false, .bool false, .bool false] from S.out)
  generalize ht : sNeed hLock t2 = t3 at S
  have HT3 := Lib.hid ht
  clear ht
  have hHc := S.out.h
  obtain ⟨d0, d1, d2, d3, d4, d5, d6, d7⟩ := has_cells hHc
  clear hHc
  have HCH := Lib.hid (show sN hLock (sTxn hLock (sNeed hLock (sX hLock (sPage hLock (sKind s))))) = t3 from by rw [HT0.out, HT1.out, HT2.out, HT3.out, show sTxn hLock t3 = t3 from rfl, show sN hLock t3 = t3 from rfl])
  generalize ht : t3 = t at S HCH
  have HTT := Lib.hid ht
  clear ht
  have hK := Lib.hid (show t.m.kind = vl s from by rw [← HCH.out]; simp only [sPage_kind, sX_kind, sNeed_kind, sTxn_kind, sN_kind]; rfl)
  have hMc := S.out.m
  have c0 := Blk.cell hMc 0
  have c3 := Blk.cell hMc 3
  clear hMc
  simp [msgA] at c0 c3
  rw [hK.out] at c0
  obtain ⟨ok1, hP1⟩ := HP1.out wb
  rw [HCH.out] at hP1
  generalize t.m.need = nd at c3 hP1
  go_wp2_with fail
  refine hP1.mono ?_
  rintro e wa ⟨rfl, b1⟩
  clear hP1 c0 c3
  clear d0 d1 d2 d3 d4 d5 d6 d7
  replace S := Lib.hid (S.out.next b1)
  clear b1
  have hHc := S.out.h
  obtain ⟨d0, d1, d2, d3, d4, d5, d6, d7⟩ := has_cells hHc
  have f0 := Blk.frozen hHc 0
  have f1 := Blk.frozen hHc 1
  have f2 := Blk.frozen hHc 2
  have f3 := Blk.frozen hHc 3
  have f4 := Blk.frozen hHc 4
  have f5 := Blk.frozen hHc 5
  have f6 := Blk.frozen hHc 6
  have f7 := Blk.frozen hHc 7
  clear hHc
  replace S := Lib.hid (S.out.seth P.out (.bool true) (.bool true) (.bool true) (.bool false) (.bool false) (.bool false) (.bool false) (.bool false))
  go_upto_region 15 with (fail)
  generalize hGen : (((((((wa.setCell ⟨hb, 0, none⟩ (.bool true)).setCell ⟨hb, 1, none⟩ (.bool true)).setCell ⟨hb, 2, none⟩ (.bool true)).setCell ⟨hb, 3, none⟩ (.bool false)).setCell ⟨hb, 4, none⟩ (.bool false)).setCell ⟨hb, 5, none⟩ (.bool false)).setCell ⟨hb, 6, none⟩ (.bool false)).setCell ⟨hb, 7, none⟩ (.bool false) = wb at S ⊢
  clear hGen
  clear d0 d1 d2 d3 d4 d5 d6 d7
  clear f0 f1 f2 f3 f4 f5 f6 f7
  have hHc := S.out.h
  obtain ⟨d0, d1, d2, d3, d4, d5, d6, d7⟩ := has_cells hHc
  clear hHc
  have hes : t.m.zs = [] ∧ t.m.es = [] := by rw [← HCH.out]; simp only [sPage_es, sX_es, sNeed_es, sTxn_es, sN_es, sPage_zs, sX_zs, sNeed_zs, sTxn_zs, sN_zs]; exact ⟨rfl, rfl⟩
  replace HIN := Lib.hid (InN.nil w.heap.size wb t.m hes.1 hes.2)
  clear hes
  replace S := Lib.hid (show RS w wb r mb hb (sEnts hLock (sImage hLock t)) hd0 #[.bool true, .bool true, .bool true, .bool false, .bool false, .bool false, .bool false, .bool false] from S.out)
  replace HIN := Lib.hid (show InN w.heap.size wb (sEnts hLock (sImage hLock t)).m hd0 from HIN.out)
  go_upto_region 19 with (fail)
  clear d0 d1 d2 d3 d4 d5 d6 d7
  rw [← HCH.out] at S HIN
  clear HCH
  generalize hfin : sEnts hLock (sImage hLock (sN hLock (sTxn hLock (sNeed hLock (sX hLock (sPage hLock (sKind s))))))) = t' at S HIN
  obtain ⟨m, s', bad⟩ := t'
  have HF := Lib.hid hfin
  clear hfin
  obtain ⟨⟨r0, r1, _, _⟩, hMc, _, hZc, hbl, _⟩ := (show (wb.cell? ⟨r, 0, none⟩ = some (.string (arr s')) ∧ wb.cell? ⟨r, 1, none⟩ = some (.bool bad) ∧ wb.frozen? ⟨r, 0, none⟩ = false ∧ wb.frozen? ⟨r, 1, none⟩ = false) ∧ Blk wb mb 30 (msgA m hd0) ∧ True ∧ Blk wb w.heap.size 30 #[.int .i64 0, .int .i64 0, .bool false, .bool false, .int .i64 0, .int .i64 0, .int .i64 0, .int .i64 0, .int .i64 0, .slice none 0 0, .slice none 0 0] ∧ Below w.heap.size w wb ∧ True from ⟨S.out.rd.get, S.out.m, trivial, S.out.z, S.out.bel, trivial⟩)
  have c0 := Blk.cell hMc 0
  have c1 := Blk.cell hMc 1
  have c2 := Blk.cell hMc 2
  have c3 := Blk.cell hMc 3
  have c4 := Blk.cell hMc 4
  have c5 := Blk.cell hMc 5
  have c6 := Blk.cell hMc 6
  have c7 := Blk.cell hMc 7
  have c8 := Blk.cell hMc 8
  have c9 := Blk.cell hMc 9
  have c10 := Blk.cell hMc 10
  simp [msgA, hd0] at c0 c1 c2 c3 c4 c5 c6 c7 c8 c9 c10
  have z0 := Blk.cell hZc 0
  have z1 := Blk.cell hZc 1
  have z2 := Blk.cell hZc 2
  have z3 := Blk.cell hZc 3
  have z4 := Blk.cell hZc 4
  have z5 := Blk.cell hZc 5
  have z6 := Blk.cell hZc 6
  have z7 := Blk.cell hZc 7
  have z8 := Blk.cell hZc 8
  have z9 := Blk.cell hZc 9
  have z10 := Blk.cell hZc 10
  have q0 := Blk.frozen hZc 0
  have q1 := Blk.frozen hZc 1
  have q2 := Blk.frozen hZc 2
  have q3 := Blk.frozen hZc 3
  have q4 := Blk.frozen hZc 4
  have q5 := Blk.frozen hZc 5
  have q6 := Blk.frozen hZc 6
  have q7 := Blk.frozen hZc 7
  have q8 := Blk.frozen hZc 8
  have q9 := Blk.frozen hZc 9
  have q10 := Blk.frozen hZc 10
  simp at z0 z1 z2 z3 z4 z5 z6 z7 z8 z9 z10
  have hne1 : mb ≠ w.heap.size := Nat.ne_of_gt (Nat.lt_trans P.out.pr P.out.pm)
  have hne2 : r ≠ w.heap.size := Nat.ne_of_gt P.out.pr
  have HBL := Lib.hid hbl
  clear hMc hZc hbl S P HP1
  cases bad with
  | true =>
    go_wp2_with fail
    go_region
    all_goals
      go_wp2
      refine bodyPost_ret (v := .tuple #[.agg #[.int .i64 m.kind, .int .i64 m.page, .bool m.x, .bool m.need, .int .i64 m.n, .int .i64 m.cl, .int .i64 m.ep, .int .i64 m.tn, .int .i64 m.lsn, .slice none 0 0, .slice none 0 0], .bool false]) (by simp [results, Try.results11, go_sem, z0, z1, z2, z3, z4, z5, z6, z7, z8, z9, z10]) rfl ?_
      rw [HF.out]
      first
      | exact ⟨hd0, rfl, (HIN.out.set11 _ _ _ _ _ _ _ _ _ _ _).drew, (below11 HBL.out (Nat.le_refl _) _ _ _ _ _ _ _ _ _ _ _).drew⟩
      | exact ⟨hd0, rfl, HIN.out.drew.set11 _ _ _ _ _ _ _ _ _ _ _, below11 HBL.out.drew (Nat.le_refl _) _ _ _ _ _ _ _ _ _ _ _⟩
  | false =>
    by_cases hnil : s' = []
    · subst hnil
      rw [Ent.arr_nil] at r0
      go_wp2_with fail
      go_region
      all_goals
        go_wp2
        refine bodyPost_ret (v := .tuple #[.agg #[.int .i64 m.kind, .int .i64 m.page, .bool m.x, .bool m.need, .int .i64 m.n, .int .i64 m.cl, .int .i64 m.ep, .int .i64 m.tn, .int .i64 m.lsn, .slice none 0 0, .slice none 0 0], .bool true]) (by simp [results, Try.results11, go_sem, z0, z1, z2, z3, z4, z5, z6, z7, z8, z9, z10]) rfl ?_
        rw [HF.out]
        first
        | exact ⟨hd0, rfl, (HIN.out.set11 _ _ _ _ _ _ _ _ _ _ _).drew, (below11 HBL.out (Nat.le_refl _) _ _ _ _ _ _ _ _ _ _ _).drew⟩
        | exact ⟨hd0, rfl, HIN.out.drew.set11 _ _ _ _ _ _ _ _ _ _ _, below11 HBL.out.drew (Nat.le_refl _) _ _ _ _ _ _ _ _ _ _ _⟩
    · have n2 := arr_ne hnil
      have n3 := arr_ne2 hnil
      have HNN := Lib.hid (show (s' == []) = false from beq_eq_false_iff_ne.2 hnil)
      clear hnil
      go_wp2_with fail
      go_region
      all_goals
        go_wp2
        refine bodyPost_ret (v := .tuple #[.agg #[.int .i64 m.kind, .int .i64 m.page, .bool m.x, .bool m.need, .int .i64 m.n, .int .i64 m.cl, .int .i64 m.ep, .int .i64 m.tn, .int .i64 m.lsn, .slice none 0 0, .slice none 0 0], .bool false]) (by simp [results, Try.results11, go_sem, z0, z1, z2, z3, z4, z5, z6, z7, z8, z9, z10]) rfl ?_
        rw [HF.out]
        first
        | exact ⟨hd0, by simp only [HNN.out]; rfl, (HIN.out.set11 _ _ _ _ _ _ _ _ _ _ _).drew, (below11 HBL.out (Nat.le_refl _) _ _ _ _ _ _ _ _ _ _ _).drew⟩
        | exact ⟨hd0, by simp only [HNN.out]; rfl, HIN.out.drew.set11 _ _ _ _ _ _ _ _ _ _ _, below11 HBL.out.drew (Nat.le_refl _) _ _ _ _ _ _ _ _ _ _ _⟩
set_option maxRecDepth 100000 in
set_option maxHeartbeats 4000000 in
theorem read_Free (s : List UInt8) (w : World) (hs : s.length ≤ 140737488351232)
    (hp0 : ∀ w, ∃ ok, Calls Try.prog 22 #[.int .i64 (vl s), .bool false] w fun e w' => e = .returned (.tuple #[.agg #[.bool true, .bool true, .bool false, .bool false, .bool false, .bool false, .bool false, .bool false], .bool ok]) ∧ Below w.heap.size w w')
    (hp1 : ∀ w, ∃ ok, Calls Try.prog 22 #[.int .i64 (vl s), .bool (sN hFree (sTxn hFree (sNeed hFree (sX hFree (sPage hFree (sKind s)))))).m.need] w fun e w' => e = .returned (.tuple #[.agg #[.bool true, .bool true, .bool false, .bool false, .bool false, .bool false, .bool false, .bool false], .bool ok]) ∧ Below w.heap.size w w') :
    Calls Try.prog 11 #[.string (arr s)] w (ReadRes (sEnts hFree (sImage hFree (sN hFree (sTxn hFree (sNeed hFree (sX hFree (sPage hFree (sKind s)))))))) w) := by
  have hb := (below_box w (.cells #[.int .i64 0, .int .i64 0, .bool false, .bool false, .int .i64 0, .int .i64 0, .int .i64 0, .int .i64 0, .int .i64 0, .slice none 0 0, .slice none 0 0] 30)).trans ((below_box (w.alloc (.cells #[.int .i64 0, .int .i64 0, .bool false, .bool false, .int .i64 0, .int .i64 0, .int .i64 0, .int .i64 0, .int .i64 0, .slice none 0 0, .slice none 0 0] 30)) (.cells #[.string (arr s), .bool false] 68)).mono (by simp))
  have hZ := (Blk.new w 30 #[.int .i64 0, .int .i64 0, .bool false, .bool false, .int .i64 0, .int .i64 0, .int .i64 0, .int .i64 0, .int .i64 0, .slice none 0 0, .slice none 0 0]).alloc (.cells #[.string (arr s), .bool false] 68)
  have hR := Blk.new (w.alloc (.cells #[.int .i64 0, .int .i64 0, .bool false, .bool false, .int .i64 0, .int .i64 0, .int .i64 0, .int .i64 0, .int .i64 0, .slice none 0 0, .slice none 0 0] 30)) 68 #[.string (arr s), .bool false]
  have hsz : w.heap.size + 2 ≤ ((w.alloc (.cells #[.int .i64 0, .int .i64 0, .bool false, .bool false, .int .i64 0, .int .i64 0, .int .i64 0, .int .i64 0, .int .i64 0, .slice none 0 0, .slice none 0 0] 30)).alloc (.cells #[.string (arr s), .bool false] 68)).heap.size := by simp
  rw [World.size_alloc] at hR
  have HP0 := Lib.hid hp0
  have HP1 := Lib.hid hp1
  clear hp0 hp1
  go_enter Try.func11, Try.ntmps11
  try dsimp only [List.append]
  go_upto_region 2 with (fail)
  generalize hGen : (w.alloc (.cells #[.int .i64 0, .int .i64 0, .bool false, .bool false, .int .i64 0, .int .i64 0, .int .i64 0, .int .i64 0, .int .i64 0, .slice none 0 0, .slice none 0 0] 30)).alloc (.cells #[.string (arr s), .bool false] 68) = W at hb hZ hR hsz ⊢
  clear hGen
  have HRD := Lib.hid (show Rd W (w.heap.size + 1) s false from hR)
  have HZ := Lib.hid hZ
  have HBL := Lib.hid hb
  clear hR hZ hb
  go_wp2_with fail
  refine (number_any (w.heap.size + 1) s false _ HRD.out (by omega)).mono ?_
  rintro e w1 ⟨rfl, h1, o1⟩
  have R1 := Lib.hid h1
  have Z1 := Lib.hid (o1.blk HZ.out (by omega))
  have B1 := Lib.hid (HBL.out.trans (o1.below (B := w.heap.size) (by omega) (by omega)))
  have hsz1 := Nat.le_trans hsz o1.size
  clear h1 o1 HRD HZ HBL
  go_upto_region 3 with (fail)
  have R2 := Lib.hid (R1.out.alloc (.cells #[.int .i64 (vl s), .int .i64 0, .bool false, .bool false, .int .i64 0, .int .i64 0, .int .i64 0, .int .i64 0, .int .i64 0, .slice none 0 0, .slice none 0 0] 30))
  have Z2 := Lib.hid (Z1.out.alloc (.cells #[.int .i64 (vl s), .int .i64 0, .bool false, .bool false, .int .i64 0, .int .i64 0, .int .i64 0, .int .i64 0, .int .i64 0, .slice none 0 0, .slice none 0 0] 30))
  have B2 := Lib.hid (below_next B1.out (below_box w1 (.cells #[.int .i64 (vl s), .int .i64 0, .bool false, .bool false, .int .i64 0, .int .i64 0, .int .i64 0, .int .i64 0, .int .i64 0, .slice none 0 0, .slice none 0 0] 30)))
  have hM := Blk.new w1 30 #[.int .i64 (vl s), .int .i64 0, .bool false, .bool false, .int .i64 0, .int .i64 0, .int .i64 0, .int .i64 0, .int .i64 0, .slice none 0 0, .slice none 0 0]
  have hg2 := alloc_lt w1 (.cells #[.int .i64 (vl s), .int .i64 0, .bool false, .bool false, .int .i64 0, .int .i64 0, .int .i64 0, .int .i64 0, .int .i64 0, .slice none 0 0, .slice none 0 0] 30)
  generalize hGen : w1.alloc (.cells #[.int .i64 (vl s), .int .i64 0, .bool false, .bool false, .int .i64 0, .int .i64 0, .int .i64 0, .int .i64 0, .int .i64 0, .slice none 0 0, .slice none 0 0] 30) = w2 at R2 Z2 B2 hM hg2 ⊢
  clear hGen
  clear R1 Z1 B1
  generalize hGen : w1.heap.size = mb at hM hg2 hsz1 ⊢
  clear hGen
  have c0 := Blk.cell hM 0
  have M2 := Lib.hid (show Blk w2 mb 30 (msgA (sKind s).m hd0) from hM)
  clear hM
  simp only [List.getElem?_toArray, List.getElem?_cons_zero] at c0
  obtain ⟨ok0, hP0⟩ := HP0.out w2
  go_wp2_with fail
  refine hP0.mono ?_
  rintro e w3 ⟨rfl, b3⟩
  clear hP0 c0
  have R3 := Lib.hid (R2.out.below b3)
  have Z3 := Lib.hid (Z2.out.below b3 (by omega))
  have M3 := Lib.hid (M2.out.below b3 hg2)
  have B3 := Lib.hid (below_next B2.out b3)
  have hsz3 := Nat.lt_of_lt_of_le hg2 b3.size
  clear R2 Z2 M2 B2 b3 HP0
  go_upto_region 4 with (fail)
  have R4 := Lib.hid (R3.out.alloc (.cells #[.bool true, .bool true, .bool false, .bool false, .bool false, .bool false, .bool false, .bool false] 61))
  have Z4 := Lib.hid (Z3.out.alloc (.cells #[.bool true, .bool true, .bool false, .bool false, .bool false, .bool false, .bool false, .bool false] 61))
  have M4 := Lib.hid (M3.out.alloc (.cells #[.bool true, .bool true, .bool false, .bool false, .bool false, .bool false, .bool false, .bool false] 61))
  have B4 := Lib.hid (below_next B3.out (below_box w3 (.cells #[.bool true, .bool true, .bool false, .bool false, .bool false, .bool false, .bool false, .bool false] 61)))
  have hH := Blk.new w3 61 #[.bool true, .bool true, .bool false, .bool false, .bool false, .bool false, .bool false, .bool false]
  generalize hGen : w3.alloc (.cells #[.bool true, .bool true, .bool false, .bool false, .bool false, .bool false, .bool false, .bool false] 61) = wb at R4 Z4 M4 B4 hH ⊢
  clear hGen
  generalize hGen : w3.heap.size = hb at hH hsz3 ⊢
  clear hGen
  have P := Lib.hid (show PL w (w.heap.size + 1) mb hb from ⟨by omega, by omega, by omega⟩)
  replace S := Lib.hid (show RS w wb (w.heap.size + 1) mb hb (sKind s) hd0 #[.bool true, .bool true, .bool false, .bool false, .bool false, .bool false, .bool false, .bool false] from ⟨R4.out, M4.out, hH, Z4.out, B4.out, Nat.le_trans (Nib.takeInt_len _) hs⟩)
  clear R3 Z3 M3 B3 R4 Z4 M4 B4 hH hg2 hsz hsz1 hsz3
  generalize hr : w.heap.size + 1 = r at S P ⊢
  clear hr
  generalize ht : sKind s = t0 at S
  have HT0 := Lib.hid ht
  clear ht
  have hHc := S.out.h
  obtain ⟨d0, d1, d2, d3, d4, d5, d6, d7⟩ := has_cells hHc
  clear hHc
  go_wp2_with fail
  refine (number_any r t0.r t0.bad _ S.out.rd (by have := S.out.len; omega)).mono ?_
  rintro e wa ⟨rfl, h1, o1⟩
  clear d0 d1 d2 d3 d4 d5 d6 d7
  have hm := o1.blk S.out.m (Nat.ne_of_gt P.out.pm)
  have y := Blk.cell hm 1
  have f := Blk.frozen hm 1
  clear hm
  simp [msgA] at y
  replace S := Lib.hid (S.out.page P.out h1 o1)
  go_upto_region 6 with (fail)
  generalize hGen : wa.setCell ⟨mb, 1, none⟩ (.int .i64 (vl t0.r)) = wb at S ⊢
  clear hGen
  clear y f h1 o1
  replace S := Lib.hid (show RS w wb r mb hb (sPage hFree t0) hd0 #[.bool true, .bool true, .bool false, .bool false, .bool false, .bool false, .bool false, .bool false] from S.out)
  generalize ht : sPage hFree t0 = t1 at S
  have HT1 := Lib.hid ht
  clear ht
  have hHc := S.out.h
  obtain ⟨d0, d1, d2, d3, d4, d5, d6, d7⟩ := has_cells hHc
  clear hHc
  go_wp2_with fail
  refine (rflag_any r t1.r t1.bad _ S.out.rd (by have := S.out.len; omega)).mono ?_
  rintro e wa ⟨rfl, h1, o1⟩
  clear d0 d1 d2 d3 d4 d5 d6 d7
  have hm := o1.blk S.out.m (Nat.ne_of_gt P.out.pm)
  have y := Blk.cell hm 2
  have f := Blk.frozen hm 2
  clear hm
  simp [msgA] at y
  replace S := Lib.hid (S.out.x P.out h1 o1)
  go_upto_region 8 with (fail)
  generalize hGen : wa.setCell ⟨mb, 2, none⟩ (.bool (fg t1.r)) = wb at S ⊢
  clear hGen
  clear y f h1 o1
  replace S := Lib.hid (show RS w wb r mb hb (sX hFree t1) hd0 #[.bool true, .bool true, .bool false, .bool false, .bool false, .bool false, .bool false, .bool false] from S.out)
  generalize ht : sX hFree t1 = t2 at S
  have HT2 := Lib.hid ht
  clear ht
  have hHc := S.out.h
  obtain ⟨d0, d1, d2, d3, d4, d5, d6, d7⟩ := has_cells hHc
  clear hHc
  have HCH := Lib.hid (show sN hFree (sTxn hFree (sNeed hFree (sX hFree (sPage hFree (sKind s))))) = t2 from by rw [HT0.out, HT1.out, HT2.out, show sNeed hFree t2 = t2 from rfl, show sTxn hFree t2 = t2 from rfl, show sN hFree t2 = t2 from rfl])
  generalize ht : t2 = t at S HCH
  have HTT := Lib.hid ht
  clear ht
  have hK := Lib.hid (show t.m.kind = vl s from by rw [← HCH.out]; simp only [sPage_kind, sX_kind, sNeed_kind, sTxn_kind, sN_kind]; rfl)
  have hMc := S.out.m
  have c0 := Blk.cell hMc 0
  have c3 := Blk.cell hMc 3
  clear hMc
  simp [msgA] at c0 c3
  rw [hK.out] at c0
  obtain ⟨ok1, hP1⟩ := HP1.out wb
  rw [HCH.out] at hP1
  generalize t.m.need = nd at c3 hP1
  go_wp2_with fail
  refine hP1.mono ?_
  rintro e wa ⟨rfl, b1⟩
  clear hP1 c0 c3
  clear d0 d1 d2 d3 d4 d5 d6 d7
  replace S := Lib.hid (S.out.next b1)
  clear b1
  have hHc := S.out.h
  obtain ⟨d0, d1, d2, d3, d4, d5, d6, d7⟩ := has_cells hHc
  have f0 := Blk.frozen hHc 0
  have f1 := Blk.frozen hHc 1
  have f2 := Blk.frozen hHc 2
  have f3 := Blk.frozen hHc 3
  have f4 := Blk.frozen hHc 4
  have f5 := Blk.frozen hHc 5
  have f6 := Blk.frozen hHc 6
  have f7 := Blk.frozen hHc 7
  clear hHc
  replace S := Lib.hid (S.out.seth P.out (.bool true) (.bool true) (.bool false) (.bool false) (.bool false) (.bool false) (.bool false) (.bool false))
  go_upto_region 15 with (fail)
  generalize hGen : (((((((wa.setCell ⟨hb, 0, none⟩ (.bool true)).setCell ⟨hb, 1, none⟩ (.bool true)).setCell ⟨hb, 2, none⟩ (.bool false)).setCell ⟨hb, 3, none⟩ (.bool false)).setCell ⟨hb, 4, none⟩ (.bool false)).setCell ⟨hb, 5, none⟩ (.bool false)).setCell ⟨hb, 6, none⟩ (.bool false)).setCell ⟨hb, 7, none⟩ (.bool false) = wb at S ⊢
  clear hGen
  clear d0 d1 d2 d3 d4 d5 d6 d7
  clear f0 f1 f2 f3 f4 f5 f6 f7
  have hHc := S.out.h
  obtain ⟨d0, d1, d2, d3, d4, d5, d6, d7⟩ := has_cells hHc
  clear hHc
  have hes : t.m.zs = [] ∧ t.m.es = [] := by rw [← HCH.out]; simp only [sPage_es, sX_es, sNeed_es, sTxn_es, sN_es, sPage_zs, sX_zs, sNeed_zs, sTxn_zs, sN_zs]; exact ⟨rfl, rfl⟩
  replace HIN := Lib.hid (InN.nil w.heap.size wb t.m hes.1 hes.2)
  clear hes
  replace S := Lib.hid (show RS w wb r mb hb (sEnts hFree (sImage hFree t)) hd0 #[.bool true, .bool true, .bool false, .bool false, .bool false, .bool false, .bool false, .bool false] from S.out)
  replace HIN := Lib.hid (show InN w.heap.size wb (sEnts hFree (sImage hFree t)).m hd0 from HIN.out)
  go_upto_region 19 with (fail)
  clear d0 d1 d2 d3 d4 d5 d6 d7
  rw [← HCH.out] at S HIN
  clear HCH
  generalize hfin : sEnts hFree (sImage hFree (sN hFree (sTxn hFree (sNeed hFree (sX hFree (sPage hFree (sKind s))))))) = t' at S HIN
  obtain ⟨m, s', bad⟩ := t'
  have HF := Lib.hid hfin
  clear hfin
  obtain ⟨⟨r0, r1, _, _⟩, hMc, _, hZc, hbl, _⟩ := (show (wb.cell? ⟨r, 0, none⟩ = some (.string (arr s')) ∧ wb.cell? ⟨r, 1, none⟩ = some (.bool bad) ∧ wb.frozen? ⟨r, 0, none⟩ = false ∧ wb.frozen? ⟨r, 1, none⟩ = false) ∧ Blk wb mb 30 (msgA m hd0) ∧ True ∧ Blk wb w.heap.size 30 #[.int .i64 0, .int .i64 0, .bool false, .bool false, .int .i64 0, .int .i64 0, .int .i64 0, .int .i64 0, .int .i64 0, .slice none 0 0, .slice none 0 0] ∧ Below w.heap.size w wb ∧ True from ⟨S.out.rd.get, S.out.m, trivial, S.out.z, S.out.bel, trivial⟩)
  have c0 := Blk.cell hMc 0
  have c1 := Blk.cell hMc 1
  have c2 := Blk.cell hMc 2
  have c3 := Blk.cell hMc 3
  have c4 := Blk.cell hMc 4
  have c5 := Blk.cell hMc 5
  have c6 := Blk.cell hMc 6
  have c7 := Blk.cell hMc 7
  have c8 := Blk.cell hMc 8
  have c9 := Blk.cell hMc 9
  have c10 := Blk.cell hMc 10
  simp [msgA, hd0] at c0 c1 c2 c3 c4 c5 c6 c7 c8 c9 c10
  have z0 := Blk.cell hZc 0
  have z1 := Blk.cell hZc 1
  have z2 := Blk.cell hZc 2
  have z3 := Blk.cell hZc 3
  have z4 := Blk.cell hZc 4
  have z5 := Blk.cell hZc 5
  have z6 := Blk.cell hZc 6
  have z7 := Blk.cell hZc 7
  have z8 := Blk.cell hZc 8
  have z9 := Blk.cell hZc 9
  have z10 := Blk.cell hZc 10
  have q0 := Blk.frozen hZc 0
  have q1 := Blk.frozen hZc 1
  have q2 := Blk.frozen hZc 2
  have q3 := Blk.frozen hZc 3
  have q4 := Blk.frozen hZc 4
  have q5 := Blk.frozen hZc 5
  have q6 := Blk.frozen hZc 6
  have q7 := Blk.frozen hZc 7
  have q8 := Blk.frozen hZc 8
  have q9 := Blk.frozen hZc 9
  have q10 := Blk.frozen hZc 10
  simp at z0 z1 z2 z3 z4 z5 z6 z7 z8 z9 z10
  have hne1 : mb ≠ w.heap.size := Nat.ne_of_gt (Nat.lt_trans P.out.pr P.out.pm)
  have hne2 : r ≠ w.heap.size := Nat.ne_of_gt P.out.pr
  have HBL := Lib.hid hbl
  clear hMc hZc hbl S P HP1
  cases bad with
  | true =>
    go_wp2_with fail
    go_region
    all_goals
      go_wp2
      refine bodyPost_ret (v := .tuple #[.agg #[.int .i64 m.kind, .int .i64 m.page, .bool m.x, .bool m.need, .int .i64 m.n, .int .i64 m.cl, .int .i64 m.ep, .int .i64 m.tn, .int .i64 m.lsn, .slice none 0 0, .slice none 0 0], .bool false]) (by simp [results, Try.results11, go_sem, z0, z1, z2, z3, z4, z5, z6, z7, z8, z9, z10]) rfl ?_
      rw [HF.out]
      first
      | exact ⟨hd0, rfl, (HIN.out.set11 _ _ _ _ _ _ _ _ _ _ _).drew, (below11 HBL.out (Nat.le_refl _) _ _ _ _ _ _ _ _ _ _ _).drew⟩
      | exact ⟨hd0, rfl, HIN.out.drew.set11 _ _ _ _ _ _ _ _ _ _ _, below11 HBL.out.drew (Nat.le_refl _) _ _ _ _ _ _ _ _ _ _ _⟩
  | false =>
    by_cases hnil : s' = []
    · subst hnil
      rw [Ent.arr_nil] at r0
      go_wp2_with fail
      go_region
      all_goals
        go_wp2
        refine bodyPost_ret (v := .tuple #[.agg #[.int .i64 m.kind, .int .i64 m.page, .bool m.x, .bool m.need, .int .i64 m.n, .int .i64 m.cl, .int .i64 m.ep, .int .i64 m.tn, .int .i64 m.lsn, .slice none 0 0, .slice none 0 0], .bool true]) (by simp [results, Try.results11, go_sem, z0, z1, z2, z3, z4, z5, z6, z7, z8, z9, z10]) rfl ?_
        rw [HF.out]
        first
        | exact ⟨hd0, rfl, (HIN.out.set11 _ _ _ _ _ _ _ _ _ _ _).drew, (below11 HBL.out (Nat.le_refl _) _ _ _ _ _ _ _ _ _ _ _).drew⟩
        | exact ⟨hd0, rfl, HIN.out.drew.set11 _ _ _ _ _ _ _ _ _ _ _, below11 HBL.out.drew (Nat.le_refl _) _ _ _ _ _ _ _ _ _ _ _⟩
    · have n2 := arr_ne hnil
      have n3 := arr_ne2 hnil
      have HNN := Lib.hid (show (s' == []) = false from beq_eq_false_iff_ne.2 hnil)
      clear hnil
      go_wp2_with fail
      go_region
      all_goals
        go_wp2
        refine bodyPost_ret (v := .tuple #[.agg #[.int .i64 m.kind, .int .i64 m.page, .bool m.x, .bool m.need, .int .i64 m.n, .int .i64 m.cl, .int .i64 m.ep, .int .i64 m.tn, .int .i64 m.lsn, .slice none 0 0, .slice none 0 0], .bool false]) (by simp [results, Try.results11, go_sem, z0, z1, z2, z3, z4, z5, z6, z7, z8, z9, z10]) rfl ?_
        rw [HF.out]
        first
        | exact ⟨hd0, by simp only [HNN.out]; rfl, (HIN.out.set11 _ _ _ _ _ _ _ _ _ _ _).drew, (below11 HBL.out (Nat.le_refl _) _ _ _ _ _ _ _ _ _ _ _).drew⟩
        | exact ⟨hd0, by simp only [HNN.out]; rfl, HIN.out.drew.set11 _ _ _ _ _ _ _ _ _ _ _, below11 HBL.out.drew (Nat.le_refl _) _ _ _ _ _ _ _ _ _ _ _⟩
set_option maxRecDepth 100000 in
set_option maxHeartbeats 4000000 in
theorem read_Use (s : List UInt8) (w : World) (hs : s.length ≤ 140737488351232)
    (hp0 : ∀ w, ∃ ok, Calls Try.prog 22 #[.int .i64 (vl s), .bool false] w fun e w' => e = .returned (.tuple #[.agg #[.bool true, .bool false, .bool false, .bool false, .bool false, .bool false, .bool false, .bool false], .bool ok]) ∧ Below w.heap.size w w')
    (hp1 : ∀ w, ∃ ok, Calls Try.prog 22 #[.int .i64 (vl s), .bool (sN hUse (sTxn hUse (sNeed hUse (sX hUse (sPage hUse (sKind s)))))).m.need] w fun e w' => e = .returned (.tuple #[.agg #[.bool true, .bool false, .bool false, .bool false, .bool false, .bool false, .bool false, .bool false], .bool ok]) ∧ Below w.heap.size w w') :
    Calls Try.prog 11 #[.string (arr s)] w (ReadRes (sEnts hUse (sImage hUse (sN hUse (sTxn hUse (sNeed hUse (sX hUse (sPage hUse (sKind s)))))))) w) := by
  have hb := (below_box w (.cells #[.int .i64 0, .int .i64 0, .bool false, .bool false, .int .i64 0, .int .i64 0, .int .i64 0, .int .i64 0, .int .i64 0, .slice none 0 0, .slice none 0 0] 30)).trans ((below_box (w.alloc (.cells #[.int .i64 0, .int .i64 0, .bool false, .bool false, .int .i64 0, .int .i64 0, .int .i64 0, .int .i64 0, .int .i64 0, .slice none 0 0, .slice none 0 0] 30)) (.cells #[.string (arr s), .bool false] 68)).mono (by simp))
  have hZ := (Blk.new w 30 #[.int .i64 0, .int .i64 0, .bool false, .bool false, .int .i64 0, .int .i64 0, .int .i64 0, .int .i64 0, .int .i64 0, .slice none 0 0, .slice none 0 0]).alloc (.cells #[.string (arr s), .bool false] 68)
  have hR := Blk.new (w.alloc (.cells #[.int .i64 0, .int .i64 0, .bool false, .bool false, .int .i64 0, .int .i64 0, .int .i64 0, .int .i64 0, .int .i64 0, .slice none 0 0, .slice none 0 0] 30)) 68 #[.string (arr s), .bool false]
  have hsz : w.heap.size + 2 ≤ ((w.alloc (.cells #[.int .i64 0, .int .i64 0, .bool false, .bool false, .int .i64 0, .int .i64 0, .int .i64 0, .int .i64 0, .int .i64 0, .slice none 0 0, .slice none 0 0] 30)).alloc (.cells #[.string (arr s), .bool false] 68)).heap.size := by simp
  rw [World.size_alloc] at hR
  have HP0 := Lib.hid hp0
  have HP1 := Lib.hid hp1
  clear hp0 hp1
  go_enter Try.func11, Try.ntmps11
  try dsimp only [List.append]
  go_upto_region 2 with (fail)
  generalize hGen : (w.alloc (.cells #[.int .i64 0, .int .i64 0, .bool false, .bool false, .int .i64 0, .int .i64 0, .int .i64 0, .int .i64 0, .int .i64 0, .slice none 0 0, .slice none 0 0] 30)).alloc (.cells #[.string (arr s), .bool false] 68) = W at hb hZ hR hsz ⊢
  clear hGen
  have HRD := Lib.hid (show Rd W (w.heap.size + 1) s false from hR)
  have HZ := Lib.hid hZ
  have HBL := Lib.hid hb
  clear hR hZ hb
  go_wp2_with fail
  refine (number_any (w.heap.size + 1) s false _ HRD.out (by omega)).mono ?_
  rintro e w1 ⟨rfl, h1, o1⟩
  have R1 := Lib.hid h1
  have Z1 := Lib.hid (o1.blk HZ.out (by omega))
  have B1 := Lib.hid (HBL.out.trans (o1.below (B := w.heap.size) (by omega) (by omega)))
  have hsz1 := Nat.le_trans hsz o1.size
  clear h1 o1 HRD HZ HBL
  go_upto_region 3 with (fail)
  have R2 := Lib.hid (R1.out.alloc (.cells #[.int .i64 (vl s), .int .i64 0, .bool false, .bool false, .int .i64 0, .int .i64 0, .int .i64 0, .int .i64 0, .int .i64 0, .slice none 0 0, .slice none 0 0] 30))
  have Z2 := Lib.hid (Z1.out.alloc (.cells #[.int .i64 (vl s), .int .i64 0, .bool false, .bool false, .int .i64 0, .int .i64 0, .int .i64 0, .int .i64 0, .int .i64 0, .slice none 0 0, .slice none 0 0] 30))
  have B2 := Lib.hid (below_next B1.out (below_box w1 (.cells #[.int .i64 (vl s), .int .i64 0, .bool false, .bool false, .int .i64 0, .int .i64 0, .int .i64 0, .int .i64 0, .int .i64 0, .slice none 0 0, .slice none 0 0] 30)))
  have hM := Blk.new w1 30 #[.int .i64 (vl s), .int .i64 0, .bool false, .bool false, .int .i64 0, .int .i64 0, .int .i64 0, .int .i64 0, .int .i64 0, .slice none 0 0, .slice none 0 0]
  have hg2 := alloc_lt w1 (.cells #[.int .i64 (vl s), .int .i64 0, .bool false, .bool false, .int .i64 0, .int .i64 0, .int .i64 0, .int .i64 0, .int .i64 0, .slice none 0 0, .slice none 0 0] 30)
  generalize hGen : w1.alloc (.cells #[.int .i64 (vl s), .int .i64 0, .bool false, .bool false, .int .i64 0, .int .i64 0, .int .i64 0, .int .i64 0, .int .i64 0, .slice none 0 0, .slice none 0 0] 30) = w2 at R2 Z2 B2 hM hg2 ⊢
  clear hGen
  clear R1 Z1 B1
  generalize hGen : w1.heap.size = mb at hM hg2 hsz1 ⊢
  clear hGen
  have c0 := Blk.cell hM 0
  have M2 := Lib.hid (show Blk w2 mb 30 (msgA (sKind s).m hd0) from hM)
  clear hM
  simp only [List.getElem?_toArray, List.getElem?_cons_zero] at c0
  obtain ⟨ok0, hP0⟩ := HP0.out w2
  go_wp2_with fail
  refine hP0.mono ?_
  rintro e w3 ⟨rfl, b3⟩
  clear hP0 c0
  have R3 := Lib.hid (R2.out.below b3)
  have Z3 := Lib.hid (Z2.out.below b3 (by omega))
  have M3 := Lib.hid (M2.out.below b3 hg2)
  have B3 := Lib.hid (below_next B2.out b3)
  have hsz3 := Nat.lt_of_lt_of_le hg2 b3.size
  clear R2 Z2 M2 B2 b3 HP0
  go_upto_region 4 with (fail)
  have R4 := Lib.hid (R3.out.alloc (.cells #[.bool true, .bool false, .bool false, .bool false, .bool false, .bool false, .bool false, .bool false] 61))
  have Z4 := Lib.hid (Z3.out.alloc (.cells #[.bool true, .bool false, .bool false, .bool false, .bool false, .bool false, .bool false, .bool false] 61))
  have M4 := Lib.hid (M3.out.alloc (.cells #[.bool true, .bool false, .bool false, .bool false, .bool false, .bool false, .bool false, .bool false] 61))
  have B4 := Lib.hid (below_next B3.out (below_box w3 (.cells #[.bool true, .bool false, .bool false, .bool false, .bool false, .bool false, .bool false, .bool false] 61)))
  have hH := Blk.new w3 61 #[.bool true, .bool false, .bool false, .bool false, .bool false, .bool false, .bool false, .bool false]
  generalize hGen : w3.alloc (.cells #[.bool true, .bool false, .bool false, .bool false, .bool false, .bool false, .bool false, .bool false] 61) = wb at R4 Z4 M4 B4 hH ⊢
  clear hGen
  generalize hGen : w3.heap.size = hb at hH hsz3 ⊢
  clear hGen
  have P := Lib.hid (show PL w (w.heap.size + 1) mb hb from ⟨by omega, by omega, by omega⟩)
  replace S := Lib.hid (show RS w wb (w.heap.size + 1) mb hb (sKind s) hd0 #[.bool true, .bool false, .bool false, .bool false, .bool false, .bool false, .bool false, .bool false] from ⟨R4.out, M4.out, hH, Z4.out, B4.out, Nat.le_trans (Nib.takeInt_len _) hs⟩)
  clear R3 Z3 M3 B3 R4 Z4 M4 B4 hH hg2 hsz hsz1 hsz3
  generalize hr : w.heap.size + 1 = r at S P ⊢
  clear hr
  generalize ht : sKind s = t0 at S
  have HT0 := Lib.hid ht
  clear ht
  have hHc := S.out.h
  obtain ⟨d0, d1, d2, d3, d4, d5, d6, d7⟩ := has_cells hHc
  clear hHc
  go_wp2_with fail
  refine (number_any r t0.r t0.bad _ S.out.rd (by have := S.out.len; omega)).mono ?_
  rintro e wa ⟨rfl, h1, o1⟩
  clear d0 d1 d2 d3 d4 d5 d6 d7
  have hm := o1.blk S.out.m (Nat.ne_of_gt P.out.pm)
  have y := Blk.cell hm 1
  have f := Blk.frozen hm 1
  clear hm
  simp [msgA] at y
  replace S := Lib.hid (S.out.page P.out h1 o1)
  go_upto_region 6 with (fail)
  generalize hGen : wa.setCell ⟨mb, 1, none⟩ (.int .i64 (vl t0.r)) = wb at S ⊢
  clear hGen
  clear y f h1 o1
  replace S := Lib.hid (show RS w wb r mb hb (sPage hUse t0) hd0 #[.bool true, .bool false, .bool false, .bool false, .bool false, .bool false, .bool false, .bool false] from S.out)
  generalize ht : sPage hUse t0 = t1 at S
  have HT1 := Lib.hid ht
  clear ht
  have hHc := S.out.h
  obtain ⟨d0, d1, d2, d3, d4, d5, d6, d7⟩ := has_cells hHc
  clear hHc
  have HCH := Lib.hid (show sN hUse (sTxn hUse (sNeed hUse (sX hUse (sPage hUse (sKind s))))) = t1 from by rw [HT0.out, HT1.out, show sX hUse t1 = t1 from rfl, show sNeed hUse t1 = t1 from rfl, show sTxn hUse t1 = t1 from rfl, show sN hUse t1 = t1 from rfl])
  generalize ht : t1 = t at S HCH
  have HTT := Lib.hid ht
  clear ht
  have hK := Lib.hid (show t.m.kind = vl s from by rw [← HCH.out]; simp only [sPage_kind, sX_kind, sNeed_kind, sTxn_kind, sN_kind]; rfl)
  have hMc := S.out.m
  have c0 := Blk.cell hMc 0
  have c3 := Blk.cell hMc 3
  clear hMc
  simp [msgA] at c0 c3
  rw [hK.out] at c0
  obtain ⟨ok1, hP1⟩ := HP1.out wb
  rw [HCH.out] at hP1
  generalize t.m.need = nd at c3 hP1
  go_wp2_with fail
  refine hP1.mono ?_
  rintro e wa ⟨rfl, b1⟩
  clear hP1 c0 c3
  clear d0 d1 d2 d3 d4 d5 d6 d7
  replace S := Lib.hid (S.out.next b1)
  clear b1
  have hHc := S.out.h
  obtain ⟨d0, d1, d2, d3, d4, d5, d6, d7⟩ := has_cells hHc
  have f0 := Blk.frozen hHc 0
  have f1 := Blk.frozen hHc 1
  have f2 := Blk.frozen hHc 2
  have f3 := Blk.frozen hHc 3
  have f4 := Blk.frozen hHc 4
  have f5 := Blk.frozen hHc 5
  have f6 := Blk.frozen hHc 6
  have f7 := Blk.frozen hHc 7
  clear hHc
  replace S := Lib.hid (S.out.seth P.out (.bool true) (.bool false) (.bool false) (.bool false) (.bool false) (.bool false) (.bool false) (.bool false))
  go_upto_region 15 with (fail)
  generalize hGen : (((((((wa.setCell ⟨hb, 0, none⟩ (.bool true)).setCell ⟨hb, 1, none⟩ (.bool false)).setCell ⟨hb, 2, none⟩ (.bool false)).setCell ⟨hb, 3, none⟩ (.bool false)).setCell ⟨hb, 4, none⟩ (.bool false)).setCell ⟨hb, 5, none⟩ (.bool false)).setCell ⟨hb, 6, none⟩ (.bool false)).setCell ⟨hb, 7, none⟩ (.bool false) = wb at S ⊢
  clear hGen
  clear d0 d1 d2 d3 d4 d5 d6 d7
  clear f0 f1 f2 f3 f4 f5 f6 f7
  have hHc := S.out.h
  obtain ⟨d0, d1, d2, d3, d4, d5, d6, d7⟩ := has_cells hHc
  clear hHc
  have hes : t.m.zs = [] ∧ t.m.es = [] := by rw [← HCH.out]; simp only [sPage_es, sX_es, sNeed_es, sTxn_es, sN_es, sPage_zs, sX_zs, sNeed_zs, sTxn_zs, sN_zs]; exact ⟨rfl, rfl⟩
  replace HIN := Lib.hid (InN.nil w.heap.size wb t.m hes.1 hes.2)
  clear hes
  replace S := Lib.hid (show RS w wb r mb hb (sEnts hUse (sImage hUse t)) hd0 #[.bool true, .bool false, .bool false, .bool false, .bool false, .bool false, .bool false, .bool false] from S.out)
  replace HIN := Lib.hid (show InN w.heap.size wb (sEnts hUse (sImage hUse t)).m hd0 from HIN.out)
  go_upto_region 19 with (fail)
  clear d0 d1 d2 d3 d4 d5 d6 d7
  rw [← HCH.out] at S HIN
  clear HCH
  generalize hfin : sEnts hUse (sImage hUse (sN hUse (sTxn hUse (sNeed hUse (sX hUse (sPage hUse (sKind s))))))) = t' at S HIN
  obtain ⟨m, s', bad⟩ := t'
  have HF := Lib.hid hfin
  clear hfin
  obtain ⟨⟨r0, r1, _, _⟩, hMc, _, hZc, hbl, _⟩ := (show (wb.cell? ⟨r, 0, none⟩ = some (.string (arr s')) ∧ wb.cell? ⟨r, 1, none⟩ = some (.bool bad) ∧ wb.frozen? ⟨r, 0, none⟩ = false ∧ wb.frozen? ⟨r, 1, none⟩ = false) ∧ Blk wb mb 30 (msgA m hd0) ∧ True ∧ Blk wb w.heap.size 30 #[.int .i64 0, .int .i64 0, .bool false, .bool false, .int .i64 0, .int .i64 0, .int .i64 0, .int .i64 0, .int .i64 0, .slice none 0 0, .slice none 0 0] ∧ Below w.heap.size w wb ∧ True from ⟨S.out.rd.get, S.out.m, trivial, S.out.z, S.out.bel, trivial⟩)
  have c0 := Blk.cell hMc 0
  have c1 := Blk.cell hMc 1
  have c2 := Blk.cell hMc 2
  have c3 := Blk.cell hMc 3
  have c4 := Blk.cell hMc 4
  have c5 := Blk.cell hMc 5
  have c6 := Blk.cell hMc 6
  have c7 := Blk.cell hMc 7
  have c8 := Blk.cell hMc 8
  have c9 := Blk.cell hMc 9
  have c10 := Blk.cell hMc 10
  simp [msgA, hd0] at c0 c1 c2 c3 c4 c5 c6 c7 c8 c9 c10
  have z0 := Blk.cell hZc 0
  have z1 := Blk.cell hZc 1
  have z2 := Blk.cell hZc 2
  have z3 := Blk.cell hZc 3
  have z4 := Blk.cell hZc 4
  have z5 := Blk.cell hZc 5
  have z6 := Blk.cell hZc 6
  have z7 := Blk.cell hZc 7
  have z8 := Blk.cell hZc 8
  have z9 := Blk.cell hZc 9
  have z10 := Blk.cell hZc 10
  have q0 := Blk.frozen hZc 0
  have q1 := Blk.frozen hZc 1
  have q2 := Blk.frozen hZc 2
  have q3 := Blk.frozen hZc 3
  have q4 := Blk.frozen hZc 4
  have q5 := Blk.frozen hZc 5
  have q6 := Blk.frozen hZc 6
  have q7 := Blk.frozen hZc 7
  have q8 := Blk.frozen hZc 8
  have q9 := Blk.frozen hZc 9
  have q10 := Blk.frozen hZc 10
  simp at z0 z1 z2 z3 z4 z5 z6 z7 z8 z9 z10
  have hne1 : mb ≠ w.heap.size := Nat.ne_of_gt (Nat.lt_trans P.out.pr P.out.pm)
  have hne2 : r ≠ w.heap.size := Nat.ne_of_gt P.out.pr
  have HBL := Lib.hid hbl
  clear hMc hZc hbl S P HP1
  cases bad with
  | true =>
    go_wp2_with fail
    go_region
    all_goals
      go_wp2
      refine bodyPost_ret (v := .tuple #[.agg #[.int .i64 m.kind, .int .i64 m.page, .bool m.x, .bool m.need, .int .i64 m.n, .int .i64 m.cl, .int .i64 m.ep, .int .i64 m.tn, .int .i64 m.lsn, .slice none 0 0, .slice none 0 0], .bool false]) (by simp [results, Try.results11, go_sem, z0, z1, z2, z3, z4, z5, z6, z7, z8, z9, z10]) rfl ?_
      rw [HF.out]
      first
      | exact ⟨hd0, rfl, (HIN.out.set11 _ _ _ _ _ _ _ _ _ _ _).drew, (below11 HBL.out (Nat.le_refl _) _ _ _ _ _ _ _ _ _ _ _).drew⟩
      | exact ⟨hd0, rfl, HIN.out.drew.set11 _ _ _ _ _ _ _ _ _ _ _, below11 HBL.out.drew (Nat.le_refl _) _ _ _ _ _ _ _ _ _ _ _⟩
  | false =>
    by_cases hnil : s' = []
    · subst hnil
      rw [Ent.arr_nil] at r0
      go_wp2_with fail
      go_region
      all_goals
        go_wp2
        refine bodyPost_ret (v := .tuple #[.agg #[.int .i64 m.kind, .int .i64 m.page, .bool m.x, .bool m.need, .int .i64 m.n, .int .i64 m.cl, .int .i64 m.ep, .int .i64 m.tn, .int .i64 m.lsn, .slice none 0 0, .slice none 0 0], .bool true]) (by simp [results, Try.results11, go_sem, z0, z1, z2, z3, z4, z5, z6, z7, z8, z9, z10]) rfl ?_
        rw [HF.out]
        first
        | exact ⟨hd0, rfl, (HIN.out.set11 _ _ _ _ _ _ _ _ _ _ _).drew, (below11 HBL.out (Nat.le_refl _) _ _ _ _ _ _ _ _ _ _ _).drew⟩
        | exact ⟨hd0, rfl, HIN.out.drew.set11 _ _ _ _ _ _ _ _ _ _ _, below11 HBL.out.drew (Nat.le_refl _) _ _ _ _ _ _ _ _ _ _ _⟩
    · have n2 := arr_ne hnil
      have n3 := arr_ne2 hnil
      have HNN := Lib.hid (show (s' == []) = false from beq_eq_false_iff_ne.2 hnil)
      clear hnil
      go_wp2_with fail
      go_region
      all_goals
        go_wp2
        refine bodyPost_ret (v := .tuple #[.agg #[.int .i64 m.kind, .int .i64 m.page, .bool m.x, .bool m.need, .int .i64 m.n, .int .i64 m.cl, .int .i64 m.ep, .int .i64 m.tn, .int .i64 m.lsn, .slice none 0 0, .slice none 0 0], .bool false]) (by simp [results, Try.results11, go_sem, z0, z1, z2, z3, z4, z5, z6, z7, z8, z9, z10]) rfl ?_
        rw [HF.out]
        first
        | exact ⟨hd0, by simp only [HNN.out]; rfl, (HIN.out.set11 _ _ _ _ _ _ _ _ _ _ _).drew, (below11 HBL.out (Nat.le_refl _) _ _ _ _ _ _ _ _ _ _ _).drew⟩
        | exact ⟨hd0, by simp only [HNN.out]; rfl, HIN.out.drew.set11 _ _ _ _ _ _ _ _ _ _ _, below11 HBL.out.drew (Nat.le_refl _) _ _ _ _ _ _ _ _ _ _ _⟩
set_option maxRecDepth 100000 in
set_option maxHeartbeats 4000000 in
theorem read_Log (s : List UInt8) (w : World) (hs : s.length ≤ 140737488351232)
    (hp0 : ∀ w, ∃ ok, Calls Try.prog 22 #[.int .i64 (vl s), .bool false] w fun e w' => e = .returned (.tuple #[.agg #[.bool false, .bool false, .bool false, .bool false, .bool false, .bool false, .bool false, .bool true], .bool ok]) ∧ Below w.heap.size w w')
    (hp1 : ∀ w, ∃ ok, Calls Try.prog 22 #[.int .i64 (vl s), .bool (sN hLog (sTxn hLog (sNeed hLog (sX hLog (sPage hLog (sKind s)))))).m.need] w fun e w' => e = .returned (.tuple #[.agg #[.bool false, .bool false, .bool false, .bool false, .bool false, .bool false, .bool false, .bool true], .bool ok]) ∧ Below w.heap.size w w') :
    Calls Try.prog 11 #[.string (arr s)] w (ReadRes (sEnts hLog (sImage hLog (sN hLog (sTxn hLog (sNeed hLog (sX hLog (sPage hLog (sKind s)))))))) w) := by
  have hb := (below_box w (.cells #[.int .i64 0, .int .i64 0, .bool false, .bool false, .int .i64 0, .int .i64 0, .int .i64 0, .int .i64 0, .int .i64 0, .slice none 0 0, .slice none 0 0] 30)).trans ((below_box (w.alloc (.cells #[.int .i64 0, .int .i64 0, .bool false, .bool false, .int .i64 0, .int .i64 0, .int .i64 0, .int .i64 0, .int .i64 0, .slice none 0 0, .slice none 0 0] 30)) (.cells #[.string (arr s), .bool false] 68)).mono (by simp))
  have hZ := (Blk.new w 30 #[.int .i64 0, .int .i64 0, .bool false, .bool false, .int .i64 0, .int .i64 0, .int .i64 0, .int .i64 0, .int .i64 0, .slice none 0 0, .slice none 0 0]).alloc (.cells #[.string (arr s), .bool false] 68)
  have hR := Blk.new (w.alloc (.cells #[.int .i64 0, .int .i64 0, .bool false, .bool false, .int .i64 0, .int .i64 0, .int .i64 0, .int .i64 0, .int .i64 0, .slice none 0 0, .slice none 0 0] 30)) 68 #[.string (arr s), .bool false]
  have hsz : w.heap.size + 2 ≤ ((w.alloc (.cells #[.int .i64 0, .int .i64 0, .bool false, .bool false, .int .i64 0, .int .i64 0, .int .i64 0, .int .i64 0, .int .i64 0, .slice none 0 0, .slice none 0 0] 30)).alloc (.cells #[.string (arr s), .bool false] 68)).heap.size := by simp
  rw [World.size_alloc] at hR
  have HP0 := Lib.hid hp0
  have HP1 := Lib.hid hp1
  clear hp0 hp1
  go_enter Try.func11, Try.ntmps11
  try dsimp only [List.append]
  go_upto_region 2 with (fail)
  generalize hGen : (w.alloc (.cells #[.int .i64 0, .int .i64 0, .bool false, .bool false, .int .i64 0, .int .i64 0, .int .i64 0, .int .i64 0, .int .i64 0, .slice none 0 0, .slice none 0 0] 30)).alloc (.cells #[.string (arr s), .bool false] 68) = W at hb hZ hR hsz ⊢
  clear hGen
  have HRD := Lib.hid (show Rd W (w.heap.size + 1) s false from hR)
  have HZ := Lib.hid hZ
  have HBL := Lib.hid hb
  clear hR hZ hb
  go_wp2_with fail
  refine (number_any (w.heap.size + 1) s false _ HRD.out (by omega)).mono ?_
  rintro e w1 ⟨rfl, h1, o1⟩
  have R1 := Lib.hid h1
  have Z1 := Lib.hid (o1.blk HZ.out (by omega))
  have B1 := Lib.hid (HBL.out.trans (o1.below (B := w.heap.size) (by omega) (by omega)))
  have hsz1 := Nat.le_trans hsz o1.size
  clear h1 o1 HRD HZ HBL
  go_upto_region 3 with (fail)
  have R2 := Lib.hid (R1.out.alloc (.cells #[.int .i64 (vl s), .int .i64 0, .bool false, .bool false, .int .i64 0, .int .i64 0, .int .i64 0, .int .i64 0, .int .i64 0, .slice none 0 0, .slice none 0 0] 30))
  have Z2 := Lib.hid (Z1.out.alloc (.cells #[.int .i64 (vl s), .int .i64 0, .bool false, .bool false, .int .i64 0, .int .i64 0, .int .i64 0, .int .i64 0, .int .i64 0, .slice none 0 0, .slice none 0 0] 30))
  have B2 := Lib.hid (below_next B1.out (below_box w1 (.cells #[.int .i64 (vl s), .int .i64 0, .bool false, .bool false, .int .i64 0, .int .i64 0, .int .i64 0, .int .i64 0, .int .i64 0, .slice none 0 0, .slice none 0 0] 30)))
  have hM := Blk.new w1 30 #[.int .i64 (vl s), .int .i64 0, .bool false, .bool false, .int .i64 0, .int .i64 0, .int .i64 0, .int .i64 0, .int .i64 0, .slice none 0 0, .slice none 0 0]
  have hg2 := alloc_lt w1 (.cells #[.int .i64 (vl s), .int .i64 0, .bool false, .bool false, .int .i64 0, .int .i64 0, .int .i64 0, .int .i64 0, .int .i64 0, .slice none 0 0, .slice none 0 0] 30)
  generalize hGen : w1.alloc (.cells #[.int .i64 (vl s), .int .i64 0, .bool false, .bool false, .int .i64 0, .int .i64 0, .int .i64 0, .int .i64 0, .int .i64 0, .slice none 0 0, .slice none 0 0] 30) = w2 at R2 Z2 B2 hM hg2 ⊢
  clear hGen
  clear R1 Z1 B1
  generalize hGen : w1.heap.size = mb at hM hg2 hsz1 ⊢
  clear hGen
  have c0 := Blk.cell hM 0
  have M2 := Lib.hid (show Blk w2 mb 30 (msgA (sKind s).m hd0) from hM)
  clear hM
  simp only [List.getElem?_toArray, List.getElem?_cons_zero] at c0
  obtain ⟨ok0, hP0⟩ := HP0.out w2
  go_wp2_with fail
  refine hP0.mono ?_
  rintro e w3 ⟨rfl, b3⟩
  clear hP0 c0
  have R3 := Lib.hid (R2.out.below b3)
  have Z3 := Lib.hid (Z2.out.below b3 (by omega))
  have M3 := Lib.hid (M2.out.below b3 hg2)
  have B3 := Lib.hid (below_next B2.out b3)
  have hsz3 := Nat.lt_of_lt_of_le hg2 b3.size
  clear R2 Z2 M2 B2 b3 HP0
  go_upto_region 4 with (fail)
  have R4 := Lib.hid (R3.out.alloc (.cells #[.bool false, .bool false, .bool false, .bool false, .bool false, .bool false, .bool false, .bool true] 61))
  have Z4 := Lib.hid (Z3.out.alloc (.cells #[.bool false, .bool false, .bool false, .bool false, .bool false, .bool false, .bool false, .bool true] 61))
  have M4 := Lib.hid (M3.out.alloc (.cells #[.bool false, .bool false, .bool false, .bool false, .bool false, .bool false, .bool false, .bool true] 61))
  have B4 := Lib.hid (below_next B3.out (below_box w3 (.cells #[.bool false, .bool false, .bool false, .bool false, .bool false, .bool false, .bool false, .bool true] 61)))
  have hH := Blk.new w3 61 #[.bool false, .bool false, .bool false, .bool false, .bool false, .bool false, .bool false, .bool true]
  generalize hGen : w3.alloc (.cells #[.bool false, .bool false, .bool false, .bool false, .bool false, .bool false, .bool false, .bool true] 61) = wb at R4 Z4 M4 B4 hH ⊢
  clear hGen
  generalize hGen : w3.heap.size = hb at hH hsz3 ⊢
  clear hGen
  have P := Lib.hid (show PL w (w.heap.size + 1) mb hb from ⟨by omega, by omega, by omega⟩)
  replace S := Lib.hid (show RS w wb (w.heap.size + 1) mb hb (sKind s) hd0 #[.bool false, .bool false, .bool false, .bool false, .bool false, .bool false, .bool false, .bool true] from ⟨R4.out, M4.out, hH, Z4.out, B4.out, Nat.le_trans (Nib.takeInt_len _) hs⟩)
  clear R3 Z3 M3 B3 R4 Z4 M4 B4 hH hg2 hsz hsz1 hsz3
  generalize hr : w.heap.size + 1 = r at S P ⊢
  clear hr
  generalize ht : sKind s = t0 at S
  have HT0 := Lib.hid ht
  clear ht
  have hHc := S.out.h
  obtain ⟨d0, d1, d2, d3, d4, d5, d6, d7⟩ := has_cells hHc
  clear hHc
  have HCH := Lib.hid (show sN hLog (sTxn hLog (sNeed hLog (sX hLog (sPage hLog (sKind s))))) = t0 from by rw [HT0.out, show sPage hLog t0 = t0 from rfl, show sX hLog t0 = t0 from rfl, show sNeed hLog t0 = t0 from rfl, show sTxn hLog t0 = t0 from rfl, show sN hLog t0 = t0 from rfl])
  generalize ht : t0 = t at S HCH
  have HTT := Lib.hid ht
  clear ht
  have hK := Lib.hid (show t.m.kind = vl s from by rw [← HCH.out]; simp only [sPage_kind, sX_kind, sNeed_kind, sTxn_kind, sN_kind]; rfl)
  have hMc := S.out.m
  have c0 := Blk.cell hMc 0
  have c3 := Blk.cell hMc 3
  clear hMc
  simp [msgA] at c0 c3
  rw [hK.out] at c0
  obtain ⟨ok1, hP1⟩ := HP1.out wb
  rw [HCH.out] at hP1
  generalize t.m.need = nd at c3 hP1
  go_wp2_with fail
  refine hP1.mono ?_
  rintro e wa ⟨rfl, b1⟩
  clear hP1 c0 c3
  clear d0 d1 d2 d3 d4 d5 d6 d7
  replace S := Lib.hid (S.out.next b1)
  clear b1
  have hHc := S.out.h
  obtain ⟨d0, d1, d2, d3, d4, d5, d6, d7⟩ := has_cells hHc
  have f0 := Blk.frozen hHc 0
  have f1 := Blk.frozen hHc 1
  have f2 := Blk.frozen hHc 2
  have f3 := Blk.frozen hHc 3
  have f4 := Blk.frozen hHc 4
  have f5 := Blk.frozen hHc 5
  have f6 := Blk.frozen hHc 6
  have f7 := Blk.frozen hHc 7
  clear hHc
  replace S := Lib.hid (S.out.seth P.out (.bool false) (.bool false) (.bool false) (.bool false) (.bool false) (.bool false) (.bool false) (.bool true))
  go_upto_region 15 with (fail)
  generalize hGen : (((((((wa.setCell ⟨hb, 0, none⟩ (.bool false)).setCell ⟨hb, 1, none⟩ (.bool false)).setCell ⟨hb, 2, none⟩ (.bool false)).setCell ⟨hb, 3, none⟩ (.bool false)).setCell ⟨hb, 4, none⟩ (.bool false)).setCell ⟨hb, 5, none⟩ (.bool false)).setCell ⟨hb, 6, none⟩ (.bool false)).setCell ⟨hb, 7, none⟩ (.bool true) = wb at S ⊢
  clear hGen
  clear d0 d1 d2 d3 d4 d5 d6 d7
  clear f0 f1 f2 f3 f4 f5 f6 f7
  have hHc := S.out.h
  obtain ⟨d0, d1, d2, d3, d4, d5, d6, d7⟩ := has_cells hHc
  clear hHc
  go_wp2_with fail
  refine (entries_any r t.r t.bad _ S.out.rd S.out.len).mono ?_
  rintro e wa ⟨qa, qn, qc, rfl, hS, hnew, h1, o1⟩
  clear d0 d1 d2 d3 d4 d5 d6 d7
  have hm := o1.blk S.out.m (Nat.ne_of_gt P.out.pm)
  have y := Blk.cell hm 10
  have f := Blk.frozen hm 10
  clear hm
  simp [msgA] at y
  have hgn : ∀ g off e, qa = some ⟨g, off, e⟩ → mb < g := fun g off e h => Nat.lt_of_lt_of_le S.out.m.lt (hnew g off e h)
  replace S := Lib.hid ((S.out.only P.out h1 o1 (Nat.le_trans (Nat.le_trans (entsT_len _ _) (Nib.takeInt_len _)) S.out.len)).ents1 P.out (esL t.r) qa qn qc)
  have HSL := Lib.hid (ents_set hS (fun g off e h => Nat.ne_of_gt (hgn g off e h)) 10 (.slice qa qn qc))
  have HGN := Lib.hid hgn
  clear hgn hS hnew h1 o1
  go_upto_region 19 with (fail)
  generalize hGen : wa.setCell ⟨mb, 10, none⟩ (.slice qa qn qc) = wb at S HSL ⊢
  clear hGen
  clear y f
  have hes : t.m.zs = [] := by rw [← HCH.out]; simp only [sPage_zs, sX_zs, sNeed_zs, sTxn_zs, sN_zs]; rfl
  replace HIN := Lib.hid (show InN w.heap.size wb { t.m with es := esL t.r } ⟨none, 0, 0, qa, qn, qc⟩ from ⟨⟨by rw [hes]; exact ⟨rfl, by simp, fun h => absurd h (Nat.lt_irrefl 0)⟩, HSL.out⟩, fun _ _ _ h => (by cases h), fun g off e h => Nat.lt_trans (Nat.lt_trans P.out.pr P.out.pm) (HGN.out g off e h)⟩)
  clear HSL HGN hes
  replace S := Lib.hid (show RS w wb r mb hb (sEnts hLog (sImage hLog t)) ⟨none, 0, 0, qa, qn, qc⟩ #[.bool false, .bool false, .bool false, .bool false, .bool false, .bool false, .bool false, .bool true] from S.out)
  replace HIN := Lib.hid (show InN w.heap.size wb (sEnts hLog (sImage hLog t)).m ⟨none, 0, 0, qa, qn, qc⟩ from HIN.out)
  replace S := Lib.hid (show RS w wb r mb hb (sEnts hLog (sImage hLog t)) ⟨none, 0, 0, qa, qn, qc⟩ #[.bool false, .bool false, .bool false, .bool false, .bool false, .bool false, .bool false, .bool true] from S.out)
  replace HIN := Lib.hid (show InN w.heap.size wb (sEnts hLog (sImage hLog t)).m ⟨none, 0, 0, qa, qn, qc⟩ from HIN.out)
  rw [← HCH.out] at S HIN
  clear HCH
  generalize hfin : sEnts hLog (sImage hLog (sN hLog (sTxn hLog (sNeed hLog (sX hLog (sPage hLog (sKind s))))))) = t' at S HIN
  obtain ⟨m, s', bad⟩ := t'
  have HF := Lib.hid hfin
  clear hfin
  obtain ⟨⟨r0, r1, _, _⟩, hMc, _, hZc, hbl, _⟩ := (show (wb.cell? ⟨r, 0, none⟩ = some (.string (arr s')) ∧ wb.cell? ⟨r, 1, none⟩ = some (.bool bad) ∧ wb.frozen? ⟨r, 0, none⟩ = false ∧ wb.frozen? ⟨r, 1, none⟩ = false) ∧ Blk wb mb 30 (msgA m ⟨none, 0, 0, qa, qn, qc⟩) ∧ True ∧ Blk wb w.heap.size 30 #[.int .i64 0, .int .i64 0, .bool false, .bool false, .int .i64 0, .int .i64 0, .int .i64 0, .int .i64 0, .int .i64 0, .slice none 0 0, .slice none 0 0] ∧ Below w.heap.size w wb ∧ True from ⟨S.out.rd.get, S.out.m, trivial, S.out.z, S.out.bel, trivial⟩)
  have c0 := Blk.cell hMc 0
  have c1 := Blk.cell hMc 1
  have c2 := Blk.cell hMc 2
  have c3 := Blk.cell hMc 3
  have c4 := Blk.cell hMc 4
  have c5 := Blk.cell hMc 5
  have c6 := Blk.cell hMc 6
  have c7 := Blk.cell hMc 7
  have c8 := Blk.cell hMc 8
  have c9 := Blk.cell hMc 9
  have c10 := Blk.cell hMc 10
  simp [msgA] at c0 c1 c2 c3 c4 c5 c6 c7 c8 c9 c10
  have z0 := Blk.cell hZc 0
  have z1 := Blk.cell hZc 1
  have z2 := Blk.cell hZc 2
  have z3 := Blk.cell hZc 3
  have z4 := Blk.cell hZc 4
  have z5 := Blk.cell hZc 5
  have z6 := Blk.cell hZc 6
  have z7 := Blk.cell hZc 7
  have z8 := Blk.cell hZc 8
  have z9 := Blk.cell hZc 9
  have z10 := Blk.cell hZc 10
  have q0 := Blk.frozen hZc 0
  have q1 := Blk.frozen hZc 1
  have q2 := Blk.frozen hZc 2
  have q3 := Blk.frozen hZc 3
  have q4 := Blk.frozen hZc 4
  have q5 := Blk.frozen hZc 5
  have q6 := Blk.frozen hZc 6
  have q7 := Blk.frozen hZc 7
  have q8 := Blk.frozen hZc 8
  have q9 := Blk.frozen hZc 9
  have q10 := Blk.frozen hZc 10
  simp at z0 z1 z2 z3 z4 z5 z6 z7 z8 z9 z10
  have hne1 : mb ≠ w.heap.size := Nat.ne_of_gt (Nat.lt_trans P.out.pr P.out.pm)
  have hne2 : r ≠ w.heap.size := Nat.ne_of_gt P.out.pr
  have HBL := Lib.hid hbl
  clear hMc hZc hbl S P HP1
  cases bad with
  | true =>
    go_wp2_with fail
    go_region
    all_goals
      go_wp2
      refine bodyPost_ret (v := .tuple #[.agg #[.int .i64 m.kind, .int .i64 m.page, .bool m.x, .bool m.need, .int .i64 m.n, .int .i64 m.cl, .int .i64 m.ep, .int .i64 m.tn, .int .i64 m.lsn, .slice none 0 0, .slice qa qn qc], .bool false]) (by simp [results, Try.results11, go_sem, z0, z1, z2, z3, z4, z5, z6, z7, z8, z9, z10]) rfl ?_
      rw [HF.out]
      first
      | exact ⟨⟨none, 0, 0, qa, qn, qc⟩, rfl, (HIN.out.set11 _ _ _ _ _ _ _ _ _ _ _).drew, (below11 HBL.out (Nat.le_refl _) _ _ _ _ _ _ _ _ _ _ _).drew⟩
      | exact ⟨⟨none, 0, 0, qa, qn, qc⟩, rfl, HIN.out.drew.set11 _ _ _ _ _ _ _ _ _ _ _, below11 HBL.out.drew (Nat.le_refl _) _ _ _ _ _ _ _ _ _ _ _⟩
  | false =>
    by_cases hnil : s' = []
    · subst hnil
      rw [Ent.arr_nil] at r0
      go_wp2_with fail
      go_region
      all_goals
        go_wp2
        refine bodyPost_ret (v := .tuple #[.agg #[.int .i64 m.kind, .int .i64 m.page, .bool m.x, .bool m.need, .int .i64 m.n, .int .i64 m.cl, .int .i64 m.ep, .int .i64 m.tn, .int .i64 m.lsn, .slice none 0 0, .slice qa qn qc], .bool true]) (by simp [results, Try.results11, go_sem, z0, z1, z2, z3, z4, z5, z6, z7, z8, z9, z10]) rfl ?_
        rw [HF.out]
        first
        | exact ⟨⟨none, 0, 0, qa, qn, qc⟩, rfl, (HIN.out.set11 _ _ _ _ _ _ _ _ _ _ _).drew, (below11 HBL.out (Nat.le_refl _) _ _ _ _ _ _ _ _ _ _ _).drew⟩
        | exact ⟨⟨none, 0, 0, qa, qn, qc⟩, rfl, HIN.out.drew.set11 _ _ _ _ _ _ _ _ _ _ _, below11 HBL.out.drew (Nat.le_refl _) _ _ _ _ _ _ _ _ _ _ _⟩
    · have n2 := arr_ne hnil
      have n3 := arr_ne2 hnil
      have HNN := Lib.hid (show (s' == []) = false from beq_eq_false_iff_ne.2 hnil)
      clear hnil
      go_wp2_with fail
      go_region
      all_goals
        go_wp2
        refine bodyPost_ret (v := .tuple #[.agg #[.int .i64 m.kind, .int .i64 m.page, .bool m.x, .bool m.need, .int .i64 m.n, .int .i64 m.cl, .int .i64 m.ep, .int .i64 m.tn, .int .i64 m.lsn, .slice none 0 0, .slice qa qn qc], .bool false]) (by simp [results, Try.results11, go_sem, z0, z1, z2, z3, z4, z5, z6, z7, z8, z9, z10]) rfl ?_
        rw [HF.out]
        first
        | exact ⟨⟨none, 0, 0, qa, qn, qc⟩, by simp only [HNN.out]; rfl, (HIN.out.set11 _ _ _ _ _ _ _ _ _ _ _).drew, (below11 HBL.out (Nat.le_refl _) _ _ _ _ _ _ _ _ _ _ _).drew⟩
        | exact ⟨⟨none, 0, 0, qa, qn, qc⟩, by simp only [HNN.out]; rfl, HIN.out.drew.set11 _ _ _ _ _ _ _ _ _ _ _, below11 HBL.out.drew (Nat.le_refl _) _ _ _ _ _ _ _ _ _ _ _⟩
set_option maxRecDepth 100000 in
set_option maxHeartbeats 4000000 in
theorem read_Image (s : List UInt8) (w : World) (hs : s.length ≤ 140737488351232)
    (hp0 : ∀ w, ∃ ok, Calls Try.prog 22 #[.int .i64 (vl s), .bool false] w fun e w' => e = .returned (.tuple #[.agg #[.bool true, .bool false, .bool false, .bool false, .bool false, .bool false, .bool true, .bool false], .bool ok]) ∧ Below w.heap.size w w')
    (hp1 : ∀ w, ∃ ok, Calls Try.prog 22 #[.int .i64 (vl s), .bool (sN hImage (sTxn hImage (sNeed hImage (sX hImage (sPage hImage (sKind s)))))).m.need] w fun e w' => e = .returned (.tuple #[.agg #[.bool true, .bool false, .bool false, .bool false, .bool false, .bool false, .bool true, .bool false], .bool ok]) ∧ Below w.heap.size w w') :
    Calls Try.prog 11 #[.string (arr s)] w (ReadRes (sEnts hImage (sImage hImage (sN hImage (sTxn hImage (sNeed hImage (sX hImage (sPage hImage (sKind s)))))))) w) := by
  have hb := (below_box w (.cells #[.int .i64 0, .int .i64 0, .bool false, .bool false, .int .i64 0, .int .i64 0, .int .i64 0, .int .i64 0, .int .i64 0, .slice none 0 0, .slice none 0 0] 30)).trans ((below_box (w.alloc (.cells #[.int .i64 0, .int .i64 0, .bool false, .bool false, .int .i64 0, .int .i64 0, .int .i64 0, .int .i64 0, .int .i64 0, .slice none 0 0, .slice none 0 0] 30)) (.cells #[.string (arr s), .bool false] 68)).mono (by simp))
  have hZ := (Blk.new w 30 #[.int .i64 0, .int .i64 0, .bool false, .bool false, .int .i64 0, .int .i64 0, .int .i64 0, .int .i64 0, .int .i64 0, .slice none 0 0, .slice none 0 0]).alloc (.cells #[.string (arr s), .bool false] 68)
  have hR := Blk.new (w.alloc (.cells #[.int .i64 0, .int .i64 0, .bool false, .bool false, .int .i64 0, .int .i64 0, .int .i64 0, .int .i64 0, .int .i64 0, .slice none 0 0, .slice none 0 0] 30)) 68 #[.string (arr s), .bool false]
  have hsz : w.heap.size + 2 ≤ ((w.alloc (.cells #[.int .i64 0, .int .i64 0, .bool false, .bool false, .int .i64 0, .int .i64 0, .int .i64 0, .int .i64 0, .int .i64 0, .slice none 0 0, .slice none 0 0] 30)).alloc (.cells #[.string (arr s), .bool false] 68)).heap.size := by simp
  rw [World.size_alloc] at hR
  have HP0 := Lib.hid hp0
  have HP1 := Lib.hid hp1
  clear hp0 hp1
  go_enter Try.func11, Try.ntmps11
  try dsimp only [List.append]
  go_upto_region 2 with (fail)
  generalize hGen : (w.alloc (.cells #[.int .i64 0, .int .i64 0, .bool false, .bool false, .int .i64 0, .int .i64 0, .int .i64 0, .int .i64 0, .int .i64 0, .slice none 0 0, .slice none 0 0] 30)).alloc (.cells #[.string (arr s), .bool false] 68) = W at hb hZ hR hsz ⊢
  clear hGen
  have HRD := Lib.hid (show Rd W (w.heap.size + 1) s false from hR)
  have HZ := Lib.hid hZ
  have HBL := Lib.hid hb
  clear hR hZ hb
  go_wp2_with fail
  refine (number_any (w.heap.size + 1) s false _ HRD.out (by omega)).mono ?_
  rintro e w1 ⟨rfl, h1, o1⟩
  have R1 := Lib.hid h1
  have Z1 := Lib.hid (o1.blk HZ.out (by omega))
  have B1 := Lib.hid (HBL.out.trans (o1.below (B := w.heap.size) (by omega) (by omega)))
  have hsz1 := Nat.le_trans hsz o1.size
  clear h1 o1 HRD HZ HBL
  go_upto_region 3 with (fail)
  have R2 := Lib.hid (R1.out.alloc (.cells #[.int .i64 (vl s), .int .i64 0, .bool false, .bool false, .int .i64 0, .int .i64 0, .int .i64 0, .int .i64 0, .int .i64 0, .slice none 0 0, .slice none 0 0] 30))
  have Z2 := Lib.hid (Z1.out.alloc (.cells #[.int .i64 (vl s), .int .i64 0, .bool false, .bool false, .int .i64 0, .int .i64 0, .int .i64 0, .int .i64 0, .int .i64 0, .slice none 0 0, .slice none 0 0] 30))
  have B2 := Lib.hid (below_next B1.out (below_box w1 (.cells #[.int .i64 (vl s), .int .i64 0, .bool false, .bool false, .int .i64 0, .int .i64 0, .int .i64 0, .int .i64 0, .int .i64 0, .slice none 0 0, .slice none 0 0] 30)))
  have hM := Blk.new w1 30 #[.int .i64 (vl s), .int .i64 0, .bool false, .bool false, .int .i64 0, .int .i64 0, .int .i64 0, .int .i64 0, .int .i64 0, .slice none 0 0, .slice none 0 0]
  have hg2 := alloc_lt w1 (.cells #[.int .i64 (vl s), .int .i64 0, .bool false, .bool false, .int .i64 0, .int .i64 0, .int .i64 0, .int .i64 0, .int .i64 0, .slice none 0 0, .slice none 0 0] 30)
  generalize hGen : w1.alloc (.cells #[.int .i64 (vl s), .int .i64 0, .bool false, .bool false, .int .i64 0, .int .i64 0, .int .i64 0, .int .i64 0, .int .i64 0, .slice none 0 0, .slice none 0 0] 30) = w2 at R2 Z2 B2 hM hg2 ⊢
  clear hGen
  clear R1 Z1 B1
  generalize hGen : w1.heap.size = mb at hM hg2 hsz1 ⊢
  clear hGen
  have c0 := Blk.cell hM 0
  have M2 := Lib.hid (show Blk w2 mb 30 (msgA (sKind s).m hd0) from hM)
  clear hM
  simp only [List.getElem?_toArray, List.getElem?_cons_zero] at c0
  obtain ⟨ok0, hP0⟩ := HP0.out w2
  go_wp2_with fail
  refine hP0.mono ?_
  rintro e w3 ⟨rfl, b3⟩
  clear hP0 c0
  have R3 := Lib.hid (R2.out.below b3)
  have Z3 := Lib.hid (Z2.out.below b3 (by omega))
  have M3 := Lib.hid (M2.out.below b3 hg2)
  have B3 := Lib.hid (below_next B2.out b3)
  have hsz3 := Nat.lt_of_lt_of_le hg2 b3.size
  clear R2 Z2 M2 B2 b3 HP0
  go_upto_region 4 with (fail)
  have R4 := Lib.hid (R3.out.alloc (.cells #[.bool true, .bool false, .bool false, .bool false, .bool false, .bool false, .bool true, .bool false] 61))
  have Z4 := Lib.hid (Z3.out.alloc (.cells #[.bool true, .bool false, .bool false, .bool false, .bool false, .bool false, .bool true, .bool false] 61))
  have M4 := Lib.hid (M3.out.alloc (.cells #[.bool true, .bool false, .bool false, .bool false, .bool false, .bool false, .bool true, .bool false] 61))
  have B4 := Lib.hid (below_next B3.out (below_box w3 (.cells #[.bool true, .bool false, .bool false, .bool false, .bool false, .bool false, .bool true, .bool false] 61)))
  have hH := Blk.new w3 61 #[.bool true, .bool false, .bool false, .bool false, .bool false, .bool false, .bool true, .bool false]
  generalize hGen : w3.alloc (.cells #[.bool true, .bool false, .bool false, .bool false, .bool false, .bool false, .bool true, .bool false] 61) = wb at R4 Z4 M4 B4 hH ⊢
  clear hGen
  generalize hGen : w3.heap.size = hb at hH hsz3 ⊢
  clear hGen
  have P := Lib.hid (show PL w (w.heap.size + 1) mb hb from ⟨by omega, by omega, by omega⟩)
  replace S := Lib.hid (show RS w wb (w.heap.size + 1) mb hb (sKind s) hd0 #[.bool true, .bool false, .bool false, .bool false, .bool false, .bool false, .bool true, .bool false] from ⟨R4.out, M4.out, hH, Z4.out, B4.out, Nat.le_trans (Nib.takeInt_len _) hs⟩)
  clear R3 Z3 M3 B3 R4 Z4 M4 B4 hH hg2 hsz hsz1 hsz3
  generalize hr : w.heap.size + 1 = r at S P ⊢
  clear hr
  generalize ht : sKind s = t0 at S
  have HT0 := Lib.hid ht
  clear ht
  have hHc := S.out.h
  obtain ⟨d0, d1, d2, d3, d4, d5, d6, d7⟩ := has_cells hHc
  clear hHc
  go_wp2_with fail
  refine (number_any r t0.r t0.bad _ S.out.rd (by have := S.out.len; omega)).mono ?_
  rintro e wa ⟨rfl, h1, o1⟩
  clear d0 d1 d2 d3 d4 d5 d6 d7
  have hm := o1.blk S.out.m (Nat.ne_of_gt P.out.pm)
  have y := Blk.cell hm 1
  have f := Blk.frozen hm 1
  clear hm
  simp [msgA] at y
  replace S := Lib.hid (S.out.page P.out h1 o1)
  go_upto_region 6 with (fail)
  generalize hGen : wa.setCell ⟨mb, 1, none⟩ (.int .i64 (vl t0.r)) = wb at S ⊢
  clear hGen
  clear y f h1 o1
  replace S := Lib.hid (show RS w wb r mb hb (sPage hImage t0) hd0 #[.bool true, .bool false, .bool false, .bool false, .bool false, .bool false, .bool true, .bool false] from S.out)
  generalize ht : sPage hImage t0 = t1 at S
  have HT1 := Lib.hid ht
  clear ht
  have hHc := S.out.h
  obtain ⟨d0, d1, d2, d3, d4, d5, d6, d7⟩ := has_cells hHc
  clear hHc
  have HCH := Lib.hid (show sN hImage (sTxn hImage (sNeed hImage (sX hImage (sPage hImage (sKind s))))) = t1 from by rw [HT0.out, HT1.out, show sX hImage t1 = t1 from rfl, show sNeed hImage t1 = t1 from rfl, show sTxn hImage t1 = t1 from rfl, show sN hImage t1 = t1 from rfl])
  generalize ht : t1 = t at S HCH
  have HTT := Lib.hid ht
  clear ht
  have hK := Lib.hid (show t.m.kind = vl s from by rw [← HCH.out]; simp only [sPage_kind, sX_kind, sNeed_kind, sTxn_kind, sN_kind]; rfl)
  have hMc := S.out.m
  have c0 := Blk.cell hMc 0
  have c3 := Blk.cell hMc 3
  clear hMc
  simp [msgA] at c0 c3
  rw [hK.out] at c0
  obtain ⟨ok1, hP1⟩ := HP1.out wb
  rw [HCH.out] at hP1
  generalize t.m.need = nd at c3 hP1
  go_wp2_with fail
  refine hP1.mono ?_
  rintro e wa ⟨rfl, b1⟩
  clear hP1 c0 c3
  clear d0 d1 d2 d3 d4 d5 d6 d7
  replace S := Lib.hid (S.out.next b1)
  clear b1
  have hHc := S.out.h
  obtain ⟨d0, d1, d2, d3, d4, d5, d6, d7⟩ := has_cells hHc
  have f0 := Blk.frozen hHc 0
  have f1 := Blk.frozen hHc 1
  have f2 := Blk.frozen hHc 2
  have f3 := Blk.frozen hHc 3
  have f4 := Blk.frozen hHc 4
  have f5 := Blk.frozen hHc 5
  have f6 := Blk.frozen hHc 6
  have f7 := Blk.frozen hHc 7
  clear hHc
  replace S := Lib.hid (S.out.seth P.out (.bool true) (.bool false) (.bool false) (.bool false) (.bool false) (.bool false) (.bool true) (.bool false))
  go_upto_region 15 with (fail)
  generalize hGen : (((((((wa.setCell ⟨hb, 0, none⟩ (.bool true)).setCell ⟨hb, 1, none⟩ (.bool false)).setCell ⟨hb, 2, none⟩ (.bool false)).setCell ⟨hb, 3, none⟩ (.bool false)).setCell ⟨hb, 4, none⟩ (.bool false)).setCell ⟨hb, 5, none⟩ (.bool false)).setCell ⟨hb, 6, none⟩ (.bool true)).setCell ⟨hb, 7, none⟩ (.bool false) = wb at S ⊢
  clear hGen
  clear d0 d1 d2 d3 d4 d5 d6 d7
  clear f0 f1 f2 f3 f4 f5 f6 f7
  have hHc := S.out.h
  obtain ⟨d0, d1, d2, d3, d4, d5, d6, d7⟩ := has_cells hHc
  clear hHc
  go_wp2_with fail
  refine (image_any r t.r t.bad _ S.out.rd (by have := S.out.len; omega)).mono ?_
  rintro e wa ⟨qa, qn, qc, rfl, hS, hnew, h1, o1⟩
  clear d0 d1 d2 d3 d4 d5 d6 d7
  have hm := o1.blk S.out.m (Nat.ne_of_gt P.out.pm)
  have y8 := Blk.cell hm 8
  have f8 := Blk.frozen hm 8
  have y9 := Blk.cell hm 9
  have f9 := Blk.frozen hm 9
  clear hm
  simp [msgA] at y8 y9
  have hgn : ∀ g off e, qa = some ⟨g, off, e⟩ → mb < g := fun g off e h => Nat.lt_trans S.out.m.lt (hnew g off e h)
  replace S := Lib.hid ((S.out.only P.out h1 o1 (Nat.le_trans (by rw [List.length_drop]; omega) S.out.len)).page1 P.out (imR t.r).1 (imR t.r).2.1 qa qn qc)
  have HSL := Lib.hid (slots_set (slots_set hS (fun g off e h => Nat.ne_of_gt (hgn g off e h)) 8 (.int .i64 (imR t.r).1)) (fun g off e h => Nat.ne_of_gt (hgn g off e h)) 9 (.slice qa qn qc))
  have HGN := Lib.hid hgn
  clear hgn hS hnew h1 o1
  go_upto_region 17 with (fail)
  generalize hGen : (wa.setCell ⟨mb, 8, none⟩ (.int .i64 (imR t.r).1)).setCell ⟨mb, 9, none⟩ (.slice qa qn qc) = wb at S HSL ⊢
  clear hGen
  clear y8 y9 f8 f9
  have hes : t.m.es = [] := by rw [← HCH.out]; simp only [sPage_es, sX_es, sNeed_es, sTxn_es, sN_es]; rfl
  replace HIN := Lib.hid (show InN w.heap.size wb { t.m with lsn := (imR t.r).1, zs := (imR t.r).2.1 } ⟨qa, qn, qc, none, 0, 0⟩ from ⟨⟨HSL.out, by rw [hes]; exact ⟨rfl, by simp, fun h => absurd h (Nat.lt_irrefl 0)⟩⟩, fun g off e h => Nat.lt_trans (Nat.lt_trans P.out.pr P.out.pm) (HGN.out g off e h), fun _ _ _ h => (by cases h)⟩)
  clear HSL HGN hes
  replace S := Lib.hid (show RS w wb r mb hb (sImage hImage t) ⟨qa, qn, qc, none, 0, 0⟩ #[.bool true, .bool false, .bool false, .bool false, .bool false, .bool false, .bool true, .bool false] from S.out)
  replace HIN := Lib.hid (show InN w.heap.size wb (sImage hImage t).m ⟨qa, qn, qc, none, 0, 0⟩ from HIN.out)
  have hHc := S.out.h
  obtain ⟨d0, d1, d2, d3, d4, d5, d6, d7⟩ := has_cells hHc
  clear hHc
  replace S := Lib.hid (show RS w wb r mb hb (sEnts hImage (sImage hImage t)) ⟨qa, qn, qc, none, 0, 0⟩ #[.bool true, .bool false, .bool false, .bool false, .bool false, .bool false, .bool true, .bool false] from S.out)
  replace HIN := Lib.hid (show InN w.heap.size wb (sEnts hImage (sImage hImage t)).m ⟨qa, qn, qc, none, 0, 0⟩ from HIN.out)
  go_upto_region 19 with (fail)
  clear d0 d1 d2 d3 d4 d5 d6 d7
  rw [← HCH.out] at S HIN
  clear HCH
  generalize hfin : sEnts hImage (sImage hImage (sN hImage (sTxn hImage (sNeed hImage (sX hImage (sPage hImage (sKind s))))))) = t' at S HIN
  obtain ⟨m, s', bad⟩ := t'
  have HF := Lib.hid hfin
  clear hfin
  obtain ⟨⟨r0, r1, _, _⟩, hMc, _, hZc, hbl, _⟩ := (show (wb.cell? ⟨r, 0, none⟩ = some (.string (arr s')) ∧ wb.cell? ⟨r, 1, none⟩ = some (.bool bad) ∧ wb.frozen? ⟨r, 0, none⟩ = false ∧ wb.frozen? ⟨r, 1, none⟩ = false) ∧ Blk wb mb 30 (msgA m ⟨qa, qn, qc, none, 0, 0⟩) ∧ True ∧ Blk wb w.heap.size 30 #[.int .i64 0, .int .i64 0, .bool false, .bool false, .int .i64 0, .int .i64 0, .int .i64 0, .int .i64 0, .int .i64 0, .slice none 0 0, .slice none 0 0] ∧ Below w.heap.size w wb ∧ True from ⟨S.out.rd.get, S.out.m, trivial, S.out.z, S.out.bel, trivial⟩)
  have c0 := Blk.cell hMc 0
  have c1 := Blk.cell hMc 1
  have c2 := Blk.cell hMc 2
  have c3 := Blk.cell hMc 3
  have c4 := Blk.cell hMc 4
  have c5 := Blk.cell hMc 5
  have c6 := Blk.cell hMc 6
  have c7 := Blk.cell hMc 7
  have c8 := Blk.cell hMc 8
  have c9 := Blk.cell hMc 9
  have c10 := Blk.cell hMc 10
  simp [msgA] at c0 c1 c2 c3 c4 c5 c6 c7 c8 c9 c10
  have z0 := Blk.cell hZc 0
  have z1 := Blk.cell hZc 1
  have z2 := Blk.cell hZc 2
  have z3 := Blk.cell hZc 3
  have z4 := Blk.cell hZc 4
  have z5 := Blk.cell hZc 5
  have z6 := Blk.cell hZc 6
  have z7 := Blk.cell hZc 7
  have z8 := Blk.cell hZc 8
  have z9 := Blk.cell hZc 9
  have z10 := Blk.cell hZc 10
  have q0 := Blk.frozen hZc 0
  have q1 := Blk.frozen hZc 1
  have q2 := Blk.frozen hZc 2
  have q3 := Blk.frozen hZc 3
  have q4 := Blk.frozen hZc 4
  have q5 := Blk.frozen hZc 5
  have q6 := Blk.frozen hZc 6
  have q7 := Blk.frozen hZc 7
  have q8 := Blk.frozen hZc 8
  have q9 := Blk.frozen hZc 9
  have q10 := Blk.frozen hZc 10
  simp at z0 z1 z2 z3 z4 z5 z6 z7 z8 z9 z10
  have hne1 : mb ≠ w.heap.size := Nat.ne_of_gt (Nat.lt_trans P.out.pr P.out.pm)
  have hne2 : r ≠ w.heap.size := Nat.ne_of_gt P.out.pr
  have HBL := Lib.hid hbl
  clear hMc hZc hbl S P HP1
  cases bad with
  | true =>
    go_wp2_with fail
    go_region
    all_goals
      go_wp2
      refine bodyPost_ret (v := .tuple #[.agg #[.int .i64 m.kind, .int .i64 m.page, .bool m.x, .bool m.need, .int .i64 m.n, .int .i64 m.cl, .int .i64 m.ep, .int .i64 m.tn, .int .i64 m.lsn, .slice qa qn qc, .slice none 0 0], .bool false]) (by simp [results, Try.results11, go_sem, z0, z1, z2, z3, z4, z5, z6, z7, z8, z9, z10]) rfl ?_
      rw [HF.out]
      first
      | exact ⟨⟨qa, qn, qc, none, 0, 0⟩, rfl, (HIN.out.set11 _ _ _ _ _ _ _ _ _ _ _).drew, (below11 HBL.out (Nat.le_refl _) _ _ _ _ _ _ _ _ _ _ _).drew⟩
      | exact ⟨⟨qa, qn, qc, none, 0, 0⟩, rfl, HIN.out.drew.set11 _ _ _ _ _ _ _ _ _ _ _, below11 HBL.out.drew (Nat.le_refl _) _ _ _ _ _ _ _ _ _ _ _⟩
  | false =>
    by_cases hnil : s' = []
    · subst hnil
      rw [Ent.arr_nil] at r0
      go_wp2_with fail
      go_region
      all_goals
        go_wp2
        refine bodyPost_ret (v := .tuple #[.agg #[.int .i64 m.kind, .int .i64 m.page, .bool m.x, .bool m.need, .int .i64 m.n, .int .i64 m.cl, .int .i64 m.ep, .int .i64 m.tn, .int .i64 m.lsn, .slice qa qn qc, .slice none 0 0], .bool true]) (by simp [results, Try.results11, go_sem, z0, z1, z2, z3, z4, z5, z6, z7, z8, z9, z10]) rfl ?_
        rw [HF.out]
        first
        | exact ⟨⟨qa, qn, qc, none, 0, 0⟩, rfl, (HIN.out.set11 _ _ _ _ _ _ _ _ _ _ _).drew, (below11 HBL.out (Nat.le_refl _) _ _ _ _ _ _ _ _ _ _ _).drew⟩
        | exact ⟨⟨qa, qn, qc, none, 0, 0⟩, rfl, HIN.out.drew.set11 _ _ _ _ _ _ _ _ _ _ _, below11 HBL.out.drew (Nat.le_refl _) _ _ _ _ _ _ _ _ _ _ _⟩
    · have n2 := arr_ne hnil
      have n3 := arr_ne2 hnil
      have HNN := Lib.hid (show (s' == []) = false from beq_eq_false_iff_ne.2 hnil)
      clear hnil
      go_wp2_with fail
      go_region
      all_goals
        go_wp2
        refine bodyPost_ret (v := .tuple #[.agg #[.int .i64 m.kind, .int .i64 m.page, .bool m.x, .bool m.need, .int .i64 m.n, .int .i64 m.cl, .int .i64 m.ep, .int .i64 m.tn, .int .i64 m.lsn, .slice qa qn qc, .slice none 0 0], .bool false]) (by simp [results, Try.results11, go_sem, z0, z1, z2, z3, z4, z5, z6, z7, z8, z9, z10]) rfl ?_
        rw [HF.out]
        first
        | exact ⟨⟨qa, qn, qc, none, 0, 0⟩, by simp only [HNN.out]; rfl, (HIN.out.set11 _ _ _ _ _ _ _ _ _ _ _).drew, (below11 HBL.out (Nat.le_refl _) _ _ _ _ _ _ _ _ _ _ _).drew⟩
        | exact ⟨⟨qa, qn, qc, none, 0, 0⟩, by simp only [HNN.out]; rfl, HIN.out.drew.set11 _ _ _ _ _ _ _ _ _ _ _, below11 HBL.out.drew (Nat.le_refl _) _ _ _ _ _ _ _ _ _ _ _⟩
set_option maxRecDepth 100000 in
set_option maxHeartbeats 4000000 in
theorem read_Txn (s : List UInt8) (w : World) (hs : s.length ≤ 140737488351232)
    (hp0 : ∀ w, ∃ ok, Calls Try.prog 22 #[.int .i64 (vl s), .bool false] w fun e w' => e = .returned (.tuple #[.agg #[.bool false, .bool false, .bool false, .bool true, .bool false, .bool false, .bool false, .bool false], .bool ok]) ∧ Below w.heap.size w w')
    (hp1 : ∀ w, ∃ ok, Calls Try.prog 22 #[.int .i64 (vl s), .bool (sN hTxn (sTxn hTxn (sNeed hTxn (sX hTxn (sPage hTxn (sKind s)))))).m.need] w fun e w' => e = .returned (.tuple #[.agg #[.bool false, .bool false, .bool false, .bool true, .bool false, .bool false, .bool false, .bool false], .bool ok]) ∧ Below w.heap.size w w') :
    Calls Try.prog 11 #[.string (arr s)] w (ReadRes (sEnts hTxn (sImage hTxn (sN hTxn (sTxn hTxn (sNeed hTxn (sX hTxn (sPage hTxn (sKind s)))))))) w) := by
  have hb := (below_box w (.cells #[.int .i64 0, .int .i64 0, .bool false, .bool false, .int .i64 0, .int .i64 0, .int .i64 0, .int .i64 0, .int .i64 0, .slice none 0 0, .slice none 0 0] 30)).trans ((below_box (w.alloc (.cells #[.int .i64 0, .int .i64 0, .bool false, .bool false, .int .i64 0, .int .i64 0, .int .i64 0, .int .i64 0, .int .i64 0, .slice none 0 0, .slice none 0 0] 30)) (.cells #[.string (arr s), .bool false] 68)).mono (by simp))
  have hZ := (Blk.new w 30 #[.int .i64 0, .int .i64 0, .bool false, .bool false, .int .i64 0, .int .i64 0, .int .i64 0, .int .i64 0, .int .i64 0, .slice none 0 0, .slice none 0 0]).alloc (.cells #[.string (arr s), .bool false] 68)
  have hR := Blk.new (w.alloc (.cells #[.int .i64 0, .int .i64 0, .bool false, .bool false, .int .i64 0, .int .i64 0, .int .i64 0, .int .i64 0, .int .i64 0, .slice none 0 0, .slice none 0 0] 30)) 68 #[.string (arr s), .bool false]
  have hsz : w.heap.size + 2 ≤ ((w.alloc (.cells #[.int .i64 0, .int .i64 0, .bool false, .bool false, .int .i64 0, .int .i64 0, .int .i64 0, .int .i64 0, .int .i64 0, .slice none 0 0, .slice none 0 0] 30)).alloc (.cells #[.string (arr s), .bool false] 68)).heap.size := by simp
  rw [World.size_alloc] at hR
  have HP0 := Lib.hid hp0
  have HP1 := Lib.hid hp1
  clear hp0 hp1
  go_enter Try.func11, Try.ntmps11
  try dsimp only [List.append]
  go_upto_region 2 with (fail)
  generalize hGen : (w.alloc (.cells #[.int .i64 0, .int .i64 0, .bool false, .bool false, .int .i64 0, .int .i64 0, .int .i64 0, .int .i64 0, .int .i64 0, .slice none 0 0, .slice none 0 0] 30)).alloc (.cells #[.string (arr s), .bool false] 68) = W at hb hZ hR hsz ⊢
  clear hGen
  have HRD := Lib.hid (show Rd W (w.heap.size + 1) s false from hR)
  have HZ := Lib.hid hZ
  have HBL := Lib.hid hb
  clear hR hZ hb
  go_wp2_with fail
  refine (number_any (w.heap.size + 1) s false _ HRD.out (by omega)).mono ?_
  rintro e w1 ⟨rfl, h1, o1⟩
  have R1 := Lib.hid h1
  have Z1 := Lib.hid (o1.blk HZ.out (by omega))
  have B1 := Lib.hid (HBL.out.trans (o1.below (B := w.heap.size) (by omega) (by omega)))
  have hsz1 := Nat.le_trans hsz o1.size
  clear h1 o1 HRD HZ HBL
  go_upto_region 3 with (fail)
  have R2 := Lib.hid (R1.out.alloc (.cells #[.int .i64 (vl s), .int .i64 0, .bool false, .bool false, .int .i64 0, .int .i64 0, .int .i64 0, .int .i64 0, .int .i64 0, .slice none 0 0, .slice none 0 0] 30))
  have Z2 := Lib.hid (Z1.out.alloc (.cells #[.int .i64 (vl s), .int .i64 0, .bool false, .bool false, .int .i64 0, .int .i64 0, .int .i64 0, .int .i64 0, .int .i64 0, .slice none 0 0, .slice none 0 0] 30))
  have B2 := Lib.hid (below_next B1.out (below_box w1 (.cells #[.int .i64 (vl s), .int .i64 0, .bool false, .bool false, .int .i64 0, .int .i64 0, .int .i64 0, .int .i64 0, .int .i64 0, .slice none 0 0, .slice none 0 0] 30)))
  have hM := Blk.new w1 30 #[.int .i64 (vl s), .int .i64 0, .bool false, .bool false, .int .i64 0, .int .i64 0, .int .i64 0, .int .i64 0, .int .i64 0, .slice none 0 0, .slice none 0 0]
  have hg2 := alloc_lt w1 (.cells #[.int .i64 (vl s), .int .i64 0, .bool false, .bool false, .int .i64 0, .int .i64 0, .int .i64 0, .int .i64 0, .int .i64 0, .slice none 0 0, .slice none 0 0] 30)
  generalize hGen : w1.alloc (.cells #[.int .i64 (vl s), .int .i64 0, .bool false, .bool false, .int .i64 0, .int .i64 0, .int .i64 0, .int .i64 0, .int .i64 0, .slice none 0 0, .slice none 0 0] 30) = w2 at R2 Z2 B2 hM hg2 ⊢
  clear hGen
  clear R1 Z1 B1
  generalize hGen : w1.heap.size = mb at hM hg2 hsz1 ⊢
  clear hGen
  have c0 := Blk.cell hM 0
  have M2 := Lib.hid (show Blk w2 mb 30 (msgA (sKind s).m hd0) from hM)
  clear hM
  simp only [List.getElem?_toArray, List.getElem?_cons_zero] at c0
  obtain ⟨ok0, hP0⟩ := HP0.out w2
  go_wp2_with fail
  refine hP0.mono ?_
  rintro e w3 ⟨rfl, b3⟩
  clear hP0 c0
  have R3 := Lib.hid (R2.out.below b3)
  have Z3 := Lib.hid (Z2.out.below b3 (by omega))
  have M3 := Lib.hid (M2.out.below b3 hg2)
  have B3 := Lib.hid (below_next B2.out b3)
  have hsz3 := Nat.lt_of_lt_of_le hg2 b3.size
  clear R2 Z2 M2 B2 b3 HP0
  go_upto_region 4 with (fail)
  have R4 := Lib.hid (R3.out.alloc (.cells #[.bool false, .bool false, .bool false, .bool true, .bool false, .bool false, .bool false, .bool false] 61))
  have Z4 := Lib.hid (Z3.out.alloc (.cells #[.bool false, .bool false, .bool false, .bool true, .bool false, .bool false, .bool false, .bool false] 61))
  have M4 := Lib.hid (M3.out.alloc (.cells #[.bool false, .bool false, .bool false, .bool true, .bool false, .bool false, .bool false, .bool false] 61))
  have B4 := Lib.hid (below_next B3.out (below_box w3 (.cells #[.bool false, .bool false, .bool false, .bool true, .bool false, .bool false, .bool false, .bool false] 61)))
  have hH := Blk.new w3 61 #[.bool false, .bool false, .bool false, .bool true, .bool false, .bool false, .bool false, .bool false]
  generalize hGen : w3.alloc (.cells #[.bool false, .bool false, .bool false, .bool true, .bool false, .bool false, .bool false, .bool false] 61) = wb at R4 Z4 M4 B4 hH ⊢
  clear hGen
  generalize hGen : w3.heap.size = hb at hH hsz3 ⊢
  clear hGen
  have P := Lib.hid (show PL w (w.heap.size + 1) mb hb from ⟨by omega, by omega, by omega⟩)
  replace S := Lib.hid (show RS w wb (w.heap.size + 1) mb hb (sKind s) hd0 #[.bool false, .bool false, .bool false, .bool true, .bool false, .bool false, .bool false, .bool false] from ⟨R4.out, M4.out, hH, Z4.out, B4.out, Nat.le_trans (Nib.takeInt_len _) hs⟩)
  clear R3 Z3 M3 B3 R4 Z4 M4 B4 hH hg2 hsz hsz1 hsz3
  generalize hr : w.heap.size + 1 = r at S P ⊢
  clear hr
  generalize ht : sKind s = t0 at S
  have HT0 := Lib.hid ht
  clear ht
  have hHc := S.out.h
  obtain ⟨d0, d1, d2, d3, d4, d5, d6, d7⟩ := has_cells hHc
  clear hHc
  go_wp2_with fail
  refine (number_any r t0.r t0.bad _ S.out.rd (by have := S.out.len; omega)).mono ?_
  rintro e wa0 ⟨rfl, h1, o1⟩
  clear d0 d1 d2 d3 d4 d5 d6 d7
  replace S := Lib.hid (S.out.num P.out h1 o1)
  clear h1 o1
  go_wp2_with fail
  refine (number_any r (nx t0.r) _ _ S.out.rd (by have := S.out.len; exact Nat.le_trans this (by omega))).mono ?_
  rintro e wa1 ⟨rfl, h1, o1⟩
  replace S := Lib.hid (S.out.num P.out h1 o1)
  clear h1 o1
  go_wp2_with fail
  refine (number_any r (nx (nx t0.r)) _ _ S.out.rd (by have := S.out.len; exact Nat.le_trans this (by omega))).mono ?_
  rintro e wa2 ⟨rfl, h1, o1⟩
  replace S := Lib.hid (S.out.num P.out h1 o1)
  clear h1 o1
  have hm := S.out.m
  have y5 := Blk.cell hm 5
  have f5 := Blk.frozen hm 5
  have y6 := Blk.cell hm 6
  have f6 := Blk.frozen hm 6
  have y7 := Blk.cell hm 7
  have f7 := Blk.frozen hm 7
  clear hm
  simp [msgA] at y5 y6 y7
  replace S := Lib.hid (S.out.txn P.out (vl t0.r) (vl (nx t0.r)) (vl (nx (nx t0.r))))
  go_upto_region 12 with (fail)
  generalize hGen : ((wa2.setCell ⟨mb, 5, none⟩ (.int .i64 (vl t0.r))).setCell ⟨mb, 6, none⟩ (.int .i64 (vl (nx t0.r)))).setCell ⟨mb, 7, none⟩ (.int .i64 (vl (nx (nx t0.r)))) = wb at S ⊢
  clear hGen
  clear y5 y6 y7 f5 f6 f7
  replace S := Lib.hid (show RS w wb r mb hb (sTxn hTxn t0) hd0 #[.bool false, .bool false, .bool false, .bool true, .bool false, .bool false, .bool false, .bool false] from S.out)
  generalize ht : sTxn hTxn t0 = t1 at S
  have HT1 := Lib.hid ht
  clear ht
  have hHc := S.out.h
  obtain ⟨d0, d1, d2, d3, d4, d5, d6, d7⟩ := has_cells hHc
  clear hHc
  have HCH := Lib.hid (show sN hTxn (sTxn hTxn (sNeed hTxn (sX hTxn (sPage hTxn (sKind s))))) = t1 from by rw [HT0.out, show sPage hTxn t0 = t0 from rfl, show sX hTxn t0 = t0 from rfl, show sNeed hTxn t0 = t0 from rfl, HT1.out, show sN hTxn t1 = t1 from rfl])
  generalize ht : t1 = t at S HCH
  have HTT := Lib.hid ht
  clear ht
  have hK := Lib.hid (show t.m.kind = vl s from by rw [← HCH.out]; simp only [sPage_kind, sX_kind, sNeed_kind, sTxn_kind, sN_kind]; rfl)
  have hMc := S.out.m
  have c0 := Blk.cell hMc 0
  have c3 := Blk.cell hMc 3
  clear hMc
  simp [msgA] at c0 c3
  rw [hK.out] at c0
  obtain ⟨ok1, hP1⟩ := HP1.out wb
  rw [HCH.out] at hP1
  generalize t.m.need = nd at c3 hP1
  go_wp2_with fail
  refine hP1.mono ?_
  rintro e wa ⟨rfl, b1⟩
  clear hP1 c0 c3
  clear d0 d1 d2 d3 d4 d5 d6 d7
  replace S := Lib.hid (S.out.next b1)
  clear b1
  have hHc := S.out.h
  obtain ⟨d0, d1, d2, d3, d4, d5, d6, d7⟩ := has_cells hHc
  have f0 := Blk.frozen hHc 0
  have f1 := Blk.frozen hHc 1
  have f2 := Blk.frozen hHc 2
  have f3 := Blk.frozen hHc 3
  have f4 := Blk.frozen hHc 4
  have f5 := Blk.frozen hHc 5
  have f6 := Blk.frozen hHc 6
  have f7 := Blk.frozen hHc 7
  clear hHc
  replace S := Lib.hid (S.out.seth P.out (.bool false) (.bool false) (.bool false) (.bool true) (.bool false) (.bool false) (.bool false) (.bool false))
  go_upto_region 15 with (fail)
  generalize hGen : (((((((wa.setCell ⟨hb, 0, none⟩ (.bool false)).setCell ⟨hb, 1, none⟩ (.bool false)).setCell ⟨hb, 2, none⟩ (.bool false)).setCell ⟨hb, 3, none⟩ (.bool true)).setCell ⟨hb, 4, none⟩ (.bool false)).setCell ⟨hb, 5, none⟩ (.bool false)).setCell ⟨hb, 6, none⟩ (.bool false)).setCell ⟨hb, 7, none⟩ (.bool false) = wb at S ⊢
  clear hGen
  clear d0 d1 d2 d3 d4 d5 d6 d7
  clear f0 f1 f2 f3 f4 f5 f6 f7
  have hHc := S.out.h
  obtain ⟨d0, d1, d2, d3, d4, d5, d6, d7⟩ := has_cells hHc
  clear hHc
  have hes : t.m.zs = [] ∧ t.m.es = [] := by rw [← HCH.out]; simp only [sPage_es, sX_es, sNeed_es, sTxn_es, sN_es, sPage_zs, sX_zs, sNeed_zs, sTxn_zs, sN_zs]; exact ⟨rfl, rfl⟩
  replace HIN := Lib.hid (InN.nil w.heap.size wb t.m hes.1 hes.2)
  clear hes
  replace S := Lib.hid (show RS w wb r mb hb (sEnts hTxn (sImage hTxn t)) hd0 #[.bool false, .bool false, .bool false, .bool true, .bool false, .bool false, .bool false, .bool false] from S.out)
  replace HIN := Lib.hid (show InN w.heap.size wb (sEnts hTxn (sImage hTxn t)).m hd0 from HIN.out)
  go_upto_region 19 with (fail)
  clear d0 d1 d2 d3 d4 d5 d6 d7
  rw [← HCH.out] at S HIN
  clear HCH
  generalize hfin : sEnts hTxn (sImage hTxn (sN hTxn (sTxn hTxn (sNeed hTxn (sX hTxn (sPage hTxn (sKind s))))))) = t' at S HIN
  obtain ⟨m, s', bad⟩ := t'
  have HF := Lib.hid hfin
  clear hfin
  obtain ⟨⟨r0, r1, _, _⟩, hMc, _, hZc, hbl, _⟩ := (show (wb.cell? ⟨r, 0, none⟩ = some (.string (arr s')) ∧ wb.cell? ⟨r, 1, none⟩ = some (.bool bad) ∧ wb.frozen? ⟨r, 0, none⟩ = false ∧ wb.frozen? ⟨r, 1, none⟩ = false) ∧ Blk wb mb 30 (msgA m hd0) ∧ True ∧ Blk wb w.heap.size 30 #[.int .i64 0, .int .i64 0, .bool false, .bool false, .int .i64 0, .int .i64 0, .int .i64 0, .int .i64 0, .int .i64 0, .slice none 0 0, .slice none 0 0] ∧ Below w.heap.size w wb ∧ True from ⟨S.out.rd.get, S.out.m, trivial, S.out.z, S.out.bel, trivial⟩)
  have c0 := Blk.cell hMc 0
  have c1 := Blk.cell hMc 1
  have c2 := Blk.cell hMc 2
  have c3 := Blk.cell hMc 3
  have c4 := Blk.cell hMc 4
  have c5 := Blk.cell hMc 5
  have c6 := Blk.cell hMc 6
  have c7 := Blk.cell hMc 7
  have c8 := Blk.cell hMc 8
  have c9 := Blk.cell hMc 9
  have c10 := Blk.cell hMc 10
  simp [msgA, hd0] at c0 c1 c2 c3 c4 c5 c6 c7 c8 c9 c10
  have z0 := Blk.cell hZc 0
  have z1 := Blk.cell hZc 1
  have z2 := Blk.cell hZc 2
  have z3 := Blk.cell hZc 3
  have z4 := Blk.cell hZc 4
  have z5 := Blk.cell hZc 5
  have z6 := Blk.cell hZc 6
  have z7 := Blk.cell hZc 7
  have z8 := Blk.cell hZc 8
  have z9 := Blk.cell hZc 9
  have z10 := Blk.cell hZc 10
  have q0 := Blk.frozen hZc 0
  have q1 := Blk.frozen hZc 1
  have q2 := Blk.frozen hZc 2
  have q3 := Blk.frozen hZc 3
  have q4 := Blk.frozen hZc 4
  have q5 := Blk.frozen hZc 5
  have q6 := Blk.frozen hZc 6
  have q7 := Blk.frozen hZc 7
  have q8 := Blk.frozen hZc 8
  have q9 := Blk.frozen hZc 9
  have q10 := Blk.frozen hZc 10
  simp at z0 z1 z2 z3 z4 z5 z6 z7 z8 z9 z10
  have hne1 : mb ≠ w.heap.size := Nat.ne_of_gt (Nat.lt_trans P.out.pr P.out.pm)
  have hne2 : r ≠ w.heap.size := Nat.ne_of_gt P.out.pr
  have HBL := Lib.hid hbl
  clear hMc hZc hbl S P HP1
  cases bad with
  | true =>
    go_wp2_with fail
    go_region
    all_goals
      go_wp2
      refine bodyPost_ret (v := .tuple #[.agg #[.int .i64 m.kind, .int .i64 m.page, .bool m.x, .bool m.need, .int .i64 m.n, .int .i64 m.cl, .int .i64 m.ep, .int .i64 m.tn, .int .i64 m.lsn, .slice none 0 0, .slice none 0 0], .bool false]) (by simp [results, Try.results11, go_sem, z0, z1, z2, z3, z4, z5, z6, z7, z8, z9, z10]) rfl ?_
      rw [HF.out]
      first
      | exact ⟨hd0, rfl, (HIN.out.set11 _ _ _ _ _ _ _ _ _ _ _).drew, (below11 HBL.out (Nat.le_refl _) _ _ _ _ _ _ _ _ _ _ _).drew⟩
      | exact ⟨hd0, rfl, HIN.out.drew.set11 _ _ _ _ _ _ _ _ _ _ _, below11 HBL.out.drew (Nat.le_refl _) _ _ _ _ _ _ _ _ _ _ _⟩
  | false =>
    by_cases hnil : s' = []
    · subst hnil
      rw [Ent.arr_nil] at r0
      go_wp2_with fail
      go_region
      all_goals
        go_wp2
        refine bodyPost_ret (v := .tuple #[.agg #[.int .i64 m.kind, .int .i64 m.page, .bool m.x, .bool m.need, .int .i64 m.n, .int .i64 m.cl, .int .i64 m.ep, .int .i64 m.tn, .int .i64 m.lsn, .slice none 0 0, .slice none 0 0], .bool true]) (by simp [results, Try.results11, go_sem, z0, z1, z2, z3, z4, z5, z6, z7, z8, z9, z10]) rfl ?_
        rw [HF.out]
        first
        | exact ⟨hd0, rfl, (HIN.out.set11 _ _ _ _ _ _ _ _ _ _ _).drew, (below11 HBL.out (Nat.le_refl _) _ _ _ _ _ _ _ _ _ _ _).drew⟩
        | exact ⟨hd0, rfl, HIN.out.drew.set11 _ _ _ _ _ _ _ _ _ _ _, below11 HBL.out.drew (Nat.le_refl _) _ _ _ _ _ _ _ _ _ _ _⟩
    · have n2 := arr_ne hnil
      have n3 := arr_ne2 hnil
      have HNN := Lib.hid (show (s' == []) = false from beq_eq_false_iff_ne.2 hnil)
      clear hnil
      go_wp2_with fail
      go_region
      all_goals
        go_wp2
        refine bodyPost_ret (v := .tuple #[.agg #[.int .i64 m.kind, .int .i64 m.page, .bool m.x, .bool m.need, .int .i64 m.n, .int .i64 m.cl, .int .i64 m.ep, .int .i64 m.tn, .int .i64 m.lsn, .slice none 0 0, .slice none 0 0], .bool false]) (by simp [results, Try.results11, go_sem, z0, z1, z2, z3, z4, z5, z6, z7, z8, z9, z10]) rfl ?_
        rw [HF.out]
        first
        | exact ⟨hd0, by simp only [HNN.out]; rfl, (HIN.out.set11 _ _ _ _ _ _ _ _ _ _ _).drew, (below11 HBL.out (Nat.le_refl _) _ _ _ _ _ _ _ _ _ _ _).drew⟩
        | exact ⟨hd0, by simp only [HNN.out]; rfl, HIN.out.drew.set11 _ _ _ _ _ _ _ _ _ _ _, below11 HBL.out.drew (Nat.le_refl _) _ _ _ _ _ _ _ _ _ _ _⟩
set_option maxRecDepth 100000 in
set_option maxHeartbeats 4000000 in
theorem read_Space (s : List UInt8) (w : World) (hs : s.length ≤ 140737488351232)
    (hp0 : ∀ w, ∃ ok, Calls Try.prog 22 #[.int .i64 (vl s), .bool false] w fun e w' => e = .returned (.tuple #[.agg #[.bool false, .bool false, .bool false, .bool false, .bool true, .bool false, .bool false, .bool false], .bool ok]) ∧ Below w.heap.size w w')
    (hp1 : ∀ w, ∃ ok, Calls Try.prog 22 #[.int .i64 (vl s), .bool (sN hSpace (sTxn hSpace (sNeed hSpace (sX hSpace (sPage hSpace (sKind s)))))).m.need] w fun e w' => e = .returned (.tuple #[.agg #[.bool false, .bool false, .bool false, .bool false, .bool true, .bool false, .bool false, .bool false], .bool ok]) ∧ Below w.heap.size w w') :
    Calls Try.prog 11 #[.string (arr s)] w (ReadRes (sEnts hSpace (sImage hSpace (sN hSpace (sTxn hSpace (sNeed hSpace (sX hSpace (sPage hSpace (sKind s)))))))) w) := by
  have hb := (below_box w (.cells #[.int .i64 0, .int .i64 0, .bool false, .bool false, .int .i64 0, .int .i64 0, .int .i64 0, .int .i64 0, .int .i64 0, .slice none 0 0, .slice none 0 0] 30)).trans ((below_box (w.alloc (.cells #[.int .i64 0, .int .i64 0, .bool false, .bool false, .int .i64 0, .int .i64 0, .int .i64 0, .int .i64 0, .int .i64 0, .slice none 0 0, .slice none 0 0] 30)) (.cells #[.string (arr s), .bool false] 68)).mono (by simp))
  have hZ := (Blk.new w 30 #[.int .i64 0, .int .i64 0, .bool false, .bool false, .int .i64 0, .int .i64 0, .int .i64 0, .int .i64 0, .int .i64 0, .slice none 0 0, .slice none 0 0]).alloc (.cells #[.string (arr s), .bool false] 68)
  have hR := Blk.new (w.alloc (.cells #[.int .i64 0, .int .i64 0, .bool false, .bool false, .int .i64 0, .int .i64 0, .int .i64 0, .int .i64 0, .int .i64 0, .slice none 0 0, .slice none 0 0] 30)) 68 #[.string (arr s), .bool false]
  have hsz : w.heap.size + 2 ≤ ((w.alloc (.cells #[.int .i64 0, .int .i64 0, .bool false, .bool false, .int .i64 0, .int .i64 0, .int .i64 0, .int .i64 0, .int .i64 0, .slice none 0 0, .slice none 0 0] 30)).alloc (.cells #[.string (arr s), .bool false] 68)).heap.size := by simp
  rw [World.size_alloc] at hR
  have HP0 := Lib.hid hp0
  have HP1 := Lib.hid hp1
  clear hp0 hp1
  go_enter Try.func11, Try.ntmps11
  try dsimp only [List.append]
  go_upto_region 2 with (fail)
  generalize hGen : (w.alloc (.cells #[.int .i64 0, .int .i64 0, .bool false, .bool false, .int .i64 0, .int .i64 0, .int .i64 0, .int .i64 0, .int .i64 0, .slice none 0 0, .slice none 0 0] 30)).alloc (.cells #[.string (arr s), .bool false] 68) = W at hb hZ hR hsz ⊢
  clear hGen
  have HRD := Lib.hid (show Rd W (w.heap.size + 1) s false from hR)
  have HZ := Lib.hid hZ
  have HBL := Lib.hid hb
  clear hR hZ hb
  go_wp2_with fail
  refine (number_any (w.heap.size + 1) s false _ HRD.out (by omega)).mono ?_
  rintro e w1 ⟨rfl, h1, o1⟩
  have R1 := Lib.hid h1
  have Z1 := Lib.hid (o1.blk HZ.out (by omega))
  have B1 := Lib.hid (HBL.out.trans (o1.below (B := w.heap.size) (by omega) (by omega)))
  have hsz1 := Nat.le_trans hsz o1.size
  clear h1 o1 HRD HZ HBL
  go_upto_region 3 with (fail)
  have R2 := Lib.hid (R1.out.alloc (.cells #[.int .i64 (vl s), .int .i64 0, .bool false, .bool false, .int .i64 0, .int .i64 0, .int .i64 0, .int .i64 0, .int .i64 0, .slice none 0 0, .slice none 0 0] 30))
  have Z2 := Lib.hid (Z1.out.alloc (.cells #[.int .i64 (vl s), .int .i64 0, .bool false, .bool false, .int .i64 0, .int .i64 0, .int .i64 0, .int .i64 0, .int .i64 0, .slice none 0 0, .slice none 0 0] 30))
  have B2 := Lib.hid (below_next B1.out (below_box w1 (.cells #[.int .i64 (vl s), .int .i64 0, .bool false, .bool false, .int .i64 0, .int .i64 0, .int .i64 0, .int .i64 0, .int .i64 0, .slice none 0 0, .slice none 0 0] 30)))
  have hM := Blk.new w1 30 #[.int .i64 (vl s), .int .i64 0, .bool false, .bool false, .int .i64 0, .int .i64 0, .int .i64 0, .int .i64 0, .int .i64 0, .slice none 0 0, .slice none 0 0]
  have hg2 := alloc_lt w1 (.cells #[.int .i64 (vl s), .int .i64 0, .bool false, .bool false, .int .i64 0, .int .i64 0, .int .i64 0, .int .i64 0, .int .i64 0, .slice none 0 0, .slice none 0 0] 30)
  generalize hGen : w1.alloc (.cells #[.int .i64 (vl s), .int .i64 0, .bool false, .bool false, .int .i64 0, .int .i64 0, .int .i64 0, .int .i64 0, .int .i64 0, .slice none 0 0, .slice none 0 0] 30) = w2 at R2 Z2 B2 hM hg2 ⊢
  clear hGen
  clear R1 Z1 B1
  generalize hGen : w1.heap.size = mb at hM hg2 hsz1 ⊢
  clear hGen
  have c0 := Blk.cell hM 0
  have M2 := Lib.hid (show Blk w2 mb 30 (msgA (sKind s).m hd0) from hM)
  clear hM
  simp only [List.getElem?_toArray, List.getElem?_cons_zero] at c0
  obtain ⟨ok0, hP0⟩ := HP0.out w2
  go_wp2_with fail
  refine hP0.mono ?_
  rintro e w3 ⟨rfl, b3⟩
  clear hP0 c0
  have R3 := Lib.hid (R2.out.below b3)
  have Z3 := Lib.hid (Z2.out.below b3 (by omega))
  have M3 := Lib.hid (M2.out.below b3 hg2)
  have B3 := Lib.hid (below_next B2.out b3)
  have hsz3 := Nat.lt_of_lt_of_le hg2 b3.size
  clear R2 Z2 M2 B2 b3 HP0
  go_upto_region 4 with (fail)
  have R4 := Lib.hid (R3.out.alloc (.cells #[.bool false, .bool false, .bool false, .bool false, .bool true, .bool false, .bool false, .bool false] 61))
  have Z4 := Lib.hid (Z3.out.alloc (.cells #[.bool false, .bool false, .bool false, .bool false, .bool true, .bool false, .bool false, .bool false] 61))
  have M4 := Lib.hid (M3.out.alloc (.cells #[.bool false, .bool false, .bool false, .bool false, .bool true, .bool false, .bool false, .bool false] 61))
  have B4 := Lib.hid (below_next B3.out (below_box w3 (.cells #[.bool false, .bool false, .bool false, .bool false, .bool true, .bool false, .bool false, .bool false] 61)))
  have hH := Blk.new w3 61 #[.bool false, .bool false, .bool false, .bool false, .bool true, .bool false, .bool false, .bool false]
  generalize hGen : w3.alloc (.cells #[.bool false, .bool false, .bool false, .bool false, .bool true, .bool false, .bool false, .bool false] 61) = wb at R4 Z4 M4 B4 hH ⊢
  clear hGen
  generalize hGen : w3.heap.size = hb at hH hsz3 ⊢
  clear hGen
  have P := Lib.hid (show PL w (w.heap.size + 1) mb hb from ⟨by omega, by omega, by omega⟩)
  replace S := Lib.hid (show RS w wb (w.heap.size + 1) mb hb (sKind s) hd0 #[.bool false, .bool false, .bool false, .bool false, .bool true, .bool false, .bool false, .bool false] from ⟨R4.out, M4.out, hH, Z4.out, B4.out, Nat.le_trans (Nib.takeInt_len _) hs⟩)
  clear R3 Z3 M3 B3 R4 Z4 M4 B4 hH hg2 hsz hsz1 hsz3
  generalize hr : w.heap.size + 1 = r at S P ⊢
  clear hr
  generalize ht : sKind s = t0 at S
  have HT0 := Lib.hid ht
  clear ht
  have hHc := S.out.h
  obtain ⟨d0, d1, d2, d3, d4, d5, d6, d7⟩ := has_cells hHc
  clear hHc
  go_wp2_with fail
  refine (number_any r t0.r t0.bad _ S.out.rd (by have := S.out.len; omega)).mono ?_
  rintro e wa ⟨rfl, h1, o1⟩
  clear d0 d1 d2 d3 d4 d5 d6 d7
  have hm := o1.blk S.out.m (Nat.ne_of_gt P.out.pm)
  have y := Blk.cell hm 4
  have f := Blk.frozen hm 4
  clear hm
  simp [msgA] at y
  replace S := Lib.hid (S.out.n P.out h1 o1)
  go_upto_region 14 with (fail)
  generalize hGen : wa.setCell ⟨mb, 4, none⟩ (.int .i64 (vl t0.r)) = wb at S ⊢
  clear hGen
  clear y f h1 o1
  replace S := Lib.hid (show RS w wb r mb hb (sN hSpace t0) hd0 #[.bool false, .bool false, .bool false, .bool false, .bool true, .bool false, .bool false, .bool false] from S.out)
  generalize ht : sN hSpace t0 = t1 at S
  have HT1 := Lib.hid ht
  clear ht
  have hHc := S.out.h
  obtain ⟨d0, d1, d2, d3, d4, d5, d6, d7⟩ := has_cells hHc
  clear hHc
  have HCH := Lib.hid (show sN hSpace (sTxn hSpace (sNeed hSpace (sX hSpace (sPage hSpace (sKind s))))) = t1 from by rw [HT0.out, show sPage hSpace t0 = t0 from rfl, show sX hSpace t0 = t0 from rfl, show sNeed hSpace t0 = t0 from rfl, show sTxn hSpace t0 = t0 from rfl, HT1.out])
  generalize ht : t1 = t at S HCH
  have HTT := Lib.hid ht
  clear ht
  have hK := Lib.hid (show t.m.kind = vl s from by rw [← HCH.out]; simp only [sPage_kind, sX_kind, sNeed_kind, sTxn_kind, sN_kind]; rfl)
  have hMc := S.out.m
  have c0 := Blk.cell hMc 0
  have c3 := Blk.cell hMc 3
  clear hMc
  simp [msgA] at c0 c3
  rw [hK.out] at c0
  obtain ⟨ok1, hP1⟩ := HP1.out wb
  rw [HCH.out] at hP1
  generalize t.m.need = nd at c3 hP1
  go_wp2_with fail
  refine hP1.mono ?_
  rintro e wa ⟨rfl, b1⟩
  clear hP1 c0 c3
  clear d0 d1 d2 d3 d4 d5 d6 d7
  replace S := Lib.hid (S.out.next b1)
  clear b1
  have hHc := S.out.h
  obtain ⟨d0, d1, d2, d3, d4, d5, d6, d7⟩ := has_cells hHc
  have f0 := Blk.frozen hHc 0
  have f1 := Blk.frozen hHc 1
  have f2 := Blk.frozen hHc 2
  have f3 := Blk.frozen hHc 3
  have f4 := Blk.frozen hHc 4
  have f5 := Blk.frozen hHc 5
  have f6 := Blk.frozen hHc 6
  have f7 := Blk.frozen hHc 7
  clear hHc
  replace S := Lib.hid (S.out.seth P.out (.bool false) (.bool false) (.bool false) (.bool false) (.bool true) (.bool false) (.bool false) (.bool false))
  go_upto_region 15 with (fail)
  generalize hGen : (((((((wa.setCell ⟨hb, 0, none⟩ (.bool false)).setCell ⟨hb, 1, none⟩ (.bool false)).setCell ⟨hb, 2, none⟩ (.bool false)).setCell ⟨hb, 3, none⟩ (.bool false)).setCell ⟨hb, 4, none⟩ (.bool true)).setCell ⟨hb, 5, none⟩ (.bool false)).setCell ⟨hb, 6, none⟩ (.bool false)).setCell ⟨hb, 7, none⟩ (.bool false) = wb at S ⊢
  clear hGen
  clear d0 d1 d2 d3 d4 d5 d6 d7
  clear f0 f1 f2 f3 f4 f5 f6 f7
  have hHc := S.out.h
  obtain ⟨d0, d1, d2, d3, d4, d5, d6, d7⟩ := has_cells hHc
  clear hHc
  have hes : t.m.zs = [] ∧ t.m.es = [] := by rw [← HCH.out]; simp only [sPage_es, sX_es, sNeed_es, sTxn_es, sN_es, sPage_zs, sX_zs, sNeed_zs, sTxn_zs, sN_zs]; exact ⟨rfl, rfl⟩
  replace HIN := Lib.hid (InN.nil w.heap.size wb t.m hes.1 hes.2)
  clear hes
  replace S := Lib.hid (show RS w wb r mb hb (sEnts hSpace (sImage hSpace t)) hd0 #[.bool false, .bool false, .bool false, .bool false, .bool true, .bool false, .bool false, .bool false] from S.out)
  replace HIN := Lib.hid (show InN w.heap.size wb (sEnts hSpace (sImage hSpace t)).m hd0 from HIN.out)
  go_upto_region 19 with (fail)
  clear d0 d1 d2 d3 d4 d5 d6 d7
  rw [← HCH.out] at S HIN
  clear HCH
  generalize hfin : sEnts hSpace (sImage hSpace (sN hSpace (sTxn hSpace (sNeed hSpace (sX hSpace (sPage hSpace (sKind s))))))) = t' at S HIN
  obtain ⟨m, s', bad⟩ := t'
  have HF := Lib.hid hfin
  clear hfin
  obtain ⟨⟨r0, r1, _, _⟩, hMc, _, hZc, hbl, _⟩ := (show (wb.cell? ⟨r, 0, none⟩ = some (.string (arr s')) ∧ wb.cell? ⟨r, 1, none⟩ = some (.bool bad) ∧ wb.frozen? ⟨r, 0, none⟩ = false ∧ wb.frozen? ⟨r, 1, none⟩ = false) ∧ Blk wb mb 30 (msgA m hd0) ∧ True ∧ Blk wb w.heap.size 30 #[.int .i64 0, .int .i64 0, .bool false, .bool false, .int .i64 0, .int .i64 0, .int .i64 0, .int .i64 0, .int .i64 0, .slice none 0 0, .slice none 0 0] ∧ Below w.heap.size w wb ∧ True from ⟨S.out.rd.get, S.out.m, trivial, S.out.z, S.out.bel, trivial⟩)
  have c0 := Blk.cell hMc 0
  have c1 := Blk.cell hMc 1
  have c2 := Blk.cell hMc 2
  have c3 := Blk.cell hMc 3
  have c4 := Blk.cell hMc 4
  have c5 := Blk.cell hMc 5
  have c6 := Blk.cell hMc 6
  have c7 := Blk.cell hMc 7
  have c8 := Blk.cell hMc 8
  have c9 := Blk.cell hMc 9
  have c10 := Blk.cell hMc 10
  simp [msgA, hd0] at c0 c1 c2 c3 c4 c5 c6 c7 c8 c9 c10
  have z0 := Blk.cell hZc 0
  have z1 := Blk.cell hZc 1
  have z2 := Blk.cell hZc 2
  have z3 := Blk.cell hZc 3
  have z4 := Blk.cell hZc 4
  have z5 := Blk.cell hZc 5
  have z6 := Blk.cell hZc 6
  have z7 := Blk.cell hZc 7
  have z8 := Blk.cell hZc 8
  have z9 := Blk.cell hZc 9
  have z10 := Blk.cell hZc 10
  have q0 := Blk.frozen hZc 0
  have q1 := Blk.frozen hZc 1
  have q2 := Blk.frozen hZc 2
  have q3 := Blk.frozen hZc 3
  have q4 := Blk.frozen hZc 4
  have q5 := Blk.frozen hZc 5
  have q6 := Blk.frozen hZc 6
  have q7 := Blk.frozen hZc 7
  have q8 := Blk.frozen hZc 8
  have q9 := Blk.frozen hZc 9
  have q10 := Blk.frozen hZc 10
  simp at z0 z1 z2 z3 z4 z5 z6 z7 z8 z9 z10
  have hne1 : mb ≠ w.heap.size := Nat.ne_of_gt (Nat.lt_trans P.out.pr P.out.pm)
  have hne2 : r ≠ w.heap.size := Nat.ne_of_gt P.out.pr
  have HBL := Lib.hid hbl
  clear hMc hZc hbl S P HP1
  cases bad with
  | true =>
    go_wp2_with fail
    go_region
    all_goals
      go_wp2
      refine bodyPost_ret (v := .tuple #[.agg #[.int .i64 m.kind, .int .i64 m.page, .bool m.x, .bool m.need, .int .i64 m.n, .int .i64 m.cl, .int .i64 m.ep, .int .i64 m.tn, .int .i64 m.lsn, .slice none 0 0, .slice none 0 0], .bool false]) (by simp [results, Try.results11, go_sem, z0, z1, z2, z3, z4, z5, z6, z7, z8, z9, z10]) rfl ?_
      rw [HF.out]
      first
      | exact ⟨hd0, rfl, (HIN.out.set11 _ _ _ _ _ _ _ _ _ _ _).drew, (below11 HBL.out (Nat.le_refl _) _ _ _ _ _ _ _ _ _ _ _).drew⟩
      | exact ⟨hd0, rfl, HIN.out.drew.set11 _ _ _ _ _ _ _ _ _ _ _, below11 HBL.out.drew (Nat.le_refl _) _ _ _ _ _ _ _ _ _ _ _⟩
  | false =>
    by_cases hnil : s' = []
    · subst hnil
      rw [Ent.arr_nil] at r0
      go_wp2_with fail
      go_region
      all_goals
        go_wp2
        refine bodyPost_ret (v := .tuple #[.agg #[.int .i64 m.kind, .int .i64 m.page, .bool m.x, .bool m.need, .int .i64 m.n, .int .i64 m.cl, .int .i64 m.ep, .int .i64 m.tn, .int .i64 m.lsn, .slice none 0 0, .slice none 0 0], .bool true]) (by simp [results, Try.results11, go_sem, z0, z1, z2, z3, z4, z5, z6, z7, z8, z9, z10]) rfl ?_
        rw [HF.out]
        first
        | exact ⟨hd0, rfl, (HIN.out.set11 _ _ _ _ _ _ _ _ _ _ _).drew, (below11 HBL.out (Nat.le_refl _) _ _ _ _ _ _ _ _ _ _ _).drew⟩
        | exact ⟨hd0, rfl, HIN.out.drew.set11 _ _ _ _ _ _ _ _ _ _ _, below11 HBL.out.drew (Nat.le_refl _) _ _ _ _ _ _ _ _ _ _ _⟩
    · have n2 := arr_ne hnil
      have n3 := arr_ne2 hnil
      have HNN := Lib.hid (show (s' == []) = false from beq_eq_false_iff_ne.2 hnil)
      clear hnil
      go_wp2_with fail
      go_region
      all_goals
        go_wp2
        refine bodyPost_ret (v := .tuple #[.agg #[.int .i64 m.kind, .int .i64 m.page, .bool m.x, .bool m.need, .int .i64 m.n, .int .i64 m.cl, .int .i64 m.ep, .int .i64 m.tn, .int .i64 m.lsn, .slice none 0 0, .slice none 0 0], .bool false]) (by simp [results, Try.results11, go_sem, z0, z1, z2, z3, z4, z5, z6, z7, z8, z9, z10]) rfl ?_
        rw [HF.out]
        first
        | exact ⟨hd0, by simp only [HNN.out]; rfl, (HIN.out.set11 _ _ _ _ _ _ _ _ _ _ _).drew, (below11 HBL.out (Nat.le_refl _) _ _ _ _ _ _ _ _ _ _ _).drew⟩
        | exact ⟨hd0, by simp only [HNN.out]; rfl, HIN.out.drew.set11 _ _ _ _ _ _ _ _ _ _ _, below11 HBL.out.drew (Nat.le_refl _) _ _ _ _ _ _ _ _ _ _ _⟩
set_option maxRecDepth 100000 in
set_option maxHeartbeats 4000000 in
theorem read_Grant (s : List UInt8) (w : World) (hs : s.length ≤ 140737488351232) (hnd : (sN hLock (sTxn hLock (sNeed hLock (sX hLock (sPage hLock (sKind s)))))).m.need = true)
    (hp0 : ∀ w, ∃ ok, Calls Try.prog 22 #[.int .i64 (vl s), .bool false] w fun e w' => e = .returned (.tuple #[.agg #[.bool true, .bool true, .bool true, .bool false, .bool false, .bool false, .bool false, .bool false], .bool ok]) ∧ Below w.heap.size w w')
    (hp1 : ∀ w, ∃ ok, Calls Try.prog 22 #[.int .i64 (vl s), .bool true] w fun e w' => e = .returned (.tuple #[.agg #[.bool true, .bool true, .bool true, .bool false, .bool false, .bool false, .bool true, .bool false], .bool ok]) ∧ Below w.heap.size w w') :
    Calls Try.prog 11 #[.string (arr s)] w (ReadRes (sEnts (hGrant true) (sImage (hGrant true) (sN hLock (sTxn hLock (sNeed hLock (sX hLock (sPage hLock (sKind s)))))))) w) := by
  have hb := (below_box w (.cells #[.int .i64 0, .int .i64 0, .bool false, .bool false, .int .i64 0, .int .i64 0, .int .i64 0, .int .i64 0, .int .i64 0, .slice none 0 0, .slice none 0 0] 30)).trans ((below_box (w.alloc (.cells #[.int .i64 0, .int .i64 0, .bool false, .bool false, .int .i64 0, .int .i64 0, .int .i64 0, .int .i64 0, .int .i64 0, .slice none 0 0, .slice none 0 0] 30)) (.cells #[.string (arr s), .bool false] 68)).mono (by simp))
  have hZ := (Blk.new w 30 #[.int .i64 0, .int .i64 0, .bool false, .bool false, .int .i64 0, .int .i64 0, .int .i64 0, .int .i64 0, .int .i64 0, .slice none 0 0, .slice none 0 0]).alloc (.cells #[.string (arr s), .bool false] 68)
  have hR := Blk.new (w.alloc (.cells #[.int .i64 0, .int .i64 0, .bool false, .bool false, .int .i64 0, .int .i64 0, .int .i64 0, .int .i64 0, .int .i64 0, .slice none 0 0, .slice none 0 0] 30)) 68 #[.string (arr s), .bool false]
  have hsz : w.heap.size + 2 ≤ ((w.alloc (.cells #[.int .i64 0, .int .i64 0, .bool false, .bool false, .int .i64 0, .int .i64 0, .int .i64 0, .int .i64 0, .int .i64 0, .slice none 0 0, .slice none 0 0] 30)).alloc (.cells #[.string (arr s), .bool false] 68)).heap.size := by simp
  rw [World.size_alloc] at hR
  have HP0 := Lib.hid hp0
  have HP1 := Lib.hid hp1
  clear hp0 hp1
  have HND := Lib.hid hnd
  clear hnd
  go_enter Try.func11, Try.ntmps11
  try dsimp only [List.append]
  go_upto_region 2 with (fail)
  generalize hGen : (w.alloc (.cells #[.int .i64 0, .int .i64 0, .bool false, .bool false, .int .i64 0, .int .i64 0, .int .i64 0, .int .i64 0, .int .i64 0, .slice none 0 0, .slice none 0 0] 30)).alloc (.cells #[.string (arr s), .bool false] 68) = W at hb hZ hR hsz ⊢
  clear hGen
  have HRD := Lib.hid (show Rd W (w.heap.size + 1) s false from hR)
  have HZ := Lib.hid hZ
  have HBL := Lib.hid hb
  clear hR hZ hb
  go_wp2_with fail
  refine (number_any (w.heap.size + 1) s false _ HRD.out (by omega)).mono ?_
  rintro e w1 ⟨rfl, h1, o1⟩
  have R1 := Lib.hid h1
  have Z1 := Lib.hid (o1.blk HZ.out (by omega))
  have B1 := Lib.hid (HBL.out.trans (o1.below (B := w.heap.size) (by omega) (by omega)))
  have hsz1 := Nat.le_trans hsz o1.size
  clear h1 o1 HRD HZ HBL
  go_upto_region 3 with (fail)
  have R2 := Lib.hid (R1.out.alloc (.cells #[.int .i64 (vl s), .int .i64 0, .bool false, .bool false, .int .i64 0, .int .i64 0, .int .i64 0, .int .i64 0, .int .i64 0, .slice none 0 0, .slice none 0 0] 30))
  have Z2 := Lib.hid (Z1.out.alloc (.cells #[.int .i64 (vl s), .int .i64 0, .bool false, .bool false, .int .i64 0, .int .i64 0, .int .i64 0, .int .i64 0, .int .i64 0, .slice none 0 0, .slice none 0 0] 30))
  have B2 := Lib.hid (below_next B1.out (below_box w1 (.cells #[.int .i64 (vl s), .int .i64 0, .bool false, .bool false, .int .i64 0, .int .i64 0, .int .i64 0, .int .i64 0, .int .i64 0, .slice none 0 0, .slice none 0 0] 30)))
  have hM := Blk.new w1 30 #[.int .i64 (vl s), .int .i64 0, .bool false, .bool false, .int .i64 0, .int .i64 0, .int .i64 0, .int .i64 0, .int .i64 0, .slice none 0 0, .slice none 0 0]
  have hg2 := alloc_lt w1 (.cells #[.int .i64 (vl s), .int .i64 0, .bool false, .bool false, .int .i64 0, .int .i64 0, .int .i64 0, .int .i64 0, .int .i64 0, .slice none 0 0, .slice none 0 0] 30)
  generalize hGen : w1.alloc (.cells #[.int .i64 (vl s), .int .i64 0, .bool false, .bool false, .int .i64 0, .int .i64 0, .int .i64 0, .int .i64 0, .int .i64 0, .slice none 0 0, .slice none 0 0] 30) = w2 at R2 Z2 B2 hM hg2 ⊢
  clear hGen
  clear R1 Z1 B1
  generalize hGen : w1.heap.size = mb at hM hg2 hsz1 ⊢
  clear hGen
  have c0 := Blk.cell hM 0
  have M2 := Lib.hid (show Blk w2 mb 30 (msgA (sKind s).m hd0) from hM)
  clear hM
  simp only [List.getElem?_toArray, List.getElem?_cons_zero] at c0
  obtain ⟨ok0, hP0⟩ := HP0.out w2
  go_wp2_with fail
  refine hP0.mono ?_
  rintro e w3 ⟨rfl, b3⟩
  clear hP0 c0
  have R3 := Lib.hid (R2.out.below b3)
  have Z3 := Lib.hid (Z2.out.below b3 (by omega))
  have M3 := Lib.hid (M2.out.below b3 hg2)
  have B3 := Lib.hid (below_next B2.out b3)
  have hsz3 := Nat.lt_of_lt_of_le hg2 b3.size
  clear R2 Z2 M2 B2 b3 HP0
  go_upto_region 4 with (fail)
  have R4 := Lib.hid (R3.out.alloc (.cells #[.bool true, .bool true, .bool true, .bool false, .bool false, .bool false, .bool false, .bool false] 61))
  have Z4 := Lib.hid (Z3.out.alloc (.cells #[.bool true, .bool true, .bool true, .bool false, .bool false, .bool false, .bool false, .bool false] 61))
  have M4 := Lib.hid (M3.out.alloc (.cells #[.bool true, .bool true, .bool true, .bool false, .bool false, .bool false, .bool false, .bool false] 61))
  have B4 := Lib.hid (below_next B3.out (below_box w3 (.cells #[.bool true, .bool true, .bool true, .bool false, .bool false, .bool false, .bool false, .bool false] 61)))
  have hH := Blk.new w3 61 #[.bool true, .bool true, .bool true, .bool false, .bool false, .bool false, .bool false, .bool false]
  generalize hGen : w3.alloc (.cells #[.bool true, .bool true, .bool true, .bool false, .bool false, .bool false, .bool false, .bool false] 61) = wb at R4 Z4 M4 B4 hH ⊢
  clear hGen
  generalize hGen : w3.heap.size = hb at hH hsz3 ⊢
  clear hGen
  have P := Lib.hid (show PL w (w.heap.size + 1) mb hb from ⟨by omega, by omega, by omega⟩)
  replace S := Lib.hid (show RS w wb (w.heap.size + 1) mb hb (sKind s) hd0 #[.bool true, .bool true, .bool true, .bool false, .bool false, .bool false, .bool false, .bool false] from ⟨R4.out, M4.out, hH, Z4.out, B4.out, Nat.le_trans (Nib.takeInt_len _) hs⟩)
  clear R3 Z3 M3 B3 R4 Z4 M4 B4 hH hg2 hsz hsz1 hsz3
  generalize hr : w.heap.size + 1 = r at S P ⊢
  clear hr
  generalize ht : sKind s = t0 at S
  have HT0 := Lib.hid ht
  clear ht
  have hHc := S.out.h
  obtain ⟨d0, d1, d2, d3, d4, d5, d6, d7⟩ := has_cells hHc
  clear hHc
  go_wp2_with fail
  refine (number_any r t0.r t0.bad _ S.out.rd (by have := S.out.len; omega)).mono ?_
  rintro e wa ⟨rfl, h1, o1⟩
  clear d0 d1 d2 d3 d4 d5 d6 d7
  have hm := o1.blk S.out.m (Nat.ne_of_gt P.out.pm)
  have y := Blk.cell hm 1
  have f := Blk.frozen hm 1
  clear hm
  simp [msgA] at y
  replace S := Lib.hid (S.out.page P.out h1 o1)
  go_upto_region 6 with (fail)
  generalize hGen : wa.setCell ⟨mb, 1, none⟩ (.int .i64 (vl t0.r)) = wb at S ⊢
  clear hGen
  clear y f h1 o1
  replace S := Lib.hid (show RS w wb r mb hb (sPage hLock t0) hd0 #[.bool true, .bool true, .bool true, .bool false, .bool false, .bool false, .bool false, .bool false] from S.out)
  generalize ht : sPage hLock t0 = t1 at S
  have HT1 := Lib.hid ht
  clear ht
  have hHc := S.out.h
  obtain ⟨d0, d1, d2, d3, d4, d5, d6, d7⟩ := has_cells hHc
  clear hHc
  go_wp2_with fail
  refine (rflag_any r t1.r t1.bad _ S.out.rd (by have := S.out.len; omega)).mono ?_
  rintro e wa ⟨rfl, h1, o1⟩
  clear d0 d1 d2 d3 d4 d5 d6 d7
  have hm := o1.blk S.out.m (Nat.ne_of_gt P.out.pm)
  have y := Blk.cell hm 2
  have f := Blk.frozen hm 2
  clear hm
  simp [msgA] at y
  replace S := Lib.hid (S.out.x P.out h1 o1)
  go_upto_region 8 with (fail)
  generalize hGen : wa.setCell ⟨mb, 2, none⟩ (.bool (fg t1.r)) = wb at S ⊢
  clear hGen
  clear y f h1 o1
  replace S := Lib.hid (show RS w wb r mb hb (sX hLock t1) hd0 #[.bool true, .bool true, .bool true, .bool false, .bool false, .bool false, .bool false, .bool false] from S.out)
  generalize ht : sX hLock t1 = t2 at S
  have HT2 := Lib.hid ht
  clear ht
  have hHc := S.out.h
  obtain ⟨d0, d1, d2, d3, d4, d5, d6, d7⟩ := has_cells hHc
  clear hHc
  go_wp2_with fail
  refine (rflag_any r t2.r t2.bad _ S.out.rd (by have := S.out.len; omega)).mono ?_
  rintro e wa ⟨rfl, h1, o1⟩
  clear d0 d1 d2 d3 d4 d5 d6 d7
  have hm := o1.blk S.out.m (Nat.ne_of_gt P.out.pm)
  have y := Blk.cell hm 3
  have f := Blk.frozen hm 3
  clear hm
  simp [msgA] at y
  replace S := Lib.hid (S.out.need P.out h1 o1)
  go_upto_region 10 with (fail)
  generalize hGen : wa.setCell ⟨mb, 3, none⟩ (.bool (fg t2.r)) = wb at S ⊢
  clear hGen
  clear y f h1 o1
  replace S := Lib.hid (show RS w wb r mb hb (sNeed hLock t2) hd0 #[.bool true, .bool true, .bool true, .bool false, .bool false, .bool false, .bool false, .bool false] from S.out)
  generalize ht : sNeed hLock t2 = t3 at S
  have HT3 := Lib.hid ht
  clear ht
  have hHc := S.out.h
  obtain ⟨d0, d1, d2, d3, d4, d5, d6, d7⟩ := has_cells hHc
  clear hHc
  have HCH := Lib.hid (show sN hLock (sTxn hLock (sNeed hLock (sX hLock (sPage hLock (sKind s))))) = t3 from by rw [HT0.out, HT1.out, HT2.out, HT3.out, show sTxn hLock t3 = t3 from rfl, show sN hLock t3 = t3 from rfl])
  generalize ht : t3 = t at S HCH
  have HTT := Lib.hid ht
  clear ht
  have hK := Lib.hid (show t.m.kind = vl s from by rw [← HCH.out]; simp only [sPage_kind, sX_kind, sNeed_kind, sTxn_kind, sN_kind]; rfl)
  have hMc := S.out.m
  have c0 := Blk.cell hMc 0
  have c3 := Blk.cell hMc 3
  clear hMc
  simp [msgA] at c0 c3
  rw [hK.out] at c0
  have hN := Lib.hid (show t.m.need = true from by rw [← HCH.out]; exact HND.out)
  rw [hN.out] at c3
  obtain ⟨ok1, hP1⟩ := HP1.out wb
  go_wp2_with fail
  refine hP1.mono ?_
  rintro e wa ⟨rfl, b1⟩
  clear hP1 c0 c3
  clear d0 d1 d2 d3 d4 d5 d6 d7
  replace S := Lib.hid (S.out.next b1)
  clear b1
  have hHc := S.out.h
  obtain ⟨d0, d1, d2, d3, d4, d5, d6, d7⟩ := has_cells hHc
  have f0 := Blk.frozen hHc 0
  have f1 := Blk.frozen hHc 1
  have f2 := Blk.frozen hHc 2
  have f3 := Blk.frozen hHc 3
  have f4 := Blk.frozen hHc 4
  have f5 := Blk.frozen hHc 5
  have f6 := Blk.frozen hHc 6
  have f7 := Blk.frozen hHc 7
  clear hHc
  replace S := Lib.hid (S.out.seth P.out (.bool true) (.bool true) (.bool true) (.bool false) (.bool false) (.bool false) (.bool true) (.bool false))
  go_upto_region 15 with (fail)
  generalize hGen : (((((((wa.setCell ⟨hb, 0, none⟩ (.bool true)).setCell ⟨hb, 1, none⟩ (.bool true)).setCell ⟨hb, 2, none⟩ (.bool true)).setCell ⟨hb, 3, none⟩ (.bool false)).setCell ⟨hb, 4, none⟩ (.bool false)).setCell ⟨hb, 5, none⟩ (.bool false)).setCell ⟨hb, 6, none⟩ (.bool true)).setCell ⟨hb, 7, none⟩ (.bool false) = wb at S ⊢
  clear hGen
  clear d0 d1 d2 d3 d4 d5 d6 d7
  clear f0 f1 f2 f3 f4 f5 f6 f7
  have hHc := S.out.h
  obtain ⟨d0, d1, d2, d3, d4, d5, d6, d7⟩ := has_cells hHc
  clear hHc
  go_wp2_with fail
  refine (image_any r t.r t.bad _ S.out.rd (by have := S.out.len; omega)).mono ?_
  rintro e wa ⟨qa, qn, qc, rfl, hS, hnew, h1, o1⟩
  clear d0 d1 d2 d3 d4 d5 d6 d7
  have hm := o1.blk S.out.m (Nat.ne_of_gt P.out.pm)
  have y8 := Blk.cell hm 8
  have f8 := Blk.frozen hm 8
  have y9 := Blk.cell hm 9
  have f9 := Blk.frozen hm 9
  clear hm
  simp [msgA] at y8 y9
  have hgn : ∀ g off e, qa = some ⟨g, off, e⟩ → mb < g := fun g off e h => Nat.lt_trans S.out.m.lt (hnew g off e h)
  replace S := Lib.hid ((S.out.only P.out h1 o1 (Nat.le_trans (by rw [List.length_drop]; omega) S.out.len)).page1 P.out (imR t.r).1 (imR t.r).2.1 qa qn qc)
  have HSL := Lib.hid (slots_set (slots_set hS (fun g off e h => Nat.ne_of_gt (hgn g off e h)) 8 (.int .i64 (imR t.r).1)) (fun g off e h => Nat.ne_of_gt (hgn g off e h)) 9 (.slice qa qn qc))
  have HGN := Lib.hid hgn
  clear hgn hS hnew h1 o1
  go_upto_region 17 with (fail)
  generalize hGen : (wa.setCell ⟨mb, 8, none⟩ (.int .i64 (imR t.r).1)).setCell ⟨mb, 9, none⟩ (.slice qa qn qc) = wb at S HSL ⊢
  clear hGen
  clear y8 y9 f8 f9
  have hes : t.m.es = [] := by rw [← HCH.out]; simp only [sPage_es, sX_es, sNeed_es, sTxn_es, sN_es]; rfl
  replace HIN := Lib.hid (show InN w.heap.size wb { t.m with lsn := (imR t.r).1, zs := (imR t.r).2.1 } ⟨qa, qn, qc, none, 0, 0⟩ from ⟨⟨HSL.out, by rw [hes]; exact ⟨rfl, by simp, fun h => absurd h (Nat.lt_irrefl 0)⟩⟩, fun g off e h => Nat.lt_trans (Nat.lt_trans P.out.pr P.out.pm) (HGN.out g off e h), fun _ _ _ h => (by cases h)⟩)
  clear HSL HGN hes
  replace S := Lib.hid (show RS w wb r mb hb (sImage (hGrant true) t) ⟨qa, qn, qc, none, 0, 0⟩ #[.bool true, .bool true, .bool true, .bool false, .bool false, .bool false, .bool true, .bool false] from S.out)
  replace HIN := Lib.hid (show InN w.heap.size wb (sImage (hGrant true) t).m ⟨qa, qn, qc, none, 0, 0⟩ from HIN.out)
  have hHc := S.out.h
  obtain ⟨d0, d1, d2, d3, d4, d5, d6, d7⟩ := has_cells hHc
  clear hHc
  replace S := Lib.hid (show RS w wb r mb hb (sEnts (hGrant true) (sImage (hGrant true) t)) ⟨qa, qn, qc, none, 0, 0⟩ #[.bool true, .bool true, .bool true, .bool false, .bool false, .bool false, .bool true, .bool false] from S.out)
  replace HIN := Lib.hid (show InN w.heap.size wb (sEnts (hGrant true) (sImage (hGrant true) t)).m ⟨qa, qn, qc, none, 0, 0⟩ from HIN.out)
  go_upto_region 19 with (fail)
  clear d0 d1 d2 d3 d4 d5 d6 d7
  rw [← HCH.out] at S HIN
  clear HCH
  generalize hfin : sEnts (hGrant true) (sImage (hGrant true) (sN hLock (sTxn hLock (sNeed hLock (sX hLock (sPage hLock (sKind s))))))) = t' at S HIN
  obtain ⟨m, s', bad⟩ := t'
  have HF := Lib.hid hfin
  clear hfin
  obtain ⟨⟨r0, r1, _, _⟩, hMc, _, hZc, hbl, _⟩ := (show (wb.cell? ⟨r, 0, none⟩ = some (.string (arr s')) ∧ wb.cell? ⟨r, 1, none⟩ = some (.bool bad) ∧ wb.frozen? ⟨r, 0, none⟩ = false ∧ wb.frozen? ⟨r, 1, none⟩ = false) ∧ Blk wb mb 30 (msgA m ⟨qa, qn, qc, none, 0, 0⟩) ∧ True ∧ Blk wb w.heap.size 30 #[.int .i64 0, .int .i64 0, .bool false, .bool false, .int .i64 0, .int .i64 0, .int .i64 0, .int .i64 0, .int .i64 0, .slice none 0 0, .slice none 0 0] ∧ Below w.heap.size w wb ∧ True from ⟨S.out.rd.get, S.out.m, trivial, S.out.z, S.out.bel, trivial⟩)
  have c0 := Blk.cell hMc 0
  have c1 := Blk.cell hMc 1
  have c2 := Blk.cell hMc 2
  have c3 := Blk.cell hMc 3
  have c4 := Blk.cell hMc 4
  have c5 := Blk.cell hMc 5
  have c6 := Blk.cell hMc 6
  have c7 := Blk.cell hMc 7
  have c8 := Blk.cell hMc 8
  have c9 := Blk.cell hMc 9
  have c10 := Blk.cell hMc 10
  simp [msgA] at c0 c1 c2 c3 c4 c5 c6 c7 c8 c9 c10
  have z0 := Blk.cell hZc 0
  have z1 := Blk.cell hZc 1
  have z2 := Blk.cell hZc 2
  have z3 := Blk.cell hZc 3
  have z4 := Blk.cell hZc 4
  have z5 := Blk.cell hZc 5
  have z6 := Blk.cell hZc 6
  have z7 := Blk.cell hZc 7
  have z8 := Blk.cell hZc 8
  have z9 := Blk.cell hZc 9
  have z10 := Blk.cell hZc 10
  have q0 := Blk.frozen hZc 0
  have q1 := Blk.frozen hZc 1
  have q2 := Blk.frozen hZc 2
  have q3 := Blk.frozen hZc 3
  have q4 := Blk.frozen hZc 4
  have q5 := Blk.frozen hZc 5
  have q6 := Blk.frozen hZc 6
  have q7 := Blk.frozen hZc 7
  have q8 := Blk.frozen hZc 8
  have q9 := Blk.frozen hZc 9
  have q10 := Blk.frozen hZc 10
  simp at z0 z1 z2 z3 z4 z5 z6 z7 z8 z9 z10
  have hne1 : mb ≠ w.heap.size := Nat.ne_of_gt (Nat.lt_trans P.out.pr P.out.pm)
  have hne2 : r ≠ w.heap.size := Nat.ne_of_gt P.out.pr
  have HBL := Lib.hid hbl
  clear hMc hZc hbl S P HP1 HND
  cases bad with
  | true =>
    go_wp2_with fail
    go_region
    all_goals
      go_wp2
      refine bodyPost_ret (v := .tuple #[.agg #[.int .i64 m.kind, .int .i64 m.page, .bool m.x, .bool m.need, .int .i64 m.n, .int .i64 m.cl, .int .i64 m.ep, .int .i64 m.tn, .int .i64 m.lsn, .slice qa qn qc, .slice none 0 0], .bool false]) (by simp [results, Try.results11, go_sem, z0, z1, z2, z3, z4, z5, z6, z7, z8, z9, z10]) rfl ?_
      rw [HF.out]
      first
      | exact ⟨⟨qa, qn, qc, none, 0, 0⟩, rfl, (HIN.out.set11 _ _ _ _ _ _ _ _ _ _ _).drew, (below11 HBL.out (Nat.le_refl _) _ _ _ _ _ _ _ _ _ _ _).drew⟩
      | exact ⟨⟨qa, qn, qc, none, 0, 0⟩, rfl, HIN.out.drew.set11 _ _ _ _ _ _ _ _ _ _ _, below11 HBL.out.drew (Nat.le_refl _) _ _ _ _ _ _ _ _ _ _ _⟩
  | false =>
    by_cases hnil : s' = []
    · subst hnil
      rw [Ent.arr_nil] at r0
      go_wp2_with fail
      go_region
      all_goals
        go_wp2
        refine bodyPost_ret (v := .tuple #[.agg #[.int .i64 m.kind, .int .i64 m.page, .bool m.x, .bool m.need, .int .i64 m.n, .int .i64 m.cl, .int .i64 m.ep, .int .i64 m.tn, .int .i64 m.lsn, .slice qa qn qc, .slice none 0 0], .bool true]) (by simp [results, Try.results11, go_sem, z0, z1, z2, z3, z4, z5, z6, z7, z8, z9, z10]) rfl ?_
        rw [HF.out]
        first
        | exact ⟨⟨qa, qn, qc, none, 0, 0⟩, rfl, (HIN.out.set11 _ _ _ _ _ _ _ _ _ _ _).drew, (below11 HBL.out (Nat.le_refl _) _ _ _ _ _ _ _ _ _ _ _).drew⟩
        | exact ⟨⟨qa, qn, qc, none, 0, 0⟩, rfl, HIN.out.drew.set11 _ _ _ _ _ _ _ _ _ _ _, below11 HBL.out.drew (Nat.le_refl _) _ _ _ _ _ _ _ _ _ _ _⟩
    · have n2 := arr_ne hnil
      have n3 := arr_ne2 hnil
      have HNN := Lib.hid (show (s' == []) = false from beq_eq_false_iff_ne.2 hnil)
      clear hnil
      go_wp2_with fail
      go_region
      all_goals
        go_wp2
        refine bodyPost_ret (v := .tuple #[.agg #[.int .i64 m.kind, .int .i64 m.page, .bool m.x, .bool m.need, .int .i64 m.n, .int .i64 m.cl, .int .i64 m.ep, .int .i64 m.tn, .int .i64 m.lsn, .slice qa qn qc, .slice none 0 0], .bool false]) (by simp [results, Try.results11, go_sem, z0, z1, z2, z3, z4, z5, z6, z7, z8, z9, z10]) rfl ?_
        rw [HF.out]
        first
        | exact ⟨⟨qa, qn, qc, none, 0, 0⟩, by simp only [HNN.out]; rfl, (HIN.out.set11 _ _ _ _ _ _ _ _ _ _ _).drew, (below11 HBL.out (Nat.le_refl _) _ _ _ _ _ _ _ _ _ _ _).drew⟩
        | exact ⟨⟨qa, qn, qc, none, 0, 0⟩, by simp only [HNN.out]; rfl, HIN.out.drew.set11 _ _ _ _ _ _ _ _ _ _ _, below11 HBL.out.drew (Nat.le_refl _) _ _ _ _ _ _ _ _ _ _ _⟩
set_option maxRecDepth 100000 in
set_option maxHeartbeats 4000000 in
theorem read_None (s : List UInt8) (w : World) (hs : s.length ≤ 140737488351232)
    (hp0 : ∀ w, ∃ ok, Calls Try.prog 22 #[.int .i64 (vl s), .bool false] w fun e w' => e = .returned (.tuple #[.agg #[.bool false, .bool false, .bool false, .bool false, .bool false, .bool false, .bool false, .bool false], .bool ok]) ∧ Below w.heap.size w w')
    (hp1 : ∀ w, ∃ ok, Calls Try.prog 22 #[.int .i64 (vl s), .bool (sN hNone (sTxn hNone (sNeed hNone (sX hNone (sPage hNone (sKind s)))))).m.need] w fun e w' => e = .returned (.tuple #[.agg #[.bool false, .bool false, .bool false, .bool false, .bool false, .bool false, .bool false, .bool false], .bool ok]) ∧ Below w.heap.size w w') :
    Calls Try.prog 11 #[.string (arr s)] w (ReadRes (sEnts hNone (sImage hNone (sN hNone (sTxn hNone (sNeed hNone (sX hNone (sPage hNone (sKind s)))))))) w) := by
  have hb := (below_box w (.cells #[.int .i64 0, .int .i64 0, .bool false, .bool false, .int .i64 0, .int .i64 0, .int .i64 0, .int .i64 0, .int .i64 0, .slice none 0 0, .slice none 0 0] 30)).trans ((below_box (w.alloc (.cells #[.int .i64 0, .int .i64 0, .bool false, .bool false, .int .i64 0, .int .i64 0, .int .i64 0, .int .i64 0, .int .i64 0, .slice none 0 0, .slice none 0 0] 30)) (.cells #[.string (arr s), .bool false] 68)).mono (by simp))
  have hZ := (Blk.new w 30 #[.int .i64 0, .int .i64 0, .bool false, .bool false, .int .i64 0, .int .i64 0, .int .i64 0, .int .i64 0, .int .i64 0, .slice none 0 0, .slice none 0 0]).alloc (.cells #[.string (arr s), .bool false] 68)
  have hR := Blk.new (w.alloc (.cells #[.int .i64 0, .int .i64 0, .bool false, .bool false, .int .i64 0, .int .i64 0, .int .i64 0, .int .i64 0, .int .i64 0, .slice none 0 0, .slice none 0 0] 30)) 68 #[.string (arr s), .bool false]
  have hsz : w.heap.size + 2 ≤ ((w.alloc (.cells #[.int .i64 0, .int .i64 0, .bool false, .bool false, .int .i64 0, .int .i64 0, .int .i64 0, .int .i64 0, .int .i64 0, .slice none 0 0, .slice none 0 0] 30)).alloc (.cells #[.string (arr s), .bool false] 68)).heap.size := by simp
  rw [World.size_alloc] at hR
  have HP0 := Lib.hid hp0
  have HP1 := Lib.hid hp1
  clear hp0 hp1
  go_enter Try.func11, Try.ntmps11
  try dsimp only [List.append]
  go_upto_region 2 with (fail)
  generalize hGen : (w.alloc (.cells #[.int .i64 0, .int .i64 0, .bool false, .bool false, .int .i64 0, .int .i64 0, .int .i64 0, .int .i64 0, .int .i64 0, .slice none 0 0, .slice none 0 0] 30)).alloc (.cells #[.string (arr s), .bool false] 68) = W at hb hZ hR hsz ⊢
  clear hGen
  have HRD := Lib.hid (show Rd W (w.heap.size + 1) s false from hR)
  have HZ := Lib.hid hZ
  have HBL := Lib.hid hb
  clear hR hZ hb
  go_wp2_with fail
  refine (number_any (w.heap.size + 1) s false _ HRD.out (by omega)).mono ?_
  rintro e w1 ⟨rfl, h1, o1⟩
  have R1 := Lib.hid h1
  have Z1 := Lib.hid (o1.blk HZ.out (by omega))
  have B1 := Lib.hid (HBL.out.trans (o1.below (B := w.heap.size) (by omega) (by omega)))
  have hsz1 := Nat.le_trans hsz o1.size
  clear h1 o1 HRD HZ HBL
  go_upto_region 3 with (fail)
  have R2 := Lib.hid (R1.out.alloc (.cells #[.int .i64 (vl s), .int .i64 0, .bool false, .bool false, .int .i64 0, .int .i64 0, .int .i64 0, .int .i64 0, .int .i64 0, .slice none 0 0, .slice none 0 0] 30))
  have Z2 := Lib.hid (Z1.out.alloc (.cells #[.int .i64 (vl s), .int .i64 0, .bool false, .bool false, .int .i64 0, .int .i64 0, .int .i64 0, .int .i64 0, .int .i64 0, .slice none 0 0, .slice none 0 0] 30))
  have B2 := Lib.hid (below_next B1.out (below_box w1 (.cells #[.int .i64 (vl s), .int .i64 0, .bool false, .bool false, .int .i64 0, .int .i64 0, .int .i64 0, .int .i64 0, .int .i64 0, .slice none 0 0, .slice none 0 0] 30)))
  have hM := Blk.new w1 30 #[.int .i64 (vl s), .int .i64 0, .bool false, .bool false, .int .i64 0, .int .i64 0, .int .i64 0, .int .i64 0, .int .i64 0, .slice none 0 0, .slice none 0 0]
  have hg2 := alloc_lt w1 (.cells #[.int .i64 (vl s), .int .i64 0, .bool false, .bool false, .int .i64 0, .int .i64 0, .int .i64 0, .int .i64 0, .int .i64 0, .slice none 0 0, .slice none 0 0] 30)
  generalize hGen : w1.alloc (.cells #[.int .i64 (vl s), .int .i64 0, .bool false, .bool false, .int .i64 0, .int .i64 0, .int .i64 0, .int .i64 0, .int .i64 0, .slice none 0 0, .slice none 0 0] 30) = w2 at R2 Z2 B2 hM hg2 ⊢
  clear hGen
  clear R1 Z1 B1
  generalize hGen : w1.heap.size = mb at hM hg2 hsz1 ⊢
  clear hGen
  have c0 := Blk.cell hM 0
  have M2 := Lib.hid (show Blk w2 mb 30 (msgA (sKind s).m hd0) from hM)
  clear hM
  simp only [List.getElem?_toArray, List.getElem?_cons_zero] at c0
  obtain ⟨ok0, hP0⟩ := HP0.out w2
  go_wp2_with fail
  refine hP0.mono ?_
  rintro e w3 ⟨rfl, b3⟩
  clear hP0 c0
  have R3 := Lib.hid (R2.out.below b3)
  have Z3 := Lib.hid (Z2.out.below b3 (by omega))
  have M3 := Lib.hid (M2.out.below b3 hg2)
  have B3 := Lib.hid (below_next B2.out b3)
  have hsz3 := Nat.lt_of_lt_of_le hg2 b3.size
  clear R2 Z2 M2 B2 b3 HP0
  go_upto_region 4 with (fail)
  have R4 := Lib.hid (R3.out.alloc (.cells #[.bool false, .bool false, .bool false, .bool false, .bool false, .bool false, .bool false, .bool false] 61))
  have Z4 := Lib.hid (Z3.out.alloc (.cells #[.bool false, .bool false, .bool false, .bool false, .bool false, .bool false, .bool false, .bool false] 61))
  have M4 := Lib.hid (M3.out.alloc (.cells #[.bool false, .bool false, .bool false, .bool false, .bool false, .bool false, .bool false, .bool false] 61))
  have B4 := Lib.hid (below_next B3.out (below_box w3 (.cells #[.bool false, .bool false, .bool false, .bool false, .bool false, .bool false, .bool false, .bool false] 61)))
  have hH := Blk.new w3 61 #[.bool false, .bool false, .bool false, .bool false, .bool false, .bool false, .bool false, .bool false]
  generalize hGen : w3.alloc (.cells #[.bool false, .bool false, .bool false, .bool false, .bool false, .bool false, .bool false, .bool false] 61) = wb at R4 Z4 M4 B4 hH ⊢
  clear hGen
  generalize hGen : w3.heap.size = hb at hH hsz3 ⊢
  clear hGen
  have P := Lib.hid (show PL w (w.heap.size + 1) mb hb from ⟨by omega, by omega, by omega⟩)
  replace S := Lib.hid (show RS w wb (w.heap.size + 1) mb hb (sKind s) hd0 #[.bool false, .bool false, .bool false, .bool false, .bool false, .bool false, .bool false, .bool false] from ⟨R4.out, M4.out, hH, Z4.out, B4.out, Nat.le_trans (Nib.takeInt_len _) hs⟩)
  clear R3 Z3 M3 B3 R4 Z4 M4 B4 hH hg2 hsz hsz1 hsz3
  generalize hr : w.heap.size + 1 = r at S P ⊢
  clear hr
  generalize ht : sKind s = t0 at S
  have HT0 := Lib.hid ht
  clear ht
  have hHc := S.out.h
  obtain ⟨d0, d1, d2, d3, d4, d5, d6, d7⟩ := has_cells hHc
  clear hHc
  have HCH := Lib.hid (show sN hNone (sTxn hNone (sNeed hNone (sX hNone (sPage hNone (sKind s))))) = t0 from by rw [HT0.out, show sPage hNone t0 = t0 from rfl, show sX hNone t0 = t0 from rfl, show sNeed hNone t0 = t0 from rfl, show sTxn hNone t0 = t0 from rfl, show sN hNone t0 = t0 from rfl])
  generalize ht : t0 = t at S HCH
  have HTT := Lib.hid ht
  clear ht
  have hK := Lib.hid (show t.m.kind = vl s from by rw [← HCH.out]; simp only [sPage_kind, sX_kind, sNeed_kind, sTxn_kind, sN_kind]; rfl)
  have hMc := S.out.m
  have c0 := Blk.cell hMc 0
  have c3 := Blk.cell hMc 3
  clear hMc
  simp [msgA] at c0 c3
  rw [hK.out] at c0
  obtain ⟨ok1, hP1⟩ := HP1.out wb
  rw [HCH.out] at hP1
  generalize t.m.need = nd at c3 hP1
  go_wp2_with fail
  refine hP1.mono ?_
  rintro e wa ⟨rfl, b1⟩
  clear hP1 c0 c3
  clear d0 d1 d2 d3 d4 d5 d6 d7
  replace S := Lib.hid (S.out.next b1)
  clear b1
  have hHc := S.out.h
  obtain ⟨d0, d1, d2, d3, d4, d5, d6, d7⟩ := has_cells hHc
  have f0 := Blk.frozen hHc 0
  have f1 := Blk.frozen hHc 1
  have f2 := Blk.frozen hHc 2
  have f3 := Blk.frozen hHc 3
  have f4 := Blk.frozen hHc 4
  have f5 := Blk.frozen hHc 5
  have f6 := Blk.frozen hHc 6
  have f7 := Blk.frozen hHc 7
  clear hHc
  replace S := Lib.hid (S.out.seth P.out (.bool false) (.bool false) (.bool false) (.bool false) (.bool false) (.bool false) (.bool false) (.bool false))
  go_upto_region 15 with (fail)
  generalize hGen : (((((((wa.setCell ⟨hb, 0, none⟩ (.bool false)).setCell ⟨hb, 1, none⟩ (.bool false)).setCell ⟨hb, 2, none⟩ (.bool false)).setCell ⟨hb, 3, none⟩ (.bool false)).setCell ⟨hb, 4, none⟩ (.bool false)).setCell ⟨hb, 5, none⟩ (.bool false)).setCell ⟨hb, 6, none⟩ (.bool false)).setCell ⟨hb, 7, none⟩ (.bool false) = wb at S ⊢
  clear hGen
  clear d0 d1 d2 d3 d4 d5 d6 d7
  clear f0 f1 f2 f3 f4 f5 f6 f7
  have hHc := S.out.h
  obtain ⟨d0, d1, d2, d3, d4, d5, d6, d7⟩ := has_cells hHc
  clear hHc
  have hes : t.m.zs = [] ∧ t.m.es = [] := by rw [← HCH.out]; simp only [sPage_es, sX_es, sNeed_es, sTxn_es, sN_es, sPage_zs, sX_zs, sNeed_zs, sTxn_zs, sN_zs]; exact ⟨rfl, rfl⟩
  replace HIN := Lib.hid (InN.nil w.heap.size wb t.m hes.1 hes.2)
  clear hes
  replace S := Lib.hid (show RS w wb r mb hb (sEnts hNone (sImage hNone t)) hd0 #[.bool false, .bool false, .bool false, .bool false, .bool false, .bool false, .bool false, .bool false] from S.out)
  replace HIN := Lib.hid (show InN w.heap.size wb (sEnts hNone (sImage hNone t)).m hd0 from HIN.out)
  go_upto_region 19 with (fail)
  clear d0 d1 d2 d3 d4 d5 d6 d7
  rw [← HCH.out] at S HIN
  clear HCH
  generalize hfin : sEnts hNone (sImage hNone (sN hNone (sTxn hNone (sNeed hNone (sX hNone (sPage hNone (sKind s))))))) = t' at S HIN
  obtain ⟨m, s', bad⟩ := t'
  have HF := Lib.hid hfin
  clear hfin
  obtain ⟨⟨r0, r1, _, _⟩, hMc, _, hZc, hbl, _⟩ := (show (wb.cell? ⟨r, 0, none⟩ = some (.string (arr s')) ∧ wb.cell? ⟨r, 1, none⟩ = some (.bool bad) ∧ wb.frozen? ⟨r, 0, none⟩ = false ∧ wb.frozen? ⟨r, 1, none⟩ = false) ∧ Blk wb mb 30 (msgA m hd0) ∧ True ∧ Blk wb w.heap.size 30 #[.int .i64 0, .int .i64 0, .bool false, .bool false, .int .i64 0, .int .i64 0, .int .i64 0, .int .i64 0, .int .i64 0, .slice none 0 0, .slice none 0 0] ∧ Below w.heap.size w wb ∧ True from ⟨S.out.rd.get, S.out.m, trivial, S.out.z, S.out.bel, trivial⟩)
  have c0 := Blk.cell hMc 0
  have c1 := Blk.cell hMc 1
  have c2 := Blk.cell hMc 2
  have c3 := Blk.cell hMc 3
  have c4 := Blk.cell hMc 4
  have c5 := Blk.cell hMc 5
  have c6 := Blk.cell hMc 6
  have c7 := Blk.cell hMc 7
  have c8 := Blk.cell hMc 8
  have c9 := Blk.cell hMc 9
  have c10 := Blk.cell hMc 10
  simp [msgA, hd0] at c0 c1 c2 c3 c4 c5 c6 c7 c8 c9 c10
  have z0 := Blk.cell hZc 0
  have z1 := Blk.cell hZc 1
  have z2 := Blk.cell hZc 2
  have z3 := Blk.cell hZc 3
  have z4 := Blk.cell hZc 4
  have z5 := Blk.cell hZc 5
  have z6 := Blk.cell hZc 6
  have z7 := Blk.cell hZc 7
  have z8 := Blk.cell hZc 8
  have z9 := Blk.cell hZc 9
  have z10 := Blk.cell hZc 10
  have q0 := Blk.frozen hZc 0
  have q1 := Blk.frozen hZc 1
  have q2 := Blk.frozen hZc 2
  have q3 := Blk.frozen hZc 3
  have q4 := Blk.frozen hZc 4
  have q5 := Blk.frozen hZc 5
  have q6 := Blk.frozen hZc 6
  have q7 := Blk.frozen hZc 7
  have q8 := Blk.frozen hZc 8
  have q9 := Blk.frozen hZc 9
  have q10 := Blk.frozen hZc 10
  simp at z0 z1 z2 z3 z4 z5 z6 z7 z8 z9 z10
  have hne1 : mb ≠ w.heap.size := Nat.ne_of_gt (Nat.lt_trans P.out.pr P.out.pm)
  have hne2 : r ≠ w.heap.size := Nat.ne_of_gt P.out.pr
  have HBL := Lib.hid hbl
  clear hMc hZc hbl S P HP1
  cases bad with
  | true =>
    go_wp2_with fail
    go_region
    all_goals
      go_wp2
      refine bodyPost_ret (v := .tuple #[.agg #[.int .i64 m.kind, .int .i64 m.page, .bool m.x, .bool m.need, .int .i64 m.n, .int .i64 m.cl, .int .i64 m.ep, .int .i64 m.tn, .int .i64 m.lsn, .slice none 0 0, .slice none 0 0], .bool false]) (by simp [results, Try.results11, go_sem, z0, z1, z2, z3, z4, z5, z6, z7, z8, z9, z10]) rfl ?_
      rw [HF.out]
      first
      | exact ⟨hd0, rfl, (HIN.out.set11 _ _ _ _ _ _ _ _ _ _ _).drew, (below11 HBL.out (Nat.le_refl _) _ _ _ _ _ _ _ _ _ _ _).drew⟩
      | exact ⟨hd0, rfl, HIN.out.drew.set11 _ _ _ _ _ _ _ _ _ _ _, below11 HBL.out.drew (Nat.le_refl _) _ _ _ _ _ _ _ _ _ _ _⟩
  | false =>
    by_cases hnil : s' = []
    · subst hnil
      rw [Ent.arr_nil] at r0
      go_wp2_with fail
      go_region
      all_goals
        go_wp2
        refine bodyPost_ret (v := .tuple #[.agg #[.int .i64 m.kind, .int .i64 m.page, .bool m.x, .bool m.need, .int .i64 m.n, .int .i64 m.cl, .int .i64 m.ep, .int .i64 m.tn, .int .i64 m.lsn, .slice none 0 0, .slice none 0 0], .bool true]) (by simp [results, Try.results11, go_sem, z0, z1, z2, z3, z4, z5, z6, z7, z8, z9, z10]) rfl ?_
        rw [HF.out]
        first
        | exact ⟨hd0, rfl, (HIN.out.set11 _ _ _ _ _ _ _ _ _ _ _).drew, (below11 HBL.out (Nat.le_refl _) _ _ _ _ _ _ _ _ _ _ _).drew⟩
        | exact ⟨hd0, rfl, HIN.out.drew.set11 _ _ _ _ _ _ _ _ _ _ _, below11 HBL.out.drew (Nat.le_refl _) _ _ _ _ _ _ _ _ _ _ _⟩
    · have n2 := arr_ne hnil
      have n3 := arr_ne2 hnil
      have HNN := Lib.hid (show (s' == []) = false from beq_eq_false_iff_ne.2 hnil)
      clear hnil
      go_wp2_with fail
      go_region
      all_goals
        go_wp2
        refine bodyPost_ret (v := .tuple #[.agg #[.int .i64 m.kind, .int .i64 m.page, .bool m.x, .bool m.need, .int .i64 m.n, .int .i64 m.cl, .int .i64 m.ep, .int .i64 m.tn, .int .i64 m.lsn, .slice none 0 0, .slice none 0 0], .bool false]) (by simp [results, Try.results11, go_sem, z0, z1, z2, z3, z4, z5, z6, z7, z8, z9, z10]) rfl ?_
        rw [HF.out]
        first
        | exact ⟨hd0, by simp only [HNN.out]; rfl, (HIN.out.set11 _ _ _ _ _ _ _ _ _ _ _).drew, (below11 HBL.out (Nat.le_refl _) _ _ _ _ _ _ _ _ _ _ _).drew⟩
        | exact ⟨hd0, by simp only [HNN.out]; rfl, HIN.out.drew.set11 _ _ _ _ _ _ _ _ _ _ _, below11 HBL.out.drew (Nat.le_refl _) _ _ _ _ _ _ _ _ _ _ _⟩
set_option maxRecDepth 100000 in
set_option maxHeartbeats 4000000 in
theorem read_Room (s : List UInt8) (w : World) (hs : s.length ≤ 140737488351232)
    (hp0 : ∀ w, ∃ ok, Calls Try.prog 22 #[.int .i64 (vl s), .bool false] w fun e w' => e = .returned (.tuple #[.agg #[.bool false, .bool false, .bool false, .bool false, .bool true, .bool true, .bool false, .bool false], .bool ok]) ∧ Below w.heap.size w w')
    (hp1 : ∀ w, ∃ ok, Calls Try.prog 22 #[.int .i64 (vl s), .bool (sN hRoom (sTxn hRoom (sNeed hRoom (sX hRoom (sPage hRoom (sKind s)))))).m.need] w fun e w' => e = .returned (.tuple #[.agg #[.bool false, .bool false, .bool false, .bool false, .bool true, .bool true, .bool false, .bool false], .bool ok]) ∧ Below w.heap.size w w') :
    Calls Try.prog 11 #[.string (arr s)] w (ReadRes (sEnts hRoom (sImage hRoom (sN hRoom (sTxn hRoom (sNeed hRoom (sX hRoom (sPage hRoom (sKind s)))))))) w) := by
  have hb := (below_box w (.cells #[.int .i64 0, .int .i64 0, .bool false, .bool false, .int .i64 0, .int .i64 0, .int .i64 0, .int .i64 0, .int .i64 0, .slice none 0 0, .slice none 0 0] 30)).trans ((below_box (w.alloc (.cells #[.int .i64 0, .int .i64 0, .bool false, .bool false, .int .i64 0, .int .i64 0, .int .i64 0, .int .i64 0, .int .i64 0, .slice none 0 0, .slice none 0 0] 30)) (.cells #[.string (arr s), .bool false] 68)).mono (by simp))
  have hZ := (Blk.new w 30 #[.int .i64 0, .int .i64 0, .bool false, .bool false, .int .i64 0, .int .i64 0, .int .i64 0, .int .i64 0, .int .i64 0, .slice none 0 0, .slice none 0 0]).alloc (.cells #[.string (arr s), .bool false] 68)
  have hR := Blk.new (w.alloc (.cells #[.int .i64 0, .int .i64 0, .bool false, .bool false, .int .i64 0, .int .i64 0, .int .i64 0, .int .i64 0, .int .i64 0, .slice none 0 0, .slice none 0 0] 30)) 68 #[.string (arr s), .bool false]
  have hsz : w.heap.size + 2 ≤ ((w.alloc (.cells #[.int .i64 0, .int .i64 0, .bool false, .bool false, .int .i64 0, .int .i64 0, .int .i64 0, .int .i64 0, .int .i64 0, .slice none 0 0, .slice none 0 0] 30)).alloc (.cells #[.string (arr s), .bool false] 68)).heap.size := by simp
  rw [World.size_alloc] at hR
  have HP0 := Lib.hid hp0
  have HP1 := Lib.hid hp1
  clear hp0 hp1
  go_enter Try.func11, Try.ntmps11
  try dsimp only [List.append]
  go_upto_region 2 with (fail)
  generalize hGen : (w.alloc (.cells #[.int .i64 0, .int .i64 0, .bool false, .bool false, .int .i64 0, .int .i64 0, .int .i64 0, .int .i64 0, .int .i64 0, .slice none 0 0, .slice none 0 0] 30)).alloc (.cells #[.string (arr s), .bool false] 68) = W at hb hZ hR hsz ⊢
  clear hGen
  have HRD := Lib.hid (show Rd W (w.heap.size + 1) s false from hR)
  have HZ := Lib.hid hZ
  have HBL := Lib.hid hb
  clear hR hZ hb
  go_wp2_with fail
  refine (number_any (w.heap.size + 1) s false _ HRD.out (by omega)).mono ?_
  rintro e w1 ⟨rfl, h1, o1⟩
  have R1 := Lib.hid h1
  have Z1 := Lib.hid (o1.blk HZ.out (by omega))
  have B1 := Lib.hid (HBL.out.trans (o1.below (B := w.heap.size) (by omega) (by omega)))
  have hsz1 := Nat.le_trans hsz o1.size
  clear h1 o1 HRD HZ HBL
  go_upto_region 3 with (fail)
  have R2 := Lib.hid (R1.out.alloc (.cells #[.int .i64 (vl s), .int .i64 0, .bool false, .bool false, .int .i64 0, .int .i64 0, .int .i64 0, .int .i64 0, .int .i64 0, .slice none 0 0, .slice none 0 0] 30))
  have Z2 := Lib.hid (Z1.out.alloc (.cells #[.int .i64 (vl s), .int .i64 0, .bool false, .bool false, .int .i64 0, .int .i64 0, .int .i64 0, .int .i64 0, .int .i64 0, .slice none 0 0, .slice none 0 0] 30))
  have B2 := Lib.hid (below_next B1.out (below_box w1 (.cells #[.int .i64 (vl s), .int .i64 0, .bool false, .bool false, .int .i64 0, .int .i64 0, .int .i64 0, .int .i64 0, .int .i64 0, .slice none 0 0, .slice none 0 0] 30)))
  have hM := Blk.new w1 30 #[.int .i64 (vl s), .int .i64 0, .bool false, .bool false, .int .i64 0, .int .i64 0, .int .i64 0, .int .i64 0, .int .i64 0, .slice none 0 0, .slice none 0 0]
  have hg2 := alloc_lt w1 (.cells #[.int .i64 (vl s), .int .i64 0, .bool false, .bool false, .int .i64 0, .int .i64 0, .int .i64 0, .int .i64 0, .int .i64 0, .slice none 0 0, .slice none 0 0] 30)
  generalize hGen : w1.alloc (.cells #[.int .i64 (vl s), .int .i64 0, .bool false, .bool false, .int .i64 0, .int .i64 0, .int .i64 0, .int .i64 0, .int .i64 0, .slice none 0 0, .slice none 0 0] 30) = w2 at R2 Z2 B2 hM hg2 ⊢
  clear hGen
  clear R1 Z1 B1
  generalize hGen : w1.heap.size = mb at hM hg2 hsz1 ⊢
  clear hGen
  have c0 := Blk.cell hM 0
  have M2 := Lib.hid (show Blk w2 mb 30 (msgA (sKind s).m hd0) from hM)
  clear hM
  simp only [List.getElem?_toArray, List.getElem?_cons_zero] at c0
  obtain ⟨ok0, hP0⟩ := HP0.out w2
  go_wp2_with fail
  refine hP0.mono ?_
  rintro e w3 ⟨rfl, b3⟩
  clear hP0 c0
  have R3 := Lib.hid (R2.out.below b3)
  have Z3 := Lib.hid (Z2.out.below b3 (by omega))
  have M3 := Lib.hid (M2.out.below b3 hg2)
  have B3 := Lib.hid (below_next B2.out b3)
  have hsz3 := Nat.lt_of_lt_of_le hg2 b3.size
  clear R2 Z2 M2 B2 b3 HP0
  go_upto_region 4 with (fail)
  have R4 := Lib.hid (R3.out.alloc (.cells #[.bool false, .bool false, .bool false, .bool false, .bool true, .bool true, .bool false, .bool false] 61))
  have Z4 := Lib.hid (Z3.out.alloc (.cells #[.bool false, .bool false, .bool false, .bool false, .bool true, .bool true, .bool false, .bool false] 61))
  have M4 := Lib.hid (M3.out.alloc (.cells #[.bool false, .bool false, .bool false, .bool false, .bool true, .bool true, .bool false, .bool false] 61))
  have B4 := Lib.hid (below_next B3.out (below_box w3 (.cells #[.bool false, .bool false, .bool false, .bool false, .bool true, .bool true, .bool false, .bool false] 61)))
  have hH := Blk.new w3 61 #[.bool false, .bool false, .bool false, .bool false, .bool true, .bool true, .bool false, .bool false]
  generalize hGen : w3.alloc (.cells #[.bool false, .bool false, .bool false, .bool false, .bool true, .bool true, .bool false, .bool false] 61) = wb at R4 Z4 M4 B4 hH ⊢
  clear hGen
  generalize hGen : w3.heap.size = hb at hH hsz3 ⊢
  clear hGen
  have P := Lib.hid (show PL w (w.heap.size + 1) mb hb from ⟨by omega, by omega, by omega⟩)
  replace S := Lib.hid (show RS w wb (w.heap.size + 1) mb hb (sKind s) hd0 #[.bool false, .bool false, .bool false, .bool false, .bool true, .bool true, .bool false, .bool false] from ⟨R4.out, M4.out, hH, Z4.out, B4.out, Nat.le_trans (Nib.takeInt_len _) hs⟩)
  clear R3 Z3 M3 B3 R4 Z4 M4 B4 hH hg2 hsz hsz1 hsz3
  generalize hr : w.heap.size + 1 = r at S P ⊢
  clear hr
  generalize ht : sKind s = t0 at S
  have HT0 := Lib.hid ht
  clear ht
  have hHc := S.out.h
  obtain ⟨d0, d1, d2, d3, d4, d5, d6, d7⟩ := has_cells hHc
  clear hHc
  go_wp2_with fail
  refine (number_any r t0.r t0.bad _ S.out.rd (by have := S.out.len; omega)).mono ?_
  rintro e wa ⟨rfl, h1, o1⟩
  clear d0 d1 d2 d3 d4 d5 d6 d7
  have hm := o1.blk S.out.m (Nat.ne_of_gt P.out.pm)
  have y := Blk.cell hm 4
  have f := Blk.frozen hm 4
  clear hm
  simp [msgA] at y
  replace S := Lib.hid (S.out.n P.out h1 o1)
  go_upto_region 14 with (fail)
  generalize hGen : wa.setCell ⟨mb, 4, none⟩ (.int .i64 (vl t0.r)) = wb at S ⊢
  clear hGen
  clear y f h1 o1
  replace S := Lib.hid (show RS w wb r mb hb (sN hRoom t0) hd0 #[.bool false, .bool false, .bool false, .bool false, .bool true, .bool true, .bool false, .bool false] from S.out)
  generalize ht : sN hRoom t0 = t1 at S
  have HT1 := Lib.hid ht
  clear ht
  have hHc := S.out.h
  obtain ⟨d0, d1, d2, d3, d4, d5, d6, d7⟩ := has_cells hHc
  clear hHc
  have HCH := Lib.hid (show sN hRoom (sTxn hRoom (sNeed hRoom (sX hRoom (sPage hRoom (sKind s))))) = t1 from by rw [HT0.out, show sPage hRoom t0 = t0 from rfl, show sX hRoom t0 = t0 from rfl, show sNeed hRoom t0 = t0 from rfl, show sTxn hRoom t0 = t0 from rfl, HT1.out])
  generalize ht : t1 = t at S HCH
  have HTT := Lib.hid ht
  clear ht
  have hK := Lib.hid (show t.m.kind = vl s from by rw [← HCH.out]; simp only [sPage_kind, sX_kind, sNeed_kind, sTxn_kind, sN_kind]; rfl)
  have hMc := S.out.m
  have c0 := Blk.cell hMc 0
  have c3 := Blk.cell hMc 3
  clear hMc
  simp [msgA] at c0 c3
  rw [hK.out] at c0
  obtain ⟨ok1, hP1⟩ := HP1.out wb
  rw [HCH.out] at hP1
  generalize t.m.need = nd at c3 hP1
  go_wp2_with fail
  refine hP1.mono ?_
  rintro e wa ⟨rfl, b1⟩
  clear hP1 c0 c3
  clear d0 d1 d2 d3 d4 d5 d6 d7
  replace S := Lib.hid (S.out.next b1)
  clear b1
  have hHc := S.out.h
  obtain ⟨d0, d1, d2, d3, d4, d5, d6, d7⟩ := has_cells hHc
  have f0 := Blk.frozen hHc 0
  have f1 := Blk.frozen hHc 1
  have f2 := Blk.frozen hHc 2
  have f3 := Blk.frozen hHc 3
  have f4 := Blk.frozen hHc 4
  have f5 := Blk.frozen hHc 5
  have f6 := Blk.frozen hHc 6
  have f7 := Blk.frozen hHc 7
  clear hHc
  replace S := Lib.hid (S.out.seth P.out (.bool false) (.bool false) (.bool false) (.bool false) (.bool true) (.bool true) (.bool false) (.bool false))
  go_upto_region 15 with (fail)
  generalize hGen : (((((((wa.setCell ⟨hb, 0, none⟩ (.bool false)).setCell ⟨hb, 1, none⟩ (.bool false)).setCell ⟨hb, 2, none⟩ (.bool false)).setCell ⟨hb, 3, none⟩ (.bool false)).setCell ⟨hb, 4, none⟩ (.bool true)).setCell ⟨hb, 5, none⟩ (.bool true)).setCell ⟨hb, 6, none⟩ (.bool false)).setCell ⟨hb, 7, none⟩ (.bool false) = wb at S ⊢
  clear hGen
  clear d0 d1 d2 d3 d4 d5 d6 d7
  clear f0 f1 f2 f3 f4 f5 f6 f7
  have hHc := S.out.h
  obtain ⟨d0, d1, d2, d3, d4, d5, d6, d7⟩ := has_cells hHc
  clear hHc
  have hes : t.m.zs = [] ∧ t.m.es = [] := by rw [← HCH.out]; simp only [sPage_es, sX_es, sNeed_es, sTxn_es, sN_es, sPage_zs, sX_zs, sNeed_zs, sTxn_zs, sN_zs]; exact ⟨rfl, rfl⟩
  replace HIN := Lib.hid (InN.nil w.heap.size wb t.m hes.1 hes.2)
  clear hes
  replace S := Lib.hid (show RS w wb r mb hb (sEnts hRoom (sImage hRoom t)) hd0 #[.bool false, .bool false, .bool false, .bool false, .bool true, .bool true, .bool false, .bool false] from S.out)
  replace HIN := Lib.hid (show InN w.heap.size wb (sEnts hRoom (sImage hRoom t)).m hd0 from HIN.out)
  go_upto_region 19 with (fail)
  clear d0 d1 d2 d3 d4 d5 d6 d7
  rw [← HCH.out] at S HIN
  clear HCH
  generalize hfin : sEnts hRoom (sImage hRoom (sN hRoom (sTxn hRoom (sNeed hRoom (sX hRoom (sPage hRoom (sKind s))))))) = t' at S HIN
  obtain ⟨m, s', bad⟩ := t'
  have HF := Lib.hid hfin
  clear hfin
  obtain ⟨⟨r0, r1, _, _⟩, hMc, _, hZc, hbl, _⟩ := (show (wb.cell? ⟨r, 0, none⟩ = some (.string (arr s')) ∧ wb.cell? ⟨r, 1, none⟩ = some (.bool bad) ∧ wb.frozen? ⟨r, 0, none⟩ = false ∧ wb.frozen? ⟨r, 1, none⟩ = false) ∧ Blk wb mb 30 (msgA m hd0) ∧ True ∧ Blk wb w.heap.size 30 #[.int .i64 0, .int .i64 0, .bool false, .bool false, .int .i64 0, .int .i64 0, .int .i64 0, .int .i64 0, .int .i64 0, .slice none 0 0, .slice none 0 0] ∧ Below w.heap.size w wb ∧ True from ⟨S.out.rd.get, S.out.m, trivial, S.out.z, S.out.bel, trivial⟩)
  have c0 := Blk.cell hMc 0
  have c1 := Blk.cell hMc 1
  have c2 := Blk.cell hMc 2
  have c3 := Blk.cell hMc 3
  have c4 := Blk.cell hMc 4
  have c5 := Blk.cell hMc 5
  have c6 := Blk.cell hMc 6
  have c7 := Blk.cell hMc 7
  have c8 := Blk.cell hMc 8
  have c9 := Blk.cell hMc 9
  have c10 := Blk.cell hMc 10
  simp [msgA, hd0] at c0 c1 c2 c3 c4 c5 c6 c7 c8 c9 c10
  have z0 := Blk.cell hZc 0
  have z1 := Blk.cell hZc 1
  have z2 := Blk.cell hZc 2
  have z3 := Blk.cell hZc 3
  have z4 := Blk.cell hZc 4
  have z5 := Blk.cell hZc 5
  have z6 := Blk.cell hZc 6
  have z7 := Blk.cell hZc 7
  have z8 := Blk.cell hZc 8
  have z9 := Blk.cell hZc 9
  have z10 := Blk.cell hZc 10
  have q0 := Blk.frozen hZc 0
  have q1 := Blk.frozen hZc 1
  have q2 := Blk.frozen hZc 2
  have q3 := Blk.frozen hZc 3
  have q4 := Blk.frozen hZc 4
  have q5 := Blk.frozen hZc 5
  have q6 := Blk.frozen hZc 6
  have q7 := Blk.frozen hZc 7
  have q8 := Blk.frozen hZc 8
  have q9 := Blk.frozen hZc 9
  have q10 := Blk.frozen hZc 10
  simp at z0 z1 z2 z3 z4 z5 z6 z7 z8 z9 z10
  have hne1 : mb ≠ w.heap.size := Nat.ne_of_gt (Nat.lt_trans P.out.pr P.out.pm)
  have hne2 : r ≠ w.heap.size := Nat.ne_of_gt P.out.pr
  have HBL := Lib.hid hbl
  clear hMc hZc hbl S P HP1
  cases bad with
  | true =>
    go_wp2_with fail
    go_region
    all_goals
      go_wp2
      refine bodyPost_ret (v := .tuple #[.agg #[.int .i64 m.kind, .int .i64 m.page, .bool m.x, .bool m.need, .int .i64 m.n, .int .i64 m.cl, .int .i64 m.ep, .int .i64 m.tn, .int .i64 m.lsn, .slice none 0 0, .slice none 0 0], .bool false]) (by simp [results, Try.results11, go_sem, z0, z1, z2, z3, z4, z5, z6, z7, z8, z9, z10]) rfl ?_
      rw [HF.out]
      first
      | exact ⟨hd0, rfl, (HIN.out.set11 _ _ _ _ _ _ _ _ _ _ _).drew, (below11 HBL.out (Nat.le_refl _) _ _ _ _ _ _ _ _ _ _ _).drew⟩
      | exact ⟨hd0, rfl, HIN.out.drew.set11 _ _ _ _ _ _ _ _ _ _ _, below11 HBL.out.drew (Nat.le_refl _) _ _ _ _ _ _ _ _ _ _ _⟩
  | false =>
    by_cases hnil : s' = []
    · subst hnil
      rw [Ent.arr_nil] at r0
      go_wp2_with fail
      go_region
      all_goals
        go_wp2
        refine bodyPost_ret (v := .tuple #[.agg #[.int .i64 m.kind, .int .i64 m.page, .bool m.x, .bool m.need, .int .i64 m.n, .int .i64 m.cl, .int .i64 m.ep, .int .i64 m.tn, .int .i64 m.lsn, .slice none 0 0, .slice none 0 0], .bool true]) (by simp [results, Try.results11, go_sem, z0, z1, z2, z3, z4, z5, z6, z7, z8, z9, z10]) rfl ?_
        rw [HF.out]
        first
        | exact ⟨hd0, rfl, (HIN.out.set11 _ _ _ _ _ _ _ _ _ _ _).drew, (below11 HBL.out (Nat.le_refl _) _ _ _ _ _ _ _ _ _ _ _).drew⟩
        | exact ⟨hd0, rfl, HIN.out.drew.set11 _ _ _ _ _ _ _ _ _ _ _, below11 HBL.out.drew (Nat.le_refl _) _ _ _ _ _ _ _ _ _ _ _⟩
    · have n2 := arr_ne hnil
      have n3 := arr_ne2 hnil
      have HNN := Lib.hid (show (s' == []) = false from beq_eq_false_iff_ne.2 hnil)
      clear hnil
      go_wp2_with fail
      go_region
      all_goals
        go_wp2
        refine bodyPost_ret (v := .tuple #[.agg #[.int .i64 m.kind, .int .i64 m.page, .bool m.x, .bool m.need, .int .i64 m.n, .int .i64 m.cl, .int .i64 m.ep, .int .i64 m.tn, .int .i64 m.lsn, .slice none 0 0, .slice none 0 0], .bool false]) (by simp [results, Try.results11, go_sem, z0, z1, z2, z3, z4, z5, z6, z7, z8, z9, z10]) rfl ?_
        rw [HF.out]
        first
        | exact ⟨hd0, by simp only [HNN.out]; rfl, (HIN.out.set11 _ _ _ _ _ _ _ _ _ _ _).drew, (below11 HBL.out (Nat.le_refl _) _ _ _ _ _ _ _ _ _ _ _).drew⟩
        | exact ⟨hd0, by simp only [HNN.out]; rfl, HIN.out.drew.set11 _ _ _ _ _ _ _ _ _ _ _, below11 HBL.out.drew (Nat.le_refl _) _ _ _ _ _ _ _ _ _ _ _⟩
theorem sAll_of {s : List UInt8} {H0 H1 : Has} (h0 : partsH (vl s) false = H0) (h1 : partsH (vl s) (sN H0 (sTxn H0 (sNeed H0 (sX H0 (sPage H0 (sKind s)))))).m.need = H1) :
    sAll s = sEnts H1 (sImage H1 (sN H0 (sTxn H0 (sNeed H0 (sX H0 (sPage H0 (sKind s))))))) := by
  have hk := sHead_kind s
  have e : sHead s = sN H0 (sTxn H0 (sNeed H0 (sX H0 (sPage H0 (sKind s))))) := by unfold sHead; simp only [h0]
  have hh : partsH (sHead s).m.kind (sHead s).m.need = H1 := by rw [hk, e, h1]
  unfold sAll
  simp only [hh]
  rw [e]
/-- note.read, of every bytes -/
theorem read_any (s : List UInt8) (w : World) (hs : s.length ≤ 140737488351232) :
    Calls Try.prog 11 #[.string (arr s)] w (ReadRes (sAll s) w) := by
  have hP := fun need w => parts_any (vl s) need w
  cases kind_of (vl s) with
  | lock _ hh ho => rw [sAll_of (hh false) (hh _)]; exact read_Lock s w hs (fun w => ⟨_, by have := hP false w; rw [hh] at this; exact this⟩) (fun w => ⟨_, by have := hP (sN hLock (sTxn hLock (sNeed hLock (sX hLock (sPage hLock (sKind s)))))).m.need w; rw [hh] at this; exact this⟩)
  | free _ hh ho => rw [sAll_of (hh false) (hh _)]; exact read_Free s w hs (fun w => ⟨_, by have := hP false w; rw [hh] at this; exact this⟩) (fun w => ⟨_, by have := hP (sN hFree (sTxn hFree (sNeed hFree (sX hFree (sPage hFree (sKind s)))))).m.need w; rw [hh] at this; exact this⟩)
  | use _ hh ho => rw [sAll_of (hh false) (hh _)]; exact read_Use s w hs (fun w => ⟨_, by have := hP false w; rw [hh] at this; exact this⟩) (fun w => ⟨_, by have := hP (sN hUse (sTxn hUse (sNeed hUse (sX hUse (sPage hUse (sKind s)))))).m.need w; rw [hh] at this; exact this⟩)
  | log _ hh ho => rw [sAll_of (hh false) (hh _)]; exact read_Log s w hs (fun w => ⟨_, by have := hP false w; rw [hh] at this; exact this⟩) (fun w => ⟨_, by have := hP (sN hLog (sTxn hLog (sNeed hLog (sX hLog (sPage hLog (sKind s)))))).m.need w; rw [hh] at this; exact this⟩)
  | image _ hh ho => rw [sAll_of (hh false) (hh _)]; exact read_Image s w hs (fun w => ⟨_, by have := hP false w; rw [hh] at this; exact this⟩) (fun w => ⟨_, by have := hP (sN hImage (sTxn hImage (sNeed hImage (sX hImage (sPage hImage (sKind s)))))).m.need w; rw [hh] at this; exact this⟩)
  | txn _ hh ho => rw [sAll_of (hh false) (hh _)]; exact read_Txn s w hs (fun w => ⟨_, by have := hP false w; rw [hh] at this; exact this⟩) (fun w => ⟨_, by have := hP (sN hTxn (sTxn hTxn (sNeed hTxn (sX hTxn (sPage hTxn (sKind s)))))).m.need w; rw [hh] at this; exact this⟩)
  | space _ hh ho => rw [sAll_of (hh false) (hh _)]; exact read_Space s w hs (fun w => ⟨_, by have := hP false w; rw [hh] at this; exact this⟩) (fun w => ⟨_, by have := hP (sN hSpace (sTxn hSpace (sNeed hSpace (sX hSpace (sPage hSpace (sKind s)))))).m.need w; rw [hh] at this; exact this⟩)
  | victim _ hh ho => rw [sAll_of (hh false) (hh _)]; exact read_None s w hs (fun w => ⟨_, by have := hP false w; rw [hh] at this; exact this⟩) (fun w => ⟨_, by have := hP (sN hNone (sTxn hNone (sNeed hNone (sX hNone (sPage hNone (sKind s)))))).m.need w; rw [hh] at this; exact this⟩)
  | room _ hh ho => rw [sAll_of (hh false) (hh _)]; exact read_Room s w hs (fun w => ⟨_, by have := hP false w; rw [hh] at this; exact this⟩) (fun w => ⟨_, by have := hP (sN hRoom (sTxn hRoom (sNeed hRoom (sX hRoom (sPage hRoom (sKind s)))))).m.need w; rw [hh] at this; exact this⟩)
  | none _ hh ho => rw [sAll_of (hh false) (hh _)]; exact read_None s w hs (fun w => ⟨_, by have := hP false w; rw [hh] at this; exact this⟩) (fun w => ⟨_, by have := hP (sN hNone (sTxn hNone (sNeed hNone (sX hNone (sPage hNone (sKind s)))))).m.need w; rw [hh] at this; exact this⟩)
  | grant _ hh ho =>
    have h0 : partsH (vl s) false = hLock := hh false
    rcases Bool.eq_false_or_eq_true (sN hLock (sTxn hLock (sNeed hLock (sX hLock (sPage hLock (sKind s)))))).m.need with hn | hn
    · rw [sAll_of h0 (H1 := hGrant true) (by rw [hh, hn])]
      exact read_Grant s w hs hn (fun w => ⟨_, by have := hP false w; rw [hh] at this; exact this⟩) (fun w => ⟨_, by have := hP true w; rw [hh] at this; exact this⟩)
    · rw [sAll_of h0 (H1 := hLock) (by rw [hh, hn]; rfl)]
      exact read_Lock s w hs (fun w => ⟨_, by have := hP false w; rw [hh] at this; exact this⟩) (fun w => ⟨_, by have := hP false w; rw [hh] at this; rw [hn]; exact this⟩)
end Go.Proofs.Ytjffjmffoffblaa.Note
