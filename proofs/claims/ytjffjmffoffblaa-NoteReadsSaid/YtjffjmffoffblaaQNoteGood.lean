/- The walks of note.within, parts, whole, bare, Good. -/
import Derived.Test.YtjffjmffoffblaaQNoteBase
namespace Go.Proofs.Ytjffjmffoffblaa.Note
set_option maxRecDepth 100000
open Go.RowKit
open Go.Proofs.Ytjffjmffoffblaa.Nib (enc below_next below_drew)
open Go.Proofs.Ytjffjmffoffblaa.Slab (Slot Slots Blk ret_bool' ret_int')
open Go.Proofs.Ytjffjmffoffblaa.Ent (Ent Ents EntAt SmallE withinB knownB noE entA below_box alloc_lt)

set_option maxRecDepth 100000 in
theorem within_any (a lo hi : Int) (w : World) :
    Calls Try.prog 41 #[.int .i64 a, .int .i64 lo, .int .i64 hi] w fun e w' => e = .returned (.bool (withinB a lo hi)) ∧ w = w' := by
  by_cases h1 : lo ≤ a
  · by_cases h2 : a ≤ hi
    · have H := Lib.hid (show withinB a lo hi = true from decide_eq_true ⟨h1, h2⟩)
      go_enter Try.func41, Try.ntmps41
      go_wp2
      go_ret
      exact ⟨ret_bool' H.out.symm, rfl⟩
    · have H := Lib.hid (show withinB a lo hi = false from decide_eq_false fun h => h2 h.2)
      go_enter Try.func41, Try.ntmps41
      go_wp2
      go_ret
      exact ⟨ret_bool' H.out.symm, rfl⟩
  · have H := Lib.hid (show withinB a lo hi = false from decide_eq_false fun h => h1 h.1)
    go_enter Try.func41, Try.ntmps41
    go_wp2
    go_ret
    exact ⟨ret_bool' H.out.symm, rfl⟩
theorem len_eq {α : Type} {l : List α} {n : Nat} (h : l.length = n) : decide (l.length = 0) = ((n : Int) == 0) := by
  subst h
  rw [Bool.eq_iff_iff]
  simp only [decide_eq_true_eq, beq_iff_eq]
  omega
set_option maxRecDepth 100000 in
theorem parts_1 (need : Bool) (w : World) :
    Calls Try.prog 22 #[.int .i64 1, .bool need] w fun e w' => e = .returned (.tuple #[.agg #[.bool hLock.page, .bool hLock.x, .bool hLock.need, .bool hLock.txn, .bool hLock.n, .bool hLock.zero, .bool hLock.image, .bool hLock.entries], .bool true]) ∧ Below w.heap.size w w' := by
  go_enter Try.func22, Try.ntmps22
  go_wp2
  refine bodyPost_ret (v := .tuple #[.agg #[.bool hLock.page, .bool hLock.x, .bool hLock.need, .bool hLock.txn, .bool hLock.n, .bool hLock.zero, .bool hLock.image, .bool hLock.entries], .bool true]) (by simp [results, Try.results22, go_sem, hLock]) rfl ?_
  exact ⟨rfl, below_box w _⟩
set_option maxRecDepth 100000 in
theorem parts_2 (need : Bool) (w : World) :
    Calls Try.prog 22 #[.int .i64 2, .bool need] w fun e w' => e = .returned (.tuple #[.agg #[.bool hFree.page, .bool hFree.x, .bool hFree.need, .bool hFree.txn, .bool hFree.n, .bool hFree.zero, .bool hFree.image, .bool hFree.entries], .bool true]) ∧ Below w.heap.size w w' := by
  go_enter Try.func22, Try.ntmps22
  go_wp2
  refine bodyPost_ret (v := .tuple #[.agg #[.bool hFree.page, .bool hFree.x, .bool hFree.need, .bool hFree.txn, .bool hFree.n, .bool hFree.zero, .bool hFree.image, .bool hFree.entries], .bool true]) (by simp [results, Try.results22, go_sem, hFree]) rfl ?_
  exact ⟨rfl, below_box w _⟩
set_option maxRecDepth 100000 in
theorem parts_10 (need : Bool) (w : World) :
    Calls Try.prog 22 #[.int .i64 10, .bool need] w fun e w' => e = .returned (.tuple #[.agg #[.bool hFree.page, .bool hFree.x, .bool hFree.need, .bool hFree.txn, .bool hFree.n, .bool hFree.zero, .bool hFree.image, .bool hFree.entries], .bool true]) ∧ Below w.heap.size w w' := by
  go_enter Try.func22, Try.ntmps22
  go_wp2
  refine bodyPost_ret (v := .tuple #[.agg #[.bool hFree.page, .bool hFree.x, .bool hFree.need, .bool hFree.txn, .bool hFree.n, .bool hFree.zero, .bool hFree.image, .bool hFree.entries], .bool true]) (by simp [results, Try.results22, go_sem, hFree]) rfl ?_
  exact ⟨rfl, below_box w _⟩
set_option maxRecDepth 100000 in
theorem parts_3 (need : Bool) (w : World) :
    Calls Try.prog 22 #[.int .i64 3, .bool need] w fun e w' => e = .returned (.tuple #[.agg #[.bool hUse.page, .bool hUse.x, .bool hUse.need, .bool hUse.txn, .bool hUse.n, .bool hUse.zero, .bool hUse.image, .bool hUse.entries], .bool true]) ∧ Below w.heap.size w w' := by
  go_enter Try.func22, Try.ntmps22
  go_wp2
  refine bodyPost_ret (v := .tuple #[.agg #[.bool hUse.page, .bool hUse.x, .bool hUse.need, .bool hUse.txn, .bool hUse.n, .bool hUse.zero, .bool hUse.image, .bool hUse.entries], .bool true]) (by simp [results, Try.results22, go_sem, hUse]) rfl ?_
  exact ⟨rfl, below_box w _⟩
set_option maxRecDepth 100000 in
theorem parts_4 (need : Bool) (w : World) :
    Calls Try.prog 22 #[.int .i64 4, .bool need] w fun e w' => e = .returned (.tuple #[.agg #[.bool hLog.page, .bool hLog.x, .bool hLog.need, .bool hLog.txn, .bool hLog.n, .bool hLog.zero, .bool hLog.image, .bool hLog.entries], .bool true]) ∧ Below w.heap.size w w' := by
  go_enter Try.func22, Try.ntmps22
  go_wp2
  refine bodyPost_ret (v := .tuple #[.agg #[.bool hLog.page, .bool hLog.x, .bool hLog.need, .bool hLog.txn, .bool hLog.n, .bool hLog.zero, .bool hLog.image, .bool hLog.entries], .bool true]) (by simp [results, Try.results22, go_sem, hLog]) rfl ?_
  exact ⟨rfl, below_box w _⟩
set_option maxRecDepth 100000 in
theorem parts_5 (need : Bool) (w : World) :
    Calls Try.prog 22 #[.int .i64 5, .bool need] w fun e w' => e = .returned (.tuple #[.agg #[.bool hImage.page, .bool hImage.x, .bool hImage.need, .bool hImage.txn, .bool hImage.n, .bool hImage.zero, .bool hImage.image, .bool hImage.entries], .bool true]) ∧ Below w.heap.size w w' := by
  go_enter Try.func22, Try.ntmps22
  go_wp2
  refine bodyPost_ret (v := .tuple #[.agg #[.bool hImage.page, .bool hImage.x, .bool hImage.need, .bool hImage.txn, .bool hImage.n, .bool hImage.zero, .bool hImage.image, .bool hImage.entries], .bool true]) (by simp [results, Try.results22, go_sem, hImage]) rfl ?_
  exact ⟨rfl, below_box w _⟩
set_option maxRecDepth 100000 in
theorem parts_6 (need : Bool) (w : World) :
    Calls Try.prog 22 #[.int .i64 6, .bool need] w fun e w' => e = .returned (.tuple #[.agg #[.bool hTxn.page, .bool hTxn.x, .bool hTxn.need, .bool hTxn.txn, .bool hTxn.n, .bool hTxn.zero, .bool hTxn.image, .bool hTxn.entries], .bool true]) ∧ Below w.heap.size w w' := by
  go_enter Try.func22, Try.ntmps22
  go_wp2
  refine bodyPost_ret (v := .tuple #[.agg #[.bool hTxn.page, .bool hTxn.x, .bool hTxn.need, .bool hTxn.txn, .bool hTxn.n, .bool hTxn.zero, .bool hTxn.image, .bool hTxn.entries], .bool true]) (by simp [results, Try.results22, go_sem, hTxn]) rfl ?_
  exact ⟨rfl, below_box w _⟩
set_option maxRecDepth 100000 in
theorem parts_11 (need : Bool) (w : World) :
    Calls Try.prog 22 #[.int .i64 11, .bool need] w fun e w' => e = .returned (.tuple #[.agg #[.bool hTxn.page, .bool hTxn.x, .bool hTxn.need, .bool hTxn.txn, .bool hTxn.n, .bool hTxn.zero, .bool hTxn.image, .bool hTxn.entries], .bool true]) ∧ Below w.heap.size w w' := by
  go_enter Try.func22, Try.ntmps22
  go_wp2
  refine bodyPost_ret (v := .tuple #[.agg #[.bool hTxn.page, .bool hTxn.x, .bool hTxn.need, .bool hTxn.txn, .bool hTxn.n, .bool hTxn.zero, .bool hTxn.image, .bool hTxn.entries], .bool true]) (by simp [results, Try.results22, go_sem, hTxn]) rfl ?_
  exact ⟨rfl, below_box w _⟩
set_option maxRecDepth 100000 in
theorem parts_7 (need : Bool) (w : World) :
    Calls Try.prog 22 #[.int .i64 7, .bool need] w fun e w' => e = .returned (.tuple #[.agg #[.bool hSpace.page, .bool hSpace.x, .bool hSpace.need, .bool hSpace.txn, .bool hSpace.n, .bool hSpace.zero, .bool hSpace.image, .bool hSpace.entries], .bool true]) ∧ Below w.heap.size w w' := by
  go_enter Try.func22, Try.ntmps22
  go_wp2
  refine bodyPost_ret (v := .tuple #[.agg #[.bool hSpace.page, .bool hSpace.x, .bool hSpace.need, .bool hSpace.txn, .bool hSpace.n, .bool hSpace.zero, .bool hSpace.image, .bool hSpace.entries], .bool true]) (by simp [results, Try.results22, go_sem, hSpace]) rfl ?_
  exact ⟨rfl, below_box w _⟩
set_option maxRecDepth 100000 in
theorem parts_8 (need : Bool) (w : World) :
    Calls Try.prog 22 #[.int .i64 8, .bool need] w fun e w' => e = .returned (.tuple #[.agg #[.bool hSpace.page, .bool hSpace.x, .bool hSpace.need, .bool hSpace.txn, .bool hSpace.n, .bool hSpace.zero, .bool hSpace.image, .bool hSpace.entries], .bool true]) ∧ Below w.heap.size w w' := by
  go_enter Try.func22, Try.ntmps22
  go_wp2
  refine bodyPost_ret (v := .tuple #[.agg #[.bool hSpace.page, .bool hSpace.x, .bool hSpace.need, .bool hSpace.txn, .bool hSpace.n, .bool hSpace.zero, .bool hSpace.image, .bool hSpace.entries], .bool true]) (by simp [results, Try.results22, go_sem, hSpace]) rfl ?_
  exact ⟨rfl, below_box w _⟩
set_option maxRecDepth 100000 in
theorem parts_9 (need : Bool) (w : World) :
    Calls Try.prog 22 #[.int .i64 9, .bool need] w fun e w' => e = .returned (.tuple #[.agg #[.bool (hGrant need).page, .bool (hGrant need).x, .bool (hGrant need).need, .bool (hGrant need).txn, .bool (hGrant need).n, .bool (hGrant need).zero, .bool (hGrant need).image, .bool (hGrant need).entries], .bool true]) ∧ Below w.heap.size w w' := by
  go_enter Try.func22, Try.ntmps22
  go_wp2
  refine bodyPost_ret (v := .tuple #[.agg #[.bool (hGrant need).page, .bool (hGrant need).x, .bool (hGrant need).need, .bool (hGrant need).txn, .bool (hGrant need).n, .bool (hGrant need).zero, .bool (hGrant need).image, .bool (hGrant need).entries], .bool true]) (by simp [results, Try.results22, go_sem, hGrant]) rfl ?_
  exact ⟨rfl, below_box w _⟩
set_option maxRecDepth 100000 in
theorem parts_12 (need : Bool) (w : World) :
    Calls Try.prog 22 #[.int .i64 12, .bool need] w fun e w' => e = .returned (.tuple #[.agg #[.bool hNone.page, .bool hNone.x, .bool hNone.need, .bool hNone.txn, .bool hNone.n, .bool hNone.zero, .bool hNone.image, .bool hNone.entries], .bool true]) ∧ Below w.heap.size w w' := by
  go_enter Try.func22, Try.ntmps22
  go_wp2
  refine bodyPost_ret (v := .tuple #[.agg #[.bool hNone.page, .bool hNone.x, .bool hNone.need, .bool hNone.txn, .bool hNone.n, .bool hNone.zero, .bool hNone.image, .bool hNone.entries], .bool true]) (by simp [results, Try.results22, go_sem, hNone]) rfl ?_
  exact ⟨rfl, below_box w _⟩
set_option maxRecDepth 100000 in
theorem parts_13 (need : Bool) (w : World) :
    Calls Try.prog 22 #[.int .i64 13, .bool need] w fun e w' => e = .returned (.tuple #[.agg #[.bool hRoom.page, .bool hRoom.x, .bool hRoom.need, .bool hRoom.txn, .bool hRoom.n, .bool hRoom.zero, .bool hRoom.image, .bool hRoom.entries], .bool true]) ∧ Below w.heap.size w w' := by
  go_enter Try.func22, Try.ntmps22
  go_wp2
  refine bodyPost_ret (v := .tuple #[.agg #[.bool hRoom.page, .bool hRoom.x, .bool hRoom.need, .bool hRoom.txn, .bool hRoom.n, .bool hRoom.zero, .bool hRoom.image, .bool hRoom.entries], .bool true]) (by simp [results, Try.results22, go_sem, hRoom]) rfl ?_
  exact ⟨rfl, below_box w _⟩
set_option maxRecDepth 100000 in
theorem parts_none (k : Int) (hk : k < 1 ∨ 13 < k) (need : Bool) (w : World) :
    Calls Try.prog 22 #[.int .i64 k, .bool need] w fun e w' => e = .returned (.tuple #[.agg #[.bool hNone.page, .bool hNone.x, .bool hNone.need, .bool hNone.txn, .bool hNone.n, .bool hNone.zero, .bool hNone.image, .bool hNone.entries], .bool false]) ∧ Below w.heap.size w w' := by
  have t1 : (k == 1) = false := beq_eq_false_iff_ne.2 (by omega)
  have t2 : (k == 2) = false := beq_eq_false_iff_ne.2 (by omega)
  have t3 : (k == 3) = false := beq_eq_false_iff_ne.2 (by omega)
  have t4 : (k == 4) = false := beq_eq_false_iff_ne.2 (by omega)
  have t5 : (k == 5) = false := beq_eq_false_iff_ne.2 (by omega)
  have t6 : (k == 6) = false := beq_eq_false_iff_ne.2 (by omega)
  have t7 : (k == 7) = false := beq_eq_false_iff_ne.2 (by omega)
  have t8 : (k == 8) = false := beq_eq_false_iff_ne.2 (by omega)
  have t9 : (k == 9) = false := beq_eq_false_iff_ne.2 (by omega)
  have t10 : (k == 10) = false := beq_eq_false_iff_ne.2 (by omega)
  have t11 : (k == 11) = false := beq_eq_false_iff_ne.2 (by omega)
  have t12 : (k == 12) = false := beq_eq_false_iff_ne.2 (by omega)
  have t13 : (k == 13) = false := beq_eq_false_iff_ne.2 (by omega)
  go_enter Try.func22, Try.ntmps22
  go_wp2
  refine bodyPost_ret (v := .tuple #[.agg #[.bool hNone.page, .bool hNone.x, .bool hNone.need, .bool hNone.txn, .bool hNone.n, .bool hNone.zero, .bool hNone.image, .bool hNone.entries], .bool false]) (by simp [results, Try.results22, go_sem, hNone]) rfl ?_
  exact ⟨rfl, below_box w _⟩
theorem parts_any (k : Int) (need : Bool) (w : World) :
    Calls Try.prog 22 #[.int .i64 k, .bool need] w fun e w' => e = .returned (.tuple #[.agg #[.bool (partsH k need).page, .bool (partsH k need).x, .bool (partsH k need).need, .bool (partsH k need).txn, .bool (partsH k need).n, .bool (partsH k need).zero, .bool (partsH k need).image, .bool (partsH k need).entries], .bool (partsOk k)]) ∧ Below w.heap.size w w' := by
  by_cases h0 : k < 1 ∨ 13 < k
  · have e1 : partsH k need = hNone := by unfold partsH; repeat rw [if_neg (by omega)]
    have e2 : partsOk k = false := decide_eq_false (by omega)
    rw [e1, e2]; exact parts_none k h0 need w
  · have hc : k = 1 ∨ k = 2 ∨ k = 3 ∨ k = 4 ∨ k = 5 ∨ k = 6 ∨ k = 7 ∨ k = 8 ∨ k = 9 ∨ k = 10 ∨ k = 11 ∨ k = 12 ∨ k = 13 := by omega
    rcases hc with h | h | h | h | h | h | h | h | h | h | h | h | h <;> subst h
    · exact parts_1 need w
    · exact parts_2 need w
    · exact parts_3 need w
    · exact parts_4 need w
    · exact parts_5 need w
    · exact parts_6 need w
    · exact parts_7 need w
    · exact parts_8 need w
    · exact parts_9 need w
    · exact parts_10 need w
    · exact parts_11 need w
    · exact parts_12 need w
    · exact parts_13 need w
theorem wholeE_Lock (m : Ms) : wholeB m hLock = (withinB m.page 0 1023) := by unfold wholeB; simp [hLock]
set_option maxRecDepth 100000 in
set_option maxHeartbeats 1000000 in
theorem whole_Lock (m : Ms) (h : Hd) (w : World) (hi : In w m h) (_ha : h.an ≤ 1000000) (_hbn : h.bn ≤ 1000000) :
    Calls Try.prog 23 #[.agg #[.int .i64 m.kind, .int .i64 m.page, .bool m.x, .bool m.need, .int .i64 m.n, .int .i64 m.cl, .int .i64 m.ep, .int .i64 m.tn, .int .i64 m.lsn, .slice h.a h.an h.ac, .slice h.b h.bn h.bc], .agg #[.bool true, .bool true, .bool true, .bool false, .bool false, .bool false, .bool false, .bool false]] w fun e w' => e = .returned (.bool (wholeB m hLock)) ∧ Below w.heap.size w w' := by
  have HE := Lib.hid (wholeE_Lock m)
  have HI := Lib.hid hi
  clear hi
  have hb := (below_box w (.cells #[.int .i64 m.kind, .int .i64 m.page, .bool m.x, .bool m.need, .int .i64 m.n, .int .i64 m.cl, .int .i64 m.ep, .int .i64 m.tn, .int .i64 m.lsn, .slice h.a h.an h.ac, .slice h.b h.bn h.bc] 30)).trans ((below_box (w.alloc (.cells #[.int .i64 m.kind, .int .i64 m.page, .bool m.x, .bool m.need, .int .i64 m.n, .int .i64 m.cl, .int .i64 m.ep, .int .i64 m.tn, .int .i64 m.lsn, .slice h.a h.an h.ac, .slice h.b h.bn h.bc] 30)) (.cells #[.bool true, .bool true, .bool true, .bool false, .bool false, .bool false, .bool false, .bool false] 61)).mono (by simp))
  have hM := (Blk.new w 30 #[.int .i64 m.kind, .int .i64 m.page, .bool m.x, .bool m.need, .int .i64 m.n, .int .i64 m.cl, .int .i64 m.ep, .int .i64 m.tn, .int .i64 m.lsn, .slice h.a h.an h.ac, .slice h.b h.bn h.bc]).alloc (.cells #[.bool true, .bool true, .bool true, .bool false, .bool false, .bool false, .bool false, .bool false] 61)
  have hH := Blk.new (w.alloc (.cells #[.int .i64 m.kind, .int .i64 m.page, .bool m.x, .bool m.need, .int .i64 m.n, .int .i64 m.cl, .int .i64 m.ep, .int .i64 m.tn, .int .i64 m.lsn, .slice h.a h.an h.ac, .slice h.b h.bn h.bc] 30)) 61 #[.bool true, .bool true, .bool true, .bool false, .bool false, .bool false, .bool false, .bool false]
  have hs : w.heap.size + 2 ≤ ((w.alloc (.cells #[.int .i64 m.kind, .int .i64 m.page, .bool m.x, .bool m.need, .int .i64 m.n, .int .i64 m.cl, .int .i64 m.ep, .int .i64 m.tn, .int .i64 m.lsn, .slice h.a h.an h.ac, .slice h.b h.bn h.bc] 30)).alloc (.cells #[.bool true, .bool true, .bool true, .bool false, .bool false, .bool false, .bool false, .bool false] 61)).heap.size := by simp
  rw [World.size_alloc] at hH
  go_enter Try.func23, Try.ntmps23
  dsimp only [List.append]
  go_upto_region 1 with (fail)
  generalize hGen : (w.alloc (.cells #[.int .i64 m.kind, .int .i64 m.page, .bool m.x, .bool m.need, .int .i64 m.n, .int .i64 m.cl, .int .i64 m.ep, .int .i64 m.tn, .int .i64 m.lsn, .slice h.a h.an h.ac, .slice h.b h.bn h.bc] 30)).alloc (.cells #[.bool true, .bool true, .bool true, .bool false, .bool false, .bool false, .bool false, .bool false] 61) = W at hb hM hH hs ⊢
  clear hGen
  obtain ⟨ca0, ca1, ca2, ca3, ca4, ca5, ca6, ca7, ca8, ca9, ca10⟩ := msg_cells hM
  obtain ⟨da0, da1, da2, da3, da4, da5, da6, da7⟩ := has_cells hH
  have HM := Lib.hid hM
  have HH := Lib.hid hH
  clear hM hH
  go_wp2_with fail
  refine (within_any m.page 0 1023 _).mono ?_
  rintro e w' ⟨rfl, rfl⟩
  cases h0 : withinB m.page 0 1023 with
  | false =>
    have H0 := Lib.hid h0
    clear h0
    go_wp2
    go_ret
    exact ⟨ret_bool' (by rw [HE.out, H0.out] <;> first | rfl | simp), hb⟩
  | true =>
    have H0 := Lib.hid h0
    clear h0
    go_wp2
    go_ret
    exact ⟨ret_bool' (by rw [HE.out, H0.out] <;> first | rfl | simp), hb⟩
theorem bareE_Lock (m : Ms) : bareB m hLock = ((m.cl == 0 && (m.ep == 0 && m.tn == 0)) && (m.n == 0) && (m.lsn == 0) && decide (m.zs.length = 0) && decide (m.es.length = 0)) := by unfold bareB; simp [hLock, Bool.and_assoc]
set_option maxRecDepth 100000 in
set_option maxHeartbeats 1000000 in
theorem bare_Lock (m : Ms) (h : Hd) (w : World) (hi : In w m h) :
    Calls Try.prog 24 #[.agg #[.int .i64 m.kind, .int .i64 m.page, .bool m.x, .bool m.need, .int .i64 m.n, .int .i64 m.cl, .int .i64 m.ep, .int .i64 m.tn, .int .i64 m.lsn, .slice h.a h.an h.ac, .slice h.b h.bn h.bc], .agg #[.bool true, .bool true, .bool true, .bool false, .bool false, .bool false, .bool false, .bool false]] w fun e w' => e = .returned (.bool (bareB m hLock)) ∧ Below w.heap.size w w' := by
  have hE := bareE_Lock m
  rw [len_eq hi.s.len] at hE
  rw [len_eq hi.e.len] at hE
  have hQ := (show txnB m.cl m.ep m.tn 0 0 0 = (m.cl == 0 && (m.ep == 0 && m.tn == 0)) from rfl)
  rw [← hQ] at hE
  have hq := fun w => run_eq_txn m.cl m.ep m.tn 0 0 0 w
  have hgd := fun (A B : Operand) xs ys w => run_guard_txn .eql A B xs ys w
  clear hQ
  generalize txnB m.cl m.ep m.tn 0 0 0 = q at hq hE
  have HE := Lib.hid hE
  clear hi hE
  obtain ⟨kind, page, x, need, n, cl, ep, tn, lsn, zs, es⟩ := m
  obtain ⟨a, an, ac, b, bn, bc⟩ := h
  simp only at HE hq ⊢
  have hb := (below_box w (.cells #[.int .i64 kind, .int .i64 page, .bool x, .bool need, .int .i64 n, .int .i64 cl, .int .i64 ep, .int .i64 tn, .int .i64 lsn, .slice a an ac, .slice b bn bc] 30)).trans ((below_box (w.alloc (.cells #[.int .i64 kind, .int .i64 page, .bool x, .bool need, .int .i64 n, .int .i64 cl, .int .i64 ep, .int .i64 tn, .int .i64 lsn, .slice a an ac, .slice b bn bc] 30)) (.cells #[.bool true, .bool true, .bool true, .bool false, .bool false, .bool false, .bool false, .bool false] 61)).mono (by simp))
  have hM := (Blk.new w 30 #[.int .i64 kind, .int .i64 page, .bool x, .bool need, .int .i64 n, .int .i64 cl, .int .i64 ep, .int .i64 tn, .int .i64 lsn, .slice a an ac, .slice b bn bc]).alloc (.cells #[.bool true, .bool true, .bool true, .bool false, .bool false, .bool false, .bool false, .bool false] 61)
  have hH := Blk.new (w.alloc (.cells #[.int .i64 kind, .int .i64 page, .bool x, .bool need, .int .i64 n, .int .i64 cl, .int .i64 ep, .int .i64 tn, .int .i64 lsn, .slice a an ac, .slice b bn bc] 30)) 61 #[.bool true, .bool true, .bool true, .bool false, .bool false, .bool false, .bool false, .bool false]
  have hs : w.heap.size + 2 ≤ ((w.alloc (.cells #[.int .i64 kind, .int .i64 page, .bool x, .bool need, .int .i64 n, .int .i64 cl, .int .i64 ep, .int .i64 tn, .int .i64 lsn, .slice a an ac, .slice b bn bc] 30)).alloc (.cells #[.bool true, .bool true, .bool true, .bool false, .bool false, .bool false, .bool false, .bool false] 61)).heap.size := by simp
  rw [World.size_alloc] at hH
  go_enter Try.func24, Try.ntmps24
  dsimp only [List.append]
  go_upto_region 1 with (fail)
  generalize hGen : (w.alloc (.cells #[.int .i64 kind, .int .i64 page, .bool x, .bool need, .int .i64 n, .int .i64 cl, .int .i64 ep, .int .i64 tn, .int .i64 lsn, .slice a an ac, .slice b bn bc] 30)).alloc (.cells #[.bool true, .bool true, .bool true, .bool false, .bool false, .bool false, .bool false, .bool false] 61) = W at hb hM hH hs ⊢
  clear hGen
  obtain ⟨ca0, ca1, ca2, ca3, ca4, ca5, ca6, ca7, ca8, ca9, ca10⟩ := msg_cells (m := ⟨kind, page, x, need, n, cl, ep, tn, lsn, zs, es⟩) (h := ⟨a, an, ac, b, bn, bc⟩) hM
  simp only at ca0 ca1 ca2 ca3 ca4 ca5 ca6 ca7 ca8 ca9 ca10
  obtain ⟨da0, da1, da2, da3, da4, da5, da6, da7⟩ := has_cells hH
  clear hM hH
  cases q
  · skip
    go_wp2
    go_ret
    exact ⟨ret_bool' (by rw [HE.out] <;> first | rfl | simp), hb⟩
  cases t1 : (n == 0)
  · skip
    go_wp2
    go_ret
    exact ⟨ret_bool' (by rw [HE.out, t1] <;> first | rfl | simp), hb⟩
  cases t2 : (lsn == 0)
  · skip
    go_wp2
    go_ret
    exact ⟨ret_bool' (by rw [HE.out, t1, t2] <;> first | rfl | simp), hb⟩
  cases t3 : ((an : Int) == 0)
  · skip
    go_wp2
    go_ret
    exact ⟨ret_bool' (by rw [HE.out, t1, t2, t3] <;> first | rfl | simp), hb⟩
  cases t4 : ((bn : Int) == 0)
  · skip
    go_wp2
    go_ret
    exact ⟨ret_bool' (by rw [HE.out, t1, t2, t3, t4] <;> first | rfl | simp), hb⟩
  go_wp2
  go_ret
  exact ⟨ret_bool' (by rw [HE.out, t1, t2, t3, t4] <;> first | rfl | simp), hb⟩
theorem wholeE_Free (m : Ms) : wholeB m hFree = (withinB m.page 0 1023) := by unfold wholeB; simp [hFree]
set_option maxRecDepth 100000 in
set_option maxHeartbeats 1000000 in
theorem whole_Free (m : Ms) (h : Hd) (w : World) (hi : In w m h) (_ha : h.an ≤ 1000000) (_hbn : h.bn ≤ 1000000) :
    Calls Try.prog 23 #[.agg #[.int .i64 m.kind, .int .i64 m.page, .bool m.x, .bool m.need, .int .i64 m.n, .int .i64 m.cl, .int .i64 m.ep, .int .i64 m.tn, .int .i64 m.lsn, .slice h.a h.an h.ac, .slice h.b h.bn h.bc], .agg #[.bool true, .bool true, .bool false, .bool false, .bool false, .bool false, .bool false, .bool false]] w fun e w' => e = .returned (.bool (wholeB m hFree)) ∧ Below w.heap.size w w' := by
  have HE := Lib.hid (wholeE_Free m)
  have HI := Lib.hid hi
  clear hi
  have hb := (below_box w (.cells #[.int .i64 m.kind, .int .i64 m.page, .bool m.x, .bool m.need, .int .i64 m.n, .int .i64 m.cl, .int .i64 m.ep, .int .i64 m.tn, .int .i64 m.lsn, .slice h.a h.an h.ac, .slice h.b h.bn h.bc] 30)).trans ((below_box (w.alloc (.cells #[.int .i64 m.kind, .int .i64 m.page, .bool m.x, .bool m.need, .int .i64 m.n, .int .i64 m.cl, .int .i64 m.ep, .int .i64 m.tn, .int .i64 m.lsn, .slice h.a h.an h.ac, .slice h.b h.bn h.bc] 30)) (.cells #[.bool true, .bool true, .bool false, .bool false, .bool false, .bool false, .bool false, .bool false] 61)).mono (by simp))
  have hM := (Blk.new w 30 #[.int .i64 m.kind, .int .i64 m.page, .bool m.x, .bool m.need, .int .i64 m.n, .int .i64 m.cl, .int .i64 m.ep, .int .i64 m.tn, .int .i64 m.lsn, .slice h.a h.an h.ac, .slice h.b h.bn h.bc]).alloc (.cells #[.bool true, .bool true, .bool false, .bool false, .bool false, .bool false, .bool false, .bool false] 61)
  have hH := Blk.new (w.alloc (.cells #[.int .i64 m.kind, .int .i64 m.page, .bool m.x, .bool m.need, .int .i64 m.n, .int .i64 m.cl, .int .i64 m.ep, .int .i64 m.tn, .int .i64 m.lsn, .slice h.a h.an h.ac, .slice h.b h.bn h.bc] 30)) 61 #[.bool true, .bool true, .bool false, .bool false, .bool false, .bool false, .bool false, .bool false]
  have hs : w.heap.size + 2 ≤ ((w.alloc (.cells #[.int .i64 m.kind, .int .i64 m.page, .bool m.x, .bool m.need, .int .i64 m.n, .int .i64 m.cl, .int .i64 m.ep, .int .i64 m.tn, .int .i64 m.lsn, .slice h.a h.an h.ac, .slice h.b h.bn h.bc] 30)).alloc (.cells #[.bool true, .bool true, .bool false, .bool false, .bool false, .bool false, .bool false, .bool false] 61)).heap.size := by simp
  rw [World.size_alloc] at hH
  go_enter Try.func23, Try.ntmps23
  dsimp only [List.append]
  go_upto_region 1 with (fail)
  generalize hGen : (w.alloc (.cells #[.int .i64 m.kind, .int .i64 m.page, .bool m.x, .bool m.need, .int .i64 m.n, .int .i64 m.cl, .int .i64 m.ep, .int .i64 m.tn, .int .i64 m.lsn, .slice h.a h.an h.ac, .slice h.b h.bn h.bc] 30)).alloc (.cells #[.bool true, .bool true, .bool false, .bool false, .bool false, .bool false, .bool false, .bool false] 61) = W at hb hM hH hs ⊢
  clear hGen
  obtain ⟨ca0, ca1, ca2, ca3, ca4, ca5, ca6, ca7, ca8, ca9, ca10⟩ := msg_cells hM
  obtain ⟨da0, da1, da2, da3, da4, da5, da6, da7⟩ := has_cells hH
  have HM := Lib.hid hM
  have HH := Lib.hid hH
  clear hM hH
  go_wp2_with fail
  refine (within_any m.page 0 1023 _).mono ?_
  rintro e w' ⟨rfl, rfl⟩
  cases h0 : withinB m.page 0 1023 with
  | false =>
    have H0 := Lib.hid h0
    clear h0
    go_wp2
    go_ret
    exact ⟨ret_bool' (by rw [HE.out, H0.out] <;> first | rfl | simp), hb⟩
  | true =>
    have H0 := Lib.hid h0
    clear h0
    go_wp2
    go_ret
    exact ⟨ret_bool' (by rw [HE.out, H0.out] <;> first | rfl | simp), hb⟩
theorem bareE_Free (m : Ms) : bareB m hFree = (!m.need && (m.cl == 0 && (m.ep == 0 && m.tn == 0)) && (m.n == 0) && (m.lsn == 0) && decide (m.zs.length = 0) && decide (m.es.length = 0)) := by unfold bareB; simp [hFree, Bool.and_assoc]
set_option maxRecDepth 100000 in
set_option maxHeartbeats 1000000 in
theorem bare_Free (m : Ms) (h : Hd) (w : World) (hi : In w m h) :
    Calls Try.prog 24 #[.agg #[.int .i64 m.kind, .int .i64 m.page, .bool m.x, .bool m.need, .int .i64 m.n, .int .i64 m.cl, .int .i64 m.ep, .int .i64 m.tn, .int .i64 m.lsn, .slice h.a h.an h.ac, .slice h.b h.bn h.bc], .agg #[.bool true, .bool true, .bool false, .bool false, .bool false, .bool false, .bool false, .bool false]] w fun e w' => e = .returned (.bool (bareB m hFree)) ∧ Below w.heap.size w w' := by
  have hE := bareE_Free m
  rw [len_eq hi.s.len] at hE
  rw [len_eq hi.e.len] at hE
  have hQ := (show txnB m.cl m.ep m.tn 0 0 0 = (m.cl == 0 && (m.ep == 0 && m.tn == 0)) from rfl)
  rw [← hQ] at hE
  have hq := fun w => run_eq_txn m.cl m.ep m.tn 0 0 0 w
  have hgd := fun (A B : Operand) xs ys w => run_guard_txn .eql A B xs ys w
  clear hQ
  generalize txnB m.cl m.ep m.tn 0 0 0 = q at hq hE
  have HE := Lib.hid hE
  clear hi hE
  obtain ⟨kind, page, x, need, n, cl, ep, tn, lsn, zs, es⟩ := m
  obtain ⟨a, an, ac, b, bn, bc⟩ := h
  simp only at HE hq ⊢
  have hb := (below_box w (.cells #[.int .i64 kind, .int .i64 page, .bool x, .bool need, .int .i64 n, .int .i64 cl, .int .i64 ep, .int .i64 tn, .int .i64 lsn, .slice a an ac, .slice b bn bc] 30)).trans ((below_box (w.alloc (.cells #[.int .i64 kind, .int .i64 page, .bool x, .bool need, .int .i64 n, .int .i64 cl, .int .i64 ep, .int .i64 tn, .int .i64 lsn, .slice a an ac, .slice b bn bc] 30)) (.cells #[.bool true, .bool true, .bool false, .bool false, .bool false, .bool false, .bool false, .bool false] 61)).mono (by simp))
  have hM := (Blk.new w 30 #[.int .i64 kind, .int .i64 page, .bool x, .bool need, .int .i64 n, .int .i64 cl, .int .i64 ep, .int .i64 tn, .int .i64 lsn, .slice a an ac, .slice b bn bc]).alloc (.cells #[.bool true, .bool true, .bool false, .bool false, .bool false, .bool false, .bool false, .bool false] 61)
  have hH := Blk.new (w.alloc (.cells #[.int .i64 kind, .int .i64 page, .bool x, .bool need, .int .i64 n, .int .i64 cl, .int .i64 ep, .int .i64 tn, .int .i64 lsn, .slice a an ac, .slice b bn bc] 30)) 61 #[.bool true, .bool true, .bool false, .bool false, .bool false, .bool false, .bool false, .bool false]
  have hs : w.heap.size + 2 ≤ ((w.alloc (.cells #[.int .i64 kind, .int .i64 page, .bool x, .bool need, .int .i64 n, .int .i64 cl, .int .i64 ep, .int .i64 tn, .int .i64 lsn, .slice a an ac, .slice b bn bc] 30)).alloc (.cells #[.bool true, .bool true, .bool false, .bool false, .bool false, .bool false, .bool false, .bool false] 61)).heap.size := by simp
  rw [World.size_alloc] at hH
  go_enter Try.func24, Try.ntmps24
  dsimp only [List.append]
  go_upto_region 1 with (fail)
  generalize hGen : (w.alloc (.cells #[.int .i64 kind, .int .i64 page, .bool x, .bool need, .int .i64 n, .int .i64 cl, .int .i64 ep, .int .i64 tn, .int .i64 lsn, .slice a an ac, .slice b bn bc] 30)).alloc (.cells #[.bool true, .bool true, .bool false, .bool false, .bool false, .bool false, .bool false, .bool false] 61) = W at hb hM hH hs ⊢
  clear hGen
  obtain ⟨ca0, ca1, ca2, ca3, ca4, ca5, ca6, ca7, ca8, ca9, ca10⟩ := msg_cells (m := ⟨kind, page, x, need, n, cl, ep, tn, lsn, zs, es⟩) (h := ⟨a, an, ac, b, bn, bc⟩) hM
  simp only at ca0 ca1 ca2 ca3 ca4 ca5 ca6 ca7 ca8 ca9 ca10
  obtain ⟨da0, da1, da2, da3, da4, da5, da6, da7⟩ := has_cells hH
  clear hM hH
  cases need
  rotate_left
  · skip
    go_wp2
    go_ret
    exact ⟨ret_bool' (by rw [HE.out] <;> first | rfl | simp), hb⟩
  cases q
  · skip
    go_wp2
    go_ret
    exact ⟨ret_bool' (by rw [HE.out] <;> first | rfl | simp), hb⟩
  cases t2 : (n == 0)
  · skip
    go_wp2
    go_ret
    exact ⟨ret_bool' (by rw [HE.out, t2] <;> first | rfl | simp), hb⟩
  cases t3 : (lsn == 0)
  · skip
    go_wp2
    go_ret
    exact ⟨ret_bool' (by rw [HE.out, t2, t3] <;> first | rfl | simp), hb⟩
  cases t4 : ((an : Int) == 0)
  · skip
    go_wp2
    go_ret
    exact ⟨ret_bool' (by rw [HE.out, t2, t3, t4] <;> first | rfl | simp), hb⟩
  cases t5 : ((bn : Int) == 0)
  · skip
    go_wp2
    go_ret
    exact ⟨ret_bool' (by rw [HE.out, t2, t3, t4, t5] <;> first | rfl | simp), hb⟩
  go_wp2
  go_ret
  exact ⟨ret_bool' (by rw [HE.out, t2, t3, t4, t5] <;> first | rfl | simp), hb⟩
theorem wholeE_Use (m : Ms) : wholeB m hUse = (withinB m.page 0 1023) := by unfold wholeB; simp [hUse]
set_option maxRecDepth 100000 in
set_option maxHeartbeats 1000000 in
theorem whole_Use (m : Ms) (h : Hd) (w : World) (hi : In w m h) (_ha : h.an ≤ 1000000) (_hbn : h.bn ≤ 1000000) :
    Calls Try.prog 23 #[.agg #[.int .i64 m.kind, .int .i64 m.page, .bool m.x, .bool m.need, .int .i64 m.n, .int .i64 m.cl, .int .i64 m.ep, .int .i64 m.tn, .int .i64 m.lsn, .slice h.a h.an h.ac, .slice h.b h.bn h.bc], .agg #[.bool true, .bool false, .bool false, .bool false, .bool false, .bool false, .bool false, .bool false]] w fun e w' => e = .returned (.bool (wholeB m hUse)) ∧ Below w.heap.size w w' := by
  have HE := Lib.hid (wholeE_Use m)
  have HI := Lib.hid hi
  clear hi
  have hb := (below_box w (.cells #[.int .i64 m.kind, .int .i64 m.page, .bool m.x, .bool m.need, .int .i64 m.n, .int .i64 m.cl, .int .i64 m.ep, .int .i64 m.tn, .int .i64 m.lsn, .slice h.a h.an h.ac, .slice h.b h.bn h.bc] 30)).trans ((below_box (w.alloc (.cells #[.int .i64 m.kind, .int .i64 m.page, .bool m.x, .bool m.need, .int .i64 m.n, .int .i64 m.cl, .int .i64 m.ep, .int .i64 m.tn, .int .i64 m.lsn, .slice h.a h.an h.ac, .slice h.b h.bn h.bc] 30)) (.cells #[.bool true, .bool false, .bool false, .bool false, .bool false, .bool false, .bool false, .bool false] 61)).mono (by simp))
  have hM := (Blk.new w 30 #[.int .i64 m.kind, .int .i64 m.page, .bool m.x, .bool m.need, .int .i64 m.n, .int .i64 m.cl, .int .i64 m.ep, .int .i64 m.tn, .int .i64 m.lsn, .slice h.a h.an h.ac, .slice h.b h.bn h.bc]).alloc (.cells #[.bool true, .bool false, .bool false, .bool false, .bool false, .bool false, .bool false, .bool false] 61)
  have hH := Blk.new (w.alloc (.cells #[.int .i64 m.kind, .int .i64 m.page, .bool m.x, .bool m.need, .int .i64 m.n, .int .i64 m.cl, .int .i64 m.ep, .int .i64 m.tn, .int .i64 m.lsn, .slice h.a h.an h.ac, .slice h.b h.bn h.bc] 30)) 61 #[.bool true, .bool false, .bool false, .bool false, .bool false, .bool false, .bool false, .bool false]
  have hs : w.heap.size + 2 ≤ ((w.alloc (.cells #[.int .i64 m.kind, .int .i64 m.page, .bool m.x, .bool m.need, .int .i64 m.n, .int .i64 m.cl, .int .i64 m.ep, .int .i64 m.tn, .int .i64 m.lsn, .slice h.a h.an h.ac, .slice h.b h.bn h.bc] 30)).alloc (.cells #[.bool true, .bool false, .bool false, .bool false, .bool false, .bool false, .bool false, .bool false] 61)).heap.size := by simp
  rw [World.size_alloc] at hH
  go_enter Try.func23, Try.ntmps23
  dsimp only [List.append]
  go_upto_region 1 with (fail)
  generalize hGen : (w.alloc (.cells #[.int .i64 m.kind, .int .i64 m.page, .bool m.x, .bool m.need, .int .i64 m.n, .int .i64 m.cl, .int .i64 m.ep, .int .i64 m.tn, .int .i64 m.lsn, .slice h.a h.an h.ac, .slice h.b h.bn h.bc] 30)).alloc (.cells #[.bool true, .bool false, .bool false, .bool false, .bool false, .bool false, .bool false, .bool false] 61) = W at hb hM hH hs ⊢
  clear hGen
  obtain ⟨ca0, ca1, ca2, ca3, ca4, ca5, ca6, ca7, ca8, ca9, ca10⟩ := msg_cells hM
  obtain ⟨da0, da1, da2, da3, da4, da5, da6, da7⟩ := has_cells hH
  have HM := Lib.hid hM
  have HH := Lib.hid hH
  clear hM hH
  go_wp2_with fail
  refine (within_any m.page 0 1023 _).mono ?_
  rintro e w' ⟨rfl, rfl⟩
  cases h0 : withinB m.page 0 1023 with
  | false =>
    have H0 := Lib.hid h0
    clear h0
    go_wp2
    go_ret
    exact ⟨ret_bool' (by rw [HE.out, H0.out] <;> first | rfl | simp), hb⟩
  | true =>
    have H0 := Lib.hid h0
    clear h0
    go_wp2
    go_ret
    exact ⟨ret_bool' (by rw [HE.out, H0.out] <;> first | rfl | simp), hb⟩
theorem bareE_Use (m : Ms) : bareB m hUse = (!m.x && !m.need && (m.cl == 0 && (m.ep == 0 && m.tn == 0)) && (m.n == 0) && (m.lsn == 0) && decide (m.zs.length = 0) && decide (m.es.length = 0)) := by unfold bareB; simp [hUse, Bool.and_assoc]
set_option maxRecDepth 100000 in
set_option maxHeartbeats 1000000 in
theorem bare_Use (m : Ms) (h : Hd) (w : World) (hi : In w m h) :
    Calls Try.prog 24 #[.agg #[.int .i64 m.kind, .int .i64 m.page, .bool m.x, .bool m.need, .int .i64 m.n, .int .i64 m.cl, .int .i64 m.ep, .int .i64 m.tn, .int .i64 m.lsn, .slice h.a h.an h.ac, .slice h.b h.bn h.bc], .agg #[.bool true, .bool false, .bool false, .bool false, .bool false, .bool false, .bool false, .bool false]] w fun e w' => e = .returned (.bool (bareB m hUse)) ∧ Below w.heap.size w w' := by
  have hE := bareE_Use m
  rw [len_eq hi.s.len] at hE
  rw [len_eq hi.e.len] at hE
  have hQ := (show txnB m.cl m.ep m.tn 0 0 0 = (m.cl == 0 && (m.ep == 0 && m.tn == 0)) from rfl)
  rw [← hQ] at hE
  have hq := fun w => run_eq_txn m.cl m.ep m.tn 0 0 0 w
  have hgd := fun (A B : Operand) xs ys w => run_guard_txn .eql A B xs ys w
  clear hQ
  generalize txnB m.cl m.ep m.tn 0 0 0 = q at hq hE
  have HE := Lib.hid hE
  clear hi hE
  obtain ⟨kind, page, x, need, n, cl, ep, tn, lsn, zs, es⟩ := m
  obtain ⟨a, an, ac, b, bn, bc⟩ := h
  simp only at HE hq ⊢
  have hb := (below_box w (.cells #[.int .i64 kind, .int .i64 page, .bool x, .bool need, .int .i64 n, .int .i64 cl, .int .i64 ep, .int .i64 tn, .int .i64 lsn, .slice a an ac, .slice b bn bc] 30)).trans ((below_box (w.alloc (.cells #[.int .i64 kind, .int .i64 page, .bool x, .bool need, .int .i64 n, .int .i64 cl, .int .i64 ep, .int .i64 tn, .int .i64 lsn, .slice a an ac, .slice b bn bc] 30)) (.cells #[.bool true, .bool false, .bool false, .bool false, .bool false, .bool false, .bool false, .bool false] 61)).mono (by simp))
  have hM := (Blk.new w 30 #[.int .i64 kind, .int .i64 page, .bool x, .bool need, .int .i64 n, .int .i64 cl, .int .i64 ep, .int .i64 tn, .int .i64 lsn, .slice a an ac, .slice b bn bc]).alloc (.cells #[.bool true, .bool false, .bool false, .bool false, .bool false, .bool false, .bool false, .bool false] 61)
  have hH := Blk.new (w.alloc (.cells #[.int .i64 kind, .int .i64 page, .bool x, .bool need, .int .i64 n, .int .i64 cl, .int .i64 ep, .int .i64 tn, .int .i64 lsn, .slice a an ac, .slice b bn bc] 30)) 61 #[.bool true, .bool false, .bool false, .bool false, .bool false, .bool false, .bool false, .bool false]
  have hs : w.heap.size + 2 ≤ ((w.alloc (.cells #[.int .i64 kind, .int .i64 page, .bool x, .bool need, .int .i64 n, .int .i64 cl, .int .i64 ep, .int .i64 tn, .int .i64 lsn, .slice a an ac, .slice b bn bc] 30)).alloc (.cells #[.bool true, .bool false, .bool false, .bool false, .bool false, .bool false, .bool false, .bool false] 61)).heap.size := by simp
  rw [World.size_alloc] at hH
  go_enter Try.func24, Try.ntmps24
  dsimp only [List.append]
  go_upto_region 1 with (fail)
  generalize hGen : (w.alloc (.cells #[.int .i64 kind, .int .i64 page, .bool x, .bool need, .int .i64 n, .int .i64 cl, .int .i64 ep, .int .i64 tn, .int .i64 lsn, .slice a an ac, .slice b bn bc] 30)).alloc (.cells #[.bool true, .bool false, .bool false, .bool false, .bool false, .bool false, .bool false, .bool false] 61) = W at hb hM hH hs ⊢
  clear hGen
  obtain ⟨ca0, ca1, ca2, ca3, ca4, ca5, ca6, ca7, ca8, ca9, ca10⟩ := msg_cells (m := ⟨kind, page, x, need, n, cl, ep, tn, lsn, zs, es⟩) (h := ⟨a, an, ac, b, bn, bc⟩) hM
  simp only at ca0 ca1 ca2 ca3 ca4 ca5 ca6 ca7 ca8 ca9 ca10
  obtain ⟨da0, da1, da2, da3, da4, da5, da6, da7⟩ := has_cells hH
  clear hM hH
  cases x
  rotate_left
  · skip
    go_wp2
    go_ret
    exact ⟨ret_bool' (by rw [HE.out] <;> first | rfl | simp), hb⟩
  cases need
  rotate_left
  · skip
    go_wp2
    go_ret
    exact ⟨ret_bool' (by rw [HE.out] <;> first | rfl | simp), hb⟩
  cases q
  · skip
    go_wp2
    go_ret
    exact ⟨ret_bool' (by rw [HE.out] <;> first | rfl | simp), hb⟩
  cases t3 : (n == 0)
  · skip
    go_wp2
    go_ret
    exact ⟨ret_bool' (by rw [HE.out, t3] <;> first | rfl | simp), hb⟩
  cases t4 : (lsn == 0)
  · skip
    go_wp2
    go_ret
    exact ⟨ret_bool' (by rw [HE.out, t3, t4] <;> first | rfl | simp), hb⟩
  cases t5 : ((an : Int) == 0)
  · skip
    go_wp2
    go_ret
    exact ⟨ret_bool' (by rw [HE.out, t3, t4, t5] <;> first | rfl | simp), hb⟩
  cases t6 : ((bn : Int) == 0)
  · skip
    go_wp2
    go_ret
    exact ⟨ret_bool' (by rw [HE.out, t3, t4, t5, t6] <;> first | rfl | simp), hb⟩
  go_wp2
  go_ret
  exact ⟨ret_bool' (by rw [HE.out, t3, t4, t5, t6] <;> first | rfl | simp), hb⟩
theorem wholeE_Log (m : Ms) : wholeB m hLog = (withinB m.es.length 1 16 && !m.es.any wrongE) := by unfold wholeB; simp [hLog]; rfl
set_option maxRecDepth 100000 in
set_option maxHeartbeats 1000000 in
theorem whole_Log (m : Ms) (h : Hd) (w : World) (hi : In w m h) (_ha : h.an ≤ 1000000) (hbn : h.bn ≤ 1000000) :
    Calls Try.prog 23 #[.agg #[.int .i64 m.kind, .int .i64 m.page, .bool m.x, .bool m.need, .int .i64 m.n, .int .i64 m.cl, .int .i64 m.ep, .int .i64 m.tn, .int .i64 m.lsn, .slice h.a h.an h.ac, .slice h.b h.bn h.bc], .agg #[.bool false, .bool false, .bool false, .bool false, .bool false, .bool false, .bool false, .bool true]] w fun e w' => e = .returned (.bool (wholeB m hLog)) ∧ Below w.heap.size w w' := by
  have HE := Lib.hid (wholeE_Log m)
  have HI := Lib.hid hi
  clear hi
  have hb := (below_box w (.cells #[.int .i64 m.kind, .int .i64 m.page, .bool m.x, .bool m.need, .int .i64 m.n, .int .i64 m.cl, .int .i64 m.ep, .int .i64 m.tn, .int .i64 m.lsn, .slice h.a h.an h.ac, .slice h.b h.bn h.bc] 30)).trans ((below_box (w.alloc (.cells #[.int .i64 m.kind, .int .i64 m.page, .bool m.x, .bool m.need, .int .i64 m.n, .int .i64 m.cl, .int .i64 m.ep, .int .i64 m.tn, .int .i64 m.lsn, .slice h.a h.an h.ac, .slice h.b h.bn h.bc] 30)) (.cells #[.bool false, .bool false, .bool false, .bool false, .bool false, .bool false, .bool false, .bool true] 61)).mono (by simp))
  have hM := (Blk.new w 30 #[.int .i64 m.kind, .int .i64 m.page, .bool m.x, .bool m.need, .int .i64 m.n, .int .i64 m.cl, .int .i64 m.ep, .int .i64 m.tn, .int .i64 m.lsn, .slice h.a h.an h.ac, .slice h.b h.bn h.bc]).alloc (.cells #[.bool false, .bool false, .bool false, .bool false, .bool false, .bool false, .bool false, .bool true] 61)
  have hH := Blk.new (w.alloc (.cells #[.int .i64 m.kind, .int .i64 m.page, .bool m.x, .bool m.need, .int .i64 m.n, .int .i64 m.cl, .int .i64 m.ep, .int .i64 m.tn, .int .i64 m.lsn, .slice h.a h.an h.ac, .slice h.b h.bn h.bc] 30)) 61 #[.bool false, .bool false, .bool false, .bool false, .bool false, .bool false, .bool false, .bool true]
  have hs : w.heap.size + 2 ≤ ((w.alloc (.cells #[.int .i64 m.kind, .int .i64 m.page, .bool m.x, .bool m.need, .int .i64 m.n, .int .i64 m.cl, .int .i64 m.ep, .int .i64 m.tn, .int .i64 m.lsn, .slice h.a h.an h.ac, .slice h.b h.bn h.bc] 30)).alloc (.cells #[.bool false, .bool false, .bool false, .bool false, .bool false, .bool false, .bool false, .bool true] 61)).heap.size := by simp
  rw [World.size_alloc] at hH
  go_enter Try.func23, Try.ntmps23
  dsimp only [List.append]
  go_upto_region 1 with (fail)
  generalize hGen : (w.alloc (.cells #[.int .i64 m.kind, .int .i64 m.page, .bool m.x, .bool m.need, .int .i64 m.n, .int .i64 m.cl, .int .i64 m.ep, .int .i64 m.tn, .int .i64 m.lsn, .slice h.a h.an h.ac, .slice h.b h.bn h.bc] 30)).alloc (.cells #[.bool false, .bool false, .bool false, .bool false, .bool false, .bool false, .bool false, .bool true] 61) = W at hb hM hH hs ⊢
  clear hGen
  obtain ⟨ca0, ca1, ca2, ca3, ca4, ca5, ca6, ca7, ca8, ca9, ca10⟩ := msg_cells hM
  obtain ⟨da0, da1, da2, da3, da4, da5, da6, da7⟩ := has_cells hH
  have HM := Lib.hid hM
  have HH := Lib.hid hH
  clear hM hH
  have hlen : m.es.length = h.bn := HI.out.e.len
  go_wp2_with fail
  refine (within_any h.bn 1 16 _).mono ?_
  rintro e w' ⟨rfl, rfl⟩
  cases h0 : withinB h.bn 1 16 with
  | false =>
    have H0 := Lib.hid (show withinB m.es.length 1 16 = false from by rw [HI.out.e.len]; exact h0)
    clear h0
    go_wp2
    go_ret
    exact ⟨ret_bool' (by rw [HE.out, H0.out] <;> first | rfl | simp), hb⟩
  | true =>
    have H0 := Lib.hid (show withinB m.es.length 1 16 = true from by rw [HI.out.e.len]; exact h0)
    clear h0
    go_wp2_with fail
    refine (contains_any h.b h.bn h.bc m.es _ (HI.out.below hb).e hbn).mono ?_
    rintro e w1 ⟨rfl, b1⟩
    have hM1 := HM.out.below b1 (by omega)
    have hH1 := HH.out.below b1 (by omega)
    have hb1 := below_next hb b1
    have hs1 := Nat.le_trans hs b1.size
    clear ca0 ca1 ca2 ca3 ca4 ca5 ca6 ca7 ca8 ca9 ca10 da0 da1 da2 da3 da4 da5 da6 da7
    obtain ⟨cb0, cb1, cb2, cb3, cb4, cb5, cb6, cb7, cb8, cb9, cb10⟩ := msg_cells hM1
    obtain ⟨db0, db1, db2, db3, db4, db5, db6, db7⟩ := has_cells hH1
    have HM1 := Lib.hid hM1
    have HH1 := Lib.hid hH1
    clear hM1 hH1
    clear b1
    cases h1 : m.es.any wrongE with
    | true =>
      have H1 := Lib.hid h1
      clear h1
      go_wp2
      go_ret
      exact ⟨ret_bool' (by rw [HE.out, H0.out, H1.out] <;> first | rfl | simp), hb1⟩
    | false =>
      have H1 := Lib.hid h1
      clear h1
      go_wp2
      go_ret
      exact ⟨ret_bool' (by rw [HE.out, H0.out, H1.out] <;> first | rfl | simp), hb1⟩
theorem bareE_Log (m : Ms) : bareB m hLog = ((m.page == 0) && !m.x && !m.need && (m.cl == 0 && (m.ep == 0 && m.tn == 0)) && (m.n == 0) && (m.lsn == 0) && decide (m.zs.length = 0)) := by unfold bareB; simp [hLog, Bool.and_assoc]
set_option maxRecDepth 100000 in
set_option maxHeartbeats 1000000 in
theorem bare_Log (m : Ms) (h : Hd) (w : World) (hi : In w m h) :
    Calls Try.prog 24 #[.agg #[.int .i64 m.kind, .int .i64 m.page, .bool m.x, .bool m.need, .int .i64 m.n, .int .i64 m.cl, .int .i64 m.ep, .int .i64 m.tn, .int .i64 m.lsn, .slice h.a h.an h.ac, .slice h.b h.bn h.bc], .agg #[.bool false, .bool false, .bool false, .bool false, .bool false, .bool false, .bool false, .bool true]] w fun e w' => e = .returned (.bool (bareB m hLog)) ∧ Below w.heap.size w w' := by
  have hE := bareE_Log m
  rw [len_eq hi.s.len] at hE
  have hQ := (show txnB m.cl m.ep m.tn 0 0 0 = (m.cl == 0 && (m.ep == 0 && m.tn == 0)) from rfl)
  rw [← hQ] at hE
  have hq := fun w => run_eq_txn m.cl m.ep m.tn 0 0 0 w
  have hgd := fun (A B : Operand) xs ys w => run_guard_txn .eql A B xs ys w
  clear hQ
  generalize txnB m.cl m.ep m.tn 0 0 0 = q at hq hE
  have HE := Lib.hid hE
  clear hi hE
  obtain ⟨kind, page, x, need, n, cl, ep, tn, lsn, zs, es⟩ := m
  obtain ⟨a, an, ac, b, bn, bc⟩ := h
  simp only at HE hq ⊢
  have hb := (below_box w (.cells #[.int .i64 kind, .int .i64 page, .bool x, .bool need, .int .i64 n, .int .i64 cl, .int .i64 ep, .int .i64 tn, .int .i64 lsn, .slice a an ac, .slice b bn bc] 30)).trans ((below_box (w.alloc (.cells #[.int .i64 kind, .int .i64 page, .bool x, .bool need, .int .i64 n, .int .i64 cl, .int .i64 ep, .int .i64 tn, .int .i64 lsn, .slice a an ac, .slice b bn bc] 30)) (.cells #[.bool false, .bool false, .bool false, .bool false, .bool false, .bool false, .bool false, .bool true] 61)).mono (by simp))
  have hM := (Blk.new w 30 #[.int .i64 kind, .int .i64 page, .bool x, .bool need, .int .i64 n, .int .i64 cl, .int .i64 ep, .int .i64 tn, .int .i64 lsn, .slice a an ac, .slice b bn bc]).alloc (.cells #[.bool false, .bool false, .bool false, .bool false, .bool false, .bool false, .bool false, .bool true] 61)
  have hH := Blk.new (w.alloc (.cells #[.int .i64 kind, .int .i64 page, .bool x, .bool need, .int .i64 n, .int .i64 cl, .int .i64 ep, .int .i64 tn, .int .i64 lsn, .slice a an ac, .slice b bn bc] 30)) 61 #[.bool false, .bool false, .bool false, .bool false, .bool false, .bool false, .bool false, .bool true]
  have hs : w.heap.size + 2 ≤ ((w.alloc (.cells #[.int .i64 kind, .int .i64 page, .bool x, .bool need, .int .i64 n, .int .i64 cl, .int .i64 ep, .int .i64 tn, .int .i64 lsn, .slice a an ac, .slice b bn bc] 30)).alloc (.cells #[.bool false, .bool false, .bool false, .bool false, .bool false, .bool false, .bool false, .bool true] 61)).heap.size := by simp
  rw [World.size_alloc] at hH
  go_enter Try.func24, Try.ntmps24
  dsimp only [List.append]
  go_upto_region 1 with (fail)
  generalize hGen : (w.alloc (.cells #[.int .i64 kind, .int .i64 page, .bool x, .bool need, .int .i64 n, .int .i64 cl, .int .i64 ep, .int .i64 tn, .int .i64 lsn, .slice a an ac, .slice b bn bc] 30)).alloc (.cells #[.bool false, .bool false, .bool false, .bool false, .bool false, .bool false, .bool false, .bool true] 61) = W at hb hM hH hs ⊢
  clear hGen
  obtain ⟨ca0, ca1, ca2, ca3, ca4, ca5, ca6, ca7, ca8, ca9, ca10⟩ := msg_cells (m := ⟨kind, page, x, need, n, cl, ep, tn, lsn, zs, es⟩) (h := ⟨a, an, ac, b, bn, bc⟩) hM
  simp only at ca0 ca1 ca2 ca3 ca4 ca5 ca6 ca7 ca8 ca9 ca10
  obtain ⟨da0, da1, da2, da3, da4, da5, da6, da7⟩ := has_cells hH
  clear hM hH
  cases t0 : (page == 0)
  · skip
    go_wp2
    go_ret
    exact ⟨ret_bool' (by rw [HE.out, t0] <;> first | rfl | simp), hb⟩
  cases x
  rotate_left
  · skip
    go_wp2
    go_ret
    exact ⟨ret_bool' (by rw [HE.out, t0] <;> first | rfl | simp), hb⟩
  cases need
  rotate_left
  · skip
    go_wp2
    go_ret
    exact ⟨ret_bool' (by rw [HE.out, t0] <;> first | rfl | simp), hb⟩
  cases q
  · skip
    go_wp2
    go_ret
    exact ⟨ret_bool' (by rw [HE.out, t0] <;> first | rfl | simp), hb⟩
  cases t4 : (n == 0)
  · skip
    go_wp2
    go_ret
    exact ⟨ret_bool' (by rw [HE.out, t0, t4] <;> first | rfl | simp), hb⟩
  cases t5 : (lsn == 0)
  · skip
    go_wp2
    go_ret
    exact ⟨ret_bool' (by rw [HE.out, t0, t4, t5] <;> first | rfl | simp), hb⟩
  cases t6 : ((an : Int) == 0)
  · skip
    go_wp2
    go_ret
    exact ⟨ret_bool' (by rw [HE.out, t0, t4, t5, t6] <;> first | rfl | simp), hb⟩
  go_wp2
  go_ret
  exact ⟨ret_bool' (by rw [HE.out, t0, t4, t5, t6] <;> first | rfl | simp), hb⟩
theorem wholeE_Image (m : Ms) : wholeB m hImage = (withinB m.page 0 1023 && Slab.goodB m.lsn m.zs) := by unfold wholeB; simp [hImage]
set_option maxRecDepth 100000 in
set_option maxHeartbeats 1000000 in
theorem whole_Image (m : Ms) (h : Hd) (w : World) (hi : In w m h) (ha : h.an ≤ 1000000) (_hbn : h.bn ≤ 1000000) :
    Calls Try.prog 23 #[.agg #[.int .i64 m.kind, .int .i64 m.page, .bool m.x, .bool m.need, .int .i64 m.n, .int .i64 m.cl, .int .i64 m.ep, .int .i64 m.tn, .int .i64 m.lsn, .slice h.a h.an h.ac, .slice h.b h.bn h.bc], .agg #[.bool true, .bool false, .bool false, .bool false, .bool false, .bool false, .bool true, .bool false]] w fun e w' => e = .returned (.bool (wholeB m hImage)) ∧ Below w.heap.size w w' := by
  have HE := Lib.hid (wholeE_Image m)
  have HI := Lib.hid hi
  clear hi
  have hb := (below_box w (.cells #[.int .i64 m.kind, .int .i64 m.page, .bool m.x, .bool m.need, .int .i64 m.n, .int .i64 m.cl, .int .i64 m.ep, .int .i64 m.tn, .int .i64 m.lsn, .slice h.a h.an h.ac, .slice h.b h.bn h.bc] 30)).trans ((below_box (w.alloc (.cells #[.int .i64 m.kind, .int .i64 m.page, .bool m.x, .bool m.need, .int .i64 m.n, .int .i64 m.cl, .int .i64 m.ep, .int .i64 m.tn, .int .i64 m.lsn, .slice h.a h.an h.ac, .slice h.b h.bn h.bc] 30)) (.cells #[.bool true, .bool false, .bool false, .bool false, .bool false, .bool false, .bool true, .bool false] 61)).mono (by simp))
  have hM := (Blk.new w 30 #[.int .i64 m.kind, .int .i64 m.page, .bool m.x, .bool m.need, .int .i64 m.n, .int .i64 m.cl, .int .i64 m.ep, .int .i64 m.tn, .int .i64 m.lsn, .slice h.a h.an h.ac, .slice h.b h.bn h.bc]).alloc (.cells #[.bool true, .bool false, .bool false, .bool false, .bool false, .bool false, .bool true, .bool false] 61)
  have hH := Blk.new (w.alloc (.cells #[.int .i64 m.kind, .int .i64 m.page, .bool m.x, .bool m.need, .int .i64 m.n, .int .i64 m.cl, .int .i64 m.ep, .int .i64 m.tn, .int .i64 m.lsn, .slice h.a h.an h.ac, .slice h.b h.bn h.bc] 30)) 61 #[.bool true, .bool false, .bool false, .bool false, .bool false, .bool false, .bool true, .bool false]
  have hs : w.heap.size + 2 ≤ ((w.alloc (.cells #[.int .i64 m.kind, .int .i64 m.page, .bool m.x, .bool m.need, .int .i64 m.n, .int .i64 m.cl, .int .i64 m.ep, .int .i64 m.tn, .int .i64 m.lsn, .slice h.a h.an h.ac, .slice h.b h.bn h.bc] 30)).alloc (.cells #[.bool true, .bool false, .bool false, .bool false, .bool false, .bool false, .bool true, .bool false] 61)).heap.size := by simp
  rw [World.size_alloc] at hH
  go_enter Try.func23, Try.ntmps23
  dsimp only [List.append]
  go_upto_region 1 with (fail)
  generalize hGen : (w.alloc (.cells #[.int .i64 m.kind, .int .i64 m.page, .bool m.x, .bool m.need, .int .i64 m.n, .int .i64 m.cl, .int .i64 m.ep, .int .i64 m.tn, .int .i64 m.lsn, .slice h.a h.an h.ac, .slice h.b h.bn h.bc] 30)).alloc (.cells #[.bool true, .bool false, .bool false, .bool false, .bool false, .bool false, .bool true, .bool false] 61) = W at hb hM hH hs ⊢
  clear hGen
  obtain ⟨ca0, ca1, ca2, ca3, ca4, ca5, ca6, ca7, ca8, ca9, ca10⟩ := msg_cells hM
  obtain ⟨da0, da1, da2, da3, da4, da5, da6, da7⟩ := has_cells hH
  have HM := Lib.hid hM
  have HH := Lib.hid hH
  clear hM hH
  go_wp2_with fail
  refine (within_any m.page 0 1023 _).mono ?_
  rintro e w' ⟨rfl, rfl⟩
  cases h0 : withinB m.page 0 1023 with
  | false =>
    have H0 := Lib.hid h0
    clear h0
    go_wp2
    go_ret
    exact ⟨ret_bool' (by rw [HE.out, H0.out] <;> first | rfl | simp), hb⟩
  | true =>
    have H0 := Lib.hid h0
    clear h0
    go_wp2_with fail
    refine (Slab.good_any m.lsn h.a h.an h.ac m.zs _ (HI.out.below hb).s ha).mono ?_
    rintro e w1 ⟨rfl, b1⟩
    have hM1 := HM.out.below b1 (by omega)
    have hH1 := HH.out.below b1 (by omega)
    have hb1 := below_next hb b1
    have hs1 := Nat.le_trans hs b1.size
    clear ca0 ca1 ca2 ca3 ca4 ca5 ca6 ca7 ca8 ca9 ca10 da0 da1 da2 da3 da4 da5 da6 da7
    obtain ⟨cb0, cb1, cb2, cb3, cb4, cb5, cb6, cb7, cb8, cb9, cb10⟩ := msg_cells hM1
    obtain ⟨db0, db1, db2, db3, db4, db5, db6, db7⟩ := has_cells hH1
    have HM1 := Lib.hid hM1
    have HH1 := Lib.hid hH1
    clear hM1 hH1
    clear b1
    cases h1 : Slab.goodB m.lsn m.zs with
    | false =>
      have H1 := Lib.hid h1
      clear h1
      go_wp2
      go_ret
      exact ⟨ret_bool' (by rw [HE.out, H0.out, H1.out] <;> first | rfl | simp), hb1⟩
    | true =>
      have H1 := Lib.hid h1
      clear h1
      go_wp2
      go_ret
      exact ⟨ret_bool' (by rw [HE.out, H0.out, H1.out] <;> first | rfl | simp), hb1⟩
theorem bareE_Image (m : Ms) : bareB m hImage = (!m.x && !m.need && (m.cl == 0 && (m.ep == 0 && m.tn == 0)) && (m.n == 0) && decide (m.es.length = 0)) := by unfold bareB; simp [hImage, Bool.and_assoc]
set_option maxRecDepth 100000 in
set_option maxHeartbeats 1000000 in
theorem bare_Image (m : Ms) (h : Hd) (w : World) (hi : In w m h) :
    Calls Try.prog 24 #[.agg #[.int .i64 m.kind, .int .i64 m.page, .bool m.x, .bool m.need, .int .i64 m.n, .int .i64 m.cl, .int .i64 m.ep, .int .i64 m.tn, .int .i64 m.lsn, .slice h.a h.an h.ac, .slice h.b h.bn h.bc], .agg #[.bool true, .bool false, .bool false, .bool false, .bool false, .bool false, .bool true, .bool false]] w fun e w' => e = .returned (.bool (bareB m hImage)) ∧ Below w.heap.size w w' := by
  have hE := bareE_Image m
  rw [len_eq hi.e.len] at hE
  have hQ := (show txnB m.cl m.ep m.tn 0 0 0 = (m.cl == 0 && (m.ep == 0 && m.tn == 0)) from rfl)
  rw [← hQ] at hE
  have hq := fun w => run_eq_txn m.cl m.ep m.tn 0 0 0 w
  have hgd := fun (A B : Operand) xs ys w => run_guard_txn .eql A B xs ys w
  clear hQ
  generalize txnB m.cl m.ep m.tn 0 0 0 = q at hq hE
  have HE := Lib.hid hE
  clear hi hE
  obtain ⟨kind, page, x, need, n, cl, ep, tn, lsn, zs, es⟩ := m
  obtain ⟨a, an, ac, b, bn, bc⟩ := h
  simp only at HE hq ⊢
  have hb := (below_box w (.cells #[.int .i64 kind, .int .i64 page, .bool x, .bool need, .int .i64 n, .int .i64 cl, .int .i64 ep, .int .i64 tn, .int .i64 lsn, .slice a an ac, .slice b bn bc] 30)).trans ((below_box (w.alloc (.cells #[.int .i64 kind, .int .i64 page, .bool x, .bool need, .int .i64 n, .int .i64 cl, .int .i64 ep, .int .i64 tn, .int .i64 lsn, .slice a an ac, .slice b bn bc] 30)) (.cells #[.bool true, .bool false, .bool false, .bool false, .bool false, .bool false, .bool true, .bool false] 61)).mono (by simp))
  have hM := (Blk.new w 30 #[.int .i64 kind, .int .i64 page, .bool x, .bool need, .int .i64 n, .int .i64 cl, .int .i64 ep, .int .i64 tn, .int .i64 lsn, .slice a an ac, .slice b bn bc]).alloc (.cells #[.bool true, .bool false, .bool false, .bool false, .bool false, .bool false, .bool true, .bool false] 61)
  have hH := Blk.new (w.alloc (.cells #[.int .i64 kind, .int .i64 page, .bool x, .bool need, .int .i64 n, .int .i64 cl, .int .i64 ep, .int .i64 tn, .int .i64 lsn, .slice a an ac, .slice b bn bc] 30)) 61 #[.bool true, .bool false, .bool false, .bool false, .bool false, .bool false, .bool true, .bool false]
  have hs : w.heap.size + 2 ≤ ((w.alloc (.cells #[.int .i64 kind, .int .i64 page, .bool x, .bool need, .int .i64 n, .int .i64 cl, .int .i64 ep, .int .i64 tn, .int .i64 lsn, .slice a an ac, .slice b bn bc] 30)).alloc (.cells #[.bool true, .bool false, .bool false, .bool false, .bool false, .bool false, .bool true, .bool false] 61)).heap.size := by simp
  rw [World.size_alloc] at hH
  go_enter Try.func24, Try.ntmps24
  dsimp only [List.append]
  go_upto_region 1 with (fail)
  generalize hGen : (w.alloc (.cells #[.int .i64 kind, .int .i64 page, .bool x, .bool need, .int .i64 n, .int .i64 cl, .int .i64 ep, .int .i64 tn, .int .i64 lsn, .slice a an ac, .slice b bn bc] 30)).alloc (.cells #[.bool true, .bool false, .bool false, .bool false, .bool false, .bool false, .bool true, .bool false] 61) = W at hb hM hH hs ⊢
  clear hGen
  obtain ⟨ca0, ca1, ca2, ca3, ca4, ca5, ca6, ca7, ca8, ca9, ca10⟩ := msg_cells (m := ⟨kind, page, x, need, n, cl, ep, tn, lsn, zs, es⟩) (h := ⟨a, an, ac, b, bn, bc⟩) hM
  simp only at ca0 ca1 ca2 ca3 ca4 ca5 ca6 ca7 ca8 ca9 ca10
  obtain ⟨da0, da1, da2, da3, da4, da5, da6, da7⟩ := has_cells hH
  clear hM hH
  cases x
  rotate_left
  · skip
    go_wp2
    go_ret
    exact ⟨ret_bool' (by rw [HE.out] <;> first | rfl | simp), hb⟩
  cases need
  rotate_left
  · skip
    go_wp2
    go_ret
    exact ⟨ret_bool' (by rw [HE.out] <;> first | rfl | simp), hb⟩
  cases q
  · skip
    go_wp2
    go_ret
    exact ⟨ret_bool' (by rw [HE.out] <;> first | rfl | simp), hb⟩
  cases t3 : (n == 0)
  · skip
    go_wp2
    go_ret
    exact ⟨ret_bool' (by rw [HE.out, t3] <;> first | rfl | simp), hb⟩
  cases t4 : ((bn : Int) == 0)
  · skip
    go_wp2
    go_ret
    exact ⟨ret_bool' (by rw [HE.out, t3, t4] <;> first | rfl | simp), hb⟩
  go_wp2
  go_ret
  exact ⟨ret_bool' (by rw [HE.out, t3, t4] <;> first | rfl | simp), hb⟩
theorem wholeE_Txn (m : Ms) : wholeB m hTxn = (knownB m.cl m.ep m.tn) := by unfold wholeB; simp [hTxn]
set_option maxRecDepth 100000 in
set_option maxHeartbeats 1000000 in
theorem whole_Txn (m : Ms) (h : Hd) (w : World) (hi : In w m h) (_ha : h.an ≤ 1000000) (_hbn : h.bn ≤ 1000000) :
    Calls Try.prog 23 #[.agg #[.int .i64 m.kind, .int .i64 m.page, .bool m.x, .bool m.need, .int .i64 m.n, .int .i64 m.cl, .int .i64 m.ep, .int .i64 m.tn, .int .i64 m.lsn, .slice h.a h.an h.ac, .slice h.b h.bn h.bc], .agg #[.bool false, .bool false, .bool false, .bool true, .bool false, .bool false, .bool false, .bool false]] w fun e w' => e = .returned (.bool (wholeB m hTxn)) ∧ Below w.heap.size w w' := by
  have HE := Lib.hid (wholeE_Txn m)
  have HI := Lib.hid hi
  clear hi
  have hb := (below_box w (.cells #[.int .i64 m.kind, .int .i64 m.page, .bool m.x, .bool m.need, .int .i64 m.n, .int .i64 m.cl, .int .i64 m.ep, .int .i64 m.tn, .int .i64 m.lsn, .slice h.a h.an h.ac, .slice h.b h.bn h.bc] 30)).trans ((below_box (w.alloc (.cells #[.int .i64 m.kind, .int .i64 m.page, .bool m.x, .bool m.need, .int .i64 m.n, .int .i64 m.cl, .int .i64 m.ep, .int .i64 m.tn, .int .i64 m.lsn, .slice h.a h.an h.ac, .slice h.b h.bn h.bc] 30)) (.cells #[.bool false, .bool false, .bool false, .bool true, .bool false, .bool false, .bool false, .bool false] 61)).mono (by simp))
  have hM := (Blk.new w 30 #[.int .i64 m.kind, .int .i64 m.page, .bool m.x, .bool m.need, .int .i64 m.n, .int .i64 m.cl, .int .i64 m.ep, .int .i64 m.tn, .int .i64 m.lsn, .slice h.a h.an h.ac, .slice h.b h.bn h.bc]).alloc (.cells #[.bool false, .bool false, .bool false, .bool true, .bool false, .bool false, .bool false, .bool false] 61)
  have hH := Blk.new (w.alloc (.cells #[.int .i64 m.kind, .int .i64 m.page, .bool m.x, .bool m.need, .int .i64 m.n, .int .i64 m.cl, .int .i64 m.ep, .int .i64 m.tn, .int .i64 m.lsn, .slice h.a h.an h.ac, .slice h.b h.bn h.bc] 30)) 61 #[.bool false, .bool false, .bool false, .bool true, .bool false, .bool false, .bool false, .bool false]
  have hs : w.heap.size + 2 ≤ ((w.alloc (.cells #[.int .i64 m.kind, .int .i64 m.page, .bool m.x, .bool m.need, .int .i64 m.n, .int .i64 m.cl, .int .i64 m.ep, .int .i64 m.tn, .int .i64 m.lsn, .slice h.a h.an h.ac, .slice h.b h.bn h.bc] 30)).alloc (.cells #[.bool false, .bool false, .bool false, .bool true, .bool false, .bool false, .bool false, .bool false] 61)).heap.size := by simp
  rw [World.size_alloc] at hH
  go_enter Try.func23, Try.ntmps23
  dsimp only [List.append]
  go_upto_region 1 with (fail)
  generalize hGen : (w.alloc (.cells #[.int .i64 m.kind, .int .i64 m.page, .bool m.x, .bool m.need, .int .i64 m.n, .int .i64 m.cl, .int .i64 m.ep, .int .i64 m.tn, .int .i64 m.lsn, .slice h.a h.an h.ac, .slice h.b h.bn h.bc] 30)).alloc (.cells #[.bool false, .bool false, .bool false, .bool true, .bool false, .bool false, .bool false, .bool false] 61) = W at hb hM hH hs ⊢
  clear hGen
  obtain ⟨ca0, ca1, ca2, ca3, ca4, ca5, ca6, ca7, ca8, ca9, ca10⟩ := msg_cells hM
  obtain ⟨da0, da1, da2, da3, da4, da5, da6, da7⟩ := has_cells hH
  have HM := Lib.hid hM
  have HH := Lib.hid hH
  clear hM hH
  go_wp2_with fail
  refine (Ent.known_any m.cl m.ep m.tn _).mono ?_
  rintro e w1 ⟨rfl, b1⟩
  have hM1 := HM.out.below b1 (by omega)
  have hH1 := HH.out.below b1 (by omega)
  have hb1 := below_next hb b1
  have hs1 := Nat.le_trans hs b1.size
  clear ca0 ca1 ca2 ca3 ca4 ca5 ca6 ca7 ca8 ca9 ca10 da0 da1 da2 da3 da4 da5 da6 da7
  obtain ⟨cb0, cb1, cb2, cb3, cb4, cb5, cb6, cb7, cb8, cb9, cb10⟩ := msg_cells hM1
  obtain ⟨db0, db1, db2, db3, db4, db5, db6, db7⟩ := has_cells hH1
  have HM1 := Lib.hid hM1
  have HH1 := Lib.hid hH1
  clear hM1 hH1
  clear b1
  cases h0 : knownB m.cl m.ep m.tn with
  | false =>
    have H0 := Lib.hid h0
    clear h0
    go_wp2
    go_ret
    exact ⟨ret_bool' (by rw [HE.out, H0.out] <;> first | rfl | simp), hb1⟩
  | true =>
    have H0 := Lib.hid h0
    clear h0
    go_wp2
    go_ret
    exact ⟨ret_bool' (by rw [HE.out, H0.out] <;> first | rfl | simp), hb1⟩
theorem bareE_Txn (m : Ms) : bareB m hTxn = ((m.page == 0) && !m.x && !m.need && (m.n == 0) && (m.lsn == 0) && decide (m.zs.length = 0) && decide (m.es.length = 0)) := by unfold bareB; simp [hTxn, Bool.and_assoc]
set_option maxRecDepth 100000 in
set_option maxHeartbeats 1000000 in
theorem bare_Txn (m : Ms) (h : Hd) (w : World) (hi : In w m h) :
    Calls Try.prog 24 #[.agg #[.int .i64 m.kind, .int .i64 m.page, .bool m.x, .bool m.need, .int .i64 m.n, .int .i64 m.cl, .int .i64 m.ep, .int .i64 m.tn, .int .i64 m.lsn, .slice h.a h.an h.ac, .slice h.b h.bn h.bc], .agg #[.bool false, .bool false, .bool false, .bool true, .bool false, .bool false, .bool false, .bool false]] w fun e w' => e = .returned (.bool (bareB m hTxn)) ∧ Below w.heap.size w w' := by
  have hE := bareE_Txn m
  rw [len_eq hi.s.len] at hE
  rw [len_eq hi.e.len] at hE
  have hQ := (show txnB m.cl m.ep m.tn 0 0 0 = (m.cl == 0 && (m.ep == 0 && m.tn == 0)) from rfl)
  have hq := fun w => run_eq_txn m.cl m.ep m.tn 0 0 0 w
  have hgd := fun (A B : Operand) xs ys w => run_guard_txn .eql A B xs ys w
  clear hQ
  generalize txnB m.cl m.ep m.tn 0 0 0 = q at hq hE
  have HE := Lib.hid hE
  clear hi hE
  obtain ⟨kind, page, x, need, n, cl, ep, tn, lsn, zs, es⟩ := m
  obtain ⟨a, an, ac, b, bn, bc⟩ := h
  simp only at HE hq ⊢
  have hb := (below_box w (.cells #[.int .i64 kind, .int .i64 page, .bool x, .bool need, .int .i64 n, .int .i64 cl, .int .i64 ep, .int .i64 tn, .int .i64 lsn, .slice a an ac, .slice b bn bc] 30)).trans ((below_box (w.alloc (.cells #[.int .i64 kind, .int .i64 page, .bool x, .bool need, .int .i64 n, .int .i64 cl, .int .i64 ep, .int .i64 tn, .int .i64 lsn, .slice a an ac, .slice b bn bc] 30)) (.cells #[.bool false, .bool false, .bool false, .bool true, .bool false, .bool false, .bool false, .bool false] 61)).mono (by simp))
  have hM := (Blk.new w 30 #[.int .i64 kind, .int .i64 page, .bool x, .bool need, .int .i64 n, .int .i64 cl, .int .i64 ep, .int .i64 tn, .int .i64 lsn, .slice a an ac, .slice b bn bc]).alloc (.cells #[.bool false, .bool false, .bool false, .bool true, .bool false, .bool false, .bool false, .bool false] 61)
  have hH := Blk.new (w.alloc (.cells #[.int .i64 kind, .int .i64 page, .bool x, .bool need, .int .i64 n, .int .i64 cl, .int .i64 ep, .int .i64 tn, .int .i64 lsn, .slice a an ac, .slice b bn bc] 30)) 61 #[.bool false, .bool false, .bool false, .bool true, .bool false, .bool false, .bool false, .bool false]
  have hs : w.heap.size + 2 ≤ ((w.alloc (.cells #[.int .i64 kind, .int .i64 page, .bool x, .bool need, .int .i64 n, .int .i64 cl, .int .i64 ep, .int .i64 tn, .int .i64 lsn, .slice a an ac, .slice b bn bc] 30)).alloc (.cells #[.bool false, .bool false, .bool false, .bool true, .bool false, .bool false, .bool false, .bool false] 61)).heap.size := by simp
  rw [World.size_alloc] at hH
  go_enter Try.func24, Try.ntmps24
  dsimp only [List.append]
  go_upto_region 1 with (fail)
  generalize hGen : (w.alloc (.cells #[.int .i64 kind, .int .i64 page, .bool x, .bool need, .int .i64 n, .int .i64 cl, .int .i64 ep, .int .i64 tn, .int .i64 lsn, .slice a an ac, .slice b bn bc] 30)).alloc (.cells #[.bool false, .bool false, .bool false, .bool true, .bool false, .bool false, .bool false, .bool false] 61) = W at hb hM hH hs ⊢
  clear hGen
  obtain ⟨ca0, ca1, ca2, ca3, ca4, ca5, ca6, ca7, ca8, ca9, ca10⟩ := msg_cells (m := ⟨kind, page, x, need, n, cl, ep, tn, lsn, zs, es⟩) (h := ⟨a, an, ac, b, bn, bc⟩) hM
  simp only at ca0 ca1 ca2 ca3 ca4 ca5 ca6 ca7 ca8 ca9 ca10
  obtain ⟨da0, da1, da2, da3, da4, da5, da6, da7⟩ := has_cells hH
  clear hM hH
  cases t0 : (page == 0)
  · skip
    go_wp2
    go_ret
    exact ⟨ret_bool' (by rw [HE.out, t0] <;> first | rfl | simp), hb⟩
  cases x
  rotate_left
  · skip
    go_wp2
    go_ret
    exact ⟨ret_bool' (by rw [HE.out, t0] <;> first | rfl | simp), hb⟩
  cases need
  rotate_left
  · skip
    go_wp2
    go_ret
    exact ⟨ret_bool' (by rw [HE.out, t0] <;> first | rfl | simp), hb⟩
  cases t3 : (n == 0)
  · skip
    go_wp2
    go_ret
    exact ⟨ret_bool' (by rw [HE.out, t0, t3] <;> first | rfl | simp), hb⟩
  cases t4 : (lsn == 0)
  · skip
    go_wp2
    go_ret
    exact ⟨ret_bool' (by rw [HE.out, t0, t3, t4] <;> first | rfl | simp), hb⟩
  cases t5 : ((an : Int) == 0)
  · skip
    go_wp2
    go_ret
    exact ⟨ret_bool' (by rw [HE.out, t0, t3, t4, t5] <;> first | rfl | simp), hb⟩
  cases t6 : ((bn : Int) == 0)
  · skip
    go_wp2
    go_ret
    exact ⟨ret_bool' (by rw [HE.out, t0, t3, t4, t5, t6] <;> first | rfl | simp), hb⟩
  go_wp2
  go_ret
  exact ⟨ret_bool' (by rw [HE.out, t0, t3, t4, t5, t6] <;> first | rfl | simp), hb⟩
theorem wholeE_Space (m : Ms) : wholeB m hSpace = (withinB m.n 1 1048576) := by unfold wholeB; simp [hSpace]
set_option maxRecDepth 100000 in
set_option maxHeartbeats 1000000 in
theorem whole_Space (m : Ms) (h : Hd) (w : World) (hi : In w m h) (_ha : h.an ≤ 1000000) (_hbn : h.bn ≤ 1000000) :
    Calls Try.prog 23 #[.agg #[.int .i64 m.kind, .int .i64 m.page, .bool m.x, .bool m.need, .int .i64 m.n, .int .i64 m.cl, .int .i64 m.ep, .int .i64 m.tn, .int .i64 m.lsn, .slice h.a h.an h.ac, .slice h.b h.bn h.bc], .agg #[.bool false, .bool false, .bool false, .bool false, .bool true, .bool false, .bool false, .bool false]] w fun e w' => e = .returned (.bool (wholeB m hSpace)) ∧ Below w.heap.size w w' := by
  have HE := Lib.hid (wholeE_Space m)
  have HI := Lib.hid hi
  clear hi
  have hb := (below_box w (.cells #[.int .i64 m.kind, .int .i64 m.page, .bool m.x, .bool m.need, .int .i64 m.n, .int .i64 m.cl, .int .i64 m.ep, .int .i64 m.tn, .int .i64 m.lsn, .slice h.a h.an h.ac, .slice h.b h.bn h.bc] 30)).trans ((below_box (w.alloc (.cells #[.int .i64 m.kind, .int .i64 m.page, .bool m.x, .bool m.need, .int .i64 m.n, .int .i64 m.cl, .int .i64 m.ep, .int .i64 m.tn, .int .i64 m.lsn, .slice h.a h.an h.ac, .slice h.b h.bn h.bc] 30)) (.cells #[.bool false, .bool false, .bool false, .bool false, .bool true, .bool false, .bool false, .bool false] 61)).mono (by simp))
  have hM := (Blk.new w 30 #[.int .i64 m.kind, .int .i64 m.page, .bool m.x, .bool m.need, .int .i64 m.n, .int .i64 m.cl, .int .i64 m.ep, .int .i64 m.tn, .int .i64 m.lsn, .slice h.a h.an h.ac, .slice h.b h.bn h.bc]).alloc (.cells #[.bool false, .bool false, .bool false, .bool false, .bool true, .bool false, .bool false, .bool false] 61)
  have hH := Blk.new (w.alloc (.cells #[.int .i64 m.kind, .int .i64 m.page, .bool m.x, .bool m.need, .int .i64 m.n, .int .i64 m.cl, .int .i64 m.ep, .int .i64 m.tn, .int .i64 m.lsn, .slice h.a h.an h.ac, .slice h.b h.bn h.bc] 30)) 61 #[.bool false, .bool false, .bool false, .bool false, .bool true, .bool false, .bool false, .bool false]
  have hs : w.heap.size + 2 ≤ ((w.alloc (.cells #[.int .i64 m.kind, .int .i64 m.page, .bool m.x, .bool m.need, .int .i64 m.n, .int .i64 m.cl, .int .i64 m.ep, .int .i64 m.tn, .int .i64 m.lsn, .slice h.a h.an h.ac, .slice h.b h.bn h.bc] 30)).alloc (.cells #[.bool false, .bool false, .bool false, .bool false, .bool true, .bool false, .bool false, .bool false] 61)).heap.size := by simp
  rw [World.size_alloc] at hH
  go_enter Try.func23, Try.ntmps23
  dsimp only [List.append]
  go_upto_region 1 with (fail)
  generalize hGen : (w.alloc (.cells #[.int .i64 m.kind, .int .i64 m.page, .bool m.x, .bool m.need, .int .i64 m.n, .int .i64 m.cl, .int .i64 m.ep, .int .i64 m.tn, .int .i64 m.lsn, .slice h.a h.an h.ac, .slice h.b h.bn h.bc] 30)).alloc (.cells #[.bool false, .bool false, .bool false, .bool false, .bool true, .bool false, .bool false, .bool false] 61) = W at hb hM hH hs ⊢
  clear hGen
  obtain ⟨ca0, ca1, ca2, ca3, ca4, ca5, ca6, ca7, ca8, ca9, ca10⟩ := msg_cells hM
  obtain ⟨da0, da1, da2, da3, da4, da5, da6, da7⟩ := has_cells hH
  have HM := Lib.hid hM
  have HH := Lib.hid hH
  clear hM hH
  go_wp2_with fail
  refine (within_any m.n 1 1048576 _).mono ?_
  rintro e w' ⟨rfl, rfl⟩
  cases h0 : withinB m.n 1 1048576 with
  | false =>
    have H0 := Lib.hid h0
    clear h0
    go_wp2
    go_ret
    exact ⟨ret_bool' (by rw [HE.out, H0.out] <;> first | rfl | simp), hb⟩
  | true =>
    have H0 := Lib.hid h0
    clear h0
    go_wp2
    go_ret
    exact ⟨ret_bool' (by rw [HE.out, H0.out] <;> first | rfl | simp), hb⟩
theorem bareE_Space (m : Ms) : bareB m hSpace = ((m.page == 0) && !m.x && !m.need && (m.cl == 0 && (m.ep == 0 && m.tn == 0)) && (m.lsn == 0) && decide (m.zs.length = 0) && decide (m.es.length = 0)) := by unfold bareB; simp [hSpace, Bool.and_assoc]
set_option maxRecDepth 100000 in
set_option maxHeartbeats 1000000 in
theorem bare_Space (m : Ms) (h : Hd) (w : World) (hi : In w m h) :
    Calls Try.prog 24 #[.agg #[.int .i64 m.kind, .int .i64 m.page, .bool m.x, .bool m.need, .int .i64 m.n, .int .i64 m.cl, .int .i64 m.ep, .int .i64 m.tn, .int .i64 m.lsn, .slice h.a h.an h.ac, .slice h.b h.bn h.bc], .agg #[.bool false, .bool false, .bool false, .bool false, .bool true, .bool false, .bool false, .bool false]] w fun e w' => e = .returned (.bool (bareB m hSpace)) ∧ Below w.heap.size w w' := by
  have hE := bareE_Space m
  rw [len_eq hi.s.len] at hE
  rw [len_eq hi.e.len] at hE
  have hQ := (show txnB m.cl m.ep m.tn 0 0 0 = (m.cl == 0 && (m.ep == 0 && m.tn == 0)) from rfl)
  rw [← hQ] at hE
  have hq := fun w => run_eq_txn m.cl m.ep m.tn 0 0 0 w
  have hgd := fun (A B : Operand) xs ys w => run_guard_txn .eql A B xs ys w
  clear hQ
  generalize txnB m.cl m.ep m.tn 0 0 0 = q at hq hE
  have HE := Lib.hid hE
  clear hi hE
  obtain ⟨kind, page, x, need, n, cl, ep, tn, lsn, zs, es⟩ := m
  obtain ⟨a, an, ac, b, bn, bc⟩ := h
  simp only at HE hq ⊢
  have hb := (below_box w (.cells #[.int .i64 kind, .int .i64 page, .bool x, .bool need, .int .i64 n, .int .i64 cl, .int .i64 ep, .int .i64 tn, .int .i64 lsn, .slice a an ac, .slice b bn bc] 30)).trans ((below_box (w.alloc (.cells #[.int .i64 kind, .int .i64 page, .bool x, .bool need, .int .i64 n, .int .i64 cl, .int .i64 ep, .int .i64 tn, .int .i64 lsn, .slice a an ac, .slice b bn bc] 30)) (.cells #[.bool false, .bool false, .bool false, .bool false, .bool true, .bool false, .bool false, .bool false] 61)).mono (by simp))
  have hM := (Blk.new w 30 #[.int .i64 kind, .int .i64 page, .bool x, .bool need, .int .i64 n, .int .i64 cl, .int .i64 ep, .int .i64 tn, .int .i64 lsn, .slice a an ac, .slice b bn bc]).alloc (.cells #[.bool false, .bool false, .bool false, .bool false, .bool true, .bool false, .bool false, .bool false] 61)
  have hH := Blk.new (w.alloc (.cells #[.int .i64 kind, .int .i64 page, .bool x, .bool need, .int .i64 n, .int .i64 cl, .int .i64 ep, .int .i64 tn, .int .i64 lsn, .slice a an ac, .slice b bn bc] 30)) 61 #[.bool false, .bool false, .bool false, .bool false, .bool true, .bool false, .bool false, .bool false]
  have hs : w.heap.size + 2 ≤ ((w.alloc (.cells #[.int .i64 kind, .int .i64 page, .bool x, .bool need, .int .i64 n, .int .i64 cl, .int .i64 ep, .int .i64 tn, .int .i64 lsn, .slice a an ac, .slice b bn bc] 30)).alloc (.cells #[.bool false, .bool false, .bool false, .bool false, .bool true, .bool false, .bool false, .bool false] 61)).heap.size := by simp
  rw [World.size_alloc] at hH
  go_enter Try.func24, Try.ntmps24
  dsimp only [List.append]
  go_upto_region 1 with (fail)
  generalize hGen : (w.alloc (.cells #[.int .i64 kind, .int .i64 page, .bool x, .bool need, .int .i64 n, .int .i64 cl, .int .i64 ep, .int .i64 tn, .int .i64 lsn, .slice a an ac, .slice b bn bc] 30)).alloc (.cells #[.bool false, .bool false, .bool false, .bool false, .bool true, .bool false, .bool false, .bool false] 61) = W at hb hM hH hs ⊢
  clear hGen
  obtain ⟨ca0, ca1, ca2, ca3, ca4, ca5, ca6, ca7, ca8, ca9, ca10⟩ := msg_cells (m := ⟨kind, page, x, need, n, cl, ep, tn, lsn, zs, es⟩) (h := ⟨a, an, ac, b, bn, bc⟩) hM
  simp only at ca0 ca1 ca2 ca3 ca4 ca5 ca6 ca7 ca8 ca9 ca10
  obtain ⟨da0, da1, da2, da3, da4, da5, da6, da7⟩ := has_cells hH
  clear hM hH
  cases t0 : (page == 0)
  · skip
    go_wp2
    go_ret
    exact ⟨ret_bool' (by rw [HE.out, t0] <;> first | rfl | simp), hb⟩
  cases x
  rotate_left
  · skip
    go_wp2
    go_ret
    exact ⟨ret_bool' (by rw [HE.out, t0] <;> first | rfl | simp), hb⟩
  cases need
  rotate_left
  · skip
    go_wp2
    go_ret
    exact ⟨ret_bool' (by rw [HE.out, t0] <;> first | rfl | simp), hb⟩
  cases q
  · skip
    go_wp2
    go_ret
    exact ⟨ret_bool' (by rw [HE.out, t0] <;> first | rfl | simp), hb⟩
  cases t4 : (lsn == 0)
  · skip
    go_wp2
    go_ret
    exact ⟨ret_bool' (by rw [HE.out, t0, t4] <;> first | rfl | simp), hb⟩
  cases t5 : ((an : Int) == 0)
  · skip
    go_wp2
    go_ret
    exact ⟨ret_bool' (by rw [HE.out, t0, t4, t5] <;> first | rfl | simp), hb⟩
  cases t6 : ((bn : Int) == 0)
  · skip
    go_wp2
    go_ret
    exact ⟨ret_bool' (by rw [HE.out, t0, t4, t5, t6] <;> first | rfl | simp), hb⟩
  go_wp2
  go_ret
  exact ⟨ret_bool' (by rw [HE.out, t0, t4, t5, t6] <;> first | rfl | simp), hb⟩
theorem wholeE_Grant (m : Ms) : wholeB m (hGrant true) = (withinB m.page 0 1023 && Slab.goodB m.lsn m.zs) := by unfold wholeB; simp [hGrant]
set_option maxRecDepth 100000 in
set_option maxHeartbeats 1000000 in
theorem whole_Grant (m : Ms) (h : Hd) (w : World) (hi : In w m h) (ha : h.an ≤ 1000000) (_hbn : h.bn ≤ 1000000) :
    Calls Try.prog 23 #[.agg #[.int .i64 m.kind, .int .i64 m.page, .bool m.x, .bool m.need, .int .i64 m.n, .int .i64 m.cl, .int .i64 m.ep, .int .i64 m.tn, .int .i64 m.lsn, .slice h.a h.an h.ac, .slice h.b h.bn h.bc], .agg #[.bool true, .bool true, .bool true, .bool false, .bool false, .bool false, .bool true, .bool false]] w fun e w' => e = .returned (.bool (wholeB m (hGrant true))) ∧ Below w.heap.size w w' := by
  have HE := Lib.hid (wholeE_Grant m)
  have HI := Lib.hid hi
  clear hi
  have hb := (below_box w (.cells #[.int .i64 m.kind, .int .i64 m.page, .bool m.x, .bool m.need, .int .i64 m.n, .int .i64 m.cl, .int .i64 m.ep, .int .i64 m.tn, .int .i64 m.lsn, .slice h.a h.an h.ac, .slice h.b h.bn h.bc] 30)).trans ((below_box (w.alloc (.cells #[.int .i64 m.kind, .int .i64 m.page, .bool m.x, .bool m.need, .int .i64 m.n, .int .i64 m.cl, .int .i64 m.ep, .int .i64 m.tn, .int .i64 m.lsn, .slice h.a h.an h.ac, .slice h.b h.bn h.bc] 30)) (.cells #[.bool true, .bool true, .bool true, .bool false, .bool false, .bool false, .bool true, .bool false] 61)).mono (by simp))
  have hM := (Blk.new w 30 #[.int .i64 m.kind, .int .i64 m.page, .bool m.x, .bool m.need, .int .i64 m.n, .int .i64 m.cl, .int .i64 m.ep, .int .i64 m.tn, .int .i64 m.lsn, .slice h.a h.an h.ac, .slice h.b h.bn h.bc]).alloc (.cells #[.bool true, .bool true, .bool true, .bool false, .bool false, .bool false, .bool true, .bool false] 61)
  have hH := Blk.new (w.alloc (.cells #[.int .i64 m.kind, .int .i64 m.page, .bool m.x, .bool m.need, .int .i64 m.n, .int .i64 m.cl, .int .i64 m.ep, .int .i64 m.tn, .int .i64 m.lsn, .slice h.a h.an h.ac, .slice h.b h.bn h.bc] 30)) 61 #[.bool true, .bool true, .bool true, .bool false, .bool false, .bool false, .bool true, .bool false]
  have hs : w.heap.size + 2 ≤ ((w.alloc (.cells #[.int .i64 m.kind, .int .i64 m.page, .bool m.x, .bool m.need, .int .i64 m.n, .int .i64 m.cl, .int .i64 m.ep, .int .i64 m.tn, .int .i64 m.lsn, .slice h.a h.an h.ac, .slice h.b h.bn h.bc] 30)).alloc (.cells #[.bool true, .bool true, .bool true, .bool false, .bool false, .bool false, .bool true, .bool false] 61)).heap.size := by simp
  rw [World.size_alloc] at hH
  go_enter Try.func23, Try.ntmps23
  dsimp only [List.append]
  go_upto_region 1 with (fail)
  generalize hGen : (w.alloc (.cells #[.int .i64 m.kind, .int .i64 m.page, .bool m.x, .bool m.need, .int .i64 m.n, .int .i64 m.cl, .int .i64 m.ep, .int .i64 m.tn, .int .i64 m.lsn, .slice h.a h.an h.ac, .slice h.b h.bn h.bc] 30)).alloc (.cells #[.bool true, .bool true, .bool true, .bool false, .bool false, .bool false, .bool true, .bool false] 61) = W at hb hM hH hs ⊢
  clear hGen
  obtain ⟨ca0, ca1, ca2, ca3, ca4, ca5, ca6, ca7, ca8, ca9, ca10⟩ := msg_cells hM
  obtain ⟨da0, da1, da2, da3, da4, da5, da6, da7⟩ := has_cells hH
  have HM := Lib.hid hM
  have HH := Lib.hid hH
  clear hM hH
  go_wp2_with fail
  refine (within_any m.page 0 1023 _).mono ?_
  rintro e w' ⟨rfl, rfl⟩
  cases h0 : withinB m.page 0 1023 with
  | false =>
    have H0 := Lib.hid h0
    clear h0
    go_wp2
    go_ret
    exact ⟨ret_bool' (by rw [HE.out, H0.out] <;> first | rfl | simp), hb⟩
  | true =>
    have H0 := Lib.hid h0
    clear h0
    go_wp2_with fail
    refine (Slab.good_any m.lsn h.a h.an h.ac m.zs _ (HI.out.below hb).s ha).mono ?_
    rintro e w1 ⟨rfl, b1⟩
    have hM1 := HM.out.below b1 (by omega)
    have hH1 := HH.out.below b1 (by omega)
    have hb1 := below_next hb b1
    have hs1 := Nat.le_trans hs b1.size
    clear ca0 ca1 ca2 ca3 ca4 ca5 ca6 ca7 ca8 ca9 ca10 da0 da1 da2 da3 da4 da5 da6 da7
    obtain ⟨cb0, cb1, cb2, cb3, cb4, cb5, cb6, cb7, cb8, cb9, cb10⟩ := msg_cells hM1
    obtain ⟨db0, db1, db2, db3, db4, db5, db6, db7⟩ := has_cells hH1
    have HM1 := Lib.hid hM1
    have HH1 := Lib.hid hH1
    clear hM1 hH1
    clear b1
    cases h1 : Slab.goodB m.lsn m.zs with
    | false =>
      have H1 := Lib.hid h1
      clear h1
      go_wp2
      go_ret
      exact ⟨ret_bool' (by rw [HE.out, H0.out, H1.out] <;> first | rfl | simp), hb1⟩
    | true =>
      have H1 := Lib.hid h1
      clear h1
      go_wp2
      go_ret
      exact ⟨ret_bool' (by rw [HE.out, H0.out, H1.out] <;> first | rfl | simp), hb1⟩
theorem bareE_Grant (m : Ms) : bareB m (hGrant true) = ((m.cl == 0 && (m.ep == 0 && m.tn == 0)) && (m.n == 0) && decide (m.es.length = 0)) := by unfold bareB; simp [hGrant, Bool.and_assoc]
set_option maxRecDepth 100000 in
set_option maxHeartbeats 1000000 in
theorem bare_Grant (m : Ms) (h : Hd) (w : World) (hi : In w m h) :
    Calls Try.prog 24 #[.agg #[.int .i64 m.kind, .int .i64 m.page, .bool m.x, .bool m.need, .int .i64 m.n, .int .i64 m.cl, .int .i64 m.ep, .int .i64 m.tn, .int .i64 m.lsn, .slice h.a h.an h.ac, .slice h.b h.bn h.bc], .agg #[.bool true, .bool true, .bool true, .bool false, .bool false, .bool false, .bool true, .bool false]] w fun e w' => e = .returned (.bool (bareB m (hGrant true))) ∧ Below w.heap.size w w' := by
  have hE := bareE_Grant m
  rw [len_eq hi.e.len] at hE
  have hQ := (show txnB m.cl m.ep m.tn 0 0 0 = (m.cl == 0 && (m.ep == 0 && m.tn == 0)) from rfl)
  rw [← hQ] at hE
  have hq := fun w => run_eq_txn m.cl m.ep m.tn 0 0 0 w
  have hgd := fun (A B : Operand) xs ys w => run_guard_txn .eql A B xs ys w
  clear hQ
  generalize txnB m.cl m.ep m.tn 0 0 0 = q at hq hE
  have HE := Lib.hid hE
  clear hi hE
  obtain ⟨kind, page, x, need, n, cl, ep, tn, lsn, zs, es⟩ := m
  obtain ⟨a, an, ac, b, bn, bc⟩ := h
  simp only at HE hq ⊢
  have hb := (below_box w (.cells #[.int .i64 kind, .int .i64 page, .bool x, .bool need, .int .i64 n, .int .i64 cl, .int .i64 ep, .int .i64 tn, .int .i64 lsn, .slice a an ac, .slice b bn bc] 30)).trans ((below_box (w.alloc (.cells #[.int .i64 kind, .int .i64 page, .bool x, .bool need, .int .i64 n, .int .i64 cl, .int .i64 ep, .int .i64 tn, .int .i64 lsn, .slice a an ac, .slice b bn bc] 30)) (.cells #[.bool true, .bool true, .bool true, .bool false, .bool false, .bool false, .bool true, .bool false] 61)).mono (by simp))
  have hM := (Blk.new w 30 #[.int .i64 kind, .int .i64 page, .bool x, .bool need, .int .i64 n, .int .i64 cl, .int .i64 ep, .int .i64 tn, .int .i64 lsn, .slice a an ac, .slice b bn bc]).alloc (.cells #[.bool true, .bool true, .bool true, .bool false, .bool false, .bool false, .bool true, .bool false] 61)
  have hH := Blk.new (w.alloc (.cells #[.int .i64 kind, .int .i64 page, .bool x, .bool need, .int .i64 n, .int .i64 cl, .int .i64 ep, .int .i64 tn, .int .i64 lsn, .slice a an ac, .slice b bn bc] 30)) 61 #[.bool true, .bool true, .bool true, .bool false, .bool false, .bool false, .bool true, .bool false]
  have hs : w.heap.size + 2 ≤ ((w.alloc (.cells #[.int .i64 kind, .int .i64 page, .bool x, .bool need, .int .i64 n, .int .i64 cl, .int .i64 ep, .int .i64 tn, .int .i64 lsn, .slice a an ac, .slice b bn bc] 30)).alloc (.cells #[.bool true, .bool true, .bool true, .bool false, .bool false, .bool false, .bool true, .bool false] 61)).heap.size := by simp
  rw [World.size_alloc] at hH
  go_enter Try.func24, Try.ntmps24
  dsimp only [List.append]
  go_upto_region 1 with (fail)
  generalize hGen : (w.alloc (.cells #[.int .i64 kind, .int .i64 page, .bool x, .bool need, .int .i64 n, .int .i64 cl, .int .i64 ep, .int .i64 tn, .int .i64 lsn, .slice a an ac, .slice b bn bc] 30)).alloc (.cells #[.bool true, .bool true, .bool true, .bool false, .bool false, .bool false, .bool true, .bool false] 61) = W at hb hM hH hs ⊢
  clear hGen
  obtain ⟨ca0, ca1, ca2, ca3, ca4, ca5, ca6, ca7, ca8, ca9, ca10⟩ := msg_cells (m := ⟨kind, page, x, need, n, cl, ep, tn, lsn, zs, es⟩) (h := ⟨a, an, ac, b, bn, bc⟩) hM
  simp only at ca0 ca1 ca2 ca3 ca4 ca5 ca6 ca7 ca8 ca9 ca10
  obtain ⟨da0, da1, da2, da3, da4, da5, da6, da7⟩ := has_cells hH
  clear hM hH
  cases q
  · skip
    go_wp2
    go_ret
    exact ⟨ret_bool' (by rw [HE.out] <;> first | rfl | simp), hb⟩
  cases t1 : (n == 0)
  · skip
    go_wp2
    go_ret
    exact ⟨ret_bool' (by rw [HE.out, t1] <;> first | rfl | simp), hb⟩
  cases t2 : ((bn : Int) == 0)
  · skip
    go_wp2
    go_ret
    exact ⟨ret_bool' (by rw [HE.out, t1, t2] <;> first | rfl | simp), hb⟩
  go_wp2
  go_ret
  exact ⟨ret_bool' (by rw [HE.out, t1, t2] <;> first | rfl | simp), hb⟩
theorem wholeE_None (m : Ms) : wholeB m hNone = (true) := by unfold wholeB; simp [hNone]
set_option maxRecDepth 100000 in
set_option maxHeartbeats 1000000 in
theorem whole_None (m : Ms) (h : Hd) (w : World) (hi : In w m h) (_ha : h.an ≤ 1000000) (_hbn : h.bn ≤ 1000000) :
    Calls Try.prog 23 #[.agg #[.int .i64 m.kind, .int .i64 m.page, .bool m.x, .bool m.need, .int .i64 m.n, .int .i64 m.cl, .int .i64 m.ep, .int .i64 m.tn, .int .i64 m.lsn, .slice h.a h.an h.ac, .slice h.b h.bn h.bc], .agg #[.bool false, .bool false, .bool false, .bool false, .bool false, .bool false, .bool false, .bool false]] w fun e w' => e = .returned (.bool (wholeB m hNone)) ∧ Below w.heap.size w w' := by
  have HE := Lib.hid (wholeE_None m)
  have HI := Lib.hid hi
  clear hi
  have hb := (below_box w (.cells #[.int .i64 m.kind, .int .i64 m.page, .bool m.x, .bool m.need, .int .i64 m.n, .int .i64 m.cl, .int .i64 m.ep, .int .i64 m.tn, .int .i64 m.lsn, .slice h.a h.an h.ac, .slice h.b h.bn h.bc] 30)).trans ((below_box (w.alloc (.cells #[.int .i64 m.kind, .int .i64 m.page, .bool m.x, .bool m.need, .int .i64 m.n, .int .i64 m.cl, .int .i64 m.ep, .int .i64 m.tn, .int .i64 m.lsn, .slice h.a h.an h.ac, .slice h.b h.bn h.bc] 30)) (.cells #[.bool false, .bool false, .bool false, .bool false, .bool false, .bool false, .bool false, .bool false] 61)).mono (by simp))
  have hM := (Blk.new w 30 #[.int .i64 m.kind, .int .i64 m.page, .bool m.x, .bool m.need, .int .i64 m.n, .int .i64 m.cl, .int .i64 m.ep, .int .i64 m.tn, .int .i64 m.lsn, .slice h.a h.an h.ac, .slice h.b h.bn h.bc]).alloc (.cells #[.bool false, .bool false, .bool false, .bool false, .bool false, .bool false, .bool false, .bool false] 61)
  have hH := Blk.new (w.alloc (.cells #[.int .i64 m.kind, .int .i64 m.page, .bool m.x, .bool m.need, .int .i64 m.n, .int .i64 m.cl, .int .i64 m.ep, .int .i64 m.tn, .int .i64 m.lsn, .slice h.a h.an h.ac, .slice h.b h.bn h.bc] 30)) 61 #[.bool false, .bool false, .bool false, .bool false, .bool false, .bool false, .bool false, .bool false]
  have hs : w.heap.size + 2 ≤ ((w.alloc (.cells #[.int .i64 m.kind, .int .i64 m.page, .bool m.x, .bool m.need, .int .i64 m.n, .int .i64 m.cl, .int .i64 m.ep, .int .i64 m.tn, .int .i64 m.lsn, .slice h.a h.an h.ac, .slice h.b h.bn h.bc] 30)).alloc (.cells #[.bool false, .bool false, .bool false, .bool false, .bool false, .bool false, .bool false, .bool false] 61)).heap.size := by simp
  rw [World.size_alloc] at hH
  go_enter Try.func23, Try.ntmps23
  dsimp only [List.append]
  go_upto_region 1 with (fail)
  generalize hGen : (w.alloc (.cells #[.int .i64 m.kind, .int .i64 m.page, .bool m.x, .bool m.need, .int .i64 m.n, .int .i64 m.cl, .int .i64 m.ep, .int .i64 m.tn, .int .i64 m.lsn, .slice h.a h.an h.ac, .slice h.b h.bn h.bc] 30)).alloc (.cells #[.bool false, .bool false, .bool false, .bool false, .bool false, .bool false, .bool false, .bool false] 61) = W at hb hM hH hs ⊢
  clear hGen
  obtain ⟨ca0, ca1, ca2, ca3, ca4, ca5, ca6, ca7, ca8, ca9, ca10⟩ := msg_cells hM
  obtain ⟨da0, da1, da2, da3, da4, da5, da6, da7⟩ := has_cells hH
  have HM := Lib.hid hM
  have HH := Lib.hid hH
  clear hM hH
  go_wp2
  go_ret
  exact ⟨ret_bool' (by rw [HE.out] <;> first | rfl | simp), hb⟩
theorem bareE_None (m : Ms) : bareB m hNone = ((m.page == 0) && !m.x && !m.need && (m.cl == 0 && (m.ep == 0 && m.tn == 0)) && (m.n == 0) && (m.lsn == 0) && decide (m.zs.length = 0) && decide (m.es.length = 0)) := by unfold bareB; simp [hNone, Bool.and_assoc]
set_option maxRecDepth 100000 in
set_option maxHeartbeats 1000000 in
theorem bare_None (m : Ms) (h : Hd) (w : World) (hi : In w m h) :
    Calls Try.prog 24 #[.agg #[.int .i64 m.kind, .int .i64 m.page, .bool m.x, .bool m.need, .int .i64 m.n, .int .i64 m.cl, .int .i64 m.ep, .int .i64 m.tn, .int .i64 m.lsn, .slice h.a h.an h.ac, .slice h.b h.bn h.bc], .agg #[.bool false, .bool false, .bool false, .bool false, .bool false, .bool false, .bool false, .bool false]] w fun e w' => e = .returned (.bool (bareB m hNone)) ∧ Below w.heap.size w w' := by
  have hE := bareE_None m
  rw [len_eq hi.s.len] at hE
  rw [len_eq hi.e.len] at hE
  have hQ := (show txnB m.cl m.ep m.tn 0 0 0 = (m.cl == 0 && (m.ep == 0 && m.tn == 0)) from rfl)
  rw [← hQ] at hE
  have hq := fun w => run_eq_txn m.cl m.ep m.tn 0 0 0 w
  have hgd := fun (A B : Operand) xs ys w => run_guard_txn .eql A B xs ys w
  clear hQ
  generalize txnB m.cl m.ep m.tn 0 0 0 = q at hq hE
  have HE := Lib.hid hE
  clear hi hE
  obtain ⟨kind, page, x, need, n, cl, ep, tn, lsn, zs, es⟩ := m
  obtain ⟨a, an, ac, b, bn, bc⟩ := h
  simp only at HE hq ⊢
  have hb := (below_box w (.cells #[.int .i64 kind, .int .i64 page, .bool x, .bool need, .int .i64 n, .int .i64 cl, .int .i64 ep, .int .i64 tn, .int .i64 lsn, .slice a an ac, .slice b bn bc] 30)).trans ((below_box (w.alloc (.cells #[.int .i64 kind, .int .i64 page, .bool x, .bool need, .int .i64 n, .int .i64 cl, .int .i64 ep, .int .i64 tn, .int .i64 lsn, .slice a an ac, .slice b bn bc] 30)) (.cells #[.bool false, .bool false, .bool false, .bool false, .bool false, .bool false, .bool false, .bool false] 61)).mono (by simp))
  have hM := (Blk.new w 30 #[.int .i64 kind, .int .i64 page, .bool x, .bool need, .int .i64 n, .int .i64 cl, .int .i64 ep, .int .i64 tn, .int .i64 lsn, .slice a an ac, .slice b bn bc]).alloc (.cells #[.bool false, .bool false, .bool false, .bool false, .bool false, .bool false, .bool false, .bool false] 61)
  have hH := Blk.new (w.alloc (.cells #[.int .i64 kind, .int .i64 page, .bool x, .bool need, .int .i64 n, .int .i64 cl, .int .i64 ep, .int .i64 tn, .int .i64 lsn, .slice a an ac, .slice b bn bc] 30)) 61 #[.bool false, .bool false, .bool false, .bool false, .bool false, .bool false, .bool false, .bool false]
  have hs : w.heap.size + 2 ≤ ((w.alloc (.cells #[.int .i64 kind, .int .i64 page, .bool x, .bool need, .int .i64 n, .int .i64 cl, .int .i64 ep, .int .i64 tn, .int .i64 lsn, .slice a an ac, .slice b bn bc] 30)).alloc (.cells #[.bool false, .bool false, .bool false, .bool false, .bool false, .bool false, .bool false, .bool false] 61)).heap.size := by simp
  rw [World.size_alloc] at hH
  go_enter Try.func24, Try.ntmps24
  dsimp only [List.append]
  go_upto_region 1 with (fail)
  generalize hGen : (w.alloc (.cells #[.int .i64 kind, .int .i64 page, .bool x, .bool need, .int .i64 n, .int .i64 cl, .int .i64 ep, .int .i64 tn, .int .i64 lsn, .slice a an ac, .slice b bn bc] 30)).alloc (.cells #[.bool false, .bool false, .bool false, .bool false, .bool false, .bool false, .bool false, .bool false] 61) = W at hb hM hH hs ⊢
  clear hGen
  obtain ⟨ca0, ca1, ca2, ca3, ca4, ca5, ca6, ca7, ca8, ca9, ca10⟩ := msg_cells (m := ⟨kind, page, x, need, n, cl, ep, tn, lsn, zs, es⟩) (h := ⟨a, an, ac, b, bn, bc⟩) hM
  simp only at ca0 ca1 ca2 ca3 ca4 ca5 ca6 ca7 ca8 ca9 ca10
  obtain ⟨da0, da1, da2, da3, da4, da5, da6, da7⟩ := has_cells hH
  clear hM hH
  cases t0 : (page == 0)
  · skip
    go_wp2
    go_ret
    exact ⟨ret_bool' (by rw [HE.out, t0] <;> first | rfl | simp), hb⟩
  cases x
  rotate_left
  · skip
    go_wp2
    go_ret
    exact ⟨ret_bool' (by rw [HE.out, t0] <;> first | rfl | simp), hb⟩
  cases need
  rotate_left
  · skip
    go_wp2
    go_ret
    exact ⟨ret_bool' (by rw [HE.out, t0] <;> first | rfl | simp), hb⟩
  cases q
  · skip
    go_wp2
    go_ret
    exact ⟨ret_bool' (by rw [HE.out, t0] <;> first | rfl | simp), hb⟩
  cases t4 : (n == 0)
  · skip
    go_wp2
    go_ret
    exact ⟨ret_bool' (by rw [HE.out, t0, t4] <;> first | rfl | simp), hb⟩
  cases t5 : (lsn == 0)
  · skip
    go_wp2
    go_ret
    exact ⟨ret_bool' (by rw [HE.out, t0, t4, t5] <;> first | rfl | simp), hb⟩
  cases t6 : ((an : Int) == 0)
  · skip
    go_wp2
    go_ret
    exact ⟨ret_bool' (by rw [HE.out, t0, t4, t5, t6] <;> first | rfl | simp), hb⟩
  cases t7 : ((bn : Int) == 0)
  · skip
    go_wp2
    go_ret
    exact ⟨ret_bool' (by rw [HE.out, t0, t4, t5, t6, t7] <;> first | rfl | simp), hb⟩
  go_wp2
  go_ret
  exact ⟨ret_bool' (by rw [HE.out, t0, t4, t5, t6, t7] <;> first | rfl | simp), hb⟩
theorem wholeE_Room (m : Ms) : wholeB m hRoom = ((withinB m.n 1 1048576 || m.n == 0)) := by unfold wholeB; simp [hRoom]
set_option maxRecDepth 100000 in
set_option maxHeartbeats 1000000 in
theorem whole_Room (m : Ms) (h : Hd) (w : World) (hi : In w m h) (_ha : h.an ≤ 1000000) (_hbn : h.bn ≤ 1000000) :
    Calls Try.prog 23 #[.agg #[.int .i64 m.kind, .int .i64 m.page, .bool m.x, .bool m.need, .int .i64 m.n, .int .i64 m.cl, .int .i64 m.ep, .int .i64 m.tn, .int .i64 m.lsn, .slice h.a h.an h.ac, .slice h.b h.bn h.bc], .agg #[.bool false, .bool false, .bool false, .bool false, .bool true, .bool true, .bool false, .bool false]] w fun e w' => e = .returned (.bool (wholeB m hRoom)) ∧ Below w.heap.size w w' := by
  have HE := Lib.hid (wholeE_Room m)
  have HI := Lib.hid hi
  clear hi
  have hb := (below_box w (.cells #[.int .i64 m.kind, .int .i64 m.page, .bool m.x, .bool m.need, .int .i64 m.n, .int .i64 m.cl, .int .i64 m.ep, .int .i64 m.tn, .int .i64 m.lsn, .slice h.a h.an h.ac, .slice h.b h.bn h.bc] 30)).trans ((below_box (w.alloc (.cells #[.int .i64 m.kind, .int .i64 m.page, .bool m.x, .bool m.need, .int .i64 m.n, .int .i64 m.cl, .int .i64 m.ep, .int .i64 m.tn, .int .i64 m.lsn, .slice h.a h.an h.ac, .slice h.b h.bn h.bc] 30)) (.cells #[.bool false, .bool false, .bool false, .bool false, .bool true, .bool true, .bool false, .bool false] 61)).mono (by simp))
  have hM := (Blk.new w 30 #[.int .i64 m.kind, .int .i64 m.page, .bool m.x, .bool m.need, .int .i64 m.n, .int .i64 m.cl, .int .i64 m.ep, .int .i64 m.tn, .int .i64 m.lsn, .slice h.a h.an h.ac, .slice h.b h.bn h.bc]).alloc (.cells #[.bool false, .bool false, .bool false, .bool false, .bool true, .bool true, .bool false, .bool false] 61)
  have hH := Blk.new (w.alloc (.cells #[.int .i64 m.kind, .int .i64 m.page, .bool m.x, .bool m.need, .int .i64 m.n, .int .i64 m.cl, .int .i64 m.ep, .int .i64 m.tn, .int .i64 m.lsn, .slice h.a h.an h.ac, .slice h.b h.bn h.bc] 30)) 61 #[.bool false, .bool false, .bool false, .bool false, .bool true, .bool true, .bool false, .bool false]
  have hs : w.heap.size + 2 ≤ ((w.alloc (.cells #[.int .i64 m.kind, .int .i64 m.page, .bool m.x, .bool m.need, .int .i64 m.n, .int .i64 m.cl, .int .i64 m.ep, .int .i64 m.tn, .int .i64 m.lsn, .slice h.a h.an h.ac, .slice h.b h.bn h.bc] 30)).alloc (.cells #[.bool false, .bool false, .bool false, .bool false, .bool true, .bool true, .bool false, .bool false] 61)).heap.size := by simp
  rw [World.size_alloc] at hH
  go_enter Try.func23, Try.ntmps23
  dsimp only [List.append]
  go_upto_region 1 with (fail)
  generalize hGen : (w.alloc (.cells #[.int .i64 m.kind, .int .i64 m.page, .bool m.x, .bool m.need, .int .i64 m.n, .int .i64 m.cl, .int .i64 m.ep, .int .i64 m.tn, .int .i64 m.lsn, .slice h.a h.an h.ac, .slice h.b h.bn h.bc] 30)).alloc (.cells #[.bool false, .bool false, .bool false, .bool false, .bool true, .bool true, .bool false, .bool false] 61) = W at hb hM hH hs ⊢
  clear hGen
  obtain ⟨ca0, ca1, ca2, ca3, ca4, ca5, ca6, ca7, ca8, ca9, ca10⟩ := msg_cells hM
  obtain ⟨da0, da1, da2, da3, da4, da5, da6, da7⟩ := has_cells hH
  have HM := Lib.hid hM
  have HH := Lib.hid hH
  clear hM hH
  go_wp2_with fail
  refine (within_any m.n 1 1048576 _).mono ?_
  rintro e w' ⟨rfl, rfl⟩
  cases h0 : withinB m.n 1 1048576 with
  | false =>
    have H0 := Lib.hid h0
    clear h0
    cases hz : (m.n == 0) with
    | true =>
      have HZ := Lib.hid hz
      go_wp2
      go_ret
      exact ⟨ret_bool' (by rw [HE.out, H0.out, HZ.out]; rfl), hb⟩
    | false =>
      have HZ := Lib.hid hz
      go_wp2
      go_ret
      exact ⟨ret_bool' (by rw [HE.out, H0.out, HZ.out]; rfl), hb⟩
  | true =>
    have H0 := Lib.hid h0
    clear h0
    go_wp2
    go_ret
    exact ⟨ret_bool' (by rw [HE.out, H0.out] <;> first | rfl | simp), hb⟩
theorem bareE_Room (m : Ms) : bareB m hRoom = ((m.page == 0) && !m.x && !m.need && (m.cl == 0 && (m.ep == 0 && m.tn == 0)) && (m.lsn == 0) && decide (m.zs.length = 0) && decide (m.es.length = 0)) := by unfold bareB; simp [hRoom, Bool.and_assoc]
set_option maxRecDepth 100000 in
set_option maxHeartbeats 1000000 in
theorem bare_Room (m : Ms) (h : Hd) (w : World) (hi : In w m h) :
    Calls Try.prog 24 #[.agg #[.int .i64 m.kind, .int .i64 m.page, .bool m.x, .bool m.need, .int .i64 m.n, .int .i64 m.cl, .int .i64 m.ep, .int .i64 m.tn, .int .i64 m.lsn, .slice h.a h.an h.ac, .slice h.b h.bn h.bc], .agg #[.bool false, .bool false, .bool false, .bool false, .bool true, .bool true, .bool false, .bool false]] w fun e w' => e = .returned (.bool (bareB m hRoom)) ∧ Below w.heap.size w w' := by
  have hE := bareE_Room m
  rw [len_eq hi.s.len] at hE
  rw [len_eq hi.e.len] at hE
  have hQ := (show txnB m.cl m.ep m.tn 0 0 0 = (m.cl == 0 && (m.ep == 0 && m.tn == 0)) from rfl)
  rw [← hQ] at hE
  have hq := fun w => run_eq_txn m.cl m.ep m.tn 0 0 0 w
  have hgd := fun (A B : Operand) xs ys w => run_guard_txn .eql A B xs ys w
  clear hQ
  generalize txnB m.cl m.ep m.tn 0 0 0 = q at hq hE
  have HE := Lib.hid hE
  clear hi hE
  obtain ⟨kind, page, x, need, n, cl, ep, tn, lsn, zs, es⟩ := m
  obtain ⟨a, an, ac, b, bn, bc⟩ := h
  simp only at HE hq ⊢
  have hb := (below_box w (.cells #[.int .i64 kind, .int .i64 page, .bool x, .bool need, .int .i64 n, .int .i64 cl, .int .i64 ep, .int .i64 tn, .int .i64 lsn, .slice a an ac, .slice b bn bc] 30)).trans ((below_box (w.alloc (.cells #[.int .i64 kind, .int .i64 page, .bool x, .bool need, .int .i64 n, .int .i64 cl, .int .i64 ep, .int .i64 tn, .int .i64 lsn, .slice a an ac, .slice b bn bc] 30)) (.cells #[.bool false, .bool false, .bool false, .bool false, .bool true, .bool true, .bool false, .bool false] 61)).mono (by simp))
  have hM := (Blk.new w 30 #[.int .i64 kind, .int .i64 page, .bool x, .bool need, .int .i64 n, .int .i64 cl, .int .i64 ep, .int .i64 tn, .int .i64 lsn, .slice a an ac, .slice b bn bc]).alloc (.cells #[.bool false, .bool false, .bool false, .bool false, .bool true, .bool true, .bool false, .bool false] 61)
  have hH := Blk.new (w.alloc (.cells #[.int .i64 kind, .int .i64 page, .bool x, .bool need, .int .i64 n, .int .i64 cl, .int .i64 ep, .int .i64 tn, .int .i64 lsn, .slice a an ac, .slice b bn bc] 30)) 61 #[.bool false, .bool false, .bool false, .bool false, .bool true, .bool true, .bool false, .bool false]
  have hs : w.heap.size + 2 ≤ ((w.alloc (.cells #[.int .i64 kind, .int .i64 page, .bool x, .bool need, .int .i64 n, .int .i64 cl, .int .i64 ep, .int .i64 tn, .int .i64 lsn, .slice a an ac, .slice b bn bc] 30)).alloc (.cells #[.bool false, .bool false, .bool false, .bool false, .bool true, .bool true, .bool false, .bool false] 61)).heap.size := by simp
  rw [World.size_alloc] at hH
  go_enter Try.func24, Try.ntmps24
  dsimp only [List.append]
  go_upto_region 1 with (fail)
  generalize hGen : (w.alloc (.cells #[.int .i64 kind, .int .i64 page, .bool x, .bool need, .int .i64 n, .int .i64 cl, .int .i64 ep, .int .i64 tn, .int .i64 lsn, .slice a an ac, .slice b bn bc] 30)).alloc (.cells #[.bool false, .bool false, .bool false, .bool false, .bool true, .bool true, .bool false, .bool false] 61) = W at hb hM hH hs ⊢
  clear hGen
  obtain ⟨ca0, ca1, ca2, ca3, ca4, ca5, ca6, ca7, ca8, ca9, ca10⟩ := msg_cells (m := ⟨kind, page, x, need, n, cl, ep, tn, lsn, zs, es⟩) (h := ⟨a, an, ac, b, bn, bc⟩) hM
  simp only at ca0 ca1 ca2 ca3 ca4 ca5 ca6 ca7 ca8 ca9 ca10
  obtain ⟨da0, da1, da2, da3, da4, da5, da6, da7⟩ := has_cells hH
  clear hM hH
  cases t0 : (page == 0)
  · skip
    go_wp2
    go_ret
    exact ⟨ret_bool' (by rw [HE.out, t0] <;> first | rfl | simp), hb⟩
  cases x
  rotate_left
  · skip
    go_wp2
    go_ret
    exact ⟨ret_bool' (by rw [HE.out, t0] <;> first | rfl | simp), hb⟩
  cases need
  rotate_left
  · skip
    go_wp2
    go_ret
    exact ⟨ret_bool' (by rw [HE.out, t0] <;> first | rfl | simp), hb⟩
  cases q
  · skip
    go_wp2
    go_ret
    exact ⟨ret_bool' (by rw [HE.out, t0] <;> first | rfl | simp), hb⟩
  cases t4 : (lsn == 0)
  · skip
    go_wp2
    go_ret
    exact ⟨ret_bool' (by rw [HE.out, t0, t4] <;> first | rfl | simp), hb⟩
  cases t5 : ((an : Int) == 0)
  · skip
    go_wp2
    go_ret
    exact ⟨ret_bool' (by rw [HE.out, t0, t4, t5] <;> first | rfl | simp), hb⟩
  cases t6 : ((bn : Int) == 0)
  · skip
    go_wp2
    go_ret
    exact ⟨ret_bool' (by rw [HE.out, t0, t4, t5, t6] <;> first | rfl | simp), hb⟩
  go_wp2
  go_ret
  exact ⟨ret_bool' (by rw [HE.out, t0, t4, t5, t6] <;> first | rfl | simp), hb⟩

set_option maxRecDepth 100000 in
set_option maxHeartbeats 1000000 in
theorem good_of (H : Has) (ok : Bool) (m : Ms) (h : Hd) (w : World) (hi : In w m h)
    (hp : ∀ w, Calls Try.prog 22 #[.int .i64 m.kind, .bool m.need] w fun e w' => e = .returned (.tuple #[.agg #[.bool H.page, .bool H.x, .bool H.need, .bool H.txn, .bool H.n, .bool H.zero, .bool H.image, .bool H.entries], .bool ok]) ∧ Below w.heap.size w w')
    (hw : ∀ w, In w m h → Calls Try.prog 23 #[.agg #[.int .i64 m.kind, .int .i64 m.page, .bool m.x, .bool m.need, .int .i64 m.n, .int .i64 m.cl, .int .i64 m.ep, .int .i64 m.tn, .int .i64 m.lsn, .slice h.a h.an h.ac, .slice h.b h.bn h.bc], .agg #[.bool H.page, .bool H.x, .bool H.need, .bool H.txn, .bool H.n, .bool H.zero, .bool H.image, .bool H.entries]] w fun e w' => e = .returned (.bool (wholeB m H)) ∧ Below w.heap.size w w')
    (hr : ∀ w, In w m h → Calls Try.prog 24 #[.agg #[.int .i64 m.kind, .int .i64 m.page, .bool m.x, .bool m.need, .int .i64 m.n, .int .i64 m.cl, .int .i64 m.ep, .int .i64 m.tn, .int .i64 m.lsn, .slice h.a h.an h.ac, .slice h.b h.bn h.bc], .agg #[.bool H.page, .bool H.x, .bool H.need, .bool H.txn, .bool H.n, .bool H.zero, .bool H.image, .bool H.entries]] w fun e w' => e = .returned (.bool (bareB m H)) ∧ Below w.heap.size w w') :
    Calls Try.prog 9 #[.agg #[.int .i64 m.kind, .int .i64 m.page, .bool m.x, .bool m.need, .int .i64 m.n, .int .i64 m.cl, .int .i64 m.ep, .int .i64 m.tn, .int .i64 m.lsn, .slice h.a h.an h.ac, .slice h.b h.bn h.bc]] w fun e w' => e = .returned (.bool (ok && (wholeB m H && bareB m H))) ∧ Below w.heap.size w w' := by
  have hb := below_box w (.cells #[.int .i64 m.kind, .int .i64 m.page, .bool m.x, .bool m.need, .int .i64 m.n, .int .i64 m.cl, .int .i64 m.ep, .int .i64 m.tn, .int .i64 m.lsn, .slice h.a h.an h.ac, .slice h.b h.bn h.bc] 30)
  have hM := Blk.new w 30 #[.int .i64 m.kind, .int .i64 m.page, .bool m.x, .bool m.need, .int .i64 m.n, .int .i64 m.cl, .int .i64 m.ep, .int .i64 m.tn, .int .i64 m.lsn, .slice h.a h.an h.ac, .slice h.b h.bn h.bc]
  have hs : w.heap.size + 1 ≤ (w.alloc (.cells #[.int .i64 m.kind, .int .i64 m.page, .bool m.x, .bool m.need, .int .i64 m.n, .int .i64 m.cl, .int .i64 m.ep, .int .i64 m.tn, .int .i64 m.lsn, .slice h.a h.an h.ac, .slice h.b h.bn h.bc] 30)).heap.size := by simp
  have HP := Lib.hid hp
  have HW := Lib.hid hw
  have HR := Lib.hid hr
  have HI := Lib.hid hi
  clear hp hw hr hi
  go_enter Try.func9, Try.ntmps9
  go_upto_region 1 with (fail)
  generalize hGen : w.alloc (.cells #[.int .i64 m.kind, .int .i64 m.page, .bool m.x, .bool m.need, .int .i64 m.n, .int .i64 m.cl, .int .i64 m.ep, .int .i64 m.tn, .int .i64 m.lsn, .slice h.a h.an h.ac, .slice h.b h.bn h.bc] 30) = W at hb hM hs ⊢
  clear hGen
  obtain ⟨ca0, ca1, ca2, ca3, ca4, ca5, ca6, ca7, ca8, ca9, ca10⟩ := msg_cells hM
  go_wp2_with fail
  refine (HP.out _).mono ?_
  rintro e w1 ⟨rfl, b1⟩
  have hM1 := hM.below b1 (by omega)
  have hb1 := below_next hb b1
  have hs1 := Nat.le_trans hs b1.size
  clear ca0 ca1 ca2 ca3 ca4 ca5 ca6 ca7 ca8 ca9 ca10 hM hb b1
  go_upto_region 2 with (fail)
  have hM2 := hM1.alloc (.cells #[.bool H.page, .bool H.x, .bool H.need, .bool H.txn, .bool H.n, .bool H.zero, .bool H.image, .bool H.entries] 61)
  have hH2 := Blk.new w1 61 #[.bool H.page, .bool H.x, .bool H.need, .bool H.txn, .bool H.n, .bool H.zero, .bool H.image, .bool H.entries]
  have hb2 := below_next hb1 (below_box w1 (.cells #[.bool H.page, .bool H.x, .bool H.need, .bool H.txn, .bool H.n, .bool H.zero, .bool H.image, .bool H.entries] 61))
  have hs2 : w1.heap.size + 1 ≤ (w1.alloc (.cells #[.bool H.page, .bool H.x, .bool H.need, .bool H.txn, .bool H.n, .bool H.zero, .bool H.image, .bool H.entries] 61)).heap.size := by simp
  generalize hGen : w1.alloc (.cells #[.bool H.page, .bool H.x, .bool H.need, .bool H.txn, .bool H.n, .bool H.zero, .bool H.image, .bool H.entries] 61) = W1 at hM2 hH2 hb2 hs2 ⊢
  clear hGen
  clear hM1 hb1
  obtain ⟨ca0, ca1, ca2, ca3, ca4, ca5, ca6, ca7, ca8, ca9, ca10⟩ := msg_cells hM2
  obtain ⟨da0, da1, da2, da3, da4, da5, da6, da7⟩ := has_cells hH2
  cases ok with
  | false =>
    go_wp2
    go_ret
    exact ⟨ret_bool' rfl, hb2⟩
  | true =>
    have HM2 := Lib.hid hM2
    have HH2 := Lib.hid hH2
    clear hM2 hH2
    go_wp2_with fail
    refine (HW.out _ (HI.out.below hb2)).mono ?_
    rintro e w2 ⟨rfl, b2⟩
    have hM3 := HM2.out.below b2 (by omega)
    have hH3 := HH2.out.below b2 (by omega)
    have hb3 := below_next hb2 b2
    clear ca0 ca1 ca2 ca3 ca4 ca5 ca6 ca7 ca8 ca9 ca10 da0 da1 da2 da3 da4 da5 da6 da7 b2
    obtain ⟨ca0, ca1, ca2, ca3, ca4, ca5, ca6, ca7, ca8, ca9, ca10⟩ := msg_cells hM3
    obtain ⟨da0, da1, da2, da3, da4, da5, da6, da7⟩ := has_cells hH3
    clear hM3 hH3
    cases hv : wholeB m H with
    | false =>
      go_wp2
      go_ret
      exact ⟨ret_bool' (by rw [hv]; rfl), hb3⟩
    | true =>
      go_wp2_with fail
      refine (HR.out _ (HI.out.below hb3)).mono ?_
      rintro e w3 ⟨rfl, b3⟩
      go_wp2
      go_ret
      exact ⟨ret_bool' (by rw [hv]; simp), below_next hb3 b3⟩
theorem good_any (m : Ms) (h : Hd) (w : World) (hi : In w m h) (ha : h.an ≤ 1000000) (hbn : h.bn ≤ 1000000) :
    Calls Try.prog 9 #[.agg #[.int .i64 m.kind, .int .i64 m.page, .bool m.x, .bool m.need, .int .i64 m.n, .int .i64 m.cl, .int .i64 m.ep, .int .i64 m.tn, .int .i64 m.lsn, .slice h.a h.an h.ac, .slice h.b h.bn h.bc]] w fun e w' => e = .returned (.bool (goodM m)) ∧ Below w.heap.size w w' := by
  have hP := fun w => parts_any m.kind m.need w
  unfold goodM
  cases kind_of m.kind with
  | lock _ hh ho => rw [hh] at hP ⊢; exact good_of hLock _ m h w hi hP (fun w hi => whole_Lock m h w hi ha hbn) (fun w hi => bare_Lock m h w hi)
  | free _ hh ho => rw [hh] at hP ⊢; exact good_of hFree _ m h w hi hP (fun w hi => whole_Free m h w hi ha hbn) (fun w hi => bare_Free m h w hi)
  | use _ hh ho => rw [hh] at hP ⊢; exact good_of hUse _ m h w hi hP (fun w hi => whole_Use m h w hi ha hbn) (fun w hi => bare_Use m h w hi)
  | log _ hh ho => rw [hh] at hP ⊢; exact good_of hLog _ m h w hi hP (fun w hi => whole_Log m h w hi ha hbn) (fun w hi => bare_Log m h w hi)
  | image _ hh ho => rw [hh] at hP ⊢; exact good_of hImage _ m h w hi hP (fun w hi => whole_Image m h w hi ha hbn) (fun w hi => bare_Image m h w hi)
  | txn _ hh ho => rw [hh] at hP ⊢; exact good_of hTxn _ m h w hi hP (fun w hi => whole_Txn m h w hi ha hbn) (fun w hi => bare_Txn m h w hi)
  | space _ hh ho => rw [hh] at hP ⊢; exact good_of hSpace _ m h w hi hP (fun w hi => whole_Space m h w hi ha hbn) (fun w hi => bare_Space m h w hi)
  | victim _ hh ho => rw [hh] at hP ⊢; exact good_of hNone _ m h w hi hP (fun w hi => whole_None m h w hi ha hbn) (fun w hi => bare_None m h w hi)
  | room _ hh ho => rw [hh] at hP ⊢; exact good_of hRoom _ m h w hi hP (fun w hi => whole_Room m h w hi ha hbn) (fun w hi => bare_Room m h w hi)
  | none _ hh ho => rw [hh] at hP ⊢; exact good_of hNone _ m h w hi hP (fun w hi => whole_None m h w hi ha hbn) (fun w hi => bare_None m h w hi)
  | grant _ hh ho =>
    rw [hh] at hP ⊢
    rcases Bool.eq_false_or_eq_true m.need with hn | hn
    · rw [show hGrant m.need = hGrant true by rw [hn]] at hP ⊢
      exact good_of (hGrant true) _ m h w hi hP (fun w hi => whole_Grant m h w hi ha hbn) (fun w hi => bare_Grant m h w hi)
    · rw [show hGrant m.need = hLock by rw [hn]; rfl] at hP ⊢
      exact good_of hLock _ m h w hi hP (fun w hi => whole_Lock m h w hi ha hbn) (fun w hi => bare_Lock m h w hi)
end Go.Proofs.Ytjffjmffoffblaa.Note
