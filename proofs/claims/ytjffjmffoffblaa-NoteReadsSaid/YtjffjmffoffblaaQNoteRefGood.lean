/- The walks of the document's own Good, at each of the kinds. -/
import Derived.Test.YtjffjmffoffblaaQNoteRef
namespace Go.Proofs.Ytjffjmffoffblaa.Note
set_option maxRecDepth 100000
open Go.RowKit
open Go.Proofs.Ytjffjmffoffblaa.Nib (enc below_next below_drew Fits)
open Go.Proofs.Ytjffjmffoffblaa.Slab (Slot Slots Blk ret_bool' ret_int')
open Go.Proofs.Ytjffjmffoffblaa.Ent (Ent Ents EntAt SmallE withinB knownB noE entA below_box alloc_lt arr arr_list list_arr arr_size ent_cells)
theorem in_is (s : ByteArray) (c : UInt8) (b : Bool) (h : s.size ≤ 1000) (hb : inB s.data.toList c = b) (w : World) (x : Int) (hx : (c.toNat : Int) = x) :
    Calls Try.prog 15 #[.string s, .int .u8 x] w fun e w' => e = .returned (.bool b) ∧ w = w' := by
  subst hx; subst hb; exact in_any s c w h
theorem anyE_all {l : List Ent} {k : Nat} {x : Ent} (h : l[k]? = some x) (hx : Ent.goodB x = false) : l.any wrongE = true :=
  List.any_eq_true.2 ⟨x, List.mem_of_getElem? h, by unfold wrongE; rw [hx]; rfl⟩
theorem within_no {a lo hi : Int} (h : ¬ (lo ≤ a ∧ a ≤ hi)) : withinB a lo hi = false := decide_eq_false h
theorem within_yes {a lo hi : Int} (h : lo ≤ a ∧ a ≤ hi) : withinB a lo hi = true := decide_eq_true h
theorem anyE_none {l : List Ent} {n : Nat} (hn : l.length = n) (h : ∀ i x, l[i]? = some x → i < n → Ent.goodB x = true) : l.any wrongE = false := by
  rw [List.any_eq_false]
  intro x hx
  obtain ⟨i, hi, rfl⟩ := List.getElem_of_mem hx
  have := h i l[i] (List.getElem?_eq_getElem hi) (by omega)
  unfold wrongE; rw [this]; simp
theorem len0 {α : Type} {l : List α} {n : Nat} (h : l.length = n) (hn : n = 0) : decide (l.length = 0) = true := decide_eq_true (by omega)
theorem len1 {α : Type} {l : List α} {n : Nat} (h : l.length = n) (hn : ¬ n = 0) : decide (l.length = 0) = false := decide_eq_false (by omega)

set_option maxRecDepth 100000 in
set_option maxHeartbeats 4000000 in
theorem rgood_Lock (m : Ms) (h : Hd) (w : World) (hi : In w m h) (_ha : h.an ≤ 1000000) (_hbn : h.bn ≤ 1000000) (hk13 : (m.kind == 13) = false)
    (hh : ∀ w, In w m h → Calls Try.prog 14 #[.agg #[.int .i64 m.kind, .int .i64 m.page, .bool m.x, .bool m.need, .int .i64 m.n, .int .i64 m.cl, .int .i64 m.ep, .int .i64 m.tn, .int .i64 m.lsn, .slice h.a h.an h.ac, .slice h.b h.bn h.bc]] w fun e w' => e = .returned (.string ⟨#[112, 120, 110]⟩) ∧ Below w.heap.size w w') :
    Calls Try.prog 19 #[.agg #[.int .i64 m.kind, .int .i64 m.page, .bool m.x, .bool m.need, .int .i64 m.n, .int .i64 m.cl, .int .i64 m.ep, .int .i64 m.tn, .int .i64 m.lsn, .slice h.a h.an h.ac, .slice h.b h.bn h.bc]] w fun e w' => e = .returned (.bool (wholeB m hLock && bareB m hLock)) ∧ Below w.heap.size w w' := by
  have HE := Lib.hid (show (wholeB m hLock && bareB m hLock) = _ from by rw [wholeE_Lock, bareE_Lock])
  have HI := Lib.hid hi
  have HH := Lib.hid hh
  have HLA := Lib.hid (show m.zs.length = h.an from hi.s.len)
  have HLB := Lib.hid (show m.es.length = h.bn from hi.e.len)
  clear hi hh
  have i_p := Lib.hid (fun w => in_is ⟨#[112, 120, 110]⟩ 112 true (by decide) (by decide) w 112 (by decide))
  have i_x := Lib.hid (fun w => in_is ⟨#[112, 120, 110]⟩ 120 true (by decide) (by decide) w 120 (by decide))
  have i_n := Lib.hid (fun w => in_is ⟨#[112, 120, 110]⟩ 110 true (by decide) (by decide) w 110 (by decide))
  have i_t := Lib.hid (fun w => in_is ⟨#[112, 120, 110]⟩ 116 false (by decide) (by decide) w 116 (by decide))
  have i_k := Lib.hid (fun w => in_is ⟨#[112, 120, 110]⟩ 107 false (by decide) (by decide) w 107 (by decide))
  have i_i := Lib.hid (fun w => in_is ⟨#[112, 120, 110]⟩ 105 false (by decide) (by decide) w 105 (by decide))
  have i_e := Lib.hid (fun w => in_is ⟨#[112, 120, 110]⟩ 101 false (by decide) (by decide) w 101 (by decide))
  have hb := below_box w (.cells #[.int .i64 m.kind, .int .i64 m.page, .bool m.x, .bool m.need, .int .i64 m.n, .int .i64 m.cl, .int .i64 m.ep, .int .i64 m.tn, .int .i64 m.lsn, .slice h.a h.an h.ac, .slice h.b h.bn h.bc] 30)
  have hM := Blk.new w 30 #[.int .i64 m.kind, .int .i64 m.page, .bool m.x, .bool m.need, .int .i64 m.n, .int .i64 m.cl, .int .i64 m.ep, .int .i64 m.tn, .int .i64 m.lsn, .slice h.a h.an h.ac, .slice h.b h.bn h.bc]
  have hs := alloc_lt w (.cells #[.int .i64 m.kind, .int .i64 m.page, .bool m.x, .bool m.need, .int .i64 m.n, .int .i64 m.cl, .int .i64 m.ep, .int .i64 m.tn, .int .i64 m.lsn, .slice h.a h.an h.ac, .slice h.b h.bn h.bc] 30)
  go_enter Try.func19, Try.ntmps19
  try dsimp only [List.append]
  go_upto_region 1 with (fail)
  generalize hGen : w.alloc (.cells #[.int .i64 m.kind, .int .i64 m.page, .bool m.x, .bool m.need, .int .i64 m.n, .int .i64 m.cl, .int .i64 m.ep, .int .i64 m.tn, .int .i64 m.lsn, .slice h.a h.an h.ac, .slice h.b h.bn h.bc] 30) = W at hb hM hs ⊢
  clear hGen
  obtain ⟨c0, c1, c2, c3, c4, c5, c6, c7, c8, c9, c10⟩ := msg_cells hM
  go_wp2_with fail
  refine (HH.out _ (HI.out.below hb)).mono ?_
  rintro e w1 ⟨rfl, b1⟩
  have hM1 := hM.below b1 hs
  have hb1 := below_next hb b1
  have hs1 := Nat.lt_of_lt_of_le hs b1.size
  clear c0 c1 c2 c3 c4 c5 c6 c7 c8 c9 c10 hM hb b1 hs
  obtain ⟨c0, c1, c2, c3, c4, c5, c6, c7, c8, c9, c10⟩ := msg_cells hM1
  go_upto_region 8 with (fail)
  have hM2 := hM1.alloc (.cells #[.int .i64 0, .int .i64 0, .int .i64 0] 24)
  have hN2 := Blk.new w1 24 #[.int .i64 0, .int .i64 0, .int .i64 0]
  have hb2 := below_next hb1 (below_box w1 (.cells #[.int .i64 0, .int .i64 0, .int .i64 0] 24))
  have hs2 := alloc_lt w1 (.cells #[.int .i64 0, .int .i64 0, .int .i64 0] 24)
  generalize hGen : w1.alloc (.cells #[.int .i64 0, .int .i64 0, .int .i64 0] 24) = W1 at hM2 hN2 hb2 hs2 ⊢
  clear hGen
  have hwn : w.heap.size < W1.heap.size := by omega
  generalize hGen : w1.heap.size = gn at hN2 hs2 hs1 ⊢
  clear hGen
  clear c0 c1 c2 c3 c4 c5 c6 c7 c8 c9 c10 hM1 hb1
  have HM := Lib.hid hM2
  have HN := Lib.hid hN2
  have HB := Lib.hid hb2
  clear hM2 hN2 hb2
  have HW := Lib.hid (And.intro hwn hs2)
  clear hwn hs2 hs1
  obtain ⟨c0, c1, c2, c3, c4, c5, c6, c7, c8, c9, c10⟩ := msg_cells HM.out
  have n0 := Blk.cell HN.out 0
  have n1 := Blk.cell HN.out 1
  have n2 := Blk.cell HN.out 2
  simp at n0 n1 n2
  by_cases a0 : m.page < 0
  · have A := Lib.hid (show withinB m.page 0 1023 = false from within_no (by omega))
    have HF := Lib.hid (show (wholeB m hLock && bareB m hLock) = false from by rw [HE.out, A.out]; simp)
    go_wp2_with (go_at_call 15; apply Calls.mono; (with_reducible first | exact i_p.out _ | exact i_x.out _ | exact i_n.out _ | exact i_t.out _ | exact i_k.out _ | exact i_i.out _ | exact i_e.out _); rintro e w' ⟨rfl, rfl⟩)
    go_ret
    exact ⟨ret_bool' HF.out.symm, HB.out⟩
  by_cases a1 : 1023 < m.page
  · have A := Lib.hid (show withinB m.page 0 1023 = false from within_no (by omega))
    have HF := Lib.hid (show (wholeB m hLock && bareB m hLock) = false from by rw [HE.out, A.out]; simp)
    go_wp2_with (go_at_call 15; apply Calls.mono; (with_reducible first | exact i_p.out _ | exact i_x.out _ | exact i_n.out _ | exact i_t.out _ | exact i_k.out _ | exact i_i.out _ | exact i_e.out _); rintro e w' ⟨rfl, rfl⟩)
    go_ret
    exact ⟨ret_bool' HF.out.symm, HB.out⟩
  have F0 := Lib.hid (show withinB m.page 0 1023 = true from within_yes (by omega))
  go_upto_region 10 with (go_at_call 15; apply Calls.mono; (with_reducible first | exact i_p.out _ | exact i_x.out _ | exact i_n.out _ | exact i_t.out _ | exact i_k.out _ | exact i_i.out _ | exact i_e.out _); rintro e w' ⟨rfl, rfl⟩)
  have hq := fun w => run_ne_txn m.cl m.ep m.tn 0 0 0 w
  have hgd := fun (A B : Operand) xs ys w => run_guard_txn .neq A B xs ys w
  have HQ := Lib.hid (show (m.cl == 0 && (m.ep == 0 && m.tn == 0)) = txnB m.cl m.ep m.tn 0 0 0 from rfl)
  generalize txnB m.cl m.ep m.tn 0 0 0 = q at hq HQ
  cases q with
  | false =>
    have HF := Lib.hid (show (wholeB m hLock && bareB m hLock) = false from by rw [HE.out, HQ.out]; simp)
    go_wp2_with (go_at_call 15; apply Calls.mono; (with_reducible first | exact i_p.out _ | exact i_x.out _ | exact i_n.out _ | exact i_t.out _ | exact i_k.out _ | exact i_i.out _ | exact i_e.out _); rintro e w' ⟨rfl, rfl⟩)
    go_ret
    exact ⟨ret_bool' HF.out.symm, HB.out⟩
  | true =>
    go_upto_region 12 with (go_at_call 15; apply Calls.mono; (with_reducible first | exact i_p.out _ | exact i_x.out _ | exact i_n.out _ | exact i_t.out _ | exact i_k.out _ | exact i_i.out _ | exact i_e.out _); rintro e w' ⟨rfl, rfl⟩)
    clear hq hgd
    by_cases a2 : m.n = 0
    rotate_left
    · have t2 : (m.n != 0) = true := bne_iff_ne.2 a2
      have A := Lib.hid (show (m.n == 0) = false from beq_eq_false_iff_ne.2 a2)
      clear a2
      have HF := Lib.hid (show (wholeB m hLock && bareB m hLock) = false from by rw [HE.out, A.out]; simp)
      go_wp2_with (go_at_call 15; apply Calls.mono; (with_reducible first | exact i_p.out _ | exact i_x.out _ | exact i_n.out _ | exact i_t.out _ | exact i_k.out _ | exact i_i.out _ | exact i_e.out _); rintro e w' ⟨rfl, rfl⟩)
      go_ret
      exact ⟨ret_bool' HF.out.symm, HB.out⟩
    have t2 : (m.n != 0) = false := by rw [a2]; rfl
    have F2 := Lib.hid (show (m.n == 0) = true from by rw [a2]; rfl)
    clear a2
    go_upto_region 14 with (go_at_call 15; apply Calls.mono; (with_reducible first | exact i_p.out _ | exact i_x.out _ | exact i_n.out _ | exact i_t.out _ | exact i_k.out _ | exact i_i.out _ | exact i_e.out _); rintro e w' ⟨rfl, rfl⟩)
    by_cases a4 : m.lsn = 0
    rotate_left
    · have t4 : (m.lsn != 0) = true := bne_iff_ne.2 a4
      have A := Lib.hid (show (m.lsn == 0) = false from beq_eq_false_iff_ne.2 a4)
      clear a4
      have HF := Lib.hid (show (wholeB m hLock && bareB m hLock) = false from by rw [HE.out, A.out]; simp)
      go_wp2_with (go_at_call 15; apply Calls.mono; (with_reducible first | exact i_p.out _ | exact i_x.out _ | exact i_n.out _ | exact i_t.out _ | exact i_k.out _ | exact i_i.out _ | exact i_e.out _); rintro e w' ⟨rfl, rfl⟩)
      go_ret
      exact ⟨ret_bool' HF.out.symm, HB.out⟩
    have t4 : (m.lsn != 0) = false := by rw [a4]; rfl
    have F3 := Lib.hid (show (m.lsn == 0) = true from by rw [a4]; rfl)
    clear a4
    by_cases a5 : (0 : Int) < (h.an : Int)
    · have A := Lib.hid (show decide (m.zs.length = 0) = false from len1 HLA.out (by omega))
      have HF := Lib.hid (show (wholeB m hLock && bareB m hLock) = false from by rw [HE.out, A.out]; simp)
      go_wp2_with (go_at_call 15; apply Calls.mono; (with_reducible first | exact i_p.out _ | exact i_x.out _ | exact i_n.out _ | exact i_t.out _ | exact i_k.out _ | exact i_i.out _ | exact i_e.out _); rintro e w' ⟨rfl, rfl⟩)
      go_ret
      exact ⟨ret_bool' HF.out.symm, HB.out⟩
    have F4 := Lib.hid (show decide (m.zs.length = 0) = true from len0 HLA.out (by omega))
    go_upto_region 16 with (go_at_call 15; apply Calls.mono; (with_reducible first | exact i_p.out _ | exact i_x.out _ | exact i_n.out _ | exact i_t.out _ | exact i_k.out _ | exact i_i.out _ | exact i_e.out _); rintro e w' ⟨rfl, rfl⟩)
    by_cases a6 : (0 : Int) < (h.bn : Int)
    · have A := Lib.hid (show decide (m.es.length = 0) = false from len1 HLB.out (by omega))
      have HF := Lib.hid (show (wholeB m hLock && bareB m hLock) = false from by rw [HE.out, A.out]; simp)
      go_wp2_with (go_at_call 15; apply Calls.mono; (with_reducible first | exact i_p.out _ | exact i_x.out _ | exact i_n.out _ | exact i_t.out _ | exact i_k.out _ | exact i_i.out _ | exact i_e.out _); rintro e w' ⟨rfl, rfl⟩)
      go_ret
      exact ⟨ret_bool' HF.out.symm, HB.out⟩
    have F5 := Lib.hid (show decide (m.es.length = 0) = true from len0 HLB.out (by omega))
    go_upto_region 18 with (go_at_call 15; apply Calls.mono; (with_reducible first | exact i_p.out _ | exact i_x.out _ | exact i_n.out _ | exact i_t.out _ | exact i_k.out _ | exact i_i.out _ | exact i_e.out _); rintro e w' ⟨rfl, rfl⟩)
    have hb0 : h.bn = 0 := by omega
    rw [hb0] at c10
    clear hb0 a6
    have HF := Lib.hid (show (wholeB m hLock && bareB m hLock) = true from by rw [HE.out, F0.out, HQ.out, F2.out, F3.out, F4.out, F5.out] <;> rfl)
    go_wp2_with fail
    go_loop [6] (fun i => i = .int .i64 0) (fun _ => 0)
    case atStart => rfl
    case round =>
      obtain rfl := hrel
      go_wp2
      go_ret
      exact ⟨ret_bool' HF.out.symm, HB.out⟩
set_option maxRecDepth 100000 in
set_option maxHeartbeats 4000000 in
theorem rgood_Free (m : Ms) (h : Hd) (w : World) (hi : In w m h) (_ha : h.an ≤ 1000000) (_hbn : h.bn ≤ 1000000) (hk13 : (m.kind == 13) = false)
    (hh : ∀ w, In w m h → Calls Try.prog 14 #[.agg #[.int .i64 m.kind, .int .i64 m.page, .bool m.x, .bool m.need, .int .i64 m.n, .int .i64 m.cl, .int .i64 m.ep, .int .i64 m.tn, .int .i64 m.lsn, .slice h.a h.an h.ac, .slice h.b h.bn h.bc]] w fun e w' => e = .returned (.string ⟨#[112, 120]⟩) ∧ Below w.heap.size w w') :
    Calls Try.prog 19 #[.agg #[.int .i64 m.kind, .int .i64 m.page, .bool m.x, .bool m.need, .int .i64 m.n, .int .i64 m.cl, .int .i64 m.ep, .int .i64 m.tn, .int .i64 m.lsn, .slice h.a h.an h.ac, .slice h.b h.bn h.bc]] w fun e w' => e = .returned (.bool (wholeB m hFree && bareB m hFree)) ∧ Below w.heap.size w w' := by
  have HE := Lib.hid (show (wholeB m hFree && bareB m hFree) = _ from by rw [wholeE_Free, bareE_Free])
  have HI := Lib.hid hi
  have HH := Lib.hid hh
  have HLA := Lib.hid (show m.zs.length = h.an from hi.s.len)
  have HLB := Lib.hid (show m.es.length = h.bn from hi.e.len)
  clear hi hh
  have i_p := Lib.hid (fun w => in_is ⟨#[112, 120]⟩ 112 true (by decide) (by decide) w 112 (by decide))
  have i_x := Lib.hid (fun w => in_is ⟨#[112, 120]⟩ 120 true (by decide) (by decide) w 120 (by decide))
  have i_n := Lib.hid (fun w => in_is ⟨#[112, 120]⟩ 110 false (by decide) (by decide) w 110 (by decide))
  have i_t := Lib.hid (fun w => in_is ⟨#[112, 120]⟩ 116 false (by decide) (by decide) w 116 (by decide))
  have i_k := Lib.hid (fun w => in_is ⟨#[112, 120]⟩ 107 false (by decide) (by decide) w 107 (by decide))
  have i_i := Lib.hid (fun w => in_is ⟨#[112, 120]⟩ 105 false (by decide) (by decide) w 105 (by decide))
  have i_e := Lib.hid (fun w => in_is ⟨#[112, 120]⟩ 101 false (by decide) (by decide) w 101 (by decide))
  have hb := below_box w (.cells #[.int .i64 m.kind, .int .i64 m.page, .bool m.x, .bool m.need, .int .i64 m.n, .int .i64 m.cl, .int .i64 m.ep, .int .i64 m.tn, .int .i64 m.lsn, .slice h.a h.an h.ac, .slice h.b h.bn h.bc] 30)
  have hM := Blk.new w 30 #[.int .i64 m.kind, .int .i64 m.page, .bool m.x, .bool m.need, .int .i64 m.n, .int .i64 m.cl, .int .i64 m.ep, .int .i64 m.tn, .int .i64 m.lsn, .slice h.a h.an h.ac, .slice h.b h.bn h.bc]
  have hs := alloc_lt w (.cells #[.int .i64 m.kind, .int .i64 m.page, .bool m.x, .bool m.need, .int .i64 m.n, .int .i64 m.cl, .int .i64 m.ep, .int .i64 m.tn, .int .i64 m.lsn, .slice h.a h.an h.ac, .slice h.b h.bn h.bc] 30)
  go_enter Try.func19, Try.ntmps19
  try dsimp only [List.append]
  go_upto_region 1 with (fail)
  generalize hGen : w.alloc (.cells #[.int .i64 m.kind, .int .i64 m.page, .bool m.x, .bool m.need, .int .i64 m.n, .int .i64 m.cl, .int .i64 m.ep, .int .i64 m.tn, .int .i64 m.lsn, .slice h.a h.an h.ac, .slice h.b h.bn h.bc] 30) = W at hb hM hs ⊢
  clear hGen
  obtain ⟨c0, c1, c2, c3, c4, c5, c6, c7, c8, c9, c10⟩ := msg_cells hM
  go_wp2_with fail
  refine (HH.out _ (HI.out.below hb)).mono ?_
  rintro e w1 ⟨rfl, b1⟩
  have hM1 := hM.below b1 hs
  have hb1 := below_next hb b1
  have hs1 := Nat.lt_of_lt_of_le hs b1.size
  clear c0 c1 c2 c3 c4 c5 c6 c7 c8 c9 c10 hM hb b1 hs
  obtain ⟨c0, c1, c2, c3, c4, c5, c6, c7, c8, c9, c10⟩ := msg_cells hM1
  go_upto_region 8 with (fail)
  have hM2 := hM1.alloc (.cells #[.int .i64 0, .int .i64 0, .int .i64 0] 24)
  have hN2 := Blk.new w1 24 #[.int .i64 0, .int .i64 0, .int .i64 0]
  have hb2 := below_next hb1 (below_box w1 (.cells #[.int .i64 0, .int .i64 0, .int .i64 0] 24))
  have hs2 := alloc_lt w1 (.cells #[.int .i64 0, .int .i64 0, .int .i64 0] 24)
  generalize hGen : w1.alloc (.cells #[.int .i64 0, .int .i64 0, .int .i64 0] 24) = W1 at hM2 hN2 hb2 hs2 ⊢
  clear hGen
  have hwn : w.heap.size < W1.heap.size := by omega
  generalize hGen : w1.heap.size = gn at hN2 hs2 hs1 ⊢
  clear hGen
  clear c0 c1 c2 c3 c4 c5 c6 c7 c8 c9 c10 hM1 hb1
  have HM := Lib.hid hM2
  have HN := Lib.hid hN2
  have HB := Lib.hid hb2
  clear hM2 hN2 hb2
  have HW := Lib.hid (And.intro hwn hs2)
  clear hwn hs2 hs1
  obtain ⟨c0, c1, c2, c3, c4, c5, c6, c7, c8, c9, c10⟩ := msg_cells HM.out
  have n0 := Blk.cell HN.out 0
  have n1 := Blk.cell HN.out 1
  have n2 := Blk.cell HN.out 2
  simp at n0 n1 n2
  by_cases a0 : m.page < 0
  · have A := Lib.hid (show withinB m.page 0 1023 = false from within_no (by omega))
    have HF := Lib.hid (show (wholeB m hFree && bareB m hFree) = false from by rw [HE.out, A.out]; simp)
    go_wp2_with (go_at_call 15; apply Calls.mono; (with_reducible first | exact i_p.out _ | exact i_x.out _ | exact i_n.out _ | exact i_t.out _ | exact i_k.out _ | exact i_i.out _ | exact i_e.out _); rintro e w' ⟨rfl, rfl⟩)
    go_ret
    exact ⟨ret_bool' HF.out.symm, HB.out⟩
  by_cases a1 : 1023 < m.page
  · have A := Lib.hid (show withinB m.page 0 1023 = false from within_no (by omega))
    have HF := Lib.hid (show (wholeB m hFree && bareB m hFree) = false from by rw [HE.out, A.out]; simp)
    go_wp2_with (go_at_call 15; apply Calls.mono; (with_reducible first | exact i_p.out _ | exact i_x.out _ | exact i_n.out _ | exact i_t.out _ | exact i_k.out _ | exact i_i.out _ | exact i_e.out _); rintro e w' ⟨rfl, rfl⟩)
    go_ret
    exact ⟨ret_bool' HF.out.symm, HB.out⟩
  have F0 := Lib.hid (show withinB m.page 0 1023 = true from within_yes (by omega))
  rcases Bool.eq_false_or_eq_true m.need with hn | hn
  · rw [hn] at c3
    have A := Lib.hid hn
    clear hn
    have HF := Lib.hid (show (wholeB m hFree && bareB m hFree) = false from by rw [HE.out, A.out]; simp)
    go_wp2_with (go_at_call 15; apply Calls.mono; (with_reducible first | exact i_p.out _ | exact i_x.out _ | exact i_n.out _ | exact i_t.out _ | exact i_k.out _ | exact i_i.out _ | exact i_e.out _); rintro e w' ⟨rfl, rfl⟩)
    go_ret
    exact ⟨ret_bool' HF.out.symm, HB.out⟩
  rw [hn] at c3
  have F_n := Lib.hid hn
  clear hn
  go_upto_region 10 with (go_at_call 15; apply Calls.mono; (with_reducible first | exact i_p.out _ | exact i_x.out _ | exact i_n.out _ | exact i_t.out _ | exact i_k.out _ | exact i_i.out _ | exact i_e.out _); rintro e w' ⟨rfl, rfl⟩)
  have hq := fun w => run_ne_txn m.cl m.ep m.tn 0 0 0 w
  have hgd := fun (A B : Operand) xs ys w => run_guard_txn .neq A B xs ys w
  have HQ := Lib.hid (show (m.cl == 0 && (m.ep == 0 && m.tn == 0)) = txnB m.cl m.ep m.tn 0 0 0 from rfl)
  generalize txnB m.cl m.ep m.tn 0 0 0 = q at hq HQ
  cases q with
  | false =>
    have HF := Lib.hid (show (wholeB m hFree && bareB m hFree) = false from by rw [HE.out, HQ.out]; simp)
    go_wp2_with (go_at_call 15; apply Calls.mono; (with_reducible first | exact i_p.out _ | exact i_x.out _ | exact i_n.out _ | exact i_t.out _ | exact i_k.out _ | exact i_i.out _ | exact i_e.out _); rintro e w' ⟨rfl, rfl⟩)
    go_ret
    exact ⟨ret_bool' HF.out.symm, HB.out⟩
  | true =>
    go_upto_region 12 with (go_at_call 15; apply Calls.mono; (with_reducible first | exact i_p.out _ | exact i_x.out _ | exact i_n.out _ | exact i_t.out _ | exact i_k.out _ | exact i_i.out _ | exact i_e.out _); rintro e w' ⟨rfl, rfl⟩)
    clear hq hgd
    by_cases a2 : m.n = 0
    rotate_left
    · have t2 : (m.n != 0) = true := bne_iff_ne.2 a2
      have A := Lib.hid (show (m.n == 0) = false from beq_eq_false_iff_ne.2 a2)
      clear a2
      have HF := Lib.hid (show (wholeB m hFree && bareB m hFree) = false from by rw [HE.out, A.out]; simp)
      go_wp2_with (go_at_call 15; apply Calls.mono; (with_reducible first | exact i_p.out _ | exact i_x.out _ | exact i_n.out _ | exact i_t.out _ | exact i_k.out _ | exact i_i.out _ | exact i_e.out _); rintro e w' ⟨rfl, rfl⟩)
      go_ret
      exact ⟨ret_bool' HF.out.symm, HB.out⟩
    have t2 : (m.n != 0) = false := by rw [a2]; rfl
    have F2 := Lib.hid (show (m.n == 0) = true from by rw [a2]; rfl)
    clear a2
    go_upto_region 14 with (go_at_call 15; apply Calls.mono; (with_reducible first | exact i_p.out _ | exact i_x.out _ | exact i_n.out _ | exact i_t.out _ | exact i_k.out _ | exact i_i.out _ | exact i_e.out _); rintro e w' ⟨rfl, rfl⟩)
    by_cases a4 : m.lsn = 0
    rotate_left
    · have t4 : (m.lsn != 0) = true := bne_iff_ne.2 a4
      have A := Lib.hid (show (m.lsn == 0) = false from beq_eq_false_iff_ne.2 a4)
      clear a4
      have HF := Lib.hid (show (wholeB m hFree && bareB m hFree) = false from by rw [HE.out, A.out]; simp)
      go_wp2_with (go_at_call 15; apply Calls.mono; (with_reducible first | exact i_p.out _ | exact i_x.out _ | exact i_n.out _ | exact i_t.out _ | exact i_k.out _ | exact i_i.out _ | exact i_e.out _); rintro e w' ⟨rfl, rfl⟩)
      go_ret
      exact ⟨ret_bool' HF.out.symm, HB.out⟩
    have t4 : (m.lsn != 0) = false := by rw [a4]; rfl
    have F3 := Lib.hid (show (m.lsn == 0) = true from by rw [a4]; rfl)
    clear a4
    by_cases a5 : (0 : Int) < (h.an : Int)
    · have A := Lib.hid (show decide (m.zs.length = 0) = false from len1 HLA.out (by omega))
      have HF := Lib.hid (show (wholeB m hFree && bareB m hFree) = false from by rw [HE.out, A.out]; simp)
      go_wp2_with (go_at_call 15; apply Calls.mono; (with_reducible first | exact i_p.out _ | exact i_x.out _ | exact i_n.out _ | exact i_t.out _ | exact i_k.out _ | exact i_i.out _ | exact i_e.out _); rintro e w' ⟨rfl, rfl⟩)
      go_ret
      exact ⟨ret_bool' HF.out.symm, HB.out⟩
    have F4 := Lib.hid (show decide (m.zs.length = 0) = true from len0 HLA.out (by omega))
    go_upto_region 16 with (go_at_call 15; apply Calls.mono; (with_reducible first | exact i_p.out _ | exact i_x.out _ | exact i_n.out _ | exact i_t.out _ | exact i_k.out _ | exact i_i.out _ | exact i_e.out _); rintro e w' ⟨rfl, rfl⟩)
    by_cases a6 : (0 : Int) < (h.bn : Int)
    · have A := Lib.hid (show decide (m.es.length = 0) = false from len1 HLB.out (by omega))
      have HF := Lib.hid (show (wholeB m hFree && bareB m hFree) = false from by rw [HE.out, A.out]; simp)
      go_wp2_with (go_at_call 15; apply Calls.mono; (with_reducible first | exact i_p.out _ | exact i_x.out _ | exact i_n.out _ | exact i_t.out _ | exact i_k.out _ | exact i_i.out _ | exact i_e.out _); rintro e w' ⟨rfl, rfl⟩)
      go_ret
      exact ⟨ret_bool' HF.out.symm, HB.out⟩
    have F5 := Lib.hid (show decide (m.es.length = 0) = true from len0 HLB.out (by omega))
    go_upto_region 18 with (go_at_call 15; apply Calls.mono; (with_reducible first | exact i_p.out _ | exact i_x.out _ | exact i_n.out _ | exact i_t.out _ | exact i_k.out _ | exact i_i.out _ | exact i_e.out _); rintro e w' ⟨rfl, rfl⟩)
    have hb0 : h.bn = 0 := by omega
    rw [hb0] at c10
    clear hb0 a6
    have HF := Lib.hid (show (wholeB m hFree && bareB m hFree) = true from by rw [HE.out, F0.out, F_n.out, HQ.out, F2.out, F3.out, F4.out, F5.out] <;> rfl)
    go_wp2_with fail
    go_loop [6] (fun i => i = .int .i64 0) (fun _ => 0)
    case atStart => rfl
    case round =>
      obtain rfl := hrel
      go_wp2
      go_ret
      exact ⟨ret_bool' HF.out.symm, HB.out⟩
set_option maxRecDepth 100000 in
set_option maxHeartbeats 4000000 in
theorem rgood_Use (m : Ms) (h : Hd) (w : World) (hi : In w m h) (_ha : h.an ≤ 1000000) (_hbn : h.bn ≤ 1000000) (hk13 : (m.kind == 13) = false)
    (hh : ∀ w, In w m h → Calls Try.prog 14 #[.agg #[.int .i64 m.kind, .int .i64 m.page, .bool m.x, .bool m.need, .int .i64 m.n, .int .i64 m.cl, .int .i64 m.ep, .int .i64 m.tn, .int .i64 m.lsn, .slice h.a h.an h.ac, .slice h.b h.bn h.bc]] w fun e w' => e = .returned (.string ⟨#[112]⟩) ∧ Below w.heap.size w w') :
    Calls Try.prog 19 #[.agg #[.int .i64 m.kind, .int .i64 m.page, .bool m.x, .bool m.need, .int .i64 m.n, .int .i64 m.cl, .int .i64 m.ep, .int .i64 m.tn, .int .i64 m.lsn, .slice h.a h.an h.ac, .slice h.b h.bn h.bc]] w fun e w' => e = .returned (.bool (wholeB m hUse && bareB m hUse)) ∧ Below w.heap.size w w' := by
  have HE := Lib.hid (show (wholeB m hUse && bareB m hUse) = _ from by rw [wholeE_Use, bareE_Use])
  have HI := Lib.hid hi
  have HH := Lib.hid hh
  have HLA := Lib.hid (show m.zs.length = h.an from hi.s.len)
  have HLB := Lib.hid (show m.es.length = h.bn from hi.e.len)
  clear hi hh
  have i_p := Lib.hid (fun w => in_is ⟨#[112]⟩ 112 true (by decide) (by decide) w 112 (by decide))
  have i_x := Lib.hid (fun w => in_is ⟨#[112]⟩ 120 false (by decide) (by decide) w 120 (by decide))
  have i_n := Lib.hid (fun w => in_is ⟨#[112]⟩ 110 false (by decide) (by decide) w 110 (by decide))
  have i_t := Lib.hid (fun w => in_is ⟨#[112]⟩ 116 false (by decide) (by decide) w 116 (by decide))
  have i_k := Lib.hid (fun w => in_is ⟨#[112]⟩ 107 false (by decide) (by decide) w 107 (by decide))
  have i_i := Lib.hid (fun w => in_is ⟨#[112]⟩ 105 false (by decide) (by decide) w 105 (by decide))
  have i_e := Lib.hid (fun w => in_is ⟨#[112]⟩ 101 false (by decide) (by decide) w 101 (by decide))
  have hb := below_box w (.cells #[.int .i64 m.kind, .int .i64 m.page, .bool m.x, .bool m.need, .int .i64 m.n, .int .i64 m.cl, .int .i64 m.ep, .int .i64 m.tn, .int .i64 m.lsn, .slice h.a h.an h.ac, .slice h.b h.bn h.bc] 30)
  have hM := Blk.new w 30 #[.int .i64 m.kind, .int .i64 m.page, .bool m.x, .bool m.need, .int .i64 m.n, .int .i64 m.cl, .int .i64 m.ep, .int .i64 m.tn, .int .i64 m.lsn, .slice h.a h.an h.ac, .slice h.b h.bn h.bc]
  have hs := alloc_lt w (.cells #[.int .i64 m.kind, .int .i64 m.page, .bool m.x, .bool m.need, .int .i64 m.n, .int .i64 m.cl, .int .i64 m.ep, .int .i64 m.tn, .int .i64 m.lsn, .slice h.a h.an h.ac, .slice h.b h.bn h.bc] 30)
  go_enter Try.func19, Try.ntmps19
  try dsimp only [List.append]
  go_upto_region 1 with (fail)
  generalize hGen : w.alloc (.cells #[.int .i64 m.kind, .int .i64 m.page, .bool m.x, .bool m.need, .int .i64 m.n, .int .i64 m.cl, .int .i64 m.ep, .int .i64 m.tn, .int .i64 m.lsn, .slice h.a h.an h.ac, .slice h.b h.bn h.bc] 30) = W at hb hM hs ⊢
  clear hGen
  obtain ⟨c0, c1, c2, c3, c4, c5, c6, c7, c8, c9, c10⟩ := msg_cells hM
  go_wp2_with fail
  refine (HH.out _ (HI.out.below hb)).mono ?_
  rintro e w1 ⟨rfl, b1⟩
  have hM1 := hM.below b1 hs
  have hb1 := below_next hb b1
  have hs1 := Nat.lt_of_lt_of_le hs b1.size
  clear c0 c1 c2 c3 c4 c5 c6 c7 c8 c9 c10 hM hb b1 hs
  obtain ⟨c0, c1, c2, c3, c4, c5, c6, c7, c8, c9, c10⟩ := msg_cells hM1
  go_upto_region 8 with (fail)
  have hM2 := hM1.alloc (.cells #[.int .i64 0, .int .i64 0, .int .i64 0] 24)
  have hN2 := Blk.new w1 24 #[.int .i64 0, .int .i64 0, .int .i64 0]
  have hb2 := below_next hb1 (below_box w1 (.cells #[.int .i64 0, .int .i64 0, .int .i64 0] 24))
  have hs2 := alloc_lt w1 (.cells #[.int .i64 0, .int .i64 0, .int .i64 0] 24)
  generalize hGen : w1.alloc (.cells #[.int .i64 0, .int .i64 0, .int .i64 0] 24) = W1 at hM2 hN2 hb2 hs2 ⊢
  clear hGen
  have hwn : w.heap.size < W1.heap.size := by omega
  generalize hGen : w1.heap.size = gn at hN2 hs2 hs1 ⊢
  clear hGen
  clear c0 c1 c2 c3 c4 c5 c6 c7 c8 c9 c10 hM1 hb1
  have HM := Lib.hid hM2
  have HN := Lib.hid hN2
  have HB := Lib.hid hb2
  clear hM2 hN2 hb2
  have HW := Lib.hid (And.intro hwn hs2)
  clear hwn hs2 hs1
  obtain ⟨c0, c1, c2, c3, c4, c5, c6, c7, c8, c9, c10⟩ := msg_cells HM.out
  have n0 := Blk.cell HN.out 0
  have n1 := Blk.cell HN.out 1
  have n2 := Blk.cell HN.out 2
  simp at n0 n1 n2
  by_cases a0 : m.page < 0
  · have A := Lib.hid (show withinB m.page 0 1023 = false from within_no (by omega))
    have HF := Lib.hid (show (wholeB m hUse && bareB m hUse) = false from by rw [HE.out, A.out]; simp)
    go_wp2_with (go_at_call 15; apply Calls.mono; (with_reducible first | exact i_p.out _ | exact i_x.out _ | exact i_n.out _ | exact i_t.out _ | exact i_k.out _ | exact i_i.out _ | exact i_e.out _); rintro e w' ⟨rfl, rfl⟩)
    go_ret
    exact ⟨ret_bool' HF.out.symm, HB.out⟩
  by_cases a1 : 1023 < m.page
  · have A := Lib.hid (show withinB m.page 0 1023 = false from within_no (by omega))
    have HF := Lib.hid (show (wholeB m hUse && bareB m hUse) = false from by rw [HE.out, A.out]; simp)
    go_wp2_with (go_at_call 15; apply Calls.mono; (with_reducible first | exact i_p.out _ | exact i_x.out _ | exact i_n.out _ | exact i_t.out _ | exact i_k.out _ | exact i_i.out _ | exact i_e.out _); rintro e w' ⟨rfl, rfl⟩)
    go_ret
    exact ⟨ret_bool' HF.out.symm, HB.out⟩
  have F0 := Lib.hid (show withinB m.page 0 1023 = true from within_yes (by omega))
  rcases Bool.eq_false_or_eq_true m.x with hx | hx
  · rw [hx] at c2
    have A := Lib.hid hx
    clear hx
    have HF := Lib.hid (show (wholeB m hUse && bareB m hUse) = false from by rw [HE.out, A.out]; simp)
    go_wp2_with (go_at_call 15; apply Calls.mono; (with_reducible first | exact i_p.out _ | exact i_x.out _ | exact i_n.out _ | exact i_t.out _ | exact i_k.out _ | exact i_i.out _ | exact i_e.out _); rintro e w' ⟨rfl, rfl⟩)
    go_ret
    exact ⟨ret_bool' HF.out.symm, HB.out⟩
  rw [hx] at c2
  have F_x := Lib.hid hx
  clear hx
  rcases Bool.eq_false_or_eq_true m.need with hn | hn
  · rw [hn] at c3
    have A := Lib.hid hn
    clear hn
    have HF := Lib.hid (show (wholeB m hUse && bareB m hUse) = false from by rw [HE.out, A.out]; simp)
    go_wp2_with (go_at_call 15; apply Calls.mono; (with_reducible first | exact i_p.out _ | exact i_x.out _ | exact i_n.out _ | exact i_t.out _ | exact i_k.out _ | exact i_i.out _ | exact i_e.out _); rintro e w' ⟨rfl, rfl⟩)
    go_ret
    exact ⟨ret_bool' HF.out.symm, HB.out⟩
  rw [hn] at c3
  have F_n := Lib.hid hn
  clear hn
  go_upto_region 10 with (go_at_call 15; apply Calls.mono; (with_reducible first | exact i_p.out _ | exact i_x.out _ | exact i_n.out _ | exact i_t.out _ | exact i_k.out _ | exact i_i.out _ | exact i_e.out _); rintro e w' ⟨rfl, rfl⟩)
  have hq := fun w => run_ne_txn m.cl m.ep m.tn 0 0 0 w
  have hgd := fun (A B : Operand) xs ys w => run_guard_txn .neq A B xs ys w
  have HQ := Lib.hid (show (m.cl == 0 && (m.ep == 0 && m.tn == 0)) = txnB m.cl m.ep m.tn 0 0 0 from rfl)
  generalize txnB m.cl m.ep m.tn 0 0 0 = q at hq HQ
  cases q with
  | false =>
    have HF := Lib.hid (show (wholeB m hUse && bareB m hUse) = false from by rw [HE.out, HQ.out]; simp)
    go_wp2_with (go_at_call 15; apply Calls.mono; (with_reducible first | exact i_p.out _ | exact i_x.out _ | exact i_n.out _ | exact i_t.out _ | exact i_k.out _ | exact i_i.out _ | exact i_e.out _); rintro e w' ⟨rfl, rfl⟩)
    go_ret
    exact ⟨ret_bool' HF.out.symm, HB.out⟩
  | true =>
    go_upto_region 12 with (go_at_call 15; apply Calls.mono; (with_reducible first | exact i_p.out _ | exact i_x.out _ | exact i_n.out _ | exact i_t.out _ | exact i_k.out _ | exact i_i.out _ | exact i_e.out _); rintro e w' ⟨rfl, rfl⟩)
    clear hq hgd
    by_cases a2 : m.n = 0
    rotate_left
    · have t2 : (m.n != 0) = true := bne_iff_ne.2 a2
      have A := Lib.hid (show (m.n == 0) = false from beq_eq_false_iff_ne.2 a2)
      clear a2
      have HF := Lib.hid (show (wholeB m hUse && bareB m hUse) = false from by rw [HE.out, A.out]; simp)
      go_wp2_with (go_at_call 15; apply Calls.mono; (with_reducible first | exact i_p.out _ | exact i_x.out _ | exact i_n.out _ | exact i_t.out _ | exact i_k.out _ | exact i_i.out _ | exact i_e.out _); rintro e w' ⟨rfl, rfl⟩)
      go_ret
      exact ⟨ret_bool' HF.out.symm, HB.out⟩
    have t2 : (m.n != 0) = false := by rw [a2]; rfl
    have F2 := Lib.hid (show (m.n == 0) = true from by rw [a2]; rfl)
    clear a2
    go_upto_region 14 with (go_at_call 15; apply Calls.mono; (with_reducible first | exact i_p.out _ | exact i_x.out _ | exact i_n.out _ | exact i_t.out _ | exact i_k.out _ | exact i_i.out _ | exact i_e.out _); rintro e w' ⟨rfl, rfl⟩)
    by_cases a4 : m.lsn = 0
    rotate_left
    · have t4 : (m.lsn != 0) = true := bne_iff_ne.2 a4
      have A := Lib.hid (show (m.lsn == 0) = false from beq_eq_false_iff_ne.2 a4)
      clear a4
      have HF := Lib.hid (show (wholeB m hUse && bareB m hUse) = false from by rw [HE.out, A.out]; simp)
      go_wp2_with (go_at_call 15; apply Calls.mono; (with_reducible first | exact i_p.out _ | exact i_x.out _ | exact i_n.out _ | exact i_t.out _ | exact i_k.out _ | exact i_i.out _ | exact i_e.out _); rintro e w' ⟨rfl, rfl⟩)
      go_ret
      exact ⟨ret_bool' HF.out.symm, HB.out⟩
    have t4 : (m.lsn != 0) = false := by rw [a4]; rfl
    have F3 := Lib.hid (show (m.lsn == 0) = true from by rw [a4]; rfl)
    clear a4
    by_cases a5 : (0 : Int) < (h.an : Int)
    · have A := Lib.hid (show decide (m.zs.length = 0) = false from len1 HLA.out (by omega))
      have HF := Lib.hid (show (wholeB m hUse && bareB m hUse) = false from by rw [HE.out, A.out]; simp)
      go_wp2_with (go_at_call 15; apply Calls.mono; (with_reducible first | exact i_p.out _ | exact i_x.out _ | exact i_n.out _ | exact i_t.out _ | exact i_k.out _ | exact i_i.out _ | exact i_e.out _); rintro e w' ⟨rfl, rfl⟩)
      go_ret
      exact ⟨ret_bool' HF.out.symm, HB.out⟩
    have F4 := Lib.hid (show decide (m.zs.length = 0) = true from len0 HLA.out (by omega))
    go_upto_region 16 with (go_at_call 15; apply Calls.mono; (with_reducible first | exact i_p.out _ | exact i_x.out _ | exact i_n.out _ | exact i_t.out _ | exact i_k.out _ | exact i_i.out _ | exact i_e.out _); rintro e w' ⟨rfl, rfl⟩)
    by_cases a6 : (0 : Int) < (h.bn : Int)
    · have A := Lib.hid (show decide (m.es.length = 0) = false from len1 HLB.out (by omega))
      have HF := Lib.hid (show (wholeB m hUse && bareB m hUse) = false from by rw [HE.out, A.out]; simp)
      go_wp2_with (go_at_call 15; apply Calls.mono; (with_reducible first | exact i_p.out _ | exact i_x.out _ | exact i_n.out _ | exact i_t.out _ | exact i_k.out _ | exact i_i.out _ | exact i_e.out _); rintro e w' ⟨rfl, rfl⟩)
      go_ret
      exact ⟨ret_bool' HF.out.symm, HB.out⟩
    have F5 := Lib.hid (show decide (m.es.length = 0) = true from len0 HLB.out (by omega))
    go_upto_region 18 with (go_at_call 15; apply Calls.mono; (with_reducible first | exact i_p.out _ | exact i_x.out _ | exact i_n.out _ | exact i_t.out _ | exact i_k.out _ | exact i_i.out _ | exact i_e.out _); rintro e w' ⟨rfl, rfl⟩)
    have hb0 : h.bn = 0 := by omega
    rw [hb0] at c10
    clear hb0 a6
    have HF := Lib.hid (show (wholeB m hUse && bareB m hUse) = true from by rw [HE.out, F0.out, F_x.out, F_n.out, HQ.out, F2.out, F3.out, F4.out, F5.out] <;> rfl)
    go_wp2_with fail
    go_loop [6] (fun i => i = .int .i64 0) (fun _ => 0)
    case atStart => rfl
    case round =>
      obtain rfl := hrel
      go_wp2
      go_ret
      exact ⟨ret_bool' HF.out.symm, HB.out⟩
set_option maxRecDepth 100000 in
set_option maxHeartbeats 4000000 in
theorem rgood_Log (m : Ms) (h : Hd) (w : World) (hi : In w m h) (_ha : h.an ≤ 1000000) (hbn : h.bn ≤ 1000000) (hk13 : (m.kind == 13) = false)
    (hh : ∀ w, In w m h → Calls Try.prog 14 #[.agg #[.int .i64 m.kind, .int .i64 m.page, .bool m.x, .bool m.need, .int .i64 m.n, .int .i64 m.cl, .int .i64 m.ep, .int .i64 m.tn, .int .i64 m.lsn, .slice h.a h.an h.ac, .slice h.b h.bn h.bc]] w fun e w' => e = .returned (.string ⟨#[101]⟩) ∧ Below w.heap.size w w') :
    Calls Try.prog 19 #[.agg #[.int .i64 m.kind, .int .i64 m.page, .bool m.x, .bool m.need, .int .i64 m.n, .int .i64 m.cl, .int .i64 m.ep, .int .i64 m.tn, .int .i64 m.lsn, .slice h.a h.an h.ac, .slice h.b h.bn h.bc]] w fun e w' => e = .returned (.bool (wholeB m hLog && bareB m hLog)) ∧ Below w.heap.size w w' := by
  have HE := Lib.hid (show (wholeB m hLog && bareB m hLog) = _ from by rw [wholeE_Log, bareE_Log])
  have HI := Lib.hid hi
  have HH := Lib.hid hh
  have HLA := Lib.hid (show m.zs.length = h.an from hi.s.len)
  have HLB := Lib.hid (show m.es.length = h.bn from hi.e.len)
  clear hi hh
  have i_p := Lib.hid (fun w => in_is ⟨#[101]⟩ 112 false (by decide) (by decide) w 112 (by decide))
  have i_x := Lib.hid (fun w => in_is ⟨#[101]⟩ 120 false (by decide) (by decide) w 120 (by decide))
  have i_n := Lib.hid (fun w => in_is ⟨#[101]⟩ 110 false (by decide) (by decide) w 110 (by decide))
  have i_t := Lib.hid (fun w => in_is ⟨#[101]⟩ 116 false (by decide) (by decide) w 116 (by decide))
  have i_k := Lib.hid (fun w => in_is ⟨#[101]⟩ 107 false (by decide) (by decide) w 107 (by decide))
  have i_i := Lib.hid (fun w => in_is ⟨#[101]⟩ 105 false (by decide) (by decide) w 105 (by decide))
  have i_e := Lib.hid (fun w => in_is ⟨#[101]⟩ 101 true (by decide) (by decide) w 101 (by decide))
  have hb := below_box w (.cells #[.int .i64 m.kind, .int .i64 m.page, .bool m.x, .bool m.need, .int .i64 m.n, .int .i64 m.cl, .int .i64 m.ep, .int .i64 m.tn, .int .i64 m.lsn, .slice h.a h.an h.ac, .slice h.b h.bn h.bc] 30)
  have hM := Blk.new w 30 #[.int .i64 m.kind, .int .i64 m.page, .bool m.x, .bool m.need, .int .i64 m.n, .int .i64 m.cl, .int .i64 m.ep, .int .i64 m.tn, .int .i64 m.lsn, .slice h.a h.an h.ac, .slice h.b h.bn h.bc]
  have hs := alloc_lt w (.cells #[.int .i64 m.kind, .int .i64 m.page, .bool m.x, .bool m.need, .int .i64 m.n, .int .i64 m.cl, .int .i64 m.ep, .int .i64 m.tn, .int .i64 m.lsn, .slice h.a h.an h.ac, .slice h.b h.bn h.bc] 30)
  go_enter Try.func19, Try.ntmps19
  try dsimp only [List.append]
  go_upto_region 1 with (fail)
  generalize hGen : w.alloc (.cells #[.int .i64 m.kind, .int .i64 m.page, .bool m.x, .bool m.need, .int .i64 m.n, .int .i64 m.cl, .int .i64 m.ep, .int .i64 m.tn, .int .i64 m.lsn, .slice h.a h.an h.ac, .slice h.b h.bn h.bc] 30) = W at hb hM hs ⊢
  clear hGen
  obtain ⟨c0, c1, c2, c3, c4, c5, c6, c7, c8, c9, c10⟩ := msg_cells hM
  go_wp2_with fail
  refine (HH.out _ (HI.out.below hb)).mono ?_
  rintro e w1 ⟨rfl, b1⟩
  have hM1 := hM.below b1 hs
  have hb1 := below_next hb b1
  have hs1 := Nat.lt_of_lt_of_le hs b1.size
  clear c0 c1 c2 c3 c4 c5 c6 c7 c8 c9 c10 hM hb b1 hs
  obtain ⟨c0, c1, c2, c3, c4, c5, c6, c7, c8, c9, c10⟩ := msg_cells hM1
  go_upto_region 8 with (fail)
  have hM2 := hM1.alloc (.cells #[.int .i64 0, .int .i64 0, .int .i64 0] 24)
  have hN2 := Blk.new w1 24 #[.int .i64 0, .int .i64 0, .int .i64 0]
  have hb2 := below_next hb1 (below_box w1 (.cells #[.int .i64 0, .int .i64 0, .int .i64 0] 24))
  have hs2 := alloc_lt w1 (.cells #[.int .i64 0, .int .i64 0, .int .i64 0] 24)
  generalize hGen : w1.alloc (.cells #[.int .i64 0, .int .i64 0, .int .i64 0] 24) = W1 at hM2 hN2 hb2 hs2 ⊢
  clear hGen
  have hwn : w.heap.size < W1.heap.size := by omega
  generalize hGen : w1.heap.size = gn at hN2 hs2 hs1 ⊢
  clear hGen
  clear c0 c1 c2 c3 c4 c5 c6 c7 c8 c9 c10 hM1 hb1
  have HM := Lib.hid hM2
  have HN := Lib.hid hN2
  have HB := Lib.hid hb2
  clear hM2 hN2 hb2
  have HW := Lib.hid (And.intro hwn hs2)
  clear hwn hs2 hs1
  obtain ⟨c0, c1, c2, c3, c4, c5, c6, c7, c8, c9, c10⟩ := msg_cells HM.out
  have n0 := Blk.cell HN.out 0
  have n1 := Blk.cell HN.out 1
  have n2 := Blk.cell HN.out 2
  simp at n0 n1 n2
  by_cases a0 : m.page = 0
  rotate_left
  · have t0 : (m.page != 0) = true := bne_iff_ne.2 a0
    have A := Lib.hid (show (m.page == 0) = false from beq_eq_false_iff_ne.2 a0)
    clear a0
    have HF := Lib.hid (show (wholeB m hLog && bareB m hLog) = false from by rw [HE.out, A.out]; simp)
    go_wp2_with (go_at_call 15; apply Calls.mono; (with_reducible first | exact i_p.out _ | exact i_x.out _ | exact i_n.out _ | exact i_t.out _ | exact i_k.out _ | exact i_i.out _ | exact i_e.out _); rintro e w' ⟨rfl, rfl⟩)
    go_ret
    exact ⟨ret_bool' HF.out.symm, HB.out⟩
  have t0 : (m.page != 0) = false := by rw [a0]; rfl
  have F0 := Lib.hid (show (m.page == 0) = true from by rw [a0]; rfl)
  clear a0
  rcases Bool.eq_false_or_eq_true m.x with hx | hx
  · rw [hx] at c2
    have A := Lib.hid hx
    clear hx
    have HF := Lib.hid (show (wholeB m hLog && bareB m hLog) = false from by rw [HE.out, A.out]; simp)
    go_wp2_with (go_at_call 15; apply Calls.mono; (with_reducible first | exact i_p.out _ | exact i_x.out _ | exact i_n.out _ | exact i_t.out _ | exact i_k.out _ | exact i_i.out _ | exact i_e.out _); rintro e w' ⟨rfl, rfl⟩)
    go_ret
    exact ⟨ret_bool' HF.out.symm, HB.out⟩
  rw [hx] at c2
  have F_x := Lib.hid hx
  clear hx
  rcases Bool.eq_false_or_eq_true m.need with hn | hn
  · rw [hn] at c3
    have A := Lib.hid hn
    clear hn
    have HF := Lib.hid (show (wholeB m hLog && bareB m hLog) = false from by rw [HE.out, A.out]; simp)
    go_wp2_with (go_at_call 15; apply Calls.mono; (with_reducible first | exact i_p.out _ | exact i_x.out _ | exact i_n.out _ | exact i_t.out _ | exact i_k.out _ | exact i_i.out _ | exact i_e.out _); rintro e w' ⟨rfl, rfl⟩)
    go_ret
    exact ⟨ret_bool' HF.out.symm, HB.out⟩
  rw [hn] at c3
  have F_n := Lib.hid hn
  clear hn
  go_upto_region 10 with (go_at_call 15; apply Calls.mono; (with_reducible first | exact i_p.out _ | exact i_x.out _ | exact i_n.out _ | exact i_t.out _ | exact i_k.out _ | exact i_i.out _ | exact i_e.out _); rintro e w' ⟨rfl, rfl⟩)
  have hq := fun w => run_ne_txn m.cl m.ep m.tn 0 0 0 w
  have hgd := fun (A B : Operand) xs ys w => run_guard_txn .neq A B xs ys w
  have HQ := Lib.hid (show (m.cl == 0 && (m.ep == 0 && m.tn == 0)) = txnB m.cl m.ep m.tn 0 0 0 from rfl)
  generalize txnB m.cl m.ep m.tn 0 0 0 = q at hq HQ
  cases q with
  | false =>
    have HF := Lib.hid (show (wholeB m hLog && bareB m hLog) = false from by rw [HE.out, HQ.out]; simp)
    go_wp2_with (go_at_call 15; apply Calls.mono; (with_reducible first | exact i_p.out _ | exact i_x.out _ | exact i_n.out _ | exact i_t.out _ | exact i_k.out _ | exact i_i.out _ | exact i_e.out _); rintro e w' ⟨rfl, rfl⟩)
    go_ret
    exact ⟨ret_bool' HF.out.symm, HB.out⟩
  | true =>
    go_upto_region 12 with (go_at_call 15; apply Calls.mono; (with_reducible first | exact i_p.out _ | exact i_x.out _ | exact i_n.out _ | exact i_t.out _ | exact i_k.out _ | exact i_i.out _ | exact i_e.out _); rintro e w' ⟨rfl, rfl⟩)
    clear hq hgd
    by_cases a2 : m.n = 0
    rotate_left
    · have t2 : (m.n != 0) = true := bne_iff_ne.2 a2
      have A := Lib.hid (show (m.n == 0) = false from beq_eq_false_iff_ne.2 a2)
      clear a2
      have HF := Lib.hid (show (wholeB m hLog && bareB m hLog) = false from by rw [HE.out, A.out]; simp)
      go_wp2_with (go_at_call 15; apply Calls.mono; (with_reducible first | exact i_p.out _ | exact i_x.out _ | exact i_n.out _ | exact i_t.out _ | exact i_k.out _ | exact i_i.out _ | exact i_e.out _); rintro e w' ⟨rfl, rfl⟩)
      go_ret
      exact ⟨ret_bool' HF.out.symm, HB.out⟩
    have t2 : (m.n != 0) = false := by rw [a2]; rfl
    have F2 := Lib.hid (show (m.n == 0) = true from by rw [a2]; rfl)
    clear a2
    go_upto_region 14 with (go_at_call 15; apply Calls.mono; (with_reducible first | exact i_p.out _ | exact i_x.out _ | exact i_n.out _ | exact i_t.out _ | exact i_k.out _ | exact i_i.out _ | exact i_e.out _); rintro e w' ⟨rfl, rfl⟩)
    by_cases a4 : m.lsn = 0
    rotate_left
    · have t4 : (m.lsn != 0) = true := bne_iff_ne.2 a4
      have A := Lib.hid (show (m.lsn == 0) = false from beq_eq_false_iff_ne.2 a4)
      clear a4
      have HF := Lib.hid (show (wholeB m hLog && bareB m hLog) = false from by rw [HE.out, A.out]; simp)
      go_wp2_with (go_at_call 15; apply Calls.mono; (with_reducible first | exact i_p.out _ | exact i_x.out _ | exact i_n.out _ | exact i_t.out _ | exact i_k.out _ | exact i_i.out _ | exact i_e.out _); rintro e w' ⟨rfl, rfl⟩)
      go_ret
      exact ⟨ret_bool' HF.out.symm, HB.out⟩
    have t4 : (m.lsn != 0) = false := by rw [a4]; rfl
    have F3 := Lib.hid (show (m.lsn == 0) = true from by rw [a4]; rfl)
    clear a4
    by_cases a5 : (0 : Int) < (h.an : Int)
    · have A := Lib.hid (show decide (m.zs.length = 0) = false from len1 HLA.out (by omega))
      have HF := Lib.hid (show (wholeB m hLog && bareB m hLog) = false from by rw [HE.out, A.out]; simp)
      go_wp2_with (go_at_call 15; apply Calls.mono; (with_reducible first | exact i_p.out _ | exact i_x.out _ | exact i_n.out _ | exact i_t.out _ | exact i_k.out _ | exact i_i.out _ | exact i_e.out _); rintro e w' ⟨rfl, rfl⟩)
      go_ret
      exact ⟨ret_bool' HF.out.symm, HB.out⟩
    have F4 := Lib.hid (show decide (m.zs.length = 0) = true from len0 HLA.out (by omega))
    go_upto_region 16 with (go_at_call 15; apply Calls.mono; (with_reducible first | exact i_p.out _ | exact i_x.out _ | exact i_n.out _ | exact i_t.out _ | exact i_k.out _ | exact i_i.out _ | exact i_e.out _); rintro e w' ⟨rfl, rfl⟩)
    by_cases a6 : (h.bn : Int) < 1
    · have A := Lib.hid (show withinB m.es.length 1 16 = false from within_no (by rw [HLB.out]; omega))
      have HF := Lib.hid (show (wholeB m hLog && bareB m hLog) = false from by rw [HE.out, A.out]; simp)
      go_wp2_with (go_at_call 15; apply Calls.mono; (with_reducible first | exact i_p.out _ | exact i_x.out _ | exact i_n.out _ | exact i_t.out _ | exact i_k.out _ | exact i_i.out _ | exact i_e.out _); rintro e w' ⟨rfl, rfl⟩)
      go_ret
      exact ⟨ret_bool' HF.out.symm, HB.out⟩
    by_cases a7 : (16 : Int) < (h.bn : Int)
    · have A := Lib.hid (show withinB m.es.length 1 16 = false from within_no (by rw [HLB.out]; omega))
      have HF := Lib.hid (show (wholeB m hLog && bareB m hLog) = false from by rw [HE.out, A.out]; simp)
      go_wp2_with (go_at_call 15; apply Calls.mono; (with_reducible first | exact i_p.out _ | exact i_x.out _ | exact i_n.out _ | exact i_t.out _ | exact i_k.out _ | exact i_i.out _ | exact i_e.out _); rintro e w' ⟨rfl, rfl⟩)
      go_ret
      exact ⟨ret_bool' HF.out.symm, HB.out⟩
    have F5 := Lib.hid (show withinB m.es.length 1 16 = true from within_yes (by rw [HLB.out]; omega))
    go_upto_region 18 with (go_at_call 15; apply Calls.mono; (with_reducible first | exact i_p.out _ | exact i_x.out _ | exact i_n.out _ | exact i_t.out _ | exact i_k.out _ | exact i_i.out _ | exact i_e.out _); rintro e w' ⟨rfl, rfl⟩)
    have hsb := HW.out.1
    go_wp2_with fail
    go_loopw [6] (fun i wr => ∃ k : Nat, k ≤ h.bn ∧ i = .int .i64 (k : Int) ∧ Hid (∀ j x, m.es[j]? = some x → j < k → Ent.goodB x = true) ∧ Hid (Below W1.heap.size W1 wr)) (fun i _ => h.bn - (intOf i).toNat)
    case atStart => exact ⟨0, by omega, rfl, Lib.hid (fun j x _ h => absurd h (Nat.not_lt_zero _)), Lib.hid (Below.refl _ _)⟩
    case round =>
      clear c0 c1 c2 c3 c4 c5 c6 c7 c8 c9 c10 n0 n1 n2
      obtain ⟨k, hk, rfl, HG, HBL⟩ := hrel
      have hMr := HM.out.below HBL.out HW.out.1
      obtain ⟨c0, c1, c2, c3, c4, c5, c6, c7, c8, c9, c10⟩ := msg_cells hMr
      clear hMr
      by_cases hlt : k < h.bn
      · obtain ⟨b, off, x, hba, hb1, hg, hat, hsm⟩ := (HI.out.below (below_next HB.out HBL.out)).e.at_ hlt
        obtain ⟨x0, x1, x2, x3, x4, x5, x6, x7, x8, x9, x10, x11, x12⟩ := hat.cells
        rw [hba] at c10
        have HGX := Lib.hid hg
        have HSM := Lib.hid hsm
        clear hat hg hba hsm
        go_wp2_with fail
        refine (Ent.rgood_any x _ HSM.out).mono ?_
        rintro e w4 ⟨rfl, b4⟩
        have HB4 := Lib.hid (below_next HBL.out b4)
        clear b4
        cases hgd : Ent.goodB x with
        | false =>
          have HF := Lib.hid (show (wholeB m hLog && bareB m hLog) = false from by rw [HE.out, anyE_all HGX.out hgd]; simp)
          clear hgd
          go_wp2
          go_ret
          exact ⟨ret_bool' HF.out.symm, below_next HB.out HB4.out⟩
        | true =>
          have HG2 := Lib.hid (show ∀ j y, m.es[j]? = some y → j < k + 1 → Ent.goodB y = true from fun j y hy hj => by rcases Nat.lt_succ_iff_lt_or_eq.1 hj with h | rfl; exact HG.out j y hy h; rw [HGX.out] at hy; cases hy; exact hgd)
          clear hgd
          go_wp2
          go_roundw
          case rel => exact ⟨k + 1, by omega, by go_num, HG2, HB4⟩
          case measure => simp [intOf]; omega
      · have hkk : k = h.bn := by omega
        have HF := Lib.hid (show (wholeB m hLog && bareB m hLog) = true from by rw [HE.out, F0.out, F_x.out, F_n.out, HQ.out, F2.out, F3.out, F4.out, F5.out, anyE_none HLB.out (fun i x hx hi => HG.out i x hx (by omega))] <;> rfl)
        go_wp2
        go_ret
        exact ⟨ret_bool' HF.out.symm, below_next HB.out HBL.out⟩
set_option maxRecDepth 100000 in
set_option maxHeartbeats 4000000 in
theorem rgood_Image (m : Ms) (h : Hd) (w : World) (hi : In w m h) (ha : h.an ≤ 1000000) (_hbn : h.bn ≤ 1000000) (hk13 : (m.kind == 13) = false)
    (hh : ∀ w, In w m h → Calls Try.prog 14 #[.agg #[.int .i64 m.kind, .int .i64 m.page, .bool m.x, .bool m.need, .int .i64 m.n, .int .i64 m.cl, .int .i64 m.ep, .int .i64 m.tn, .int .i64 m.lsn, .slice h.a h.an h.ac, .slice h.b h.bn h.bc]] w fun e w' => e = .returned (.string ⟨#[112, 105]⟩) ∧ Below w.heap.size w w') :
    Calls Try.prog 19 #[.agg #[.int .i64 m.kind, .int .i64 m.page, .bool m.x, .bool m.need, .int .i64 m.n, .int .i64 m.cl, .int .i64 m.ep, .int .i64 m.tn, .int .i64 m.lsn, .slice h.a h.an h.ac, .slice h.b h.bn h.bc]] w fun e w' => e = .returned (.bool (wholeB m hImage && bareB m hImage)) ∧ Below w.heap.size w w' := by
  have HE := Lib.hid (show (wholeB m hImage && bareB m hImage) = _ from by rw [wholeE_Image, bareE_Image])
  have HI := Lib.hid hi
  have HH := Lib.hid hh
  have HLA := Lib.hid (show m.zs.length = h.an from hi.s.len)
  have HLB := Lib.hid (show m.es.length = h.bn from hi.e.len)
  clear hi hh
  have i_p := Lib.hid (fun w => in_is ⟨#[112, 105]⟩ 112 true (by decide) (by decide) w 112 (by decide))
  have i_x := Lib.hid (fun w => in_is ⟨#[112, 105]⟩ 120 false (by decide) (by decide) w 120 (by decide))
  have i_n := Lib.hid (fun w => in_is ⟨#[112, 105]⟩ 110 false (by decide) (by decide) w 110 (by decide))
  have i_t := Lib.hid (fun w => in_is ⟨#[112, 105]⟩ 116 false (by decide) (by decide) w 116 (by decide))
  have i_k := Lib.hid (fun w => in_is ⟨#[112, 105]⟩ 107 false (by decide) (by decide) w 107 (by decide))
  have i_i := Lib.hid (fun w => in_is ⟨#[112, 105]⟩ 105 true (by decide) (by decide) w 105 (by decide))
  have i_e := Lib.hid (fun w => in_is ⟨#[112, 105]⟩ 101 false (by decide) (by decide) w 101 (by decide))
  have hb := below_box w (.cells #[.int .i64 m.kind, .int .i64 m.page, .bool m.x, .bool m.need, .int .i64 m.n, .int .i64 m.cl, .int .i64 m.ep, .int .i64 m.tn, .int .i64 m.lsn, .slice h.a h.an h.ac, .slice h.b h.bn h.bc] 30)
  have hM := Blk.new w 30 #[.int .i64 m.kind, .int .i64 m.page, .bool m.x, .bool m.need, .int .i64 m.n, .int .i64 m.cl, .int .i64 m.ep, .int .i64 m.tn, .int .i64 m.lsn, .slice h.a h.an h.ac, .slice h.b h.bn h.bc]
  have hs := alloc_lt w (.cells #[.int .i64 m.kind, .int .i64 m.page, .bool m.x, .bool m.need, .int .i64 m.n, .int .i64 m.cl, .int .i64 m.ep, .int .i64 m.tn, .int .i64 m.lsn, .slice h.a h.an h.ac, .slice h.b h.bn h.bc] 30)
  go_enter Try.func19, Try.ntmps19
  try dsimp only [List.append]
  go_upto_region 1 with (fail)
  generalize hGen : w.alloc (.cells #[.int .i64 m.kind, .int .i64 m.page, .bool m.x, .bool m.need, .int .i64 m.n, .int .i64 m.cl, .int .i64 m.ep, .int .i64 m.tn, .int .i64 m.lsn, .slice h.a h.an h.ac, .slice h.b h.bn h.bc] 30) = W at hb hM hs ⊢
  clear hGen
  obtain ⟨c0, c1, c2, c3, c4, c5, c6, c7, c8, c9, c10⟩ := msg_cells hM
  go_wp2_with fail
  refine (HH.out _ (HI.out.below hb)).mono ?_
  rintro e w1 ⟨rfl, b1⟩
  have hM1 := hM.below b1 hs
  have hb1 := below_next hb b1
  have hs1 := Nat.lt_of_lt_of_le hs b1.size
  clear c0 c1 c2 c3 c4 c5 c6 c7 c8 c9 c10 hM hb b1 hs
  obtain ⟨c0, c1, c2, c3, c4, c5, c6, c7, c8, c9, c10⟩ := msg_cells hM1
  go_upto_region 8 with (fail)
  have hM2 := hM1.alloc (.cells #[.int .i64 0, .int .i64 0, .int .i64 0] 24)
  have hN2 := Blk.new w1 24 #[.int .i64 0, .int .i64 0, .int .i64 0]
  have hb2 := below_next hb1 (below_box w1 (.cells #[.int .i64 0, .int .i64 0, .int .i64 0] 24))
  have hs2 := alloc_lt w1 (.cells #[.int .i64 0, .int .i64 0, .int .i64 0] 24)
  generalize hGen : w1.alloc (.cells #[.int .i64 0, .int .i64 0, .int .i64 0] 24) = W1 at hM2 hN2 hb2 hs2 ⊢
  clear hGen
  have hwn : w.heap.size < W1.heap.size := by omega
  generalize hGen : w1.heap.size = gn at hN2 hs2 hs1 ⊢
  clear hGen
  clear c0 c1 c2 c3 c4 c5 c6 c7 c8 c9 c10 hM1 hb1
  have HM := Lib.hid hM2
  have HN := Lib.hid hN2
  have HB := Lib.hid hb2
  clear hM2 hN2 hb2
  have HW := Lib.hid (And.intro hwn hs2)
  clear hwn hs2 hs1
  obtain ⟨c0, c1, c2, c3, c4, c5, c6, c7, c8, c9, c10⟩ := msg_cells HM.out
  have n0 := Blk.cell HN.out 0
  have n1 := Blk.cell HN.out 1
  have n2 := Blk.cell HN.out 2
  simp at n0 n1 n2
  by_cases a0 : m.page < 0
  · have A := Lib.hid (show withinB m.page 0 1023 = false from within_no (by omega))
    have HF := Lib.hid (show (wholeB m hImage && bareB m hImage) = false from by rw [HE.out, A.out]; simp)
    go_wp2_with (go_at_call 15; apply Calls.mono; (with_reducible first | exact i_p.out _ | exact i_x.out _ | exact i_n.out _ | exact i_t.out _ | exact i_k.out _ | exact i_i.out _ | exact i_e.out _); rintro e w' ⟨rfl, rfl⟩)
    go_ret
    exact ⟨ret_bool' HF.out.symm, HB.out⟩
  by_cases a1 : 1023 < m.page
  · have A := Lib.hid (show withinB m.page 0 1023 = false from within_no (by omega))
    have HF := Lib.hid (show (wholeB m hImage && bareB m hImage) = false from by rw [HE.out, A.out]; simp)
    go_wp2_with (go_at_call 15; apply Calls.mono; (with_reducible first | exact i_p.out _ | exact i_x.out _ | exact i_n.out _ | exact i_t.out _ | exact i_k.out _ | exact i_i.out _ | exact i_e.out _); rintro e w' ⟨rfl, rfl⟩)
    go_ret
    exact ⟨ret_bool' HF.out.symm, HB.out⟩
  have F0 := Lib.hid (show withinB m.page 0 1023 = true from within_yes (by omega))
  rcases Bool.eq_false_or_eq_true m.x with hx | hx
  · rw [hx] at c2
    have A := Lib.hid hx
    clear hx
    have HF := Lib.hid (show (wholeB m hImage && bareB m hImage) = false from by rw [HE.out, A.out]; simp)
    go_wp2_with (go_at_call 15; apply Calls.mono; (with_reducible first | exact i_p.out _ | exact i_x.out _ | exact i_n.out _ | exact i_t.out _ | exact i_k.out _ | exact i_i.out _ | exact i_e.out _); rintro e w' ⟨rfl, rfl⟩)
    go_ret
    exact ⟨ret_bool' HF.out.symm, HB.out⟩
  rw [hx] at c2
  have F_x := Lib.hid hx
  clear hx
  rcases Bool.eq_false_or_eq_true m.need with hn | hn
  · rw [hn] at c3
    have A := Lib.hid hn
    clear hn
    have HF := Lib.hid (show (wholeB m hImage && bareB m hImage) = false from by rw [HE.out, A.out]; simp)
    go_wp2_with (go_at_call 15; apply Calls.mono; (with_reducible first | exact i_p.out _ | exact i_x.out _ | exact i_n.out _ | exact i_t.out _ | exact i_k.out _ | exact i_i.out _ | exact i_e.out _); rintro e w' ⟨rfl, rfl⟩)
    go_ret
    exact ⟨ret_bool' HF.out.symm, HB.out⟩
  rw [hn] at c3
  have F_n := Lib.hid hn
  clear hn
  go_upto_region 10 with (go_at_call 15; apply Calls.mono; (with_reducible first | exact i_p.out _ | exact i_x.out _ | exact i_n.out _ | exact i_t.out _ | exact i_k.out _ | exact i_i.out _ | exact i_e.out _); rintro e w' ⟨rfl, rfl⟩)
  have hq := fun w => run_ne_txn m.cl m.ep m.tn 0 0 0 w
  have hgd := fun (A B : Operand) xs ys w => run_guard_txn .neq A B xs ys w
  have HQ := Lib.hid (show (m.cl == 0 && (m.ep == 0 && m.tn == 0)) = txnB m.cl m.ep m.tn 0 0 0 from rfl)
  generalize txnB m.cl m.ep m.tn 0 0 0 = q at hq HQ
  cases q with
  | false =>
    have HF := Lib.hid (show (wholeB m hImage && bareB m hImage) = false from by rw [HE.out, HQ.out]; simp)
    go_wp2_with (go_at_call 15; apply Calls.mono; (with_reducible first | exact i_p.out _ | exact i_x.out _ | exact i_n.out _ | exact i_t.out _ | exact i_k.out _ | exact i_i.out _ | exact i_e.out _); rintro e w' ⟨rfl, rfl⟩)
    go_ret
    exact ⟨ret_bool' HF.out.symm, HB.out⟩
  | true =>
    go_upto_region 12 with (go_at_call 15; apply Calls.mono; (with_reducible first | exact i_p.out _ | exact i_x.out _ | exact i_n.out _ | exact i_t.out _ | exact i_k.out _ | exact i_i.out _ | exact i_e.out _); rintro e w' ⟨rfl, rfl⟩)
    clear hq hgd
    by_cases a2 : m.n = 0
    rotate_left
    · have t2 : (m.n != 0) = true := bne_iff_ne.2 a2
      have A := Lib.hid (show (m.n == 0) = false from beq_eq_false_iff_ne.2 a2)
      clear a2
      have HF := Lib.hid (show (wholeB m hImage && bareB m hImage) = false from by rw [HE.out, A.out]; simp)
      go_wp2_with (go_at_call 15; apply Calls.mono; (with_reducible first | exact i_p.out _ | exact i_x.out _ | exact i_n.out _ | exact i_t.out _ | exact i_k.out _ | exact i_i.out _ | exact i_e.out _); rintro e w' ⟨rfl, rfl⟩)
      go_ret
      exact ⟨ret_bool' HF.out.symm, HB.out⟩
    have t2 : (m.n != 0) = false := by rw [a2]; rfl
    have F2 := Lib.hid (show (m.n == 0) = true from by rw [a2]; rfl)
    clear a2
    go_upto_region 14 with (go_at_call 15; apply Calls.mono; (with_reducible first | exact i_p.out _ | exact i_x.out _ | exact i_n.out _ | exact i_t.out _ | exact i_k.out _ | exact i_i.out _ | exact i_e.out _); rintro e w' ⟨rfl, rfl⟩)
    go_wp2_with (go_at_call 15; apply Calls.mono; (with_reducible first | exact i_p.out _ | exact i_x.out _ | exact i_n.out _ | exact i_t.out _ | exact i_k.out _ | exact i_i.out _ | exact i_e.out _); rintro e w' ⟨rfl, rfl⟩)
    refine (Slab.rgood_any m.lsn h.a h.an h.ac m.zs _ (HI.out.below HB.out).s ha).mono ?_
    rintro e w2 ⟨rfl, b2⟩
    replace HM := Lib.hid (HM.out.below b2 HW.out.1)
    replace HN := Lib.hid (HN.out.below b2 HW.out.2)
    replace HB := Lib.hid (below_next HB.out b2)
    replace HW := Lib.hid (And.intro (Nat.lt_of_lt_of_le HW.out.1 b2.size) (Nat.lt_of_lt_of_le HW.out.2 b2.size))
    clear c0 c1 c2 c3 c4 c5 c6 c7 c8 c9 c10 n0 n1 n2 b2
    obtain ⟨c0, c1, c2, c3, c4, c5, c6, c7, c8, c9, c10⟩ := msg_cells HM.out
    cases hgi : Slab.goodB m.lsn m.zs with
    | false =>
      have A := Lib.hid hgi
      clear hgi
      have HF := Lib.hid (show (wholeB m hImage && bareB m hImage) = false from by rw [HE.out, A.out]; simp)
      go_wp2_with (go_at_call 15; apply Calls.mono; (with_reducible first | exact i_p.out _ | exact i_x.out _ | exact i_n.out _ | exact i_t.out _ | exact i_k.out _ | exact i_i.out _ | exact i_e.out _); rintro e w' ⟨rfl, rfl⟩)
      go_ret
      exact ⟨ret_bool' HF.out.symm, HB.out⟩
    | true =>
      have F3 := Lib.hid hgi
      clear hgi
      go_upto_region 16 with (go_at_call 15; apply Calls.mono; (with_reducible first | exact i_p.out _ | exact i_x.out _ | exact i_n.out _ | exact i_t.out _ | exact i_k.out _ | exact i_i.out _ | exact i_e.out _); rintro e w' ⟨rfl, rfl⟩)
      by_cases a6 : (0 : Int) < (h.bn : Int)
      · have A := Lib.hid (show decide (m.es.length = 0) = false from len1 HLB.out (by omega))
        have HF := Lib.hid (show (wholeB m hImage && bareB m hImage) = false from by rw [HE.out, A.out]; simp)
        go_wp2_with (go_at_call 15; apply Calls.mono; (with_reducible first | exact i_p.out _ | exact i_x.out _ | exact i_n.out _ | exact i_t.out _ | exact i_k.out _ | exact i_i.out _ | exact i_e.out _); rintro e w' ⟨rfl, rfl⟩)
        go_ret
        exact ⟨ret_bool' HF.out.symm, HB.out⟩
      have F5 := Lib.hid (show decide (m.es.length = 0) = true from len0 HLB.out (by omega))
      go_upto_region 18 with (go_at_call 15; apply Calls.mono; (with_reducible first | exact i_p.out _ | exact i_x.out _ | exact i_n.out _ | exact i_t.out _ | exact i_k.out _ | exact i_i.out _ | exact i_e.out _); rintro e w' ⟨rfl, rfl⟩)
      have hb0 : h.bn = 0 := by omega
      rw [hb0] at c10
      clear hb0 a6
      have HF := Lib.hid (show (wholeB m hImage && bareB m hImage) = true from by rw [HE.out, F0.out, F_x.out, F_n.out, HQ.out, F2.out, F3.out, F5.out] <;> rfl)
      go_wp2_with fail
      go_loop [6] (fun i => i = .int .i64 0) (fun _ => 0)
      case atStart => rfl
      case round =>
        obtain rfl := hrel
        go_wp2
        go_ret
        exact ⟨ret_bool' HF.out.symm, HB.out⟩
set_option maxRecDepth 100000 in
set_option maxHeartbeats 4000000 in
theorem rgood_Txn (m : Ms) (h : Hd) (w : World) (hi : In w m h) (_ha : h.an ≤ 1000000) (_hbn : h.bn ≤ 1000000) (hk13 : (m.kind == 13) = false)
    (hh : ∀ w, In w m h → Calls Try.prog 14 #[.agg #[.int .i64 m.kind, .int .i64 m.page, .bool m.x, .bool m.need, .int .i64 m.n, .int .i64 m.cl, .int .i64 m.ep, .int .i64 m.tn, .int .i64 m.lsn, .slice h.a h.an h.ac, .slice h.b h.bn h.bc]] w fun e w' => e = .returned (.string ⟨#[116]⟩) ∧ Below w.heap.size w w') :
    Calls Try.prog 19 #[.agg #[.int .i64 m.kind, .int .i64 m.page, .bool m.x, .bool m.need, .int .i64 m.n, .int .i64 m.cl, .int .i64 m.ep, .int .i64 m.tn, .int .i64 m.lsn, .slice h.a h.an h.ac, .slice h.b h.bn h.bc]] w fun e w' => e = .returned (.bool (wholeB m hTxn && bareB m hTxn)) ∧ Below w.heap.size w w' := by
  have HE := Lib.hid (show (wholeB m hTxn && bareB m hTxn) = _ from by rw [wholeE_Txn, bareE_Txn])
  have HI := Lib.hid hi
  have HH := Lib.hid hh
  have HLA := Lib.hid (show m.zs.length = h.an from hi.s.len)
  have HLB := Lib.hid (show m.es.length = h.bn from hi.e.len)
  clear hi hh
  have i_p := Lib.hid (fun w => in_is ⟨#[116]⟩ 112 false (by decide) (by decide) w 112 (by decide))
  have i_x := Lib.hid (fun w => in_is ⟨#[116]⟩ 120 false (by decide) (by decide) w 120 (by decide))
  have i_n := Lib.hid (fun w => in_is ⟨#[116]⟩ 110 false (by decide) (by decide) w 110 (by decide))
  have i_t := Lib.hid (fun w => in_is ⟨#[116]⟩ 116 true (by decide) (by decide) w 116 (by decide))
  have i_k := Lib.hid (fun w => in_is ⟨#[116]⟩ 107 false (by decide) (by decide) w 107 (by decide))
  have i_i := Lib.hid (fun w => in_is ⟨#[116]⟩ 105 false (by decide) (by decide) w 105 (by decide))
  have i_e := Lib.hid (fun w => in_is ⟨#[116]⟩ 101 false (by decide) (by decide) w 101 (by decide))
  have hb := below_box w (.cells #[.int .i64 m.kind, .int .i64 m.page, .bool m.x, .bool m.need, .int .i64 m.n, .int .i64 m.cl, .int .i64 m.ep, .int .i64 m.tn, .int .i64 m.lsn, .slice h.a h.an h.ac, .slice h.b h.bn h.bc] 30)
  have hM := Blk.new w 30 #[.int .i64 m.kind, .int .i64 m.page, .bool m.x, .bool m.need, .int .i64 m.n, .int .i64 m.cl, .int .i64 m.ep, .int .i64 m.tn, .int .i64 m.lsn, .slice h.a h.an h.ac, .slice h.b h.bn h.bc]
  have hs := alloc_lt w (.cells #[.int .i64 m.kind, .int .i64 m.page, .bool m.x, .bool m.need, .int .i64 m.n, .int .i64 m.cl, .int .i64 m.ep, .int .i64 m.tn, .int .i64 m.lsn, .slice h.a h.an h.ac, .slice h.b h.bn h.bc] 30)
  go_enter Try.func19, Try.ntmps19
  try dsimp only [List.append]
  go_upto_region 1 with (fail)
  generalize hGen : w.alloc (.cells #[.int .i64 m.kind, .int .i64 m.page, .bool m.x, .bool m.need, .int .i64 m.n, .int .i64 m.cl, .int .i64 m.ep, .int .i64 m.tn, .int .i64 m.lsn, .slice h.a h.an h.ac, .slice h.b h.bn h.bc] 30) = W at hb hM hs ⊢
  clear hGen
  obtain ⟨c0, c1, c2, c3, c4, c5, c6, c7, c8, c9, c10⟩ := msg_cells hM
  go_wp2_with fail
  refine (HH.out _ (HI.out.below hb)).mono ?_
  rintro e w1 ⟨rfl, b1⟩
  have hM1 := hM.below b1 hs
  have hb1 := below_next hb b1
  have hs1 := Nat.lt_of_lt_of_le hs b1.size
  clear c0 c1 c2 c3 c4 c5 c6 c7 c8 c9 c10 hM hb b1 hs
  obtain ⟨c0, c1, c2, c3, c4, c5, c6, c7, c8, c9, c10⟩ := msg_cells hM1
  go_upto_region 8 with (fail)
  have hM2 := hM1.alloc (.cells #[.int .i64 0, .int .i64 0, .int .i64 0] 24)
  have hN2 := Blk.new w1 24 #[.int .i64 0, .int .i64 0, .int .i64 0]
  have hb2 := below_next hb1 (below_box w1 (.cells #[.int .i64 0, .int .i64 0, .int .i64 0] 24))
  have hs2 := alloc_lt w1 (.cells #[.int .i64 0, .int .i64 0, .int .i64 0] 24)
  generalize hGen : w1.alloc (.cells #[.int .i64 0, .int .i64 0, .int .i64 0] 24) = W1 at hM2 hN2 hb2 hs2 ⊢
  clear hGen
  have hwn : w.heap.size < W1.heap.size := by omega
  generalize hGen : w1.heap.size = gn at hN2 hs2 hs1 ⊢
  clear hGen
  clear c0 c1 c2 c3 c4 c5 c6 c7 c8 c9 c10 hM1 hb1
  have HM := Lib.hid hM2
  have HN := Lib.hid hN2
  have HB := Lib.hid hb2
  clear hM2 hN2 hb2
  have HW := Lib.hid (And.intro hwn hs2)
  clear hwn hs2 hs1
  obtain ⟨c0, c1, c2, c3, c4, c5, c6, c7, c8, c9, c10⟩ := msg_cells HM.out
  have n0 := Blk.cell HN.out 0
  have n1 := Blk.cell HN.out 1
  have n2 := Blk.cell HN.out 2
  simp at n0 n1 n2
  by_cases a0 : m.page = 0
  rotate_left
  · have t0 : (m.page != 0) = true := bne_iff_ne.2 a0
    have A := Lib.hid (show (m.page == 0) = false from beq_eq_false_iff_ne.2 a0)
    clear a0
    have HF := Lib.hid (show (wholeB m hTxn && bareB m hTxn) = false from by rw [HE.out, A.out]; simp)
    go_wp2_with (go_at_call 15; apply Calls.mono; (with_reducible first | exact i_p.out _ | exact i_x.out _ | exact i_n.out _ | exact i_t.out _ | exact i_k.out _ | exact i_i.out _ | exact i_e.out _); rintro e w' ⟨rfl, rfl⟩)
    go_ret
    exact ⟨ret_bool' HF.out.symm, HB.out⟩
  have t0 : (m.page != 0) = false := by rw [a0]; rfl
  have F0 := Lib.hid (show (m.page == 0) = true from by rw [a0]; rfl)
  clear a0
  rcases Bool.eq_false_or_eq_true m.x with hx | hx
  · rw [hx] at c2
    have A := Lib.hid hx
    clear hx
    have HF := Lib.hid (show (wholeB m hTxn && bareB m hTxn) = false from by rw [HE.out, A.out]; simp)
    go_wp2_with (go_at_call 15; apply Calls.mono; (with_reducible first | exact i_p.out _ | exact i_x.out _ | exact i_n.out _ | exact i_t.out _ | exact i_k.out _ | exact i_i.out _ | exact i_e.out _); rintro e w' ⟨rfl, rfl⟩)
    go_ret
    exact ⟨ret_bool' HF.out.symm, HB.out⟩
  rw [hx] at c2
  have F_x := Lib.hid hx
  clear hx
  rcases Bool.eq_false_or_eq_true m.need with hn | hn
  · rw [hn] at c3
    have A := Lib.hid hn
    clear hn
    have HF := Lib.hid (show (wholeB m hTxn && bareB m hTxn) = false from by rw [HE.out, A.out]; simp)
    go_wp2_with (go_at_call 15; apply Calls.mono; (with_reducible first | exact i_p.out _ | exact i_x.out _ | exact i_n.out _ | exact i_t.out _ | exact i_k.out _ | exact i_i.out _ | exact i_e.out _); rintro e w' ⟨rfl, rfl⟩)
    go_ret
    exact ⟨ret_bool' HF.out.symm, HB.out⟩
  rw [hn] at c3
  have F_n := Lib.hid hn
  clear hn
  go_upto_region 10 with (go_at_call 15; apply Calls.mono; (with_reducible first | exact i_p.out _ | exact i_x.out _ | exact i_n.out _ | exact i_t.out _ | exact i_k.out _ | exact i_i.out _ | exact i_e.out _); rintro e w' ⟨rfl, rfl⟩)
  go_wp2_with (go_at_call 15; apply Calls.mono; (with_reducible first | exact i_p.out _ | exact i_x.out _ | exact i_n.out _ | exact i_t.out _ | exact i_k.out _ | exact i_i.out _ | exact i_e.out _); rintro e w' ⟨rfl, rfl⟩)
  refine (Ent.rknown_any m.cl m.ep m.tn _).mono ?_
  rintro e w2 ⟨rfl, b2⟩
  replace HM := Lib.hid (HM.out.below b2 HW.out.1)
  replace HN := Lib.hid (HN.out.below b2 HW.out.2)
  replace HB := Lib.hid (below_next HB.out b2)
  replace HW := Lib.hid (And.intro (Nat.lt_of_lt_of_le HW.out.1 b2.size) (Nat.lt_of_lt_of_le HW.out.2 b2.size))
  clear c0 c1 c2 c3 c4 c5 c6 c7 c8 c9 c10 n0 n1 n2 b2
  obtain ⟨c0, c1, c2, c3, c4, c5, c6, c7, c8, c9, c10⟩ := msg_cells HM.out
  have n0 := Blk.cell HN.out 0
  have n1 := Blk.cell HN.out 1
  have n2 := Blk.cell HN.out 2
  simp at n0 n1 n2
  cases hkn : knownB m.cl m.ep m.tn with
  | false =>
    have A := Lib.hid hkn
    clear hkn
    have HF := Lib.hid (show (wholeB m hTxn && bareB m hTxn) = false from by rw [HE.out, A.out]; simp)
    go_wp2_with (go_at_call 15; apply Calls.mono; (with_reducible first | exact i_p.out _ | exact i_x.out _ | exact i_n.out _ | exact i_t.out _ | exact i_k.out _ | exact i_i.out _ | exact i_e.out _); rintro e w' ⟨rfl, rfl⟩)
    go_ret
    exact ⟨ret_bool' HF.out.symm, HB.out⟩
  | true =>
    have F1 := Lib.hid hkn
    clear hkn
    go_upto_region 12 with (go_at_call 15; apply Calls.mono; (with_reducible first | exact i_p.out _ | exact i_x.out _ | exact i_n.out _ | exact i_t.out _ | exact i_k.out _ | exact i_i.out _ | exact i_e.out _); rintro e w' ⟨rfl, rfl⟩)
    by_cases a2 : m.n = 0
    rotate_left
    · have t2 : (m.n != 0) = true := bne_iff_ne.2 a2
      have A := Lib.hid (show (m.n == 0) = false from beq_eq_false_iff_ne.2 a2)
      clear a2
      have HF := Lib.hid (show (wholeB m hTxn && bareB m hTxn) = false from by rw [HE.out, A.out]; simp)
      go_wp2_with (go_at_call 15; apply Calls.mono; (with_reducible first | exact i_p.out _ | exact i_x.out _ | exact i_n.out _ | exact i_t.out _ | exact i_k.out _ | exact i_i.out _ | exact i_e.out _); rintro e w' ⟨rfl, rfl⟩)
      go_ret
      exact ⟨ret_bool' HF.out.symm, HB.out⟩
    have t2 : (m.n != 0) = false := by rw [a2]; rfl
    have F2 := Lib.hid (show (m.n == 0) = true from by rw [a2]; rfl)
    clear a2
    go_upto_region 14 with (go_at_call 15; apply Calls.mono; (with_reducible first | exact i_p.out _ | exact i_x.out _ | exact i_n.out _ | exact i_t.out _ | exact i_k.out _ | exact i_i.out _ | exact i_e.out _); rintro e w' ⟨rfl, rfl⟩)
    by_cases a4 : m.lsn = 0
    rotate_left
    · have t4 : (m.lsn != 0) = true := bne_iff_ne.2 a4
      have A := Lib.hid (show (m.lsn == 0) = false from beq_eq_false_iff_ne.2 a4)
      clear a4
      have HF := Lib.hid (show (wholeB m hTxn && bareB m hTxn) = false from by rw [HE.out, A.out]; simp)
      go_wp2_with (go_at_call 15; apply Calls.mono; (with_reducible first | exact i_p.out _ | exact i_x.out _ | exact i_n.out _ | exact i_t.out _ | exact i_k.out _ | exact i_i.out _ | exact i_e.out _); rintro e w' ⟨rfl, rfl⟩)
      go_ret
      exact ⟨ret_bool' HF.out.symm, HB.out⟩
    have t4 : (m.lsn != 0) = false := by rw [a4]; rfl
    have F3 := Lib.hid (show (m.lsn == 0) = true from by rw [a4]; rfl)
    clear a4
    by_cases a5 : (0 : Int) < (h.an : Int)
    · have A := Lib.hid (show decide (m.zs.length = 0) = false from len1 HLA.out (by omega))
      have HF := Lib.hid (show (wholeB m hTxn && bareB m hTxn) = false from by rw [HE.out, A.out]; simp)
      go_wp2_with (go_at_call 15; apply Calls.mono; (with_reducible first | exact i_p.out _ | exact i_x.out _ | exact i_n.out _ | exact i_t.out _ | exact i_k.out _ | exact i_i.out _ | exact i_e.out _); rintro e w' ⟨rfl, rfl⟩)
      go_ret
      exact ⟨ret_bool' HF.out.symm, HB.out⟩
    have F4 := Lib.hid (show decide (m.zs.length = 0) = true from len0 HLA.out (by omega))
    go_upto_region 16 with (go_at_call 15; apply Calls.mono; (with_reducible first | exact i_p.out _ | exact i_x.out _ | exact i_n.out _ | exact i_t.out _ | exact i_k.out _ | exact i_i.out _ | exact i_e.out _); rintro e w' ⟨rfl, rfl⟩)
    by_cases a6 : (0 : Int) < (h.bn : Int)
    · have A := Lib.hid (show decide (m.es.length = 0) = false from len1 HLB.out (by omega))
      have HF := Lib.hid (show (wholeB m hTxn && bareB m hTxn) = false from by rw [HE.out, A.out]; simp)
      go_wp2_with (go_at_call 15; apply Calls.mono; (with_reducible first | exact i_p.out _ | exact i_x.out _ | exact i_n.out _ | exact i_t.out _ | exact i_k.out _ | exact i_i.out _ | exact i_e.out _); rintro e w' ⟨rfl, rfl⟩)
      go_ret
      exact ⟨ret_bool' HF.out.symm, HB.out⟩
    have F5 := Lib.hid (show decide (m.es.length = 0) = true from len0 HLB.out (by omega))
    go_upto_region 18 with (go_at_call 15; apply Calls.mono; (with_reducible first | exact i_p.out _ | exact i_x.out _ | exact i_n.out _ | exact i_t.out _ | exact i_k.out _ | exact i_i.out _ | exact i_e.out _); rintro e w' ⟨rfl, rfl⟩)
    have hb0 : h.bn = 0 := by omega
    rw [hb0] at c10
    clear hb0 a6
    have HF := Lib.hid (show (wholeB m hTxn && bareB m hTxn) = true from by rw [HE.out, F0.out, F_x.out, F_n.out, F1.out, F2.out, F3.out, F4.out, F5.out] <;> rfl)
    go_wp2_with fail
    go_loop [6] (fun i => i = .int .i64 0) (fun _ => 0)
    case atStart => rfl
    case round =>
      obtain rfl := hrel
      go_wp2
      go_ret
      exact ⟨ret_bool' HF.out.symm, HB.out⟩
set_option maxRecDepth 100000 in
set_option maxHeartbeats 4000000 in
theorem rgood_Space (m : Ms) (h : Hd) (w : World) (hi : In w m h) (_ha : h.an ≤ 1000000) (_hbn : h.bn ≤ 1000000) (hk13 : (m.kind == 13) = false)
    (hh : ∀ w, In w m h → Calls Try.prog 14 #[.agg #[.int .i64 m.kind, .int .i64 m.page, .bool m.x, .bool m.need, .int .i64 m.n, .int .i64 m.cl, .int .i64 m.ep, .int .i64 m.tn, .int .i64 m.lsn, .slice h.a h.an h.ac, .slice h.b h.bn h.bc]] w fun e w' => e = .returned (.string ⟨#[107]⟩) ∧ Below w.heap.size w w') :
    Calls Try.prog 19 #[.agg #[.int .i64 m.kind, .int .i64 m.page, .bool m.x, .bool m.need, .int .i64 m.n, .int .i64 m.cl, .int .i64 m.ep, .int .i64 m.tn, .int .i64 m.lsn, .slice h.a h.an h.ac, .slice h.b h.bn h.bc]] w fun e w' => e = .returned (.bool (wholeB m hSpace && bareB m hSpace)) ∧ Below w.heap.size w w' := by
  have HE := Lib.hid (show (wholeB m hSpace && bareB m hSpace) = _ from by rw [wholeE_Space, bareE_Space])
  have HI := Lib.hid hi
  have HH := Lib.hid hh
  have HLA := Lib.hid (show m.zs.length = h.an from hi.s.len)
  have HLB := Lib.hid (show m.es.length = h.bn from hi.e.len)
  clear hi hh
  have i_p := Lib.hid (fun w => in_is ⟨#[107]⟩ 112 false (by decide) (by decide) w 112 (by decide))
  have i_x := Lib.hid (fun w => in_is ⟨#[107]⟩ 120 false (by decide) (by decide) w 120 (by decide))
  have i_n := Lib.hid (fun w => in_is ⟨#[107]⟩ 110 false (by decide) (by decide) w 110 (by decide))
  have i_t := Lib.hid (fun w => in_is ⟨#[107]⟩ 116 false (by decide) (by decide) w 116 (by decide))
  have i_k := Lib.hid (fun w => in_is ⟨#[107]⟩ 107 true (by decide) (by decide) w 107 (by decide))
  have i_i := Lib.hid (fun w => in_is ⟨#[107]⟩ 105 false (by decide) (by decide) w 105 (by decide))
  have i_e := Lib.hid (fun w => in_is ⟨#[107]⟩ 101 false (by decide) (by decide) w 101 (by decide))
  have hb := below_box w (.cells #[.int .i64 m.kind, .int .i64 m.page, .bool m.x, .bool m.need, .int .i64 m.n, .int .i64 m.cl, .int .i64 m.ep, .int .i64 m.tn, .int .i64 m.lsn, .slice h.a h.an h.ac, .slice h.b h.bn h.bc] 30)
  have hM := Blk.new w 30 #[.int .i64 m.kind, .int .i64 m.page, .bool m.x, .bool m.need, .int .i64 m.n, .int .i64 m.cl, .int .i64 m.ep, .int .i64 m.tn, .int .i64 m.lsn, .slice h.a h.an h.ac, .slice h.b h.bn h.bc]
  have hs := alloc_lt w (.cells #[.int .i64 m.kind, .int .i64 m.page, .bool m.x, .bool m.need, .int .i64 m.n, .int .i64 m.cl, .int .i64 m.ep, .int .i64 m.tn, .int .i64 m.lsn, .slice h.a h.an h.ac, .slice h.b h.bn h.bc] 30)
  go_enter Try.func19, Try.ntmps19
  try dsimp only [List.append]
  go_upto_region 1 with (fail)
  generalize hGen : w.alloc (.cells #[.int .i64 m.kind, .int .i64 m.page, .bool m.x, .bool m.need, .int .i64 m.n, .int .i64 m.cl, .int .i64 m.ep, .int .i64 m.tn, .int .i64 m.lsn, .slice h.a h.an h.ac, .slice h.b h.bn h.bc] 30) = W at hb hM hs ⊢
  clear hGen
  obtain ⟨c0, c1, c2, c3, c4, c5, c6, c7, c8, c9, c10⟩ := msg_cells hM
  go_wp2_with fail
  refine (HH.out _ (HI.out.below hb)).mono ?_
  rintro e w1 ⟨rfl, b1⟩
  have hM1 := hM.below b1 hs
  have hb1 := below_next hb b1
  have hs1 := Nat.lt_of_lt_of_le hs b1.size
  clear c0 c1 c2 c3 c4 c5 c6 c7 c8 c9 c10 hM hb b1 hs
  obtain ⟨c0, c1, c2, c3, c4, c5, c6, c7, c8, c9, c10⟩ := msg_cells hM1
  go_upto_region 8 with (fail)
  have hM2 := hM1.alloc (.cells #[.int .i64 0, .int .i64 0, .int .i64 0] 24)
  have hN2 := Blk.new w1 24 #[.int .i64 0, .int .i64 0, .int .i64 0]
  have hb2 := below_next hb1 (below_box w1 (.cells #[.int .i64 0, .int .i64 0, .int .i64 0] 24))
  have hs2 := alloc_lt w1 (.cells #[.int .i64 0, .int .i64 0, .int .i64 0] 24)
  generalize hGen : w1.alloc (.cells #[.int .i64 0, .int .i64 0, .int .i64 0] 24) = W1 at hM2 hN2 hb2 hs2 ⊢
  clear hGen
  have hwn : w.heap.size < W1.heap.size := by omega
  generalize hGen : w1.heap.size = gn at hN2 hs2 hs1 ⊢
  clear hGen
  clear c0 c1 c2 c3 c4 c5 c6 c7 c8 c9 c10 hM1 hb1
  have HM := Lib.hid hM2
  have HN := Lib.hid hN2
  have HB := Lib.hid hb2
  clear hM2 hN2 hb2
  have HW := Lib.hid (And.intro hwn hs2)
  clear hwn hs2 hs1
  obtain ⟨c0, c1, c2, c3, c4, c5, c6, c7, c8, c9, c10⟩ := msg_cells HM.out
  have n0 := Blk.cell HN.out 0
  have n1 := Blk.cell HN.out 1
  have n2 := Blk.cell HN.out 2
  simp at n0 n1 n2
  by_cases a0 : m.page = 0
  rotate_left
  · have t0 : (m.page != 0) = true := bne_iff_ne.2 a0
    have A := Lib.hid (show (m.page == 0) = false from beq_eq_false_iff_ne.2 a0)
    clear a0
    have HF := Lib.hid (show (wholeB m hSpace && bareB m hSpace) = false from by rw [HE.out, A.out]; simp)
    go_wp2_with (go_at_call 15; apply Calls.mono; (with_reducible first | exact i_p.out _ | exact i_x.out _ | exact i_n.out _ | exact i_t.out _ | exact i_k.out _ | exact i_i.out _ | exact i_e.out _); rintro e w' ⟨rfl, rfl⟩)
    go_ret
    exact ⟨ret_bool' HF.out.symm, HB.out⟩
  have t0 : (m.page != 0) = false := by rw [a0]; rfl
  have F0 := Lib.hid (show (m.page == 0) = true from by rw [a0]; rfl)
  clear a0
  rcases Bool.eq_false_or_eq_true m.x with hx | hx
  · rw [hx] at c2
    have A := Lib.hid hx
    clear hx
    have HF := Lib.hid (show (wholeB m hSpace && bareB m hSpace) = false from by rw [HE.out, A.out]; simp)
    go_wp2_with (go_at_call 15; apply Calls.mono; (with_reducible first | exact i_p.out _ | exact i_x.out _ | exact i_n.out _ | exact i_t.out _ | exact i_k.out _ | exact i_i.out _ | exact i_e.out _); rintro e w' ⟨rfl, rfl⟩)
    go_ret
    exact ⟨ret_bool' HF.out.symm, HB.out⟩
  rw [hx] at c2
  have F_x := Lib.hid hx
  clear hx
  rcases Bool.eq_false_or_eq_true m.need with hn | hn
  · rw [hn] at c3
    have A := Lib.hid hn
    clear hn
    have HF := Lib.hid (show (wholeB m hSpace && bareB m hSpace) = false from by rw [HE.out, A.out]; simp)
    go_wp2_with (go_at_call 15; apply Calls.mono; (with_reducible first | exact i_p.out _ | exact i_x.out _ | exact i_n.out _ | exact i_t.out _ | exact i_k.out _ | exact i_i.out _ | exact i_e.out _); rintro e w' ⟨rfl, rfl⟩)
    go_ret
    exact ⟨ret_bool' HF.out.symm, HB.out⟩
  rw [hn] at c3
  have F_n := Lib.hid hn
  clear hn
  go_upto_region 10 with (go_at_call 15; apply Calls.mono; (with_reducible first | exact i_p.out _ | exact i_x.out _ | exact i_n.out _ | exact i_t.out _ | exact i_k.out _ | exact i_i.out _ | exact i_e.out _); rintro e w' ⟨rfl, rfl⟩)
  have hq := fun w => run_ne_txn m.cl m.ep m.tn 0 0 0 w
  have hgd := fun (A B : Operand) xs ys w => run_guard_txn .neq A B xs ys w
  have HQ := Lib.hid (show (m.cl == 0 && (m.ep == 0 && m.tn == 0)) = txnB m.cl m.ep m.tn 0 0 0 from rfl)
  generalize txnB m.cl m.ep m.tn 0 0 0 = q at hq HQ
  cases q with
  | false =>
    have HF := Lib.hid (show (wholeB m hSpace && bareB m hSpace) = false from by rw [HE.out, HQ.out]; simp)
    go_wp2_with (go_at_call 15; apply Calls.mono; (with_reducible first | exact i_p.out _ | exact i_x.out _ | exact i_n.out _ | exact i_t.out _ | exact i_k.out _ | exact i_i.out _ | exact i_e.out _); rintro e w' ⟨rfl, rfl⟩)
    go_ret
    exact ⟨ret_bool' HF.out.symm, HB.out⟩
  | true =>
    go_upto_region 12 with (go_at_call 15; apply Calls.mono; (with_reducible first | exact i_p.out _ | exact i_x.out _ | exact i_n.out _ | exact i_t.out _ | exact i_k.out _ | exact i_i.out _ | exact i_e.out _); rintro e w' ⟨rfl, rfl⟩)
    clear hq hgd
    by_cases a2 : m.n < 1
    · have A := Lib.hid (show withinB m.n 1 1048576 = false from within_no (by omega))
      have HF := Lib.hid (show (wholeB m hSpace && bareB m hSpace) = false from by rw [HE.out, A.out]; simp)
      go_wp2_with (go_at_call 15; apply Calls.mono; (with_reducible first | exact i_p.out _ | exact i_x.out _ | exact i_n.out _ | exact i_t.out _ | exact i_k.out _ | exact i_i.out _ | exact i_e.out _); rintro e w' ⟨rfl, rfl⟩)
      go_ret
      exact ⟨ret_bool' HF.out.symm, HB.out⟩
    by_cases a3 : 1048576 < m.n
    · have A := Lib.hid (show withinB m.n 1 1048576 = false from within_no (by omega))
      have HF := Lib.hid (show (wholeB m hSpace && bareB m hSpace) = false from by rw [HE.out, A.out]; simp)
      go_wp2_with (go_at_call 15; apply Calls.mono; (with_reducible first | exact i_p.out _ | exact i_x.out _ | exact i_n.out _ | exact i_t.out _ | exact i_k.out _ | exact i_i.out _ | exact i_e.out _); rintro e w' ⟨rfl, rfl⟩)
      go_ret
      exact ⟨ret_bool' HF.out.symm, HB.out⟩
    have F2 := Lib.hid (show withinB m.n 1 1048576 = true from within_yes (by omega))
    go_upto_region 14 with (go_at_call 15; apply Calls.mono; (with_reducible first | exact i_p.out _ | exact i_x.out _ | exact i_n.out _ | exact i_t.out _ | exact i_k.out _ | exact i_i.out _ | exact i_e.out _); rintro e w' ⟨rfl, rfl⟩)
    by_cases a4 : m.lsn = 0
    rotate_left
    · have t4 : (m.lsn != 0) = true := bne_iff_ne.2 a4
      have A := Lib.hid (show (m.lsn == 0) = false from beq_eq_false_iff_ne.2 a4)
      clear a4
      have HF := Lib.hid (show (wholeB m hSpace && bareB m hSpace) = false from by rw [HE.out, A.out]; simp)
      go_wp2_with (go_at_call 15; apply Calls.mono; (with_reducible first | exact i_p.out _ | exact i_x.out _ | exact i_n.out _ | exact i_t.out _ | exact i_k.out _ | exact i_i.out _ | exact i_e.out _); rintro e w' ⟨rfl, rfl⟩)
      go_ret
      exact ⟨ret_bool' HF.out.symm, HB.out⟩
    have t4 : (m.lsn != 0) = false := by rw [a4]; rfl
    have F3 := Lib.hid (show (m.lsn == 0) = true from by rw [a4]; rfl)
    clear a4
    by_cases a5 : (0 : Int) < (h.an : Int)
    · have A := Lib.hid (show decide (m.zs.length = 0) = false from len1 HLA.out (by omega))
      have HF := Lib.hid (show (wholeB m hSpace && bareB m hSpace) = false from by rw [HE.out, A.out]; simp)
      go_wp2_with (go_at_call 15; apply Calls.mono; (with_reducible first | exact i_p.out _ | exact i_x.out _ | exact i_n.out _ | exact i_t.out _ | exact i_k.out _ | exact i_i.out _ | exact i_e.out _); rintro e w' ⟨rfl, rfl⟩)
      go_ret
      exact ⟨ret_bool' HF.out.symm, HB.out⟩
    have F4 := Lib.hid (show decide (m.zs.length = 0) = true from len0 HLA.out (by omega))
    go_upto_region 16 with (go_at_call 15; apply Calls.mono; (with_reducible first | exact i_p.out _ | exact i_x.out _ | exact i_n.out _ | exact i_t.out _ | exact i_k.out _ | exact i_i.out _ | exact i_e.out _); rintro e w' ⟨rfl, rfl⟩)
    by_cases a6 : (0 : Int) < (h.bn : Int)
    · have A := Lib.hid (show decide (m.es.length = 0) = false from len1 HLB.out (by omega))
      have HF := Lib.hid (show (wholeB m hSpace && bareB m hSpace) = false from by rw [HE.out, A.out]; simp)
      go_wp2_with (go_at_call 15; apply Calls.mono; (with_reducible first | exact i_p.out _ | exact i_x.out _ | exact i_n.out _ | exact i_t.out _ | exact i_k.out _ | exact i_i.out _ | exact i_e.out _); rintro e w' ⟨rfl, rfl⟩)
      go_ret
      exact ⟨ret_bool' HF.out.symm, HB.out⟩
    have F5 := Lib.hid (show decide (m.es.length = 0) = true from len0 HLB.out (by omega))
    go_upto_region 18 with (go_at_call 15; apply Calls.mono; (with_reducible first | exact i_p.out _ | exact i_x.out _ | exact i_n.out _ | exact i_t.out _ | exact i_k.out _ | exact i_i.out _ | exact i_e.out _); rintro e w' ⟨rfl, rfl⟩)
    have hb0 : h.bn = 0 := by omega
    rw [hb0] at c10
    clear hb0 a6
    have HF := Lib.hid (show (wholeB m hSpace && bareB m hSpace) = true from by rw [HE.out, F0.out, F_x.out, F_n.out, HQ.out, F2.out, F3.out, F4.out, F5.out] <;> rfl)
    go_wp2_with fail
    go_loop [6] (fun i => i = .int .i64 0) (fun _ => 0)
    case atStart => rfl
    case round =>
      obtain rfl := hrel
      go_wp2
      go_ret
      exact ⟨ret_bool' HF.out.symm, HB.out⟩
set_option maxRecDepth 100000 in
set_option maxHeartbeats 4000000 in
theorem rgood_Grant (m : Ms) (h : Hd) (w : World) (hi : In w m h) (ha : h.an ≤ 1000000) (_hbn : h.bn ≤ 1000000) (hk13 : (m.kind == 13) = false)
    (hh : ∀ w, In w m h → Calls Try.prog 14 #[.agg #[.int .i64 m.kind, .int .i64 m.page, .bool m.x, .bool m.need, .int .i64 m.n, .int .i64 m.cl, .int .i64 m.ep, .int .i64 m.tn, .int .i64 m.lsn, .slice h.a h.an h.ac, .slice h.b h.bn h.bc]] w fun e w' => e = .returned (.string ⟨#[112, 120, 110, 105]⟩) ∧ Below w.heap.size w w') :
    Calls Try.prog 19 #[.agg #[.int .i64 m.kind, .int .i64 m.page, .bool m.x, .bool m.need, .int .i64 m.n, .int .i64 m.cl, .int .i64 m.ep, .int .i64 m.tn, .int .i64 m.lsn, .slice h.a h.an h.ac, .slice h.b h.bn h.bc]] w fun e w' => e = .returned (.bool (wholeB m (hGrant true) && bareB m (hGrant true))) ∧ Below w.heap.size w w' := by
  have HE := Lib.hid (show (wholeB m (hGrant true) && bareB m (hGrant true)) = _ from by rw [wholeE_Grant, bareE_Grant])
  have HI := Lib.hid hi
  have HH := Lib.hid hh
  have HLA := Lib.hid (show m.zs.length = h.an from hi.s.len)
  have HLB := Lib.hid (show m.es.length = h.bn from hi.e.len)
  clear hi hh
  have i_p := Lib.hid (fun w => in_is ⟨#[112, 120, 110, 105]⟩ 112 true (by decide) (by decide) w 112 (by decide))
  have i_x := Lib.hid (fun w => in_is ⟨#[112, 120, 110, 105]⟩ 120 true (by decide) (by decide) w 120 (by decide))
  have i_n := Lib.hid (fun w => in_is ⟨#[112, 120, 110, 105]⟩ 110 true (by decide) (by decide) w 110 (by decide))
  have i_t := Lib.hid (fun w => in_is ⟨#[112, 120, 110, 105]⟩ 116 false (by decide) (by decide) w 116 (by decide))
  have i_k := Lib.hid (fun w => in_is ⟨#[112, 120, 110, 105]⟩ 107 false (by decide) (by decide) w 107 (by decide))
  have i_i := Lib.hid (fun w => in_is ⟨#[112, 120, 110, 105]⟩ 105 true (by decide) (by decide) w 105 (by decide))
  have i_e := Lib.hid (fun w => in_is ⟨#[112, 120, 110, 105]⟩ 101 false (by decide) (by decide) w 101 (by decide))
  have hb := below_box w (.cells #[.int .i64 m.kind, .int .i64 m.page, .bool m.x, .bool m.need, .int .i64 m.n, .int .i64 m.cl, .int .i64 m.ep, .int .i64 m.tn, .int .i64 m.lsn, .slice h.a h.an h.ac, .slice h.b h.bn h.bc] 30)
  have hM := Blk.new w 30 #[.int .i64 m.kind, .int .i64 m.page, .bool m.x, .bool m.need, .int .i64 m.n, .int .i64 m.cl, .int .i64 m.ep, .int .i64 m.tn, .int .i64 m.lsn, .slice h.a h.an h.ac, .slice h.b h.bn h.bc]
  have hs := alloc_lt w (.cells #[.int .i64 m.kind, .int .i64 m.page, .bool m.x, .bool m.need, .int .i64 m.n, .int .i64 m.cl, .int .i64 m.ep, .int .i64 m.tn, .int .i64 m.lsn, .slice h.a h.an h.ac, .slice h.b h.bn h.bc] 30)
  go_enter Try.func19, Try.ntmps19
  try dsimp only [List.append]
  go_upto_region 1 with (fail)
  generalize hGen : w.alloc (.cells #[.int .i64 m.kind, .int .i64 m.page, .bool m.x, .bool m.need, .int .i64 m.n, .int .i64 m.cl, .int .i64 m.ep, .int .i64 m.tn, .int .i64 m.lsn, .slice h.a h.an h.ac, .slice h.b h.bn h.bc] 30) = W at hb hM hs ⊢
  clear hGen
  obtain ⟨c0, c1, c2, c3, c4, c5, c6, c7, c8, c9, c10⟩ := msg_cells hM
  go_wp2_with fail
  refine (HH.out _ (HI.out.below hb)).mono ?_
  rintro e w1 ⟨rfl, b1⟩
  have hM1 := hM.below b1 hs
  have hb1 := below_next hb b1
  have hs1 := Nat.lt_of_lt_of_le hs b1.size
  clear c0 c1 c2 c3 c4 c5 c6 c7 c8 c9 c10 hM hb b1 hs
  obtain ⟨c0, c1, c2, c3, c4, c5, c6, c7, c8, c9, c10⟩ := msg_cells hM1
  go_upto_region 8 with (fail)
  have hM2 := hM1.alloc (.cells #[.int .i64 0, .int .i64 0, .int .i64 0] 24)
  have hN2 := Blk.new w1 24 #[.int .i64 0, .int .i64 0, .int .i64 0]
  have hb2 := below_next hb1 (below_box w1 (.cells #[.int .i64 0, .int .i64 0, .int .i64 0] 24))
  have hs2 := alloc_lt w1 (.cells #[.int .i64 0, .int .i64 0, .int .i64 0] 24)
  generalize hGen : w1.alloc (.cells #[.int .i64 0, .int .i64 0, .int .i64 0] 24) = W1 at hM2 hN2 hb2 hs2 ⊢
  clear hGen
  have hwn : w.heap.size < W1.heap.size := by omega
  generalize hGen : w1.heap.size = gn at hN2 hs2 hs1 ⊢
  clear hGen
  clear c0 c1 c2 c3 c4 c5 c6 c7 c8 c9 c10 hM1 hb1
  have HM := Lib.hid hM2
  have HN := Lib.hid hN2
  have HB := Lib.hid hb2
  clear hM2 hN2 hb2
  have HW := Lib.hid (And.intro hwn hs2)
  clear hwn hs2 hs1
  obtain ⟨c0, c1, c2, c3, c4, c5, c6, c7, c8, c9, c10⟩ := msg_cells HM.out
  have n0 := Blk.cell HN.out 0
  have n1 := Blk.cell HN.out 1
  have n2 := Blk.cell HN.out 2
  simp at n0 n1 n2
  by_cases a0 : m.page < 0
  · have A := Lib.hid (show withinB m.page 0 1023 = false from within_no (by omega))
    have HF := Lib.hid (show (wholeB m (hGrant true) && bareB m (hGrant true)) = false from by rw [HE.out, A.out]; simp)
    go_wp2_with (go_at_call 15; apply Calls.mono; (with_reducible first | exact i_p.out _ | exact i_x.out _ | exact i_n.out _ | exact i_t.out _ | exact i_k.out _ | exact i_i.out _ | exact i_e.out _); rintro e w' ⟨rfl, rfl⟩)
    go_ret
    exact ⟨ret_bool' HF.out.symm, HB.out⟩
  by_cases a1 : 1023 < m.page
  · have A := Lib.hid (show withinB m.page 0 1023 = false from within_no (by omega))
    have HF := Lib.hid (show (wholeB m (hGrant true) && bareB m (hGrant true)) = false from by rw [HE.out, A.out]; simp)
    go_wp2_with (go_at_call 15; apply Calls.mono; (with_reducible first | exact i_p.out _ | exact i_x.out _ | exact i_n.out _ | exact i_t.out _ | exact i_k.out _ | exact i_i.out _ | exact i_e.out _); rintro e w' ⟨rfl, rfl⟩)
    go_ret
    exact ⟨ret_bool' HF.out.symm, HB.out⟩
  have F0 := Lib.hid (show withinB m.page 0 1023 = true from within_yes (by omega))
  go_upto_region 10 with (go_at_call 15; apply Calls.mono; (with_reducible first | exact i_p.out _ | exact i_x.out _ | exact i_n.out _ | exact i_t.out _ | exact i_k.out _ | exact i_i.out _ | exact i_e.out _); rintro e w' ⟨rfl, rfl⟩)
  have hq := fun w => run_ne_txn m.cl m.ep m.tn 0 0 0 w
  have hgd := fun (A B : Operand) xs ys w => run_guard_txn .neq A B xs ys w
  have HQ := Lib.hid (show (m.cl == 0 && (m.ep == 0 && m.tn == 0)) = txnB m.cl m.ep m.tn 0 0 0 from rfl)
  generalize txnB m.cl m.ep m.tn 0 0 0 = q at hq HQ
  cases q with
  | false =>
    have HF := Lib.hid (show (wholeB m (hGrant true) && bareB m (hGrant true)) = false from by rw [HE.out, HQ.out]; simp)
    go_wp2_with (go_at_call 15; apply Calls.mono; (with_reducible first | exact i_p.out _ | exact i_x.out _ | exact i_n.out _ | exact i_t.out _ | exact i_k.out _ | exact i_i.out _ | exact i_e.out _); rintro e w' ⟨rfl, rfl⟩)
    go_ret
    exact ⟨ret_bool' HF.out.symm, HB.out⟩
  | true =>
    go_upto_region 12 with (go_at_call 15; apply Calls.mono; (with_reducible first | exact i_p.out _ | exact i_x.out _ | exact i_n.out _ | exact i_t.out _ | exact i_k.out _ | exact i_i.out _ | exact i_e.out _); rintro e w' ⟨rfl, rfl⟩)
    clear hq hgd
    by_cases a2 : m.n = 0
    rotate_left
    · have t2 : (m.n != 0) = true := bne_iff_ne.2 a2
      have A := Lib.hid (show (m.n == 0) = false from beq_eq_false_iff_ne.2 a2)
      clear a2
      have HF := Lib.hid (show (wholeB m (hGrant true) && bareB m (hGrant true)) = false from by rw [HE.out, A.out]; simp)
      go_wp2_with (go_at_call 15; apply Calls.mono; (with_reducible first | exact i_p.out _ | exact i_x.out _ | exact i_n.out _ | exact i_t.out _ | exact i_k.out _ | exact i_i.out _ | exact i_e.out _); rintro e w' ⟨rfl, rfl⟩)
      go_ret
      exact ⟨ret_bool' HF.out.symm, HB.out⟩
    have t2 : (m.n != 0) = false := by rw [a2]; rfl
    have F2 := Lib.hid (show (m.n == 0) = true from by rw [a2]; rfl)
    clear a2
    go_upto_region 14 with (go_at_call 15; apply Calls.mono; (with_reducible first | exact i_p.out _ | exact i_x.out _ | exact i_n.out _ | exact i_t.out _ | exact i_k.out _ | exact i_i.out _ | exact i_e.out _); rintro e w' ⟨rfl, rfl⟩)
    go_wp2_with (go_at_call 15; apply Calls.mono; (with_reducible first | exact i_p.out _ | exact i_x.out _ | exact i_n.out _ | exact i_t.out _ | exact i_k.out _ | exact i_i.out _ | exact i_e.out _); rintro e w' ⟨rfl, rfl⟩)
    refine (Slab.rgood_any m.lsn h.a h.an h.ac m.zs _ (HI.out.below HB.out).s ha).mono ?_
    rintro e w2 ⟨rfl, b2⟩
    replace HM := Lib.hid (HM.out.below b2 HW.out.1)
    replace HN := Lib.hid (HN.out.below b2 HW.out.2)
    replace HB := Lib.hid (below_next HB.out b2)
    replace HW := Lib.hid (And.intro (Nat.lt_of_lt_of_le HW.out.1 b2.size) (Nat.lt_of_lt_of_le HW.out.2 b2.size))
    clear c0 c1 c2 c3 c4 c5 c6 c7 c8 c9 c10 n0 n1 n2 b2
    obtain ⟨c0, c1, c2, c3, c4, c5, c6, c7, c8, c9, c10⟩ := msg_cells HM.out
    cases hgi : Slab.goodB m.lsn m.zs with
    | false =>
      have A := Lib.hid hgi
      clear hgi
      have HF := Lib.hid (show (wholeB m (hGrant true) && bareB m (hGrant true)) = false from by rw [HE.out, A.out]; simp)
      go_wp2_with (go_at_call 15; apply Calls.mono; (with_reducible first | exact i_p.out _ | exact i_x.out _ | exact i_n.out _ | exact i_t.out _ | exact i_k.out _ | exact i_i.out _ | exact i_e.out _); rintro e w' ⟨rfl, rfl⟩)
      go_ret
      exact ⟨ret_bool' HF.out.symm, HB.out⟩
    | true =>
      have F3 := Lib.hid hgi
      clear hgi
      go_upto_region 16 with (go_at_call 15; apply Calls.mono; (with_reducible first | exact i_p.out _ | exact i_x.out _ | exact i_n.out _ | exact i_t.out _ | exact i_k.out _ | exact i_i.out _ | exact i_e.out _); rintro e w' ⟨rfl, rfl⟩)
      by_cases a6 : (0 : Int) < (h.bn : Int)
      · have A := Lib.hid (show decide (m.es.length = 0) = false from len1 HLB.out (by omega))
        have HF := Lib.hid (show (wholeB m (hGrant true) && bareB m (hGrant true)) = false from by rw [HE.out, A.out]; simp)
        go_wp2_with (go_at_call 15; apply Calls.mono; (with_reducible first | exact i_p.out _ | exact i_x.out _ | exact i_n.out _ | exact i_t.out _ | exact i_k.out _ | exact i_i.out _ | exact i_e.out _); rintro e w' ⟨rfl, rfl⟩)
        go_ret
        exact ⟨ret_bool' HF.out.symm, HB.out⟩
      have F5 := Lib.hid (show decide (m.es.length = 0) = true from len0 HLB.out (by omega))
      go_upto_region 18 with (go_at_call 15; apply Calls.mono; (with_reducible first | exact i_p.out _ | exact i_x.out _ | exact i_n.out _ | exact i_t.out _ | exact i_k.out _ | exact i_i.out _ | exact i_e.out _); rintro e w' ⟨rfl, rfl⟩)
      have hb0 : h.bn = 0 := by omega
      rw [hb0] at c10
      clear hb0 a6
      have HF := Lib.hid (show (wholeB m (hGrant true) && bareB m (hGrant true)) = true from by rw [HE.out, F0.out, HQ.out, F2.out, F3.out, F5.out] <;> rfl)
      go_wp2_with fail
      go_loop [6] (fun i => i = .int .i64 0) (fun _ => 0)
      case atStart => rfl
      case round =>
        obtain rfl := hrel
        go_wp2
        go_ret
        exact ⟨ret_bool' HF.out.symm, HB.out⟩
set_option maxRecDepth 100000 in
set_option maxHeartbeats 4000000 in
theorem rgood_None (m : Ms) (h : Hd) (w : World) (hi : In w m h) (_ha : h.an ≤ 1000000) (_hbn : h.bn ≤ 1000000) (hk13 : (m.kind == 13) = false)
    (hh : ∀ w, In w m h → Calls Try.prog 14 #[.agg #[.int .i64 m.kind, .int .i64 m.page, .bool m.x, .bool m.need, .int .i64 m.n, .int .i64 m.cl, .int .i64 m.ep, .int .i64 m.tn, .int .i64 m.lsn, .slice h.a h.an h.ac, .slice h.b h.bn h.bc]] w fun e w' => e = .returned (.string ⟨#[]⟩) ∧ Below w.heap.size w w') :
    Calls Try.prog 19 #[.agg #[.int .i64 m.kind, .int .i64 m.page, .bool m.x, .bool m.need, .int .i64 m.n, .int .i64 m.cl, .int .i64 m.ep, .int .i64 m.tn, .int .i64 m.lsn, .slice h.a h.an h.ac, .slice h.b h.bn h.bc]] w fun e w' => e = .returned (.bool (wholeB m hNone && bareB m hNone)) ∧ Below w.heap.size w w' := by
  have HE := Lib.hid (show (wholeB m hNone && bareB m hNone) = _ from by rw [wholeE_None, bareE_None])
  have HI := Lib.hid hi
  have HH := Lib.hid hh
  have HLA := Lib.hid (show m.zs.length = h.an from hi.s.len)
  have HLB := Lib.hid (show m.es.length = h.bn from hi.e.len)
  clear hi hh
  have i_p := Lib.hid (fun w => in_is ⟨#[]⟩ 112 false (by decide) (by decide) w 112 (by decide))
  have i_x := Lib.hid (fun w => in_is ⟨#[]⟩ 120 false (by decide) (by decide) w 120 (by decide))
  have i_n := Lib.hid (fun w => in_is ⟨#[]⟩ 110 false (by decide) (by decide) w 110 (by decide))
  have i_t := Lib.hid (fun w => in_is ⟨#[]⟩ 116 false (by decide) (by decide) w 116 (by decide))
  have i_k := Lib.hid (fun w => in_is ⟨#[]⟩ 107 false (by decide) (by decide) w 107 (by decide))
  have i_i := Lib.hid (fun w => in_is ⟨#[]⟩ 105 false (by decide) (by decide) w 105 (by decide))
  have i_e := Lib.hid (fun w => in_is ⟨#[]⟩ 101 false (by decide) (by decide) w 101 (by decide))
  have hb := below_box w (.cells #[.int .i64 m.kind, .int .i64 m.page, .bool m.x, .bool m.need, .int .i64 m.n, .int .i64 m.cl, .int .i64 m.ep, .int .i64 m.tn, .int .i64 m.lsn, .slice h.a h.an h.ac, .slice h.b h.bn h.bc] 30)
  have hM := Blk.new w 30 #[.int .i64 m.kind, .int .i64 m.page, .bool m.x, .bool m.need, .int .i64 m.n, .int .i64 m.cl, .int .i64 m.ep, .int .i64 m.tn, .int .i64 m.lsn, .slice h.a h.an h.ac, .slice h.b h.bn h.bc]
  have hs := alloc_lt w (.cells #[.int .i64 m.kind, .int .i64 m.page, .bool m.x, .bool m.need, .int .i64 m.n, .int .i64 m.cl, .int .i64 m.ep, .int .i64 m.tn, .int .i64 m.lsn, .slice h.a h.an h.ac, .slice h.b h.bn h.bc] 30)
  go_enter Try.func19, Try.ntmps19
  try dsimp only [List.append]
  go_upto_region 1 with (fail)
  generalize hGen : w.alloc (.cells #[.int .i64 m.kind, .int .i64 m.page, .bool m.x, .bool m.need, .int .i64 m.n, .int .i64 m.cl, .int .i64 m.ep, .int .i64 m.tn, .int .i64 m.lsn, .slice h.a h.an h.ac, .slice h.b h.bn h.bc] 30) = W at hb hM hs ⊢
  clear hGen
  obtain ⟨c0, c1, c2, c3, c4, c5, c6, c7, c8, c9, c10⟩ := msg_cells hM
  go_wp2_with fail
  refine (HH.out _ (HI.out.below hb)).mono ?_
  rintro e w1 ⟨rfl, b1⟩
  have hM1 := hM.below b1 hs
  have hb1 := below_next hb b1
  have hs1 := Nat.lt_of_lt_of_le hs b1.size
  clear c0 c1 c2 c3 c4 c5 c6 c7 c8 c9 c10 hM hb b1 hs
  obtain ⟨c0, c1, c2, c3, c4, c5, c6, c7, c8, c9, c10⟩ := msg_cells hM1
  go_upto_region 8 with (fail)
  have hM2 := hM1.alloc (.cells #[.int .i64 0, .int .i64 0, .int .i64 0] 24)
  have hN2 := Blk.new w1 24 #[.int .i64 0, .int .i64 0, .int .i64 0]
  have hb2 := below_next hb1 (below_box w1 (.cells #[.int .i64 0, .int .i64 0, .int .i64 0] 24))
  have hs2 := alloc_lt w1 (.cells #[.int .i64 0, .int .i64 0, .int .i64 0] 24)
  generalize hGen : w1.alloc (.cells #[.int .i64 0, .int .i64 0, .int .i64 0] 24) = W1 at hM2 hN2 hb2 hs2 ⊢
  clear hGen
  have hwn : w.heap.size < W1.heap.size := by omega
  generalize hGen : w1.heap.size = gn at hN2 hs2 hs1 ⊢
  clear hGen
  clear c0 c1 c2 c3 c4 c5 c6 c7 c8 c9 c10 hM1 hb1
  have HM := Lib.hid hM2
  have HN := Lib.hid hN2
  have HB := Lib.hid hb2
  clear hM2 hN2 hb2
  have HW := Lib.hid (And.intro hwn hs2)
  clear hwn hs2 hs1
  obtain ⟨c0, c1, c2, c3, c4, c5, c6, c7, c8, c9, c10⟩ := msg_cells HM.out
  have n0 := Blk.cell HN.out 0
  have n1 := Blk.cell HN.out 1
  have n2 := Blk.cell HN.out 2
  simp at n0 n1 n2
  by_cases a0 : m.page = 0
  rotate_left
  · have t0 : (m.page != 0) = true := bne_iff_ne.2 a0
    have A := Lib.hid (show (m.page == 0) = false from beq_eq_false_iff_ne.2 a0)
    clear a0
    have HF := Lib.hid (show (wholeB m hNone && bareB m hNone) = false from by rw [HE.out, A.out]; simp)
    go_wp2_with (go_at_call 15; apply Calls.mono; (with_reducible first | exact i_p.out _ | exact i_x.out _ | exact i_n.out _ | exact i_t.out _ | exact i_k.out _ | exact i_i.out _ | exact i_e.out _); rintro e w' ⟨rfl, rfl⟩)
    go_ret
    exact ⟨ret_bool' HF.out.symm, HB.out⟩
  have t0 : (m.page != 0) = false := by rw [a0]; rfl
  have F0 := Lib.hid (show (m.page == 0) = true from by rw [a0]; rfl)
  clear a0
  rcases Bool.eq_false_or_eq_true m.x with hx | hx
  · rw [hx] at c2
    have A := Lib.hid hx
    clear hx
    have HF := Lib.hid (show (wholeB m hNone && bareB m hNone) = false from by rw [HE.out, A.out]; simp)
    go_wp2_with (go_at_call 15; apply Calls.mono; (with_reducible first | exact i_p.out _ | exact i_x.out _ | exact i_n.out _ | exact i_t.out _ | exact i_k.out _ | exact i_i.out _ | exact i_e.out _); rintro e w' ⟨rfl, rfl⟩)
    go_ret
    exact ⟨ret_bool' HF.out.symm, HB.out⟩
  rw [hx] at c2
  have F_x := Lib.hid hx
  clear hx
  rcases Bool.eq_false_or_eq_true m.need with hn | hn
  · rw [hn] at c3
    have A := Lib.hid hn
    clear hn
    have HF := Lib.hid (show (wholeB m hNone && bareB m hNone) = false from by rw [HE.out, A.out]; simp)
    go_wp2_with (go_at_call 15; apply Calls.mono; (with_reducible first | exact i_p.out _ | exact i_x.out _ | exact i_n.out _ | exact i_t.out _ | exact i_k.out _ | exact i_i.out _ | exact i_e.out _); rintro e w' ⟨rfl, rfl⟩)
    go_ret
    exact ⟨ret_bool' HF.out.symm, HB.out⟩
  rw [hn] at c3
  have F_n := Lib.hid hn
  clear hn
  go_upto_region 10 with (go_at_call 15; apply Calls.mono; (with_reducible first | exact i_p.out _ | exact i_x.out _ | exact i_n.out _ | exact i_t.out _ | exact i_k.out _ | exact i_i.out _ | exact i_e.out _); rintro e w' ⟨rfl, rfl⟩)
  have hq := fun w => run_ne_txn m.cl m.ep m.tn 0 0 0 w
  have hgd := fun (A B : Operand) xs ys w => run_guard_txn .neq A B xs ys w
  have HQ := Lib.hid (show (m.cl == 0 && (m.ep == 0 && m.tn == 0)) = txnB m.cl m.ep m.tn 0 0 0 from rfl)
  generalize txnB m.cl m.ep m.tn 0 0 0 = q at hq HQ
  cases q with
  | false =>
    have HF := Lib.hid (show (wholeB m hNone && bareB m hNone) = false from by rw [HE.out, HQ.out]; simp)
    go_wp2_with (go_at_call 15; apply Calls.mono; (with_reducible first | exact i_p.out _ | exact i_x.out _ | exact i_n.out _ | exact i_t.out _ | exact i_k.out _ | exact i_i.out _ | exact i_e.out _); rintro e w' ⟨rfl, rfl⟩)
    go_ret
    exact ⟨ret_bool' HF.out.symm, HB.out⟩
  | true =>
    go_upto_region 12 with (go_at_call 15; apply Calls.mono; (with_reducible first | exact i_p.out _ | exact i_x.out _ | exact i_n.out _ | exact i_t.out _ | exact i_k.out _ | exact i_i.out _ | exact i_e.out _); rintro e w' ⟨rfl, rfl⟩)
    clear hq hgd
    by_cases a2 : m.n = 0
    rotate_left
    · have t2 : (m.n != 0) = true := bne_iff_ne.2 a2
      have A := Lib.hid (show (m.n == 0) = false from beq_eq_false_iff_ne.2 a2)
      clear a2
      have HF := Lib.hid (show (wholeB m hNone && bareB m hNone) = false from by rw [HE.out, A.out]; simp)
      go_wp2_with (go_at_call 15; apply Calls.mono; (with_reducible first | exact i_p.out _ | exact i_x.out _ | exact i_n.out _ | exact i_t.out _ | exact i_k.out _ | exact i_i.out _ | exact i_e.out _); rintro e w' ⟨rfl, rfl⟩)
      go_ret
      exact ⟨ret_bool' HF.out.symm, HB.out⟩
    have t2 : (m.n != 0) = false := by rw [a2]; rfl
    have F2 := Lib.hid (show (m.n == 0) = true from by rw [a2]; rfl)
    clear a2
    go_upto_region 14 with (go_at_call 15; apply Calls.mono; (with_reducible first | exact i_p.out _ | exact i_x.out _ | exact i_n.out _ | exact i_t.out _ | exact i_k.out _ | exact i_i.out _ | exact i_e.out _); rintro e w' ⟨rfl, rfl⟩)
    by_cases a4 : m.lsn = 0
    rotate_left
    · have t4 : (m.lsn != 0) = true := bne_iff_ne.2 a4
      have A := Lib.hid (show (m.lsn == 0) = false from beq_eq_false_iff_ne.2 a4)
      clear a4
      have HF := Lib.hid (show (wholeB m hNone && bareB m hNone) = false from by rw [HE.out, A.out]; simp)
      go_wp2_with (go_at_call 15; apply Calls.mono; (with_reducible first | exact i_p.out _ | exact i_x.out _ | exact i_n.out _ | exact i_t.out _ | exact i_k.out _ | exact i_i.out _ | exact i_e.out _); rintro e w' ⟨rfl, rfl⟩)
      go_ret
      exact ⟨ret_bool' HF.out.symm, HB.out⟩
    have t4 : (m.lsn != 0) = false := by rw [a4]; rfl
    have F3 := Lib.hid (show (m.lsn == 0) = true from by rw [a4]; rfl)
    clear a4
    by_cases a5 : (0 : Int) < (h.an : Int)
    · have A := Lib.hid (show decide (m.zs.length = 0) = false from len1 HLA.out (by omega))
      have HF := Lib.hid (show (wholeB m hNone && bareB m hNone) = false from by rw [HE.out, A.out]; simp)
      go_wp2_with (go_at_call 15; apply Calls.mono; (with_reducible first | exact i_p.out _ | exact i_x.out _ | exact i_n.out _ | exact i_t.out _ | exact i_k.out _ | exact i_i.out _ | exact i_e.out _); rintro e w' ⟨rfl, rfl⟩)
      go_ret
      exact ⟨ret_bool' HF.out.symm, HB.out⟩
    have F4 := Lib.hid (show decide (m.zs.length = 0) = true from len0 HLA.out (by omega))
    go_upto_region 16 with (go_at_call 15; apply Calls.mono; (with_reducible first | exact i_p.out _ | exact i_x.out _ | exact i_n.out _ | exact i_t.out _ | exact i_k.out _ | exact i_i.out _ | exact i_e.out _); rintro e w' ⟨rfl, rfl⟩)
    by_cases a6 : (0 : Int) < (h.bn : Int)
    · have A := Lib.hid (show decide (m.es.length = 0) = false from len1 HLB.out (by omega))
      have HF := Lib.hid (show (wholeB m hNone && bareB m hNone) = false from by rw [HE.out, A.out]; simp)
      go_wp2_with (go_at_call 15; apply Calls.mono; (with_reducible first | exact i_p.out _ | exact i_x.out _ | exact i_n.out _ | exact i_t.out _ | exact i_k.out _ | exact i_i.out _ | exact i_e.out _); rintro e w' ⟨rfl, rfl⟩)
      go_ret
      exact ⟨ret_bool' HF.out.symm, HB.out⟩
    have F5 := Lib.hid (show decide (m.es.length = 0) = true from len0 HLB.out (by omega))
    go_upto_region 18 with (go_at_call 15; apply Calls.mono; (with_reducible first | exact i_p.out _ | exact i_x.out _ | exact i_n.out _ | exact i_t.out _ | exact i_k.out _ | exact i_i.out _ | exact i_e.out _); rintro e w' ⟨rfl, rfl⟩)
    have hb0 : h.bn = 0 := by omega
    rw [hb0] at c10
    clear hb0 a6
    have HF := Lib.hid (show (wholeB m hNone && bareB m hNone) = true from by rw [HE.out, F0.out, F_x.out, F_n.out, HQ.out, F2.out, F3.out, F4.out, F5.out] <;> rfl)
    go_wp2_with fail
    go_loop [6] (fun i => i = .int .i64 0) (fun _ => 0)
    case atStart => rfl
    case round =>
      obtain rfl := hrel
      go_wp2
      go_ret
      exact ⟨ret_bool' HF.out.symm, HB.out⟩
set_option maxRecDepth 100000 in
set_option maxHeartbeats 4000000 in
theorem rgood_Room (m : Ms) (h : Hd) (w : World) (hi : In w m h) (_ha : h.an ≤ 1000000) (_hbn : h.bn ≤ 1000000) (hk13 : (m.kind == 13) = true)
    (hh : ∀ w, In w m h → Calls Try.prog 14 #[.agg #[.int .i64 m.kind, .int .i64 m.page, .bool m.x, .bool m.need, .int .i64 m.n, .int .i64 m.cl, .int .i64 m.ep, .int .i64 m.tn, .int .i64 m.lsn, .slice h.a h.an h.ac, .slice h.b h.bn h.bc]] w fun e w' => e = .returned (.string ⟨#[107]⟩) ∧ Below w.heap.size w w') :
    Calls Try.prog 19 #[.agg #[.int .i64 m.kind, .int .i64 m.page, .bool m.x, .bool m.need, .int .i64 m.n, .int .i64 m.cl, .int .i64 m.ep, .int .i64 m.tn, .int .i64 m.lsn, .slice h.a h.an h.ac, .slice h.b h.bn h.bc]] w fun e w' => e = .returned (.bool (wholeB m hRoom && bareB m hRoom)) ∧ Below w.heap.size w w' := by
  have HE := Lib.hid (show (wholeB m hRoom && bareB m hRoom) = _ from by rw [wholeE_Room, bareE_Room])
  have HI := Lib.hid hi
  have HH := Lib.hid hh
  have HLA := Lib.hid (show m.zs.length = h.an from hi.s.len)
  have HLB := Lib.hid (show m.es.length = h.bn from hi.e.len)
  clear hi hh
  have i_p := Lib.hid (fun w => in_is ⟨#[107]⟩ 112 false (by decide) (by decide) w 112 (by decide))
  have i_x := Lib.hid (fun w => in_is ⟨#[107]⟩ 120 false (by decide) (by decide) w 120 (by decide))
  have i_n := Lib.hid (fun w => in_is ⟨#[107]⟩ 110 false (by decide) (by decide) w 110 (by decide))
  have i_t := Lib.hid (fun w => in_is ⟨#[107]⟩ 116 false (by decide) (by decide) w 116 (by decide))
  have i_k := Lib.hid (fun w => in_is ⟨#[107]⟩ 107 true (by decide) (by decide) w 107 (by decide))
  have i_i := Lib.hid (fun w => in_is ⟨#[107]⟩ 105 false (by decide) (by decide) w 105 (by decide))
  have i_e := Lib.hid (fun w => in_is ⟨#[107]⟩ 101 false (by decide) (by decide) w 101 (by decide))
  have hb := below_box w (.cells #[.int .i64 m.kind, .int .i64 m.page, .bool m.x, .bool m.need, .int .i64 m.n, .int .i64 m.cl, .int .i64 m.ep, .int .i64 m.tn, .int .i64 m.lsn, .slice h.a h.an h.ac, .slice h.b h.bn h.bc] 30)
  have hM := Blk.new w 30 #[.int .i64 m.kind, .int .i64 m.page, .bool m.x, .bool m.need, .int .i64 m.n, .int .i64 m.cl, .int .i64 m.ep, .int .i64 m.tn, .int .i64 m.lsn, .slice h.a h.an h.ac, .slice h.b h.bn h.bc]
  have hs := alloc_lt w (.cells #[.int .i64 m.kind, .int .i64 m.page, .bool m.x, .bool m.need, .int .i64 m.n, .int .i64 m.cl, .int .i64 m.ep, .int .i64 m.tn, .int .i64 m.lsn, .slice h.a h.an h.ac, .slice h.b h.bn h.bc] 30)
  go_enter Try.func19, Try.ntmps19
  try dsimp only [List.append]
  go_upto_region 1 with (fail)
  generalize hGen : w.alloc (.cells #[.int .i64 m.kind, .int .i64 m.page, .bool m.x, .bool m.need, .int .i64 m.n, .int .i64 m.cl, .int .i64 m.ep, .int .i64 m.tn, .int .i64 m.lsn, .slice h.a h.an h.ac, .slice h.b h.bn h.bc] 30) = W at hb hM hs ⊢
  clear hGen
  obtain ⟨c0, c1, c2, c3, c4, c5, c6, c7, c8, c9, c10⟩ := msg_cells hM
  go_wp2_with fail
  refine (HH.out _ (HI.out.below hb)).mono ?_
  rintro e w1 ⟨rfl, b1⟩
  have hM1 := hM.below b1 hs
  have hb1 := below_next hb b1
  have hs1 := Nat.lt_of_lt_of_le hs b1.size
  clear c0 c1 c2 c3 c4 c5 c6 c7 c8 c9 c10 hM hb b1 hs
  obtain ⟨c0, c1, c2, c3, c4, c5, c6, c7, c8, c9, c10⟩ := msg_cells hM1
  go_upto_region 8 with (fail)
  have hM2 := hM1.alloc (.cells #[.int .i64 0, .int .i64 0, .int .i64 0] 24)
  have hN2 := Blk.new w1 24 #[.int .i64 0, .int .i64 0, .int .i64 0]
  have hb2 := below_next hb1 (below_box w1 (.cells #[.int .i64 0, .int .i64 0, .int .i64 0] 24))
  have hs2 := alloc_lt w1 (.cells #[.int .i64 0, .int .i64 0, .int .i64 0] 24)
  generalize hGen : w1.alloc (.cells #[.int .i64 0, .int .i64 0, .int .i64 0] 24) = W1 at hM2 hN2 hb2 hs2 ⊢
  clear hGen
  have hwn : w.heap.size < W1.heap.size := by omega
  generalize hGen : w1.heap.size = gn at hN2 hs2 hs1 ⊢
  clear hGen
  clear c0 c1 c2 c3 c4 c5 c6 c7 c8 c9 c10 hM1 hb1
  have HM := Lib.hid hM2
  have HN := Lib.hid hN2
  have HB := Lib.hid hb2
  clear hM2 hN2 hb2
  have HW := Lib.hid (And.intro hwn hs2)
  clear hwn hs2 hs1
  obtain ⟨c0, c1, c2, c3, c4, c5, c6, c7, c8, c9, c10⟩ := msg_cells HM.out
  have n0 := Blk.cell HN.out 0
  have n1 := Blk.cell HN.out 1
  have n2 := Blk.cell HN.out 2
  simp at n0 n1 n2
  by_cases a0 : m.page = 0
  rotate_left
  · have t0 : (m.page != 0) = true := bne_iff_ne.2 a0
    have A := Lib.hid (show (m.page == 0) = false from beq_eq_false_iff_ne.2 a0)
    clear a0
    have HF := Lib.hid (show (wholeB m hRoom && bareB m hRoom) = false from by rw [HE.out, A.out]; simp)
    go_wp2_with (go_at_call 15; apply Calls.mono; (with_reducible first | exact i_p.out _ | exact i_x.out _ | exact i_n.out _ | exact i_t.out _ | exact i_k.out _ | exact i_i.out _ | exact i_e.out _); rintro e w' ⟨rfl, rfl⟩)
    go_ret
    exact ⟨ret_bool' HF.out.symm, HB.out⟩
  have t0 : (m.page != 0) = false := by rw [a0]; rfl
  have F0 := Lib.hid (show (m.page == 0) = true from by rw [a0]; rfl)
  clear a0
  rcases Bool.eq_false_or_eq_true m.x with hx | hx
  · rw [hx] at c2
    have A := Lib.hid hx
    clear hx
    have HF := Lib.hid (show (wholeB m hRoom && bareB m hRoom) = false from by rw [HE.out, A.out]; simp)
    go_wp2_with (go_at_call 15; apply Calls.mono; (with_reducible first | exact i_p.out _ | exact i_x.out _ | exact i_n.out _ | exact i_t.out _ | exact i_k.out _ | exact i_i.out _ | exact i_e.out _); rintro e w' ⟨rfl, rfl⟩)
    go_ret
    exact ⟨ret_bool' HF.out.symm, HB.out⟩
  rw [hx] at c2
  have F_x := Lib.hid hx
  clear hx
  rcases Bool.eq_false_or_eq_true m.need with hn | hn
  · rw [hn] at c3
    have A := Lib.hid hn
    clear hn
    have HF := Lib.hid (show (wholeB m hRoom && bareB m hRoom) = false from by rw [HE.out, A.out]; simp)
    go_wp2_with (go_at_call 15; apply Calls.mono; (with_reducible first | exact i_p.out _ | exact i_x.out _ | exact i_n.out _ | exact i_t.out _ | exact i_k.out _ | exact i_i.out _ | exact i_e.out _); rintro e w' ⟨rfl, rfl⟩)
    go_ret
    exact ⟨ret_bool' HF.out.symm, HB.out⟩
  rw [hn] at c3
  have F_n := Lib.hid hn
  clear hn
  go_upto_region 10 with (go_at_call 15; apply Calls.mono; (with_reducible first | exact i_p.out _ | exact i_x.out _ | exact i_n.out _ | exact i_t.out _ | exact i_k.out _ | exact i_i.out _ | exact i_e.out _); rintro e w' ⟨rfl, rfl⟩)
  have hq := fun w => run_ne_txn m.cl m.ep m.tn 0 0 0 w
  have hgd := fun (A B : Operand) xs ys w => run_guard_txn .neq A B xs ys w
  have HQ := Lib.hid (show (m.cl == 0 && (m.ep == 0 && m.tn == 0)) = txnB m.cl m.ep m.tn 0 0 0 from rfl)
  generalize txnB m.cl m.ep m.tn 0 0 0 = q at hq HQ
  cases q with
  | false =>
    have HF := Lib.hid (show (wholeB m hRoom && bareB m hRoom) = false from by rw [HE.out, HQ.out]; simp)
    go_wp2_with (go_at_call 15; apply Calls.mono; (with_reducible first | exact i_p.out _ | exact i_x.out _ | exact i_n.out _ | exact i_t.out _ | exact i_k.out _ | exact i_i.out _ | exact i_e.out _); rintro e w' ⟨rfl, rfl⟩)
    go_ret
    exact ⟨ret_bool' HF.out.symm, HB.out⟩
  | true =>
    go_upto_region 12 with (go_at_call 15; apply Calls.mono; (with_reducible first | exact i_p.out _ | exact i_x.out _ | exact i_n.out _ | exact i_t.out _ | exact i_k.out _ | exact i_i.out _ | exact i_e.out _); rintro e w' ⟨rfl, rfl⟩)
    clear hq hgd
    by_cases a2 : m.n < 0
    · have A := Lib.hid (show withinB m.n 1 1048576 = false ∧ (m.n == 0) = false from ⟨within_no (by omega), beq_eq_false_iff_ne.2 (by omega)⟩)
      have HF := Lib.hid (show (wholeB m hRoom && bareB m hRoom) = false from by rw [HE.out, A.out.1, A.out.2]; simp)
      go_wp2_with (go_at_call 15; apply Calls.mono; (with_reducible first | exact i_p.out _ | exact i_x.out _ | exact i_n.out _ | exact i_t.out _ | exact i_k.out _ | exact i_i.out _ | exact i_e.out _); rintro e w' ⟨rfl, rfl⟩)
      go_ret
      exact ⟨ret_bool' HF.out.symm, HB.out⟩
    by_cases a3 : 1048576 < m.n
    · have A := Lib.hid (show withinB m.n 1 1048576 = false ∧ (m.n == 0) = false from ⟨within_no (by omega), beq_eq_false_iff_ne.2 (by omega)⟩)
      have HF := Lib.hid (show (wholeB m hRoom && bareB m hRoom) = false from by rw [HE.out, A.out.1, A.out.2]; simp)
      go_wp2_with (go_at_call 15; apply Calls.mono; (with_reducible first | exact i_p.out _ | exact i_x.out _ | exact i_n.out _ | exact i_t.out _ | exact i_k.out _ | exact i_i.out _ | exact i_e.out _); rintro e w' ⟨rfl, rfl⟩)
      go_ret
      exact ⟨ret_bool' HF.out.symm, HB.out⟩
    have F2 := Lib.hid (show (withinB m.n 1 1048576 || m.n == 0) = true from by by_cases hz : m.n = 0; rw [hz]; rfl; rw [within_yes (by omega)]; rfl)
    go_upto_region 14 with (go_at_call 15; apply Calls.mono; (with_reducible first | exact i_p.out _ | exact i_x.out _ | exact i_n.out _ | exact i_t.out _ | exact i_k.out _ | exact i_i.out _ | exact i_e.out _); rintro e w' ⟨rfl, rfl⟩)
    by_cases a4 : m.lsn = 0
    rotate_left
    · have t4 : (m.lsn != 0) = true := bne_iff_ne.2 a4
      have A := Lib.hid (show (m.lsn == 0) = false from beq_eq_false_iff_ne.2 a4)
      clear a4
      have HF := Lib.hid (show (wholeB m hRoom && bareB m hRoom) = false from by rw [HE.out, A.out]; simp)
      go_wp2_with (go_at_call 15; apply Calls.mono; (with_reducible first | exact i_p.out _ | exact i_x.out _ | exact i_n.out _ | exact i_t.out _ | exact i_k.out _ | exact i_i.out _ | exact i_e.out _); rintro e w' ⟨rfl, rfl⟩)
      go_ret
      exact ⟨ret_bool' HF.out.symm, HB.out⟩
    have t4 : (m.lsn != 0) = false := by rw [a4]; rfl
    have F3 := Lib.hid (show (m.lsn == 0) = true from by rw [a4]; rfl)
    clear a4
    by_cases a5 : (0 : Int) < (h.an : Int)
    · have A := Lib.hid (show decide (m.zs.length = 0) = false from len1 HLA.out (by omega))
      have HF := Lib.hid (show (wholeB m hRoom && bareB m hRoom) = false from by rw [HE.out, A.out]; simp)
      go_wp2_with (go_at_call 15; apply Calls.mono; (with_reducible first | exact i_p.out _ | exact i_x.out _ | exact i_n.out _ | exact i_t.out _ | exact i_k.out _ | exact i_i.out _ | exact i_e.out _); rintro e w' ⟨rfl, rfl⟩)
      go_ret
      exact ⟨ret_bool' HF.out.symm, HB.out⟩
    have F4 := Lib.hid (show decide (m.zs.length = 0) = true from len0 HLA.out (by omega))
    go_upto_region 16 with (go_at_call 15; apply Calls.mono; (with_reducible first | exact i_p.out _ | exact i_x.out _ | exact i_n.out _ | exact i_t.out _ | exact i_k.out _ | exact i_i.out _ | exact i_e.out _); rintro e w' ⟨rfl, rfl⟩)
    by_cases a6 : (0 : Int) < (h.bn : Int)
    · have A := Lib.hid (show decide (m.es.length = 0) = false from len1 HLB.out (by omega))
      have HF := Lib.hid (show (wholeB m hRoom && bareB m hRoom) = false from by rw [HE.out, A.out]; simp)
      go_wp2_with (go_at_call 15; apply Calls.mono; (with_reducible first | exact i_p.out _ | exact i_x.out _ | exact i_n.out _ | exact i_t.out _ | exact i_k.out _ | exact i_i.out _ | exact i_e.out _); rintro e w' ⟨rfl, rfl⟩)
      go_ret
      exact ⟨ret_bool' HF.out.symm, HB.out⟩
    have F5 := Lib.hid (show decide (m.es.length = 0) = true from len0 HLB.out (by omega))
    go_upto_region 18 with (go_at_call 15; apply Calls.mono; (with_reducible first | exact i_p.out _ | exact i_x.out _ | exact i_n.out _ | exact i_t.out _ | exact i_k.out _ | exact i_i.out _ | exact i_e.out _); rintro e w' ⟨rfl, rfl⟩)
    have hb0 : h.bn = 0 := by omega
    rw [hb0] at c10
    clear hb0 a6
    have HF := Lib.hid (show (wholeB m hRoom && bareB m hRoom) = true from by rw [HE.out, F0.out, F_x.out, F_n.out, HQ.out, F2.out, F3.out, F4.out, F5.out] <;> rfl)
    go_wp2_with fail
    go_loop [6] (fun i => i = .int .i64 0) (fun _ => 0)
    case atStart => rfl
    case round =>
      obtain rfl := hrel
      go_wp2
      go_ret
      exact ⟨ret_bool' HF.out.symm, HB.out⟩
set_option maxRecDepth 100000 in
set_option maxHeartbeats 1000000 in
theorem rgood_bad (m : Ms) (h : Hd) (w : World) (hk : m.kind < 1 ∨ 13 < m.kind) :
    Calls Try.prog 19 #[.agg #[.int .i64 m.kind, .int .i64 m.page, .bool m.x, .bool m.need, .int .i64 m.n, .int .i64 m.cl, .int .i64 m.ep, .int .i64 m.tn, .int .i64 m.lsn, .slice h.a h.an h.ac, .slice h.b h.bn h.bc]] w fun e w' => e = .returned (.bool false) ∧ Below w.heap.size w w' := by
  have HH := Lib.hid (fun w => has_none m h w hk)
  clear hk
  have hb := below_box w (.cells #[.int .i64 m.kind, .int .i64 m.page, .bool m.x, .bool m.need, .int .i64 m.n, .int .i64 m.cl, .int .i64 m.ep, .int .i64 m.tn, .int .i64 m.lsn, .slice h.a h.an h.ac, .slice h.b h.bn h.bc] 30)
  have hM := Blk.new w 30 #[.int .i64 m.kind, .int .i64 m.page, .bool m.x, .bool m.need, .int .i64 m.n, .int .i64 m.cl, .int .i64 m.ep, .int .i64 m.tn, .int .i64 m.lsn, .slice h.a h.an h.ac, .slice h.b h.bn h.bc]
  go_enter Try.func19, Try.ntmps19
  try dsimp only [List.append]
  go_upto_region 1 with (fail)
  generalize hGen : w.alloc (.cells #[.int .i64 m.kind, .int .i64 m.page, .bool m.x, .bool m.need, .int .i64 m.n, .int .i64 m.cl, .int .i64 m.ep, .int .i64 m.tn, .int .i64 m.lsn, .slice h.a h.an h.ac, .slice h.b h.bn h.bc] 30) = W at hb hM ⊢
  clear hGen
  obtain ⟨c0, c1, c2, c3, c4, c5, c6, c7, c8, c9, c10⟩ := msg_cells hM
  clear hM
  go_wp2_with fail
  refine (HH.out _).mono ?_
  rintro e w1 ⟨rfl, b1⟩
  go_wp2
  go_ret
  exact ⟨rfl, below_next hb b1⟩
/-- the document's own Good, of every message -/
theorem rgood_any (m : Ms) (h : Hd) (w : World) (hi : In w m h) (ha : h.an ≤ 1000000) (hbn : h.bn ≤ 1000000) :
    Calls Try.prog 19 #[.agg #[.int .i64 m.kind, .int .i64 m.page, .bool m.x, .bool m.need, .int .i64 m.n, .int .i64 m.cl, .int .i64 m.ep, .int .i64 m.tn, .int .i64 m.lsn, .slice h.a h.an h.ac, .slice h.b h.bn h.bc]] w fun e w' => e = .returned (.bool (goodM m)) ∧ Below w.heap.size w w' := by
  unfold goodM
  cases kind_of m.kind with
  | lock hk hh ho => rw [hh, ho, Bool.true_and]; exact rgood_Lock m h w hi ha hbn (by rw [hk]; rfl) (fun w _ => has_1 m h w hk)
  | use hk hh ho => rw [hh, ho, Bool.true_and]; exact rgood_Use m h w hi ha hbn (by rw [hk]; rfl) (fun w _ => has_3 m h w hk)
  | log hk hh ho => rw [hh, ho, Bool.true_and]; exact rgood_Log m h w hi ha hbn (by rw [hk]; rfl) (fun w _ => has_4 m h w hk)
  | image hk hh ho => rw [hh, ho, Bool.true_and]; exact rgood_Image m h w hi ha hbn (by rw [hk]; rfl) (fun w _ => has_5 m h w hk)
  | victim hk hh ho => rw [hh, ho, Bool.true_and]; exact rgood_None m h w hi ha hbn (by rw [hk]; rfl) (fun w _ => has_12 m h w hk)
  | room hk hh ho => rw [hh, ho, Bool.true_and]; exact rgood_Room m h w hi ha hbn (by rw [hk]; rfl) (fun w _ => has_13 m h w hk)
  | free hk hh ho => rw [hh, ho, Bool.true_and]; exact rgood_Free m h w hi ha hbn (by rcases hk with hk | hk <;> (rw [hk]; rfl)) (fun w _ => by rcases hk with hk | hk; exact has_2 m h w hk; exact has_10 m h w hk)
  | txn hk hh ho => rw [hh, ho, Bool.true_and]; exact rgood_Txn m h w hi ha hbn (by rcases hk with hk | hk <;> (rw [hk]; rfl)) (fun w _ => by rcases hk with hk | hk; exact has_6 m h w hk; exact has_11 m h w hk)
  | space hk hh ho => rw [hh, ho, Bool.true_and]; exact rgood_Space m h w hi ha hbn (by rcases hk with hk | hk <;> (rw [hk]; rfl)) (fun w _ => by rcases hk with hk | hk; exact has_7 m h w hk; exact has_8 m h w hk)
  | none hk hh ho => rw [hh, ho, Bool.false_and]; exact rgood_bad m h w hk
  | grant hk hh ho =>
    rw [hh, ho, Bool.true_and]
    rcases Bool.eq_false_or_eq_true m.need with hn | hn
    · rw [show hGrant m.need = hGrant true by rw [hn]]
      exact rgood_Grant m h w hi ha hbn (by rw [hk]; rfl) (fun w _ => has_grant m h w hk hn)
    · rw [show hGrant m.need = hLock by rw [hn]; rfl]
      exact rgood_Lock m h w hi ha hbn (by rw [hk]; rfl) (fun w _ => has_9 m h w hk hn)
end Go.Proofs.Ytjffjmffoffblaa.Note
