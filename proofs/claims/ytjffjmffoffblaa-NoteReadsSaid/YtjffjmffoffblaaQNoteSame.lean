/- The walk of the document's own Same. -/
import Derived.Test.YtjffjmffoffblaaQNoteBase
import Derived.Test.YtjffjmffoffblaaQSlabBookA
import Derived.Test.YtjffjmffoffblaaQEntGood
namespace Go.Proofs.Ytjffjmffoffblaa.Note
set_option maxRecDepth 100000
open Go.RowKit Go.Sort
open Go.Proofs.Ytjffjmffoffblaa.Nib (enc below_next below_drew Fits takeInt)
open Go.Proofs.Ytjffjmffoffblaa.Slab (Slot Slots Blk ret_bool' ret_int')
open Go.Proofs.Ytjffjmffoffblaa.Ent (Ent Ents EntAt SmallE withinB knownB noE entA below_box alloc_lt ent_cells sameE run_ne_ent run_guard_ent)

theorem list_ext {l l' : List Ent} {n : Nat} (h1 : l.length = n) (h2 : l'.length = n) (h : ∀ j x y, j < n → l[j]? = some x → l'[j]? = some y → x = y) : l = l' := by
  apply List.ext_getElem (by omega)
  intro i hi hi'
  exact h i _ _ (by omega) (List.getElem?_eq_getElem hi) (List.getElem?_eq_getElem hi')
theorem txn_is (a b c a' b' c' : Int) : txnB a b c a' b' c' = true ↔ a = a' ∧ b = b' ∧ c = c' := by
  unfold txnB; simp only [Bool.and_eq_true, beq_iff_eq]
set_option maxRecDepth 100000 in
set_option maxHeartbeats 4000000 in
theorem same_any (m n : Ms) (ha hb : Hd) (B : Bool) (w : World) (hi : In w m ha) (hj : In w n hb) (hn : ha.an ≤ 1000000) (hm : ha.bn ≤ 1000000) (hB : B = true ↔ m = n) :
    Calls Try.prog 7 #[.agg #[.int .i64 m.kind, .int .i64 m.page, .bool m.x, .bool m.need, .int .i64 m.n, .int .i64 m.cl, .int .i64 m.ep, .int .i64 m.tn, .int .i64 m.lsn, .slice ha.a ha.an ha.ac, .slice ha.b ha.bn ha.bc], .agg #[.int .i64 n.kind, .int .i64 n.page, .bool n.x, .bool n.need, .int .i64 n.n, .int .i64 n.cl, .int .i64 n.ep, .int .i64 n.tn, .int .i64 n.lsn, .slice hb.a hb.an hb.ac, .slice hb.b hb.bn hb.bc]] w fun e w' => e = .returned (.bool B) ∧ Below w.heap.size w w' := by
  have hbel := (below_box w (.cells #[.int .i64 m.kind, .int .i64 m.page, .bool m.x, .bool m.need, .int .i64 m.n, .int .i64 m.cl, .int .i64 m.ep, .int .i64 m.tn, .int .i64 m.lsn, .slice ha.a ha.an ha.ac, .slice ha.b ha.bn ha.bc] 30)).trans ((below_box (w.alloc (.cells #[.int .i64 m.kind, .int .i64 m.page, .bool m.x, .bool m.need, .int .i64 m.n, .int .i64 m.cl, .int .i64 m.ep, .int .i64 m.tn, .int .i64 m.lsn, .slice ha.a ha.an ha.ac, .slice ha.b ha.bn ha.bc] 30)) (.cells #[.int .i64 n.kind, .int .i64 n.page, .bool n.x, .bool n.need, .int .i64 n.n, .int .i64 n.cl, .int .i64 n.ep, .int .i64 n.tn, .int .i64 n.lsn, .slice hb.a hb.an hb.ac, .slice hb.b hb.bn hb.bc] 30)).mono (by simp))
  have hM := (Blk.new w 30 #[.int .i64 m.kind, .int .i64 m.page, .bool m.x, .bool m.need, .int .i64 m.n, .int .i64 m.cl, .int .i64 m.ep, .int .i64 m.tn, .int .i64 m.lsn, .slice ha.a ha.an ha.ac, .slice ha.b ha.bn ha.bc]).alloc (.cells #[.int .i64 n.kind, .int .i64 n.page, .bool n.x, .bool n.need, .int .i64 n.n, .int .i64 n.cl, .int .i64 n.ep, .int .i64 n.tn, .int .i64 n.lsn, .slice hb.a hb.an hb.ac, .slice hb.b hb.bn hb.bc] 30)
  have hN := Blk.new (w.alloc (.cells #[.int .i64 m.kind, .int .i64 m.page, .bool m.x, .bool m.need, .int .i64 m.n, .int .i64 m.cl, .int .i64 m.ep, .int .i64 m.tn, .int .i64 m.lsn, .slice ha.a ha.an ha.ac, .slice ha.b ha.bn ha.bc] 30)) 30 #[.int .i64 n.kind, .int .i64 n.page, .bool n.x, .bool n.need, .int .i64 n.n, .int .i64 n.cl, .int .i64 n.ep, .int .i64 n.tn, .int .i64 n.lsn, .slice hb.a hb.an hb.ac, .slice hb.b hb.bn hb.bc]
  have hs : w.heap.size + 2 ≤ ((w.alloc (.cells #[.int .i64 m.kind, .int .i64 m.page, .bool m.x, .bool m.need, .int .i64 m.n, .int .i64 m.cl, .int .i64 m.ep, .int .i64 m.tn, .int .i64 m.lsn, .slice ha.a ha.an ha.ac, .slice ha.b ha.bn ha.bc] 30)).alloc (.cells #[.int .i64 n.kind, .int .i64 n.page, .bool n.x, .bool n.need, .int .i64 n.n, .int .i64 n.cl, .int .i64 n.ep, .int .i64 n.tn, .int .i64 n.lsn, .slice hb.a hb.an hb.ac, .slice hb.b hb.bn hb.bc] 30)).heap.size := by simp
  rw [World.size_alloc] at hN
  have HI := Lib.hid (hi.below hbel)
  have HJ := Lib.hid (hj.below hbel)
  have HBB := Lib.hid hB
  have hno : ∀ {P : Prop}, (m = n → P) → ¬ P → B = false := fun h hp => by
    cases hq : B with
    | false => rfl
    | true => exact absurd (h (hB.1 hq)) hp
  have HNO := Lib.hid (fun (P : Prop) (h : m = n → P) (hp : ¬ P) => hno h hp)
  clear hi hj hB hno
  go_enter Try.func7, Try.ntmps7
  try dsimp only [List.append]
  go_upto_region 1 with (fail)
  generalize hGen : (w.alloc (.cells #[.int .i64 m.kind, .int .i64 m.page, .bool m.x, .bool m.need, .int .i64 m.n, .int .i64 m.cl, .int .i64 m.ep, .int .i64 m.tn, .int .i64 m.lsn, .slice ha.a ha.an ha.ac, .slice ha.b ha.bn ha.bc] 30)).alloc (.cells #[.int .i64 n.kind, .int .i64 n.page, .bool n.x, .bool n.need, .int .i64 n.n, .int .i64 n.cl, .int .i64 n.ep, .int .i64 n.tn, .int .i64 n.lsn, .slice hb.a hb.an hb.ac, .slice hb.b hb.bn hb.bc] 30) = W at hbel hM hN hs HI HJ ⊢
  clear hGen
  obtain ⟨c0, c1, c2, c3, c4, c5, c6, c7, c8, c9, c10⟩ := msg_cells hM
  obtain ⟨d0, d1, d2, d3, d4, d5, d6, d7, d8, d9, d10⟩ := msg_cells hN
  have HM := Lib.hid hM
  have HN := Lib.hid hN
  clear hM hN
  by_cases t0 : m.kind = n.kind
  rotate_left
  · have t : (m.kind != n.kind) = true := bne_iff_ne.2 t0
    have HF := Lib.hid (HNO.out _ (fun e => by rw [e]) t0)
    clear t0
    go_wp2
    go_ret
    exact ⟨ret_bool' HF.out.symm, hbel⟩
  have u0 : (m.kind != n.kind) = false := by rw [t0]; exact bne_self_eq_false _
  have T0 := Lib.hid t0
  clear t0
  by_cases t1 : m.page = n.page
  rotate_left
  · have t : (m.page != n.page) = true := bne_iff_ne.2 t1
    have HF := Lib.hid (HNO.out _ (fun e => by rw [e]) t1)
    clear t1
    go_wp2
    go_ret
    exact ⟨ret_bool' HF.out.symm, hbel⟩
  have u1 : (m.page != n.page) = false := by rw [t1]; exact bne_self_eq_false _
  have T1 := Lib.hid t1
  clear t1
  by_cases t2 : m.x = n.x
  rotate_left
  · have HF := Lib.hid (HNO.out _ (fun e => by rw [e]) t2)
    rcases Bool.eq_false_or_eq_true m.x with hx | hx <;> rcases Bool.eq_false_or_eq_true n.x with hy | hy
    · exact absurd (hx.trans hy.symm) t2
    · rw [hx] at c2; rw [hy] at d2
      clear t2 hx hy
      go_wp2
      go_ret
      exact ⟨ret_bool' HF.out.symm, hbel⟩
    · rw [hx] at c2; rw [hy] at d2
      clear t2 hx hy
      go_wp2
      go_ret
      exact ⟨ret_bool' HF.out.symm, hbel⟩
    · exact absurd (hx.trans hy.symm) t2
  rw [t2] at c2
  have T2 := Lib.hid t2
  clear t2
  by_cases t3 : m.need = n.need
  rotate_left
  · have HF := Lib.hid (HNO.out _ (fun e => by rw [e]) t3)
    rcases Bool.eq_false_or_eq_true m.need with hx | hx <;> rcases Bool.eq_false_or_eq_true n.need with hy | hy
    · exact absurd (hx.trans hy.symm) t3
    · rw [hx] at c3; rw [hy] at d3
      clear t3 hx hy
      go_wp2
      go_ret
      exact ⟨ret_bool' HF.out.symm, hbel⟩
    · rw [hx] at c3; rw [hy] at d3
      clear t3 hx hy
      go_wp2
      go_ret
      exact ⟨ret_bool' HF.out.symm, hbel⟩
    · exact absurd (hx.trans hy.symm) t3
  rw [t3] at c3
  have T3 := Lib.hid t3
  clear t3
  by_cases t4 : m.n = n.n
  rotate_left
  · have t : (m.n != n.n) = true := bne_iff_ne.2 t4
    have HF := Lib.hid (HNO.out _ (fun e => by rw [e]) t4)
    clear t4
    go_wp2
    go_ret
    exact ⟨ret_bool' HF.out.symm, hbel⟩
  have u4 : (m.n != n.n) = false := by rw [t4]; exact bne_self_eq_false _
  have T4 := Lib.hid t4
  clear t4
  have hq := fun w => run_ne_txn m.cl m.ep m.tn n.cl n.ep n.tn w
  have hgd := fun (A B : Operand) xs ys w => run_guard_txn .neq A B xs ys w
  have HQ := Lib.hid (txn_is m.cl m.ep m.tn n.cl n.ep n.tn)
  generalize txnB m.cl m.ep m.tn n.cl n.ep n.tn = q at hq HQ
  cases q with
  | false =>
    have HF := Lib.hid (HNO.out (m.cl = n.cl ∧ m.ep = n.ep ∧ m.tn = n.tn) (fun e => by rw [e]; exact ⟨rfl, rfl, rfl⟩) (fun e => by have := HQ.out.2 e; exact absurd this (by decide)))
    go_wp2
    go_ret
    exact ⟨ret_bool' HF.out.symm, hbel⟩
  | true =>
  have T5 := Lib.hid (HQ.out.1 rfl)
  clear HQ
  by_cases t6 : m.lsn = n.lsn ∧ m.zs = n.zs
  rotate_left
  · have HF := Lib.hid (HNO.out _ (fun e => by rw [e]; exact ⟨rfl, rfl⟩) t6)
    have HS := Lib.hid (Slab.same_any m.lsn n.lsn ha.a hb.a ha.an hb.an ha.ac hb.ac m.zs n.zs false W HI.out.s HJ.out.s hn ⟨fun h => (by cases h), fun h => absurd h t6⟩)
    clear t6
    go_wp2_with fail
    refine HS.out.mono ?_
    rintro e w1 ⟨rfl, b1⟩
    go_wp2
    go_ret
    exact ⟨ret_bool' HF.out.symm, below_next hbel b1⟩
  have HS := Lib.hid (Slab.same_any m.lsn n.lsn ha.a hb.a ha.an hb.an ha.ac hb.ac m.zs n.zs true W HI.out.s HJ.out.s hn ⟨fun _ => t6, fun _ => rfl⟩)
  have T6 := Lib.hid t6
  clear t6
  go_wp2_with fail
  refine HS.out.mono ?_
  rintro e w1 ⟨rfl, b1⟩
  have hM1 := HM.out.below b1 (by omega)
  have hN1 := HN.out.below b1 (by omega)
  have hb1 := below_next hbel b1
  have HI1 := Lib.hid (HI.out.below b1)
  have HJ1 := Lib.hid (HJ.out.below b1)
  clear c0 c1 c2 c3 c4 c5 c6 c7 c8 c9 c10 d0 d1 d2 d3 d4 d5 d6 d7 d8 d9 d10 HM HN HI HJ hbel b1 HS hq hgd u0 u1 u4 hs
  obtain ⟨-, -, -, -, -, -, -, -, -, -, c10⟩ := msg_cells hM1
  obtain ⟨-, -, -, -, -, -, -, -, -, -, d10⟩ := msg_cells hN1
  have HLM := Lib.hid HI1.out.e.len
  have HLN := Lib.hid HJ1.out.e.len
  clear hM1 hN1
  by_cases t7 : ha.bn = hb.bn
  rotate_left
  · have t : ((ha.bn : Int) != (hb.bn : Int)) = true := bne_iff_ne.2 (by omega)
    have HF := Lib.hid (HNO.out (m.es.length = n.es.length) (fun e => by rw [e]) (by rw [HLM.out, HLN.out]; exact t7))
    clear t7
    go_wp2
    go_ret
    exact ⟨ret_bool' HF.out.symm, hb1⟩
  have u7 : ((ha.bn : Int) != (hb.bn : Int)) = false := by rw [t7]; exact bne_self_eq_false _
  have T7 := Lib.hid t7
  clear t7
  obtain ⟨a, an, ac, b, bn, bc⟩ := ha
  obtain ⟨a', an', ac', b', bn', bc'⟩ := hb
  have HE1 := Lib.hid (show Ents w1 b bn m.es from HI1.out.e)
  have HE2 := Lib.hid (show Ents w1 b' bn' n.es from HJ1.out.e)
  have T8 := Lib.hid (show bn = bn' from T7.out)
  simp only at c10 d10 u7 hn hm
  clear HI1 HJ1 T7
  go_wp2_with fail
  have hg1 := World.block_lt_of_cell? _ _ c10
  have hg2 := World.block_lt_of_cell? _ _ d10
  simp only at hg1 hg2
  have C10 := Lib.hid c10
  have D10 := Lib.hid d10
  clear c10 d10
  go_loopw [5] (fun i wr => ∃ k : Nat, k ≤ bn ∧ i = .int .i64 (k : Int) ∧ Hid (∀ j x y, j < k → m.es[j]? = some x → n.es[j]? = some y → x = y) ∧ Hid (Below w1.heap.size w1 wr)) (fun i _ => bn - (intOf i).toNat)
  case atStart => exact ⟨0, Nat.zero_le _, rfl, Lib.hid (fun j x y h => absurd h (Nat.not_lt_zero _)), Lib.hid (Below.refl _ _)⟩
  case round =>
    obtain ⟨k, hk, rfl, HK, HBL⟩ := hrel
    have c10 := (HBL.out.cell (p := ⟨w.heap.size, 10, none⟩) hg1).trans C10.out
    have d10 := (HBL.out.cell (p := ⟨w.heap.size + 1, 10, none⟩) hg2).trans D10.out
    have hbw := below_next hb1 HBL.out
    by_cases hlt : k < bn
    · obtain ⟨g, off, x, rfl, hgl, hgt, hat, _⟩ := (HE1.out.next HBL.out).at_ hlt
      have hlt' : k < bn' := by have := T8.out; omega
      obtain ⟨g', off', y, rfl, hgl', hgt', hat', _⟩ := (HE2.out.next HBL.out).at_ hlt'
      obtain ⟨x0, x1, x2, x3, x4, x5, x6, x7, x8, x9, x10, x11, x12⟩ := hat.cells
      obtain ⟨y0, y1, y2, y3, y4, y5, y6, y7, y8, y9, y10, y11, y12⟩ := hat'.cells
      have hqe := fun w => run_ne_ent x y w
      have hge := fun (A B : Operand) xs ys w => run_guard_ent .neq A B xs ys w
      have HSE := Lib.hid (Ent.sameE_iff x y)
      have HX := Lib.hid hgt
      have HY := Lib.hid hgt'
      clear hat hat' hgt hgt'
      generalize sameE x y = q at hqe HSE
      cases q with
      | false =>
        have HF := Lib.hid (HNO.out (x = y) (fun e => by have h1 := HX.out; have h2 := HY.out; rw [e, h2] at h1; cases h1; rfl) (fun e => by have := HSE.out.2 e; exact absurd this (by decide)))
        go_upto_region 6 with (fail)
        go_quiet (fail)
        go_wp2
        go_ret
        first
        | exact ⟨ret_bool' HF.out.symm, hbw⟩
        | exact ⟨ret_bool' HF.out.symm, hbw.drew⟩
        | exact ⟨ret_bool' HF.out.symm, Go.below_drewN hbw _⟩
      | true =>
        have HK2 := Lib.hid (show ∀ j x' y', j < k + 1 → m.es[j]? = some x' → n.es[j]? = some y' → x' = y' from fun j x' y' hj h1 h2 => by
          rcases Nat.lt_succ_iff_lt_or_eq.1 hj with h | rfl
          · exact HK.out j x' y' h h1 h2
          · rw [HX.out] at h1; rw [HY.out] at h2; cases h1; cases h2; exact HSE.out.1 rfl)
        go_upto_region 6 with (fail)
        go_quiet (fail)
        go_wp2
        go_roundw
        case rel => exact ⟨k + 1, by omega, by go_num, HK2, by first | exact HBL | exact Lib.hid HBL.out.drew | exact Lib.hid (Go.below_drewN HBL.out _)⟩
        case measure => simp [intOf]; omega
    · have HF := Lib.hid (show B = true from HBB.out.2 (by
        have e := list_ext (show m.es.length = bn from HLM.out) (show n.es.length = bn from by rw [T8.out]; exact HLN.out) (fun j x y hj h1 h2 => HK.out j x y (by omega) h1 h2)
        have t0 := T0.out; have t1 := T1.out; have t2 := T2.out; have t3 := T3.out; have t4 := T4.out; have t5 := T5.out; have t6 := T6.out
        cases m; cases n
        simp only at e t0 t1 t2 t3 t4 t5 t6
        obtain ⟨q1, q2, q3⟩ := t5
        obtain ⟨q4, q5⟩ := t6
        subst e t0 t1 t2 t3 t4 q1 q2 q3 q4 q5
        rfl))
      go_wp2
      go_ret
      exact ⟨ret_bool' HF.out.symm, hbw⟩
end Go.Proofs.Ytjffjmffoffblaa.Note
