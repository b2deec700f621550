/- The walk of the statement PurseRows. -/
import Derived.Test.YtoiakenepmbalaaPursePlay
import Derived.Test.YtoiakenepmbalaaPurseIter
import Derived.StillTailTactics
import Derived.Deep.RegionHeld3
import Derived.Lib.QuietBelow
import Derived.Deep.CutBlock
import Derived.Deep.DeepCutAuto
namespace Go.Proofs.Ytoiakenepmbalaa.Purse
set_option maxRecDepth 100000
open Go.RowKit Go.Shelf Go.Sort
open Go.Proofs.Ytoiakenepmbalaa.Mem
attribute [local go_sem] Oper.semAt_some
theorem run_equalIn_func (d : Nat) (fn : Fn) (x y : Array Value) (w : World) : (Op.equalIn (d + 1) 37 (.func fn x y) .nilFunc).run Try.prog w = .ok false w := by
  have hu := Try.underlying37
  simp [Op.equalIn, run_underlying hu]
theorem run_func_nil (fn : Fn) (x y : Array Value) (w : World) : (binOp .eql 37 (.func fn x y) .nilFunc).run Try.prog w = .ok (.bool false) w := by
  simp only [binOp]
  simp [Op.equal, Op.maxDepth, run_equalIn_func 9999 fn x y w]
theorem PQ.grows {w w' : World} {p : Nat} {M : Nat → Prop} {L : List Due} {row : Option Nat} (h : PQ w p M L) (hg : w.grownBy w' row) (hr : ∀ r, row = some r → ∃ o : Obj, w.heap[r]? = some o ∧ o.isCells = false) : PQ w' p M L := by
  obtain ⟨v, h⟩ := h
  refine ⟨v, blk_grows h.blk hg hr, own_same h.own (fun g hv => ?_), h.n0, h.m0, h.m1, fun k hk => Nat.lt_of_lt_of_le (h.lt k hk) hg.size, h.wf⟩
  refine hg.block g (own_lt h.own hv) (fun e => ?_)
  obtain ⟨o, h1, h2⟩ := hr g e.symm
  rcases h.own.2 with ⟨rfl, _⟩ | ⟨g', c, cur, rfl, _, hc, _⟩
  · cases hv
  · cases hv
    rw [hc] at h1; cases h1; cases h2
def lastW (pre : List Due) : Int := (pre.getLast?.map (·.1)).getD 0
/-- as far as it went all was as it is asked -/
structure Ok (L pre : List Due) : Prop where
  srt : pre.Pairwise (fun a b => a.1 < b.1)
  all : ∀ x ∈ pre, 1 ≤ x.2 ∧ ofL L x.1 = x.2
theorem last_snoc (pre : List Due) (x : Due) : lastW (pre ++ [x]) = x.1 := by simp [lastW]
theorem last_ge : ∀ (pre : List Due), pre.Pairwise (fun a b => a.1 < b.1) → ∀ y ∈ pre, y.1 ≤ lastW pre := by
  intro pre hs y hy
  rcases List.eq_nil_or_concat pre with rfl | ⟨q, z, rfl⟩
  · cases hy
  · rw [List.concat_eq_append] at hs hy ⊢
    rw [last_snoc]
    rw [List.pairwise_append] at hs
    rcases List.mem_append.1 hy with h | h
    · have := hs.2.2 y h z (by simp); omega
    · rw [List.mem_singleton] at h; subst h; exact Int.le_refl _
theorem last_mem (pre : List Due) (h : pre ≠ []) : ∃ y ∈ pre, lastW pre = y.1 := by
  rcases List.eq_nil_or_concat pre with rfl | ⟨q, z, rfl⟩
  · exact absurd rfl h
  · rw [List.concat_eq_append]
    exact ⟨z, by simp, last_snoc q z⟩
theorem ok_snoc {L pre : List Due} {x : Due} (h : Ok L pre) : Ok L (pre ++ [x]) ↔ 1 ≤ x.2 ∧ ofL L x.1 = x.2 ∧ (pre.length = 0 ∨ lastW pre < x.1) := by
  constructor
  · intro k
    have := k.all x (by simp)
    refine ⟨this.1, this.2, ?_⟩
    by_cases h0 : pre = []
    · left; rw [h0]; rfl
    · right
      obtain ⟨y, hy, e⟩ := last_mem pre h0
      rw [e]
      exact (List.pairwise_append.1 k.srt).2.2 y hy x (by simp)
  · rintro ⟨h1, h2, h3⟩
    refine ⟨List.pairwise_append.2 ⟨h.srt, List.pairwise_singleton _ _, fun y hy z hz => ?_⟩, fun y hy => ?_⟩
    · rw [List.mem_singleton] at hz; subst hz
      rcases h3 with h3 | h3
      · rw [List.eq_nil_of_length_eq_zero h3] at hy; cases hy
      · have := last_ge pre h.srt y hy; omega
    · rcases List.mem_append.1 hy with hy | hy
      · exact h.all y hy
      · rw [List.mem_singleton] at hy; subst hy; exact ⟨h1, h2⟩
theorem of_mem {L : List Due} (hs : L.Pairwise (fun a b => a.1 < b.1)) : ∀ x ∈ L, ofL L x.1 = x.2 := by
  induction L with
  | nil => intro x hx; cases hx
  | cons y r ih =>
    rw [List.pairwise_cons] at hs
    intro x hx
    simp only [ofL]
    rcases List.mem_cons.1 hx with rfl | hx
    · rw [if_neg (by omega), if_pos rfl]
    · rw [if_pos (hs.1 x hx)]; exact ih hs.2 x hx
theorem ok_take {L : List Due} (h : wfL L) (q : Nat) : Ok L (L.take q) :=
  ⟨h.srt.sublist (List.take_sublist q L), fun x hx => ⟨h.pos x (List.mem_of_mem_take hx), of_mem h.srt x (List.mem_of_mem_take hx)⟩⟩
theorem total_snoc (pre : List Due) (x : Due) : total (pre ++ [x]) = total pre + x.2 := by
  induction pre with
  | nil => simp [total]
  | cons y r ih => simp only [List.cons_append, total, ih]; omega
theorem wrap_next (a b : Int) : wrap64 (wrap64 a + b) = wrap64 (a + b) := by unfold wrap64; omega
/-- what a round of the going knows -/
structure RI (w0 W : World) (p gR gP gS gL gN : Nat) (L pre : List Due) : Prop where
  ra : PQ W p (fun k => k < w0.heap.size ∨ k = gR ∨ k = gP ∨ k = gS ∨ k = gL ∨ k = gN) L
  br : Blk W gR 4 #[.bool false]
  bp : Blk W gP 24 #[.pointer (some ⟨p, 0, none⟩)]
  bs : Blk W gS 3 #[.int .i64 (wrap64 (total pre))]
  bl : Blk W gL 3 #[.int .i64 (lastW pre)]
  bn : Blk W gN 3 #[.int .i64 (pre.length : Int)]
  bel : Below w0.heap.size w0 W
  ok : Ok L pre
theorem RI.grows {w0 W W' : World} {p gR gP gS gL gN : Nat} {L pre : List Due} {B : Nat} {row : Option Nat} (h : RI w0 W p gR gP gS gL gN L pre) (hB : w0.heap.size ≤ B) (hg : W.grownBy W' row) (hr : ∀ r, row = some r → B ≤ r ∧ ∃ o : Obj, W.heap[r]? = some o ∧ o.isCells = false) : RI w0 W' p gR gP gS gL gN L pre :=
  have hr2 := fun r e => (hr r e).2
  ⟨h.ra.grows hg hr2, blk_grows h.br hg hr2, blk_grows h.bp hg hr2, blk_grows h.bs hg hr2, blk_grows h.bl hg hr2, blk_grows h.bn hg hr2, h.bel.grown hg h.bel.size (fun k e => Nat.le_trans hB (hr k e).1), h.ok⟩
theorem RI.below {w0 W W' : World} {p gR gP gS gL gN : Nat} {L pre : List Due} (h : RI w0 W p gR gP gS gL gN L pre) (hb : Below W.heap.size W W') : RI w0 W' p gR gP gS gL gN L pre :=
  ⟨h.ra.below hb, h.br.below hb h.br.lt, h.bp.below hb h.bp.lt, h.bs.below hb h.bs.lt, h.bl.below hb h.bl.lt, h.bn.below hb h.bn.lt, h.bel.trans (hb.mono h.bel.size), h.ok⟩
/-- one more -/
theorem RI.next {w0 W : World} {p gR gP gS gL gN : Nat} {L pre : List Due} {x : Due} (h : RI w0 W p gR gP gS gL gN L pre) (ho : Ok L (pre ++ [x])) (h0 : w0.heap.size ≤ gR) (h1 : gR < gP) (h2 : gP < gS) (h3 : gS < gL) (h4 : gL < gN) :
    RI w0 (((W.setCell ⟨gL, 0, none⟩ (.int .i64 x.1)).setCell ⟨gS, 0, none⟩ (.int .i64 (wrap64 (wrap64 (total pre) + x.2)))).setCell ⟨gN, 0, none⟩ (.int .i64 ((pre.length : Int) + 1))) p gR gP gS gL gN L (pre ++ [x]) := by
  refine ⟨((h.ra.set_ (.inr (.inr (.inr (.inr (.inl rfl))))) 0 _).set_ (.inr (.inr (.inr (.inl rfl)))) 0 _).set_ (.inr (.inr (.inr (.inr (.inr rfl))))) 0 _, ?_, ?_, ?_, ?_, ?_, ?_, ho⟩
  · exact ((h.br.far (p := ⟨gL, 0, none⟩) (by show gR ≠ gL; omega) _).far (p := ⟨gS, 0, none⟩) (by show gR ≠ gS; omega) _).far (p := ⟨gN, 0, none⟩) (by show gR ≠ gN; omega) _
  · exact ((h.bp.far (p := ⟨gL, 0, none⟩) (by show gP ≠ gL; omega) _).far (p := ⟨gS, 0, none⟩) (by show gP ≠ gS; omega) _).far (p := ⟨gN, 0, none⟩) (by show gP ≠ gN; omega) _
  · have := ((h.bs.far (p := ⟨gL, 0, none⟩) (by show gS ≠ gL; omega) (.int .i64 x.1)).set_ 0 (.int .i64 (wrap64 (wrap64 (total pre) + x.2)))).far (p := ⟨gN, 0, none⟩) (by show gS ≠ gN; omega) (.int .i64 ((pre.length : Int) + 1))
    have e : wrap64 (total (pre ++ [x])) = wrap64 (wrap64 (total pre) + x.2) := by rw [total_snoc, wrap_next]
    rw [e]
    simpa using this
  · have := ((h.bl.set_ 0 (.int .i64 x.1)).far (p := ⟨gS, 0, none⟩) (by show gL ≠ gS; omega) (.int .i64 (wrap64 (wrap64 (total pre) + x.2)))).far (p := ⟨gN, 0, none⟩) (by show gL ≠ gN; omega) (.int .i64 ((pre.length : Int) + 1))
    rw [last_snoc]
    simpa using this
  · have := ((h.bn.far (p := ⟨gL, 0, none⟩) (by show gN ≠ gL; omega) (.int .i64 x.1)).far (p := ⟨gS, 0, none⟩) (by show gN ≠ gS; omega) (.int .i64 (wrap64 (wrap64 (total pre) + x.2)))).set_ 0 (.int .i64 ((pre.length : Int) + 1))
    rw [show ((pre ++ [x]).length : Int) = (pre.length : Int) + 1 by simp]
    simpa using this
  · exact ((h.bel.setCell (p := ⟨gL, 0, none⟩) (by show w0.heap.size ≤ gL; omega) _).setCell (p := ⟨gS, 0, none⟩) (by show w0.heap.size ≤ gS; omega) _).setCell (p := ⟨gN, 0, none⟩) (by show w0.heap.size ≤ gN; omega) _
theorem others_below {W W' : World} (h : Below W.heap.size W W') : KeepsOthers W W' := ⟨h.size, fun k _ hk _ => (h.block k (Array.getElem?_eq_some_iff.1 hk).1).trans hk⟩
theorem held2 {W : World} {g1 g2 b : Nat} {v1 v2 u : Value} (h : W.cell? ⟨g1, 0, none⟩ = some v1 ∧ W.cell? ⟨g2, 0, none⟩ = some v2) (h1 : g1 ≠ b) (h2 : g2 ≠ b) : (W.setCell ⟨b, 0, none⟩ u).cell? ⟨g1, 0, none⟩ = some v1 ∧ (W.setCell ⟨b, 0, none⟩ u).cell? ⟨g2, 0, none⟩ = some v2 :=
  have k : ∀ {g : Nat}, g ≠ b → (W.setCell ⟨b, 0, none⟩ u).cell? ⟨g, 0, none⟩ = W.cell? ⟨g, 0, none⟩ := fun {g} hg => World.cell?_of_block (w := W) (Below.heap_setCell W ⟨b, 0, none⟩ u g hg)
  ⟨(k h1).trans h.1, (k h2).trans h.2⟩
/-- .. with the boxes of the result and of the purse -/
def PlayedB (w0 wr : World) (p gP k : Nat) : Prop := ∃ L, PQ wr p (fun j => j < w0.heap.size ∨ j = w0.heap.size ∨ j = gP) L ∧ L.length ≤ k
set_option maxRecDepth 100000 in
set_option maxHeartbeats 8000000 in
theorem rows_walk (a : Option Addr) (n c : Nat) (zs : List Act) (w : World) (hI : Acts w a n zs) :
    Calls Try.prog 6 #[.slice a n c] w fun e w' => e = .returned (.bool true) ∧ Below w.heap.size w w' := by
  have HI := Lib.hid hI
  have hmq := run_func_nil
  clear hI
  refine (callsIn_wide (n := 6)).1 ?_
  refine callsIn_of_wp_marks Try.func6 rfl trivial ?_ rfl
  refine wpIn_wide.2 ?_
  simp only [Try.ntmps6, List.size_toArray, List.length_cons, List.length_nil, Nat.reduceAdd, Nat.reduceSub, Array.replicate_succ, Array.replicate_zero, List.push_toArray, List.append_toArray, List.nil_append, List.cons_append]
  have hB := Blk.new w 4 #[.bool false]
  have hb0 := (Below.refl w.heap.size w).alloc (Nat.le_refl _) (.cells #[.bool false] 4)
  go_wp2_with fail
  generalize hGen : w.alloc (.cells #[.bool false] 4) = W0 at hB hb0 ⊢
  clear hGen
  refine (awake_any W0).mono ?_
  rintro e w1 ⟨rfl, b1⟩
  have hB1 := hB.below b1 hB.lt
  have hb1 := hb0.trans (b1.mono hb0.size)
  clear hB hb0 b1
  go_wp2_with fail
  refine (new_any w1).mono ?_
  rintro e w2 ⟨rfl, r1, b2⟩
  have hB2 := (hB1.below b2 hB1.lt).alloc (.cells #[.pointer (some ⟨w1.heap.size, 0, none⟩)] 24)
  have hb2 := (hb1.trans (b2.mono hb1.size)).alloc (Nat.le_trans hb1.size b2.size) (.cells #[.pointer (some ⟨w1.heap.size, 0, none⟩)] 24)
  have hP2 := Blk.new w2 24 #[.pointer (some ⟨w1.heap.size, 0, none⟩)]
  have r2 := ((r1.mono (fun k (hk : k < w.heap.size ∨ k = w.heap.size) => show k < w1.heap.size by have := hB1.lt; omega)).alloc (.cells #[.pointer (some ⟨w1.heap.size, 0, none⟩)] 24))
  have hgP : w.heap.size < w2.heap.size := Nat.lt_of_lt_of_le hB1.lt b2.size
  clear hB1 r1 b2 hb1
  generalize w1.heap.size = p at *
  go_wp2
  generalize hGen : w2.alloc (.cells #[.pointer (some ⟨p, 0, none⟩)] 24) = W2 at hB2 hb2 hP2 r2 ⊢
  clear hGen
  generalize w2.heap.size = gP at hP2 r2 hgP ⊢
  have HGP := Lib.hid hgP
  have K0 : Hid (PlayedB w W2 p gP 0) := ⟨[], r2.mono (fun k hk => by omega), Nat.le_refl _⟩
  have HS2 := Lib.hid hB2
  have HP2 := Lib.hid hP2
  have HB2 := Lib.hid hb2
  clear hB2 hP2 hb2 r2 hgP
  go_loopw [4] (fun i wr => ∃ k : Nat, k ≤ 200 ∧ k ≤ n ∧ i = .int .i64 (k : Int) ∧ Hid (PlayedB w wr p gP k) ∧ Hid (Blk wr w.heap.size 4 #[.bool false]) ∧ Hid (Blk wr gP 24 #[.pointer (some ⟨p, 0, none⟩)]) ∧ Hid (Below w.heap.size w wr)) (fun i _ => 200 - (intOf i).toNat)
  case atStart => exact ⟨0, Nat.zero_le _, Nat.zero_le _, rfl, K0, HS2, HP2, HB2⟩
  case round =>
    obtain ⟨m, hm, hmn, rfl, HK, HS, HP, HB⟩ := hrel
    clear K0 HS2 HP2 HB2
    rcases (show (m < n ∧ m < 200) ∨ (m < n ∧ m = 200) ∨ m = n by omega) with ⟨hlt, hlt2⟩ | ⟨hlt, h⟩ | h
    · obtain ⟨L, r, hL⟩ := HK.out
      obtain ⟨b, off, z, rfl, -, hz, hc, hg⟩ := (HI.out.below HB.out).at_ hlt
      obtain ⟨zk, zw, zn, zr⟩ := z
      obtain ⟨c0, c1, c2, c3⟩ := hc
      obtain ⟨z1, z2, z3, z4, z5, z6, z7, z8⟩ := hg
      simp only at c0 c1 c2 c3 z1 z2 z3 z4 z5 z6 z7 z8
      have HR := Lib.hid r
      have HL := Lib.hid hL
      have p0 := HP.out.cell 0
      clear r hL hz HK
      by_cases hk : zk = 1
      · subst hk
        go_upto_region 8 with (fail)
        go_still_tail 16, (by kernel_rfl)
        change wpList _ _ _ _ _ wr.drew
        have HA := Lib.hid (ask_any p _ L zw zn zr wr.drew (HR.out.drewN 1) (by have := HL.out; omega) z8)
        have HB' : Hid (Below w.heap.size w wr.drew) := below_draw HB.out 1
        have HS' : Hid (Blk wr.drew w.heap.size 4 #[.bool false]) := HS
        have HP' : Hid (Blk wr.drew gP 24 #[.pointer (some ⟨p, 0, none⟩)]) := HP
        clear c0 c1 c2 c3 HR HB HS HP p0
        go_wp2_with fail
        refine HA.out.mono ?_
        rintro e w4 ⟨rfl, r4, k4⟩
        have K4 : Hid (PlayedB w w4 p gP (m + 1)) := ⟨_, r4, Nat.le_trans (ask_len L zw zn zr) (by have := HL.out; omega)⟩
        have B4 := Lib.hid (HB'.out.trans (k4.below (fun _ h => .inl h)))
        have S4 := Lib.hid (k4.blk HS'.out (.inr (.inl rfl)))
        have P4 := Lib.hid (k4.blk HP'.out (.inr (.inr rfl)))
        clear r4 k4 HA HB' HS' HP'
        go_wp2
        go_roundw
        case rel => exact ⟨m + 1, by omega, by omega, by go_num, K4, S4, P4, B4⟩
        case measure => simp [intOf]; omega
      · go_upto_region 9 with (fail)
        go_still_tail 11, (by kernel_rfl)
        change wpList _ _ _ _ _ wr.drew
        have HA := Lib.hid (take_any p _ L zw zn wr.drew (HR.out.drewN 1) (by have := HL.out; omega))
        have HB' : Hid (Below w.heap.size w wr.drew) := below_draw HB.out 1
        have HS' : Hid (Blk wr.drew w.heap.size 4 #[.bool false]) := HS
        have HP' : Hid (Blk wr.drew gP 24 #[.pointer (some ⟨p, 0, none⟩)]) := HP
        clear c0 c1 c2 c3 HR HB HS HP p0
        go_wp2_with fail
        refine HA.out.mono ?_
        rintro e w4 ⟨rfl, r4, k4⟩
        have K4 : Hid (PlayedB w w4 p gP (m + 1)) := ⟨_, r4, Nat.le_trans (take_len L zw zn) (by have := HL.out; omega)⟩
        have B4 := Lib.hid (HB'.out.trans (k4.below (fun _ h => .inl h)))
        have S4 := Lib.hid (k4.blk HS'.out (.inr (.inl rfl)))
        have P4 := Lib.hid (k4.blk HP'.out (.inr (.inr rfl)))
        clear r4 k4 HA HB' HS' HP'
        go_wp2
        go_roundw
        case rel => exact ⟨m + 1, by omega, by omega, by go_num, K4, S4, P4, B4⟩
        case measure => simp [intOf]; omega
    all_goals
      first | (have h9 : ¬ m < n := by omega) | (have h9 : ¬ m < 200 := by omega)
      clear h
      have c0 := HP.out.cell 0
      obtain ⟨L, r, hL⟩ := HK.out
      have hlen : L.length ≤ 200 := by omega
      have HWF := Lib.hid r.wf
      have HR := Lib.hid r
      clear HK r hL
      go_wp2_with fail
      refine (all_any wr p).mono ?_
      rintro e w6 ⟨Bs, rfl, hBs, -, b6⟩
      have HG : Hid (RI w (((w6.alloc (.cells #[.int .i64 0] 3)).alloc (.cells #[.int .i64 0] 3)).alloc (.cells #[.int .i64 0] 3)) p w.heap.size gP w6.heap.size (w6.heap.size + 1) (w6.heap.size + 1 + 1) L []) := by
        have hb := (((Below.refl w6.heap.size w6).alloc (Nat.le_refl _) (.cells #[.int .i64 0] 3)).alloc (by simp) (.cells #[.int .i64 0] 3)).alloc (by simp; omega) (.cells #[.int .i64 0] 3)
        have hs6 := b6.size
        refine Lib.hid ⟨((((HR.out.below b6).alloc _).alloc _).alloc _).mono (fun k hk => by simp at hk ⊢; omega), (HS.out.below b6 HS.out.lt).below hb (HS.out.below b6 HS.out.lt).lt, (HP.out.below b6 HP.out.lt).below hb (HP.out.below b6 HP.out.lt).lt, ?_, ?_, ?_, (HB.out.trans (b6.mono HB.out.size)).trans (hb.mono (Nat.le_trans HB.out.size b6.size)), ⟨List.Pairwise.nil, fun _ h => by cases h⟩⟩
        · rw [show wrap64 (total []) = 0 from (by show wrap64 0 = 0; unfold wrap64; omega)]; exact ((Blk.new w6 3 #[.int .i64 0]).alloc _).alloc _
        · have := (Blk.new (w6.alloc (.cells #[.int .i64 0] 3)) 3 #[.int .i64 0]).alloc (.cells #[.int .i64 0] 3)
          show Blk _ _ _ #[.int .i64 0]
          simpa using this
        · have := Blk.new ((w6.alloc (.cells #[.int .i64 0] 3)).alloc (.cells #[.int .i64 0] 3)) 3 #[.int .i64 0]
          simpa using this
      have HBS := Lib.hid (((hBs.alloc (.cells #[.int .i64 0] 3)).alloc (.cells #[.int .i64 0] 3)).alloc (.cells #[.int .i64 0] 3))
      have hgP6 : gP < w6.heap.size := Nat.lt_of_lt_of_le HP.out.lt b6.size
      have HGP6 := Lib.hid hgP6
      clear c0 hBs b6 HR HS HP HB hgP6
      go_wp2
      generalize hGen : ((w6.alloc (.cells #[.int .i64 0] 3)).alloc (.cells #[.int .i64 0] 3)).alloc (.cells #[.int .i64 0] 3) = V at HG HBS ⊢
      clear hGen
      have e1 : (w6.alloc (.cells #[.int .i64 0] 3)).heap.size = w6.heap.size + 1 := by simp
      have e2 : ((w6.alloc (.cells #[.int .i64 0] 3)).alloc (.cells #[.int .i64 0] 3)).heap.size = w6.heap.size + 1 + 1 := by simp
      try rw [e1]
      try rw [e2]
      have hgw := HGP.out
      have hg6 := HGP6.out
      have hg7 : w6.heap.size < w6.heap.size + 1 := by omega
      have hg8 : w6.heap.size + 1 < w6.heap.size + 1 + 1 := by omega
      generalize w6.heap.size + 1 + 1 = gN at HG hg8 ⊢
      generalize w6.heap.size + 1 = gL at HG hg7 hg8 ⊢
      generalize w6.heap.size = gS at HG hg6 hg7 ⊢
      have HW1 := Lib.hid hgw
      have HW2 := Lib.hid hg6
      have HW3 := Lib.hid hg7
      have HW4 := Lib.hid hg8
      clear e1 e2 hgw hg6 hg7 hg8 HGP HGP6
      have hVw := HG.out.bel.size
      have hVN := HG.out.bn.lt
      refine (wpIn_wide (n := 6)).1 ?_
      apply wpIn_rangeFunc_ownF (F := Fence.wide) (n := 6) rfl (by omega) (gf := 22) (lb := #[.pointer (some ⟨Bs, 0, none⟩)]) rfl trivial (enters_of Try.func22 (by kernel_rfl) rfl)
        (all_stops 5 (by omega) Bs V.heap.size p _ L V HG.out.ra (by omega) (Nat.le_refl _) (HBS.out.cell 0))
        (fun h k => keepC_t h k) (fun W l o o' _ h ho _ => keepC_b W l o o' h ho) (Below.refl _ _) (fun _ => rfl)
        (fun pre W => RI w W p w.heap.size gP gS gL gN L pre)
        (fun c pre W => ¬ Ok L pre)
        (fun pre W W' row h hg hr => h.grows hVw hg hr)
        (fun c pre W W' row h hg hr => h)
        HG.out
      case hassign =>
        intro l x W K hK
        dsimp only [encT]
        gi_wp2
        exact hK
      case hbody =>
        rintro l pre x W hG hlt
        have hpl : pre.length ≤ 200 := by omega
        obtain ⟨xk, xn⟩ := x
        have HOS := Lib.hid (ok_snoc (x := (xk, xn)) hG.ok)
        have HKR := Lib.hid (KeepsOthers.setCell W ⟨w.heap.size, 0, none⟩ (.bool false))
        have r0 := hG.br.cell 0
        have rf := hG.br.frozen 0
        have HGG := Lib.hid hG
        by_cases hk1 : xn < 1
        · clear hG
          gi_wp2
          refine ⟨trivial, ?_⟩
          gi_wp2
          exact ⟨HKR.out, fun e => by have h7 : 1 ≤ xn := (HOS.out.1 e).1; omega⟩
        · have HOF := Lib.hid (of_any p _ L xk W hG.ra (by omega))
          have p0 := hG.bp.cell 0
          clear hG r0 rf HKR
          generalize hof : ofL L xk = o at HOF
          have HO := Lib.hid hof
          clear hof
          gi_wp2_with fail
          refine ⟨trivial, (CallsIn.inRound l (callsIn_wide.2 HOF.out)).mono ?_⟩
          rintro e W1 ⟨rfl, b1⟩
          have hG1 := HGG.out.below b1
          have HB1 := Lib.hid b1
          have HG1 := Lib.hid hG1
          have r0 := hG1.br.cell 0
          have rf := hG1.br.frozen 0
          have n0 := hG1.bn.cell 0
          have nf := hG1.bn.frozen 0
          have l0 := hG1.bl.cell 0
          have lf := hG1.bl.frozen 0
          have s0 := hG1.bs.cell 0
          have sf := hG1.bs.frozen 0
          have HKR := Lib.hid ((others_below b1).trans (KeepsOthers.setCell W1 ⟨w.heap.size, 0, none⟩ (.bool false)))
          clear hG1 b1 HOF p0
          by_cases he : o = xn
          · subst he
            by_cases h0 : pre.length = 0
            · skip
              have HN := Lib.hid (HG1.out.next (x := (xk, o)) (HOS.out.2 ⟨by show 1 ≤ o; omega, HO.out, .inl h0⟩) (Nat.le_refl _) HW1.out HW2.out HW3.out HW4.out)
              have HKO := Lib.hid ((((others_below HB1.out).trans (KeepsOthers.setCell W1 ⟨gL, 0, none⟩ (.int .i64 xk))).trans (KeepsOthers.setCell _ ⟨gS, 0, none⟩ (.int .i64 (wrap64 (wrap64 (total pre) + o))))).trans (KeepsOthers.setCell _ ⟨gN, 0, none⟩ (.int .i64 ((pre.length : Int) + 1))))
              have HKC := Lib.hid (keepC_t (keepC_t (keepC_t (keepC_below (B := V.heap.size) HB1.out) (keepC_set W1 (g := gL) (by have := HW4.out; omega) 0 (.int .i64 xk))) (keepC_set _ (g := gS) (by have := HW3.out; have := HW4.out; omega) 0 (.int .i64 (wrap64 (wrap64 (total pre) + o))))) (keepC_set _ hVN 0 (.int .i64 ((pre.length : Int) + 1))))
              have w2 := HW2.out
              have w3 := HW3.out
              have w4 := HW4.out
              have n1 : gS ≠ gL := by omega
              have n2 : gN ≠ gL := by omega
              have n3 : gN ≠ gS := by omega
              have hwn : IntKind.i64.wrap ((pre.length : Int) + 1) = (pre.length : Int) + 1 := by rw [IntKind.wrap_i64]; omega
              clear w2 w3 w4
              have hn0 : ¬ 0 < pre.length := by omega
              clear h0
              gi_wp2
              exact ⟨HKO.out, HKC.out, HN.out⟩
            · by_cases h1 : lastW pre < xk
              · skip
                have HN := Lib.hid (HG1.out.next (x := (xk, o)) (HOS.out.2 ⟨by show 1 ≤ o; omega, HO.out, .inr h1⟩) (Nat.le_refl _) HW1.out HW2.out HW3.out HW4.out)
                have HKO := Lib.hid ((((others_below HB1.out).trans (KeepsOthers.setCell W1 ⟨gL, 0, none⟩ (.int .i64 xk))).trans (KeepsOthers.setCell _ ⟨gS, 0, none⟩ (.int .i64 (wrap64 (wrap64 (total pre) + o))))).trans (KeepsOthers.setCell _ ⟨gN, 0, none⟩ (.int .i64 ((pre.length : Int) + 1))))
                have HKC := Lib.hid (keepC_t (keepC_t (keepC_t (keepC_below (B := V.heap.size) HB1.out) (keepC_set W1 (g := gL) (by have := HW4.out; omega) 0 (.int .i64 xk))) (keepC_set _ (g := gS) (by have := HW3.out; have := HW4.out; omega) 0 (.int .i64 (wrap64 (wrap64 (total pre) + o))))) (keepC_set _ hVN 0 (.int .i64 ((pre.length : Int) + 1))))
                have w2 := HW2.out
                have w3 := HW3.out
                have w4 := HW4.out
                have n1 : gS ≠ gL := by omega
                have n2 : gN ≠ gL := by omega
                have n3 : gN ≠ gS := by omega
                have hwn : IntKind.i64.wrap ((pre.length : Int) + 1) = (pre.length : Int) + 1 := by rw [IntKind.wrap_i64]; omega
                clear w2 w3 w4
                have hn0 : 0 < pre.length := by omega
                have hn1 : ¬ xk ≤ lastW pre := by omega
                clear h0 h1
                gi_wp2
                exact ⟨HKO.out, HKC.out, HN.out⟩
              · have hn0 : 0 < pre.length := by omega
                have hn1 : xk ≤ lastW pre := by omega
                have HNO := Lib.hid (show ¬ Ok L (pre ++ [(xk, o)]) from fun e => by
                  rcases (HOS.out.1 e).2.2 with h | h
                  · exact h0 h
                  · exact h1 h)
                clear h0 h1
                gi_wp2
                exact ⟨HKR.out, HNO.out⟩
          · have heb : (o == xn) = false := by rw [beq_eq_false_iff_ne]; exact he
            gi_wp2
            exact ⟨HKR.out, fun e => he (HO.out.symm.trans (HOS.out.1 e).2.1)⟩
      case hstop =>
        rintro D c pre W hD ⟨q, hq, rfl⟩ hx hK
        exact (hx (ok_take HWF.out q)).elim
      case hdone =>
        rintro D ys W hD rfl hG hK
        have hwD : w.heap.size ≤ D := Nat.le_trans hVw hD
        have hts : wrap64 (total ys) = total ys := by
          have h1 := HWF.out.sum
          have h2 := total_nn ys HWF.out.pos
          unfold wrap64; omega
        have s0 := hG.bs.cell 0
        rw [hts] at s0
        have p0 := hG.bp.cell 0
        have r0 := hG.br.cell 0
        have rf := hG.br.frozen 0
        have BX := Lib.hid hG.bel
        have HKX := Lib.hid hK
        have HRX := Lib.hid hG.ra
        have hll := hG.bs.lt
        have hln := hG.bp.lt
        have hlr := hG.br.lt
        have HP : Hid (∀ W', Below W.heap.size W W' → Calls Try.prog 15 #[.pointer (some ⟨p, 0, none⟩)] W' fun e w' => e = .returned (.int .i64 (total ys)) ∧ Below W.heap.size W w') :=
          Lib.hid (fun W' hb => (sum_any p _ ys W' (HRX.out.below hb)).mono (fun e w' h => ⟨h.1, h.2 ▸ hb⟩))
        have HZ : Hid (W.cell? ⟨gS, 0, none⟩ = some (.int .i64 (total ys)) ∧ W.cell? ⟨gP, 0, none⟩ = some (.pointer (some ⟨p, 0, none⟩))) := Lib.hid ⟨s0, p0⟩
        have HRF := Lib.hid (And.intro r0 rf)
        have hlb1 : gS ≠ w.heap.size := by have := HW1.out; have := HW2.out; omega
        have hlb2 : gP ≠ w.heap.size := by have := HW1.out; omega
        generalize total ys = s at HP HZ
        clear hG hK s0 p0 r0 rf HRX hts HWF
        go_upto_region 24 with (fail)
        go_region_held3 (fun w' => w'.cell? ⟨gS, 0, none⟩ = some (.int .i64 s) ∧ w'.cell? ⟨gP, 0, none⟩ = some (.pointer (some ⟨p, 0, none⟩))) (first | assumption | exact HZ.out | exact held2 hz4 hlb1 hlb2) (first
          | (go_at_call 15; (with_reducible refine (HP.out _ ?_).mono ?_); (first | assumption | exact (Below.refl _ _).drew | exact Below.refl _ _); rintro e wW ⟨rfl, hkW⟩; have hz4 := And.intro ((hkW.cell (p := ⟨gS, 0, none⟩) hll).trans HZ.out.1) ((hkW.cell (p := ⟨gP, 0, none⟩) hln).trans HZ.out.2); have hz5 := (hkW.cell (p := ⟨w.heap.size, 0, none⟩) hlr).trans HRF.out.1; have hz6 := (hkW.frozen (p := ⟨w.heap.size, 0, none⟩) hlr).trans HRF.out.2))
        all_goals
          have hKW := (hkW.block D (Array.getElem?_eq_some_iff.1 HKX.out).1).trans HKX.out
          have hKa := (KeepsOthers.setCell wW ⟨w.heap.size, 0, none⟩ (.bool true)).same D _ hKW rfl
          have hc0 : (wW.setCell ⟨w.heap.size, 0, none⟩ (.bool true)).cell? ⟨w.heap.size, 0, none⟩ = some (.bool true) := World.cell?_setCell_same _ _ _ hz5
          have hc1 := cell_kept hc0 (grownBy_putObj' _ D (.deferred none)) (fun r e => by cases e; exact ⟨_, hKa, rfl⟩)
          have hbf := ((BX.out.trans (hkW.mono BX.out.size)).setCell (p := ⟨w.heap.size, 0, none⟩) (Nat.le_refl _) (.bool true)).trans (belowK_b (w := w) (Nat.le_refl _) _ D _ (.deferred none) hwD hKa rfl rfl)
          have HKA := Lib.hid hKa
          have HC1 := Lib.hid hc1
          have HBF := Lib.hid hbf
          clear hKW hKa hc0 hc1 hbf hz4 hz5 hz6 hkW HP HZ HRF
          go_wp2
          refine ⟨by simp, .inl ⟨_, _, rfl, run_takeDeferred HKA.out, ?_⟩⟩
          have hc5 := HC1.out
          exact ⟨.bool true, by simp [results, Try.results6, go_sem, hc5], rfl, HBF.out⟩
end Go.Proofs.Ytoiakenepmbalaa.Purse
