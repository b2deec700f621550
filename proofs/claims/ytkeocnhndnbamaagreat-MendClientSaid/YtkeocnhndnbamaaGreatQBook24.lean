/- A client's transaction is at its end: the statements' own end, walked. A row of n cells in a block, as a function; make of one. A row of integers that came in. A row of seneschallaw18.Act that came in, opened. -/
import Derived.Test.YtkeocnhndnbamaaGreatQMendUndoP
import Derived.Test.YtkeocnhndnbamaaGreatQBook5
import Derived.Laws.MakeOwn
import Derived.Deep.Slices
import Derived.ChangeShapes
import Derived.Lib.SmallJoins
import Derived.SizedLaws
import Derived.OpenShut
namespace Go.Proofs.YtkeocnhndnbamaaGreat.Mend
set_option maxRecDepth 100000
open Go.RowKit Go.Sort
open Go.Proofs.YtkeocnhndnbamaaGreat.Mem
open Go.Proofs.YtkeocnhndnbamaaGreat.Slab (Slot Slots)
open Go.Proofs.YtkeocnhndnbamaaGreat.Ent (Ent goodB Ents SmallE cellsE noE)
open Go.Proofs.YtkeocnhndnbamaaGreat.Past (T3 txE SmT smI_of AppRes cellsG)
open Go.Proofs.YtkeocnhndnbamaaGreat.MLog
/-- whose a page is, told so far -/
def ownJ (p : PD) (c : Int) (j : Nat) : PD := ⟨p.list, p.now, p.all, fun m => if m < (j : Int) ∧ p.owner m = c then 0 else p.owner m, p.txn, p.last⟩
def endT (p : PD) (c : Int) : PD := ⟨p.list, p.now, p.all, p.owner, upd p.txn c (p.txn c + 1), p.last⟩
def endL (p : PD) (c : Int) : PD := ⟨p.list, p.now, p.all, p.owner, p.txn, upd p.last c 0⟩
theorem PM.turn {w : World} {B u : Nat} {M : Nat → Prop} {lv nv av : Value} {p p' : PD} (h : PM w B u M lv nv av p) (i : Nat) (v : Value) (hl : p'.list = p.list) (hn : p'.now = p.now) (ha : p'.all = p.all) (hA : (pastA lv nv av p).setIfInBounds i v = pastA lv nv av p') :
    PM (w.setCell ⟨u, i, none⟩ v) B u M lv nv av p' := by
  have hk : Keep M w (w.setCell ⟨u, i, none⟩ v) := (Keep.refl M w).set_ h.mu i v
  obtain ⟨vs, v1, v2, v3⟩ := h.all
  refine ⟨by rw [← hA]; exact h.blk.set_ i v, by rw [hl]; exact own_set h.list (own_ty h.list h.blk (by decide)) i v, by rw [hl]; exact h.small, by rw [hn]; exact h.now.keep hk, ⟨vs, by rw [ha]; exact v1, by rw [ha]; exact own_set v2 (own_ty v2 h.blk (by decide)) i v, fun k v nw e1 e2 => (v3 k v nw e1 (by rw [← ha]; exact e2)).keep hk⟩, h.mu, h.ml, h.ma, fun g hg => by have := h.mlt g hg; simpa using this⟩
theorem PM.same {w : World} {B u : Nat} {M : Nat → Prop} {lv nv av : Value} {p p' : PD} (h : PM w B u M lv nv av p) (hl : p'.list = p.list) (hn : p'.now = p.now) (ha : p'.all = p.all) (hA : pastA lv nv av p = pastA lv nv av p') : PM w B u M lv nv av p' := by
  obtain ⟨vs, v1, v2, v3⟩ := h.all
  exact ⟨by rw [← hA]; exact h.blk, by rw [hl]; exact h.list, by rw [hl]; exact h.small, by rw [hn]; exact h.now, ⟨vs, by rw [ha]; exact v1, by rw [ha]; exact v2, fun k v nw e1 e2 => v3 k v nw e1 (by rw [← ha]; exact e2)⟩, h.mu, h.ml, h.ma, h.mlt⟩
theorem own_start (lv nv av : Value) (p : PD) (c : Int) : pastA lv nv av p = pastA lv nv av (ownJ p c 0) := by
  unfold pastA ownJ
  simp
theorem own_next (lv nv av : Value) (p : PD) (c : Int) {j : Nat} (hj : j < 4) : pastA lv nv av (ownJ p c (j + 1)) = if p.owner j = c then (pastA lv nv av (ownJ p c j)).setIfInBounds (3 + j) (.int .i64 0) else pastA lv nv av (ownJ p c j) := by
  rcases (show j = 0 ∨ j = 1 ∨ j = 2 ∨ j = 3 by omega) with rfl | rfl | rfl | rfl <;> (unfold pastA ownJ; split <;> simp_all)
theorem own_at_j (p : PD) (c : Int) (j : Nat) : (ownJ p c j).owner j = p.owner j := by
  show (if (j : Int) < (j : Int) ∧ _ then _ else _) = _
  rw [if_neg fun h => absurd h.1 (Int.lt_irrefl _)]
theorem own_last (lv nv av : Value) (p : PD) (c : Int) : pastA lv nv av (ownJ (endL (endT p c) c) c 4) = pastA lv nv av (freeP p c) := by
  unfold pastA ownJ endL endT freeP
  simp
theorem txn_set (lv nv av : Value) (p : PD) {c : Nat} (hc : c < 5) : (pastA lv nv av p).setIfInBounds (7 + c) (.int .i64 (p.txn c + 1)) = pastA lv nv av (endT p c) := by
  rcases (show c = 0 ∨ c = 1 ∨ c = 2 ∨ c = 3 ∨ c = 4 by omega) with rfl | rfl | rfl | rfl | rfl <;> rfl
theorem last_set (lv nv av : Value) (p : PD) {c : Nat} (hc : c < 5) : (pastA lv nv av p).setIfInBounds (12 + c) (.int .i64 0) = pastA lv nv av (endL p c) := by
  rcases (show c = 0 ∨ c = 1 ∨ c = 2 ∨ c = 3 ∨ c = 4 by omega) with rfl | rfl | rfl | rfl | rfl <;> rfl
theorem add_txn (p : PD) (x : Ent) : (addP p x).txn = p.txn := by unfold addP; split <;> rfl
section
variable {w : World} {B u : Nat} {M : Nat → Prop} {lv nv av : Value} {p : PD}
set_option maxRecDepth 100000 in
set_option maxHeartbeats 16000000 in
theorem pend_any (h : PM w B u M lv nv av p) (hBu : B ≤ u) (hs : Sane p) {c : Nat} (hc : 1 ≤ c ∧ c ≤ 4) {k : Int} (hk : k = 3 ∨ k = 4) :
    Calls Tryz.prog 44 #[.pointer (some ⟨u, 0, none⟩), .int .i64 (c : Int), .int .i64 k] w fun e w' => e = .returned (.tuple #[]) ∧ PQ w' B u (endP p c k) ∧ Below B w w' := by
  have H0 := Lib.hid h
  have HSN := Lib.hid hs
  have HUW := Lib.hid h.blk.lt
  have hBw : B ≤ w.heap.size := by have := h.blk.lt; omega
  obtain ⟨la, lc, hlv⟩ := own_shape h.list
  subst hlv
  obtain ⟨n, hn⟩ : ∃ n, p.list.length = n := ⟨_, rfl⟩
  rw [hn] at H0
  have hu0 : w.cell? ⟨u, 0, none⟩ = some (.slice la n lc) := by rw [h.blk.cell, ← hn]; rfl
  have hbg := begun_any h (show c < 5 by omega) (by have := hs.len; omega)
  have hb0 : n = 0 → begunP p c = false := fun h0 => by
    have hnil : p.list = [] := List.eq_nil_of_length_eq_zero (by rw [hn]; exact h0)
    unfold begunP
    rw [hnil]; rfl
  obtain ⟨bb, hbb⟩ : ∃ bb, begunP p c = bb := ⟨_, rfl⟩
  rw [hbb] at hbg hb0
  have HBG := Lib.hid hbg
  have HB0 := Lib.hid hb0
  obtain ⟨p1, hp1⟩ : ∃ p1, (if begunP p c = true then addP p (endX p c k) else p) = p1 := ⟨_, rfl⟩
  have HP1 := Lib.hid (show endP p c k = freeP p1 c by unfold endP; rw [hp1])
  have HTX1 := Lib.hid (show p1.txn = p.txn by rw [← hp1]; split; · exact add_txn _ _
                                               · rfl)
  rw [hbb] at hp1
  have HPP := Lib.hid hp1
  have hcl0 : (0 : Int) ≤ (c : Int) := by omega
  have hcI : (c : Int) < 5 := by omega
  have hcd : decide ((c : Int) < 5) = true := decide_eq_true (by omega)
  clear h hs hbg hbb hp1 hb0
  go_enter Tryz.func44, Tryz.ntmps44
  go_upto_region 0 with (fail)
  go_cut [17] (fun t17 wx => t17 = .bool bb ∧ Hid (Below w.heap.size w wx))
  case first =>
    by_cases hn0 : n = 0
    · have hb := HB0.out hn0
      subst hn0 hb
      go_wp2_with fail
      go_meet
      case rel => exact ⟨rfl, Lib.hid (Below.refl _ _)⟩
    · have g1 : decide ((0 : Int) < (n : Int)) = true := decide_eq_true (by omega)
      have g2 : decide ((n : Int) > 0) = true := decide_eq_true (by omega)
      have g3 : decide (0 < n) = true := decide_eq_true (by omega)
      have g4 : 0 < n := by omega
      go_wp2_with ((with_reducible refine (HBG.out).mono ?_); rintro e w1 ⟨rfl, b1⟩; have HB1 := Lib.hid b1; clear b1)
      go_meet
      case rel => exact ⟨rfl, HB1⟩
  case rest =>
    obtain ⟨rfl, H1⟩ := hcut
    clear HBG HB0
    go_upto_if 17 with (fail)
    go_cut [] (fun wx => Hid (PQ wx B u p1 ∧ Below B w wx))
    case first =>
      have HPM := Lib.hid (H0.out.below H1.out)
      have HB1 := Lib.hid (H1.out.mono hBw)
      cases bb with
      | false =>
        have HD := Lib.hid (show PQ wc B u p1 ∧ Below B w wc from ⟨by rw [← HPP.out, if_neg (by simp)]; exact ⟨M, _, nv, av, HPM.out, hBu⟩, HB1.out⟩)
        go_wp2_with fail
        go_meet
        case rel => exact HD
      | true =>
        obtain ⟨QQ, hQQ⟩ : ∃ QQ, p.last c = QQ := ⟨_, rfl⟩
        have hq0 := HSN.out.last c (cl_nat hc)
        rw [hQQ] at hq0
        have HTN := Lib.hid (txn_at HPM.out (show c < 5 by omega))
        have HAD := Lib.hid (show ∀ W, Below wc.heap.size wc W → Calls Tryz.prog 21 #[.pointer (some ⟨u, 0, none⟩), .agg #[.int .i64 k, .int .i64 (c : Int), .int .i64 1, .int .i64 (p.txn c), .int .i64 (QQ + 1), .int .i64 QQ, .int .i64 0, .int .i64 0, .bool false, .string ⟨#[]⟩, .bool false, .string ⟨#[]⟩, .int .i64 0]] W fun e w' => (∃ b, e = .returned (.bool b)) ∧ PQ w' B u p1 ∧ Below B w w' from fun W hb => by
          have h1 := add_any (HPM.out.below hb) hBu (endX p c k) ⟨show (ByteArray.mk #[]).size ≤ 140737488351232 by decide, show (ByteArray.mk #[]).size ≤ 140737488351232 by decide⟩ (fun h => by have h : k ≤ 2 := h; omega) (show c < 5 by omega) rfl (by have := HSN.out.len; omega) (by have := HSN.out.alen; omega)
          unfold endX at h1
          rw [hQQ] at h1
          refine h1.mono ?_
          rintro e w' ⟨rfl, h2, h3⟩
          refine ⟨⟨_, rfl⟩, ?_, (HB1.out.trans (hb.mono (by have := H1.out.size; omega))).trans h3⟩
          rw [← HPP.out, if_pos rfl]
          unfold endX
          rw [hQQ]
          exact h2)
        have HLC := Lib.hid (show ∀ W, Below wc.heap.size wc W → W.cell? ⟨u, 12 + c, none⟩ = some (.int .i64 QQ) from fun W hb => by rw [← hQQ]; exact (HPM.out.below hb).last (show c < 5 by omega))
        have hwr : IntKind.i64.wrap (QQ + 1) = QQ + 1 := by rw [IntWalk.i64_left, IntWalk.wrap64_in _ (by omega)]
        have y0 := HLC.out wc (Below.refl _ _)
        have y1 := HLC.out wc.drew (Below.refl _ _).drew
        clear hQQ hq0
        go_upto_region 1 with (fail)
        go_region_law (first
          | (go_simp; go_at_call 17; (with_reducible refine (HTN.out _ ?_).mono ?_); (first | exact Below.refl _ _ | exact (Below.refl _ _).drew); rintro e w1 ⟨rfl, b1⟩; have B1 := Lib.hid (show Below wc.heap.size wc w1 from (by first | (with_reducible exact b1) | (with_reducible exact bn_d b1))); clear b1; have y2 := HLC.out w1 B1.out; have y3 := HLC.out w1.drew B1.out.drew)
          | (go_simp; go_at_call 21; (with_reducible refine (HAD.out _ ?_).mono ?_); (first | exact B1.out | exact B1.out.drew); rintro e w2 ⟨⟨b, rfl⟩, h2, b2⟩; have H2 := Lib.hid (And.intro h2 b2); clear h2 b2))
        all_goals
          go_wp2_with fail
          go_meet
          case rel => exact H2
    case rest =>
      obtain ⟨⟨M1, lv1, nv1, av1, h1, -⟩, hb1⟩ := hcut.out
      have hfz := h1.blk.frozen (7 + c)
      have htx : wc.cell? ⟨u, 7 + c, none⟩ = some (.int .i64 (p.txn c)) := by rw [← HTX1.out]; exact h1.txn (show c < 5 by omega)
      have hwr : IntKind.i64.wrap (p.txn c + 1) = p.txn c + 1 := by
        have := HSN.out.txn c (cl_nat hc)
        rw [IntWalk.i64_left, IntWalk.wrap64_in _ (by omega)]
      have H2 := Lib.hid (show PM (wc.setCell ⟨u, 7 + c, none⟩ (.int .i64 (p.txn c + 1))) B u M1 lv1 nv1 av1 (endT p1 c) ∧ Below B w (wc.setCell ⟨u, 7 + c, none⟩ (.int .i64 (p.txn c + 1))) from
        ⟨h1.turn (7 + c) _ rfl rfl rfl (by rw [← txn_set lv1 nv1 av1 p1 (show c < 5 by omega), HTX1.out]), hb1.setCell (p := ⟨u, 7 + c, none⟩) hBu _⟩)
      have H2d := Lib.hid (show PM (wc.drew.setCell ⟨u, 7 + c, none⟩ (.int .i64 (p.txn c + 1))) B u M1 lv1 nv1 av1 (endT p1 c) ∧ Below B w (wc.drew.setCell ⟨u, 7 + c, none⟩ (.int .i64 (p.txn c + 1))) from
        ⟨H2.out.1.below (Below.refl _ _).drew, H2.out.2.drew⟩)
      clear h1 hb1
      go_upto_region 2 with (fail)
      go_cut [] (fun wx => Hid (PM wx B u M1 lv1 nv1 av1 (endT p1 c) ∧ Below B w wx))
      case first =>
        go_region
        all_goals
          go_wp2_with fail
          go_meet
          case rel => first | exact H2 | exact H2d
      case rest =>
        clear hfz htx hwr H2 H2d
        have f3 := hcut.out.1.blk.frozen (12 + c)
        obtain ⟨o3, k3⟩ := cell_arr hcut.out.1.blk (show 12 + c < 17 by omega)
        have H3 := Lib.hid (show PM (wc.setCell ⟨u, 12 + c, none⟩ (.int .i64 0)) B u M1 lv1 nv1 av1 (endL (endT p1 c) c) ∧ Below B w (wc.setCell ⟨u, 12 + c, none⟩ (.int .i64 0)) from
          ⟨hcut.out.1.turn (12 + c) _ rfl rfl rfl (last_set _ _ _ _ (show c < 5 by omega)), hcut.out.2.setCell (p := ⟨u, 12 + c, none⟩) hBu _⟩)
        go_upto_region 4 with (fail)
        clear f3 k3
        generalize hGen : wc.setCell ⟨u, 12 + c, none⟩ (.int .i64 0) = W3 at H3 ⊢
        clear hGen
        go_wp2
        go_loopw [6] (fun iv wr => ∃ j : Nat, j ≤ 4 ∧ iv = .int .i64 (j : Int) ∧ Hid (PM wr B u M1 lv1 nv1 av1 (ownJ (endL (endT p1 c) c) c j) ∧ Below B w wr)) (fun iv _ => 4 - intN iv)
        case atStart => exact ⟨0, by omega, rfl, Lib.hid ⟨H3.out.1.same rfl rfl rfl (own_start _ _ _ _ _), H3.out.2⟩⟩
        case round =>
          clear H3
          obtain ⟨j, hj, rfl, HJ⟩ := hrel
          by_cases hjl : j < 4
          · have hd : decide ((j : Int) < 4) = true := decide_eq_true (by omega)
            have hj0 : (0 : Int) ≤ (j : Int) := by omega
            have hjI : (j : Int) < 4 := by omega
            have c3 := HJ.out.1.owner hjl
            rw [own_at_j] at c3
            have f3 := HJ.out.1.blk.frozen (3 + j)
            obtain ⟨ov, hov⟩ : ∃ ov, (endL (endT p1 c) c).owner j = ov := ⟨_, rfl⟩
            rw [hov] at c3
            have HNX := Lib.hid (fun lv nv av => own_next lv nv av (endL (endT p1 c) c) c hjl)
            rw [hov] at HNX
            clear hov
            by_cases he : ov = (c : Int)
            · have e1 : (ov == (c : Int)) = true := by simp [he]
              have e2 : decide (ov = (c : Int)) = true := decide_eq_true he
              have HJ2 := Lib.hid (show PM (wr.setCell ⟨u, 3 + j, none⟩ (.int .i64 0)) B u M1 lv1 nv1 av1 (ownJ (endL (endT p1 c) c) c (j + 1)) ∧ Below B w (wr.setCell ⟨u, 3 + j, none⟩ (.int .i64 0)) from
                ⟨HJ.out.1.turn (3 + j) _ rfl rfl rfl (by rw [HNX.out, if_pos he]), HJ.out.2.setCell (p := ⟨u, 3 + j, none⟩) hBu _⟩)
              clear he
              go_wp2
              go_roundw
              case rel => exact ⟨j + 1, by omega, by go_num, HJ2⟩
              case measure => simp [intN]; omega
            · have e1 : (ov == (c : Int)) = false := by simp [he]
              have e2 : decide (ov = (c : Int)) = false := decide_eq_false he
              have HJ2 := Lib.hid (show PM wr B u M1 lv1 nv1 av1 (ownJ (endL (endT p1 c) c) c (j + 1)) ∧ Below B w wr from ⟨HJ.out.1.same rfl rfl rfl (by rw [HNX.out, if_neg he]), HJ.out.2⟩)
              clear he
              go_wp2
              go_roundw
              case rel => exact ⟨j + 1, by omega, by go_num, HJ2⟩
              case measure => simp [intN]; omega
          · obtain rfl : j = 4 := by omega
            have hd : decide ((4 : Int) < 4) = false := by decide
            have HF := Lib.hid (show PQ wr B u (endP p c k) ∧ Below B w wr from ⟨by rw [HP1.out]; exact ⟨M1, lv1, nv1, av1, HJ.out.1.same rfl rfl rfl (own_last _ _ _ _ _), hBu⟩, HJ.out.2⟩)
            go_wp2
            go_end0
            exact ⟨rfl, HF.out⟩
end
end Go.Proofs.YtkeocnhndnbamaaGreat.Mend
namespace Go.Proofs.YtkeocnhndnbamaaGreat.Mem
set_option maxRecDepth 100000
open Go.RowKit
/-- a row of n in a block -/
def Arr (w : World) (g : Nat) (T : TypeId) (n : Nat) (e : Nat → Value) : Prop := ∃ cs, Blk w g T cs ∧ cs.size = n ∧ ∀ k, k < n → cs[k]? = some (e k)
section
variable {w w' : World} {g n : Nat} {T : TypeId} {e : Nat → Value}
theorem Arr.lt (h : Arr w g T n e) : g < w.heap.size := by obtain ⟨cs, h1, -⟩ := h; exact h1.lt
theorem Arr.at_ (h : Arr w g T n e) {k : Nat} (hk : k < n) : w.cell? ⟨g, k, none⟩ = some (e k) ∧ w.frozen? ⟨g, k, none⟩ = false := by
  obtain ⟨cs, h1, -, h3⟩ := h
  exact ⟨(h1.cell k).trans (h3 k hk), h1.frozen k⟩
theorem Arr.of_block (h : Arr w g T n e) (hb : w'.heap[g]? = w.heap[g]?) : Arr w' g T n e := by
  obtain ⟨cs, h1, h2⟩ := h
  exact ⟨cs, hb.trans h1, h2⟩
theorem Arr.keep {M : Nat → Prop} (h : Arr w g T n e) (hk : Keep M w w') (hm : M g) : Arr w' g T n e := h.of_block (hk.block g hm)
theorem Arr.below (h : Arr w g T n e) (hb : Below w.heap.size w w') : Arr w' g T n e := h.of_block (hb.block g h.lt)
theorem Arr.alloc (h : Arr w g T n e) (o : Obj) : Arr (w.alloc o) g T n e := h.of_block (Below.heap_alloc w o g h.lt)
theorem Arr.far (h : Arr w g T n e) {p : Addr} (hp : g ≠ p.block) (u : Value) : Arr (w.setCell p u) g T n e := h.of_block (Below.heap_setCell w p u g hp)
theorem Arr.set_ (h : Arr w g T n e) {k : Nat} (hk : k < n) (e' : Nat → Value) (he : ∀ j, e' j = if j = k then e' k else e j) : Arr (w.setCell ⟨g, k, none⟩ (e' k)) g T n e' := by
  obtain ⟨cs, h1, h2, h3⟩ := h
  refine ⟨_, h1.set_ k (e' k), by simpa using h2, fun j hj => ?_⟩
  by_cases e1 : j = k
  · subst e1
    rw [Array.getElem?_setIfInBounds, if_pos rfl, if_pos (by omega)]
  · rw [Array.getElem?_setIfInBounds, if_neg (fun h => e1 h.symm), he j, if_neg e1]
    exact h3 j hj
theorem Arr.made (w : World) (T : TypeId) (n : Nat) (z : Value) : Arr (w.alloc (.cells (madeCells #[z] n) T)) w.heap.size T n (fun _ => z) := by
  refine ⟨_, Blk.new w _ _, by simp [madeCells], fun k hk => ?_⟩
  simp [madeCells, hk, Nat.mod_one]
end
theorem cut_of (x : Int) (n : Int) (hn : 1 ≤ n) (hm : n ≤ 9223372036854775807) : ∃ K : Nat, wrap64 ((IntKind.u64.wrap x).tmod n) = (K : Int) ∧ (K : Int) < n := by
  have h0 : 0 ≤ IntKind.u64.wrap x := by rw [IntKind.wrap_u64]; omega
  rw [Int.tmod_eq_emod_of_nonneg h0]
  have h1 := Int.emod_nonneg (IntKind.u64.wrap x) (b := n) (by omega)
  have h2 := Int.emod_lt_of_pos (IntKind.u64.wrap x) (b := n) (by omega)
  generalize IntKind.u64.wrap x % n = z at h1 h2 ⊢
  exact ⟨z.toNat, by unfold wrap64; omega, by omega⟩
end Go.Proofs.YtkeocnhndnbamaaGreat.Mem
namespace Go.Proofs.YtkeocnhndnbamaaGreat.Mem
set_option maxRecDepth 100000
open Go.RowKit Go.ChangeShapes Go.WideShapes Go.Deep

/-- zs, a row of integers in memory -/
def Ints (w : World) (a : Option Addr) (n : Nat) (zs : List Int) : Prop :=
  zs.length = n ∧ (∀ z ∈ zs, -9223372036854775808 ≤ z ∧ z ≤ 9223372036854775807) ∧ (0 < n → ∃ b off, a = some ⟨b, off, none⟩ ∧ b < w.heap.size ∧ ∀ i, i < n → w.cell? ⟨b, off + i, none⟩ = some (.int .i64 (zs.getD i 0)))
section
variable {w w' : World} {a : Option Addr} {n : Nat} {zs : List Int}
theorem Ints.nil (w : World) (a : Option Addr) : Ints w a 0 [] := ⟨rfl, by simp, fun h => absurd h (Nat.lt_irrefl 0)⟩
theorem Ints.below (h : Ints w a n zs) (hb : Below w.heap.size w w') : Ints w' a n zs := by
  obtain ⟨h1, h2, h3⟩ := h
  refine ⟨h1, h2, fun hn => ?_⟩
  obtain ⟨b, off, ha, hlt, hc⟩ := h3 hn
  exact ⟨b, off, ha, Nat.lt_of_lt_of_le hlt hb.size, fun i hi => (hb.cell (p := ⟨b, off + i, none⟩) hlt).trans (hc i hi)⟩
theorem Ints.drewN (h : Ints w a n zs) (q : Nat) : Ints (w.drewN q) a n zs := h
theorem Ints.at_ (h : Ints w a n zs) {k : Nat} (hk : k < n) : ∃ b off z, a = some ⟨b, off, none⟩ ∧ b < w.heap.size ∧ zs.getD k 0 = z ∧ w.cell? ⟨b, off + k, none⟩ = some (.int .i64 z) ∧ -9223372036854775808 ≤ z ∧ z ≤ 9223372036854775807 := by
  obtain ⟨h1, h2, h3⟩ := h
  obtain ⟨b, off, ha, hlt, hc⟩ := h3 (by omega)
  have hl : k < zs.length := by omega
  have e : zs.getD k 0 = zs[k] := by simp [List.getD, hl]
  have := h2 (zs.getD k 0) (by rw [e]; exact List.getElem_mem hl)
  exact ⟨b, off, _, ha, hlt, rfl, hc k hk, this.1, this.2⟩
theorem fits_i64 {a : Int} (h : (Lit.int .i64 a).wf = true) : -9223372036854775808 ≤ a ∧ a ≤ 9223372036854775807 := by
  unfold Lit.wf at h; simp [IntKind.min, IntKind.max, IntKind.signed, IntKind.bits] at h; omega
variable {H : Type} {enc : TypeId × Value → H} {base : Nat} {spare : Nat → Bool} {held : Bool}
end
end Go.Proofs.YtkeocnhndnbamaaGreat.Mem
namespace Go.Proofs.YtkeocnhndnbamaaGreat.Mend
set_option maxRecDepth 100000
open Go.RowKit Go.Joins Go.ChangeShapes Go.WideShapes Go.Deep
open Go.Proofs.YtkeocnhndnbamaaGreat.Mem
structure AR where
  kd : Int
  cl : Int
  pg : Int
  sl : Int
  d : ByteArray
def noAR : AR := ⟨0, 0, 0, 0, ⟨#[]⟩⟩
instance : Inhabited AR := ⟨noAR⟩
def ARGood (x : AR) : Prop := -9223372036854775808 ≤ x.kd ∧ x.kd ≤ 9223372036854775807 ∧ -9223372036854775808 ≤ x.cl ∧ x.cl ≤ 9223372036854775807 ∧ -9223372036854775808 ≤ x.pg ∧ x.pg ≤ 9223372036854775807 ∧ -9223372036854775808 ≤ x.sl ∧ x.sl ≤ 9223372036854775807 ∧ x.d.size ≤ 140737488351232
/-- the cells of the i-th -/
def ARAt (w : World) (b off i : Nat) (x : AR) : Prop := w.cell? ⟨b, off + i * 5, none⟩ = some (.int .i64 x.kd) ∧ w.cell? ⟨b, off + i * 5 + 1, none⟩ = some (.int .i64 x.cl) ∧ w.cell? ⟨b, off + i * 5 + 1 + 1, none⟩ = some (.int .i64 x.pg) ∧ w.cell? ⟨b, off + i * 5 + 1 + 1 + 1, none⟩ = some (.int .i64 x.sl) ∧ w.cell? ⟨b, off + i * 5 + 1 + 1 + 1 + 1, none⟩ = some (.string x.d)
def ARs (w : World) (a : Option Addr) (n : Nat) (xs : List AR) : Prop :=
  xs.length = n ∧ (∀ x ∈ xs, ARGood x) ∧ (0 < n → ∃ b off, a = some ⟨b, off, none⟩ ∧ b < w.heap.size ∧ ∀ i, i < n → ARAt w b off i (xs.getD i noAR))
theorem ARs.below {w w' : World} {a : Option Addr} {n : Nat} {xs : List AR} (h : ARs w a n xs) (hb : Below w.heap.size w w') : ARs w' a n xs := by
  obtain ⟨h1, h2, h3⟩ := h
  refine ⟨h1, h2, fun hn => ?_⟩
  obtain ⟨b, off, ha, hlt, hc⟩ := h3 hn
  refine ⟨b, off, ha, Nat.lt_of_lt_of_le hlt hb.size, fun i hi => ?_⟩
  obtain ⟨c0, c1, c2, c3, c4⟩ := hc i hi
  exact ⟨(hb.cell (p := ⟨b, off + i * 5, none⟩) hlt).trans c0, (hb.cell (p := ⟨b, off + i * 5 + 1, none⟩) hlt).trans c1, (hb.cell (p := ⟨b, off + i * 5 + 1 + 1, none⟩) hlt).trans c2, (hb.cell (p := ⟨b, off + i * 5 + 1 + 1 + 1, none⟩) hlt).trans c3, (hb.cell (p := ⟨b, off + i * 5 + 1 + 1 + 1 + 1, none⟩) hlt).trans c4⟩
theorem ARs.at_ {w : World} {a : Option Addr} {n k : Nat} {xs : List AR} (h : ARs w a n xs) (hk : k < n) :
    ∃ b off x, a = some ⟨b, off, none⟩ ∧ b < w.heap.size ∧ xs.getD k noAR = x ∧ ARAt w b off k x ∧ ARGood x := by
  obtain ⟨h1, h2, h3⟩ := h
  obtain ⟨b, off, ha, hlt, hc⟩ := h3 (by omega)
  have hl : k < xs.length := by omega
  have e : xs.getD k noAR = xs[k] := by simp [List.getD, hl]
  exact ⟨b, off, _, ha, hlt, rfl, hc k hk, by rw [e]; exact h2 _ (List.getElem_mem hl)⟩
section
variable {H : Type} {enc : TypeId × Value → H} {w : World} {base : Nat} {spare : Nat → Bool} {held : Bool}
theorem weights_all_in {P : Program} {e : TypeId} {d : DataW H} : ∀ {ds : List (DataW H)}, d ∈ ds → ∀ n ∈ d.weights P e, n ∈ DataW.weightsAll P e ds
  | x :: r, h, n, hn => by
    simp only [DataW.weightsAll, List.mem_append]
    rcases List.mem_cons.1 h with rfl | h
    · exact .inl hn
    · exact .inr (weights_all_in h n hn)
theorem open_aR_cells {fuel : Nat} {cs : List Value} {x : DataW H × List MemPlace} (h : DataW.trod enc Tryz.prog w base spare held fuel 79 cs = some x) (hw : ∀ n ∈ x.1.weights Tryz.prog 79, n ≤ reachBytes) :
    ∃ y : AR, cs = [.int .i64 y.kd, .int .i64 y.cl, .int .i64 y.pg, .int .i64 y.sl, .string y.d] ∧ ARGood y := by
  obtain ⟨xs, n, _, hx, hcl, hxl, hf⟩ := DataW.trod_struct Tryz.underlying79 h
  have hl : cs.length = 5 := hcl.trans (by kernel_rfl)
  obtain ⟨c0, c1, c2, c3, c4, rfl⟩ : ∃ c0 c1 c2 c3 c4, cs = [c0, c1, c2, c3, c4] := by
    rcases cs with _ | ⟨c0, _ | ⟨c1, _ | ⟨c2, _ | ⟨c3, _ | ⟨c4, _ | ⟨c5, r⟩⟩⟩⟩⟩⟩ <;> simp at hl
    exact ⟨c0, c1, c2, c3, c4, rfl⟩
  have h0 := hf 0 _ rfl
  have h1 := hf 1 _ rfl
  have h2 := hf 2 _ rfl
  have h3 := hf 3 _ rfl
  have h4 := hf 4 _ rfl
  have k0 : Tryz.prog.cellsOf 3 = 1 := by kernel_rfl
  have k1 : Tryz.prog.cellsOf 3 = 1 := by kernel_rfl
  have k2 : Tryz.prog.cellsOf 3 = 1 := by kernel_rfl
  have k3 : Tryz.prog.cellsOf 3 = 1 := by kernel_rfl
  have k4 : Tryz.prog.cellsOf 9 = 1 := by kernel_rfl
  simp only [List.getElem_toArray, List.getElem_cons_zero, List.getElem_cons_succ, k0, k4, List.drop_zero, List.take_succ_cons, List.take_zero, List.drop_succ_cons] at h0 h1 h2 h3 h4
  have hlen : xs.length = 5 := hxl
  obtain ⟨y0, y1, y2, y3, y4, rfl⟩ : ∃ y0 y1 y2 y3 y4, xs = [y0, y1, y2, y3, y4] := by
    rcases xs with _ | ⟨y0, _ | ⟨y1, _ | ⟨y2, _ | ⟨y3, _ | ⟨y4, _ | ⟨y5, r⟩⟩⟩⟩⟩⟩ <;> simp at hlen
    exact ⟨y0, y1, y2, y3, y4, rfl⟩
  obtain ⟨z0, e0, _, w0⟩ := DataW.trod_int Tryz.underlying3 h0
  obtain ⟨z1, e1, _, w1⟩ := DataW.trod_int Tryz.underlying3 h1
  obtain ⟨z2, e2, _, w2⟩ := DataW.trod_int Tryz.underlying3 h2
  obtain ⟨z3, e3, _, w3⟩ := DataW.trod_int Tryz.underlying3 h3
  obtain ⟨z4, e4, s4, _⟩ := DataW.trod_string Tryz.underlying9 h4
  simp only [List.cons.injEq, and_true] at e0 e1 e2 e3 e4
  subst e0 e1 e2 e3 e4
  have g0 := fits_i64 w0
  have g1 := fits_i64 w1
  have g2 := fits_i64 w2
  have g3 := fits_i64 w3
  have g4 : z4.size ≤ 140737488351232 := by
    have := hw z4.data.toList.length (by
      rw [hx]
      simp only [DataW.weights, Tryz.underlying79]
      refine DataW.weights_mem_each (j := 4) (t := 9) (d := y4.1) rfl rfl _ ?_
      rw [s4]; simp [DataW.weights])
    unfold reachBytes at this
    simpa using this
  exact ⟨⟨z0, z1, z2, z3, z4⟩, rfl, ⟨g0.1, g0.2, g1.1, g1.2, g2.1, g2.2, g3.1, g3.2, g4⟩⟩
theorem open_aRs_cells {fuel : Nat} {cs : List Value} {x : DataW H × List MemPlace} (h : DataW.trod enc Tryz.prog w base spare held fuel 22 cs = some x) (hw : ∀ n ∈ x.1.weights Tryz.prog 22, n ≤ reachBytes) :
    ∃ a n c ps, cs = [.slice a n c] ∧ ARs w a n ps := by
  rcases open_slice Tryz.underlying22 h with ⟨rfl, _⟩ | ⟨a, len, cap, m, n, D, Pl, hcs, hb, hl, hm, hmm, hx, hi⟩
  · exact ⟨none, 0, 0, [], rfl, rfl, by simp, fun h => absurd h (Nat.lt_irrefl 0)⟩
  · have hml : len ≤ m := by rw [hmm]; split <;> omega
    have hone : ∀ i, i < len → ∃ y : AR, w.cells? base (a.add (i * 5)) 5 = some [.int .i64 y.kd, .int .i64 y.cl, .int .i64 y.pg, .int .i64 y.sl, .string y.d] ∧ ARGood y := by
      intro i hil
      obtain ⟨cs', hc, ht⟩ := hi i (by omega)
      have k2 : Tryz.prog.cellsOf 79 = 5 := by kernel_rfl
      rw [k2] at hc
      obtain ⟨s, rfl, hs⟩ := open_aR_cells ht (fun n hn => hw n (by
        rw [hx]
        simp only [DataW.weights, Tryz.underlying22]
        refine List.mem_cons_of_mem _ (List.mem_append.2 (.inl (weights_all_in (d := D i) ?_ n hn)))
        exact List.mem_map.2 ⟨i, List.mem_range.2 hil, rfl⟩))
      exact ⟨s, hc, hs⟩
    obtain ⟨f, hf⟩ := choose_lt hone
    refine ⟨some a, len, cap, (List.range len).map f, hcs, by simp, ?_, fun hn => ?_⟩
    · intro y hy
      obtain ⟨i, hir, rfl⟩ := List.mem_map.1 hy
      exact (hf i (List.mem_range.1 hir)).2
    · obtain ⟨b, off, spot⟩ := a
      have hcell : ∀ i, i < len → w.cell? ((Addr.mk b off spot).add (i * 5)) = some (.int .i64 (f i).kd) ∧ w.cell? ((Addr.mk b off spot).add (i * 5 + 1)) = some (.int .i64 (f i).cl) ∧ w.cell? ((Addr.mk b off spot).add (i * 5 + 2)) = some (.int .i64 (f i).pg) ∧ w.cell? ((Addr.mk b off spot).add (i * 5 + 3)) = some (.int .i64 (f i).sl) ∧ w.cell? ((Addr.mk b off spot).add (i * 5 + 4)) = some (.string (f i).d) := by
        intro i hil
        obtain ⟨_, _, hat⟩ := World.cells?_some (hf i hil).1
        have h0 := hat 0 (by simp)
        have h1 := hat 1 (by simp)
        have h2 := hat 2 (by simp)
        have h3 := hat 3 (by simp)
        have h4 := hat 4 (by simp)
        rw [add_add] at h0 h1 h2 h3 h4
        exact ⟨by simpa using h0, by simpa using h1, by simpa using h2, by simpa using h3, by simpa using h4⟩
      have hc0 := (hcell 0 hn).1
      have hspot : spot = none := by
        have := World.cell?_spot hc0
        simpa [Addr.add] using this
      subst hspot
      refine ⟨b, off, rfl, ?_, fun i hil => ?_⟩
      · have := World.block_lt_of_cell? w _ hc0
        simpa [Addr.add] using this
      · have e : ((List.range len).map f).getD i noAR = f i := by simp [List.getD, hil]
        rw [e]
        have ea : ∀ j, (Addr.mk b off none).add j = ⟨b, off + j, none⟩ := fun j => by unfold Addr.add; split <;> simp_all
        have := hcell i hil
        rw [ea, ea, ea, ea, ea] at this
        exact this
theorem open_aRs {r : Reach} {b0 : Nat} {v : Value} {d : DataW H} {p : List MemPlace} (hv : Value.okWide Tryz.prog w r b0 22 v) (h : DataW.Trod enc Tryz.prog w base spare held 22 v d p) (hw : ∀ n ∈ d.weights Tryz.prog 22, n ≤ reachBytes) :
    ∃ a n c ps, v = .slice a n c ∧ ARs w a n ps := by
  obtain ⟨fuel, hf⟩ := h
  obtain ⟨a, len, cap, rfl⟩ := okWide_slice Tryz.underlying22 hv
  obtain ⟨a', n, c, ps, e, hp⟩ := open_aRs_cells (x := (d, p)) (by simpa [Value.cells] using hf) hw
  simp at e
  obtain ⟨rfl, rfl, rfl⟩ := e
  exact ⟨_, _, _, ps, rfl, hp⟩
end
end Go.Proofs.YtkeocnhndnbamaaGreat.Mend
