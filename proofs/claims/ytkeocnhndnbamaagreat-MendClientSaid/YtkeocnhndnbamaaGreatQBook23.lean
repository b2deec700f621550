/- A log without entries, made: the statements' own born. An entry more in a log, in memory: what each store leaves. -/
import Derived.Test.YtkeocnhndnbamaaGreatQBook11
import Derived.Test.YtkeocnhndnbamaaGreatQPastTake
import Derived.Deep.RegionLaw
import Derived.Test.YtkeocnhndnbamaaGreatQMendUndo
namespace Go.Proofs.YtkeocnhndnbamaaGreat.Mend
set_option maxRecDepth 100000
open Go.RowKit Go.Sort
open Go.Proofs.YtkeocnhndnbamaaGreat.Mem
open Go.Proofs.YtkeocnhndnbamaaGreat.Past (AppRes cellsG cellsG_len run_appW wpList_runG own_at below_grown own_ge step_known)
theorem info_lfB : (Tryz.prog.info? 54).map (fun i => (i.zero, i.size, i.bytes)) = some (some (.agg #[.int .i64 0, .int .i64 0, .slice none 0 0]), 3, 40) := by kernel_rfl
theorem info_lfs : (Tryz.prog.info? 30).map (fun i => (i.zero, i.size, i.bytes)) = some (some (.slice none 0 0), 1, 24) := by kernel_rfl
def lfV (n : Nat) : List Value := [.int .i64 (n : Int), .int .i64 0, .slice none 0 0]
section
variable {w : World} {ops : Array Oper} {rest : List Oper} {o : Oper} {a : Act} {Q : Exit → Act → World → Prop}
/-- one thing of whatever type more -/
theorem wpList_app1 {TL T : TypeId} {z : Value} {size bytes : Nat} (ht : Tryz.prog.underlying TL = some (.slice T)) (hI : (Tryz.prog.info? T).map (fun i => (i.zero, i.size, i.bytes)) = some (some z, size, bytes)) (hzs : z.cells.size = size) (hsz : 0 < size) (hby : bytes ≤ 120)
    (hgd : o.guard = none) (s x : Operand) (ho : o.op = .call { callee := .builtin .append, args := #[s, x], argTypes := #[TL, TL] }) (B : Nat)
    (v : Value) (n : Nat) (xs : List Value) (hs : a.eval s = v) (hown : w.ownsRow B T size v n xs) (vb : Nat) (hx : a.eval x = .slice (some ⟨vb, 0, none⟩) 1 1) (ys : Array Value) (hb : Blk w vb T ys) (hys : ys.size = size) (h1 : ∀ u ∈ ys.toList, u.oneCell' = true) (hn : n + 1 ≤ 1000000) (hB : B ≤ w.heap.size)
    (hK : ∀ v' w', AppRes w w' B T size v v' (n + 1) (xs ++ ys.toList) → wpList Tryz.prog ops Q rest (a.put o.dst v') w') : wpList Tryz.prog ops Q (o :: rest) a w := by
  obtain ⟨v', w', hr, h2⟩ := run_appW (ty := o.type) ht hI hzs hsz hby hown (some ⟨vb, 0, none⟩) 1 1 ys.toList (by rw [Array.length_toList, hys, Nat.one_mul]) (fun _ => ⟨_, rfl, fun j u hj => by
      rw [Addr.add_lit, Nat.zero_add, hb.cell]; simpa using hj⟩) h1 hn hB
  exact wpList_runG hgd s x ho hs hx hr (hK v' w' h2)
end
def bornA (nv av : Value) (j : Nat) : Array Value := #[.slice none 0 0, nv, av, .int .i64 0, .int .i64 0, .int .i64 0, .int .i64 0,
  .int .i64 0, .int .i64 (if 1 < j then 1 else 0), .int .i64 (if 2 < j then 1 else 0), .int .i64 (if 3 < j then 1 else 0), .int .i64 (if 4 < j then 1 else 0), .int .i64 0, .int .i64 0, .int .i64 0, .int .i64 0, .int .i64 0]
theorem born_set (nv av : Value) {j : Nat} (h1 : 1 ≤ j) (h2 : j < 5) : (bornA nv av j).setIfInBounds (7 + j) (.int .i64 1) = bornA nv av (j + 1) := by
  rcases (show j = 1 ∨ j = 2 ∨ j = 3 ∨ j = 4 by omega) with rfl | rfl | rfl | rfl <;> rfl
structure Bn1 (w wr : World) (u : Nat) (nv : Value) (j : Nat) : Prop where
  blk : Blk wr u 34 (bornA nv (.slice none 0 0) 1)
  row : wr.ownsRow w.heap.size 54 3 nv j (cellsG lfV (List.range j))
  bel : Below w.heap.size w wr
theorem step_gen {W w : World} {ops : Array Oper} {o : Oper} {a : Act} {K : Act → World → Prop} {Q : Exit → Act → World → Prop} {E : Prop} {TL T : TypeId} {z : Value} {size bytes : Nat} (ht : Tryz.prog.underlying TL = some (.slice T)) (hI : (Tryz.prog.info? T).map (fun i => (i.zero, i.size, i.bytes)) = some (some z, size, bytes)) (hzs : z.cells.size = size) (hsz : 0 < size) (hby : bytes ≤ 120)
    (hg : o.guard = none) (s x : Operand) (hop : o.op = .call { callee := .builtin .append, args := #[s, x], argTypes := #[TL, TL] }) (B : Nat) (v : Value) (n : Nat) (xs : List Value) (hs : a.eval s = v) (vb : Nat) (hx : a.eval x = .slice (some ⟨vb, 0, none⟩) 1 1) (ys : Array Value) (hP : Below W.heap.size W w ∧ Blk w vb T ys)
    (hys : ys.size = size) (h1 : ∀ u ∈ ys.toList, u.oneCell' = true) (hown : W.ownsRow B T size v n xs) (hn : n + 1 ≤ 1000000) (hB : B ≤ W.heap.size)
    (hK : ∀ v' w', Below W.heap.size W w → AppRes w w' B T size v v' (n + 1) (xs ++ ys.toList) → K (a.put o.dst v') w') :
    if Region.wanted o (yielded ops a.tmps) = true then Oper.wp Tryz.prog o a w K Q else E := by
  obtain ⟨v', w', hr, h2⟩ := run_appW (ty := o.type) ht hI hzs hsz hby (own_below hown hP.1) (some ⟨vb, 0, none⟩) 1 1 ys.toList (by rw [Array.length_toList, hys, Nat.one_mul]) (fun _ => ⟨_, rfl, fun j u hj => by
      rw [Addr.add_lit, Nat.zero_add, hP.2.cell]; simpa using hj⟩) h1 hn (Nat.le_trans hB hP.1.size)
  exact step_known hg s x TL TL hop v (.slice (some ⟨vb, 0, none⟩) 1 1) hs hx hr (hK v' w' hP.1 h2)
structure Bn2 (w wr : World) (u : Nat) (nv av : Value) (j : Nat) : Prop where
  blk : Blk wr u 34 (bornA nv av j)
  row : wr.ownsRow w.heap.size 54 3 nv 4 (cellsG lfV (List.range 4))
  all : wr.ownsRow w.heap.size 30 1 av 1 [nv]
  bel : Below w.heap.size w wr
theorem Bn2.fin {w wr : World} {u : Nat} {nv av : Value} (h : Bn2 w wr u nv av 5) : PM wr w.heap.size u (fun k => nv.ownBlock = some k) (.slice none 0 0) nv av bornP := by
  obtain ⟨g, cap, e, eo, hg, hc⟩ := own_pos h.row (by decide)
  have hN : NowR (fun k => nv.ownBlock = some k) wr nv bornP.now := by
    refine ⟨g, cap, e, eo, hg, fun i hi => ?_⟩
    have hcell : ∀ j, j < 3 → wr.cell? ⟨g, i * 3 + j, none⟩ = (lfV i)[j]? := fun j hj => by
      have := hc (i * 3 + j) (by omega)
      rw [this]
      exact Past.cellsG_at (f := lfV) (m := 3) (fun _ => rfl) (List.range 4) i i (by rw [List.getElem?_range hi]) j hj
    exact ⟨none, 0, 0, (hcell 0 (by omega)).trans rfl, (hcell 1 (by omega)).trans rfl, (hcell 2 (by omega)).trans rfl, ⟨rfl, fun x hx => (nomatch hx), fun h => absurd h (Nat.lt_irrefl 0)⟩, Nat.zero_le _, fun b off e h => (by cases h)⟩
  refine ⟨h.blk, own_nil _ _ _ _, fun x hx => (nomatch hx), hN, ⟨[nv], rfl, h.all, fun k v nw e1 e2 => ?_⟩, own_ty h.row h.blk (by decide), fun g hg => (by cases hg), fun g hg => own_own h.all h.row (by decide) g hg, fun g hg => own_lt h.row hg⟩
  cases k with
  | zero =>
    have e1 : nv = v := by simpa using e1
    have e2 : bornP.now = nw := by simpa [bornP] using e2
    rw [← e1, ← e2]; exact hN
  | succ k => simp at e1
set_option maxRecDepth 100000 in
set_option maxHeartbeats 4000000 in
theorem born_any (w : World) : Calls Tryz.prog 25 #[] w fun e w' => ∃ u M lv nv av, e = .returned (.pointer (some ⟨u, 0, none⟩)) ∧ PM w' w.heap.size u M lv nv av bornP ∧ w.heap.size ≤ u ∧ Below w.heap.size w w' := by
  go_enter Tryz.func25, Tryz.ntmps25
  go_upto_region 2 with (fail)
  have H0 := Lib.hid (show Bn1 w (w.alloc (.cells #[.slice none 0 0, .slice none 0 0, .slice none 0 0, .int .i64 0, .int .i64 0, .int .i64 0, .int .i64 0, .int .i64 0, .int .i64 0, .int .i64 0, .int .i64 0, .int .i64 0, .int .i64 0, .int .i64 0, .int .i64 0, .int .i64 0, .int .i64 0] 34)) w.heap.size (.slice none 0 0) 0 from ⟨Blk.new w _ _, own_nil _ _ _ _, Ent.below_box w _⟩)
  obtain ⟨u, hu⟩ : ∃ u, w.heap.size = u := ⟨_, rfl⟩
  have HU := Lib.hid hu
  generalize w.alloc (.cells #[.slice none 0 0, .slice none 0 0, .slice none 0 0, .int .i64 0, .int .i64 0, .int .i64 0, .int .i64 0, .int .i64 0, .int .i64 0, .int .i64 0, .int .i64 0, .int .i64 0, .int .i64 0, .int .i64 0, .int .i64 0, .int .i64 0, .int .i64 0] 34) = w1 at H0 ⊢
  rw [hu]
  simp only [hu] at H0
  clear hu
  go_wp2
  go_loopw [2] (fun iv wr => ∃ (j : Nat) (nv : Value), j ≤ 4 ∧ iv = .int .i64 (j : Int) ∧ Hid (Bn1 w wr u nv j)) (fun iv _ => 4 - intN iv)
  case atStart => exact ⟨0, _, by omega, rfl, H0⟩
  case round =>
    clear H0
    obtain ⟨j, nv, hj, rfl, H⟩ := hrel
    obtain ⟨na, nc, rfl⟩ := own_shape H.out.row
    by_cases hjl : j < 4
    · as_aux_lemma =>
        have hd : decide ((j : Int) < 4) = true := decide_eq_true (by omega)
        have v1 : wr.cell? ⟨u, 1, none⟩ = some (.slice na j nc) := H.out.blk.cell 1
        have hsz := H.out.bel.size
        have hbx := Ent.below_box wr (.cells #[.int .i64 (j : Int), .int .i64 0, .slice none 0 0] 54)
        go_wp2_with (at_builtin; refine wpList_app1 Tryz.underlying30 info_lfB rfl (by decide) (by decide) rfl _ _ rfl w.heap.size _ j (cellsG lfV (List.range j)) rfl (own_below H.out.row hbx) wr.heap.size rfl #[.int .i64 (j : Int), .int .i64 0, .slice none 0 0] (Blk.new wr _ _) rfl (fun z hz => by simp at hz; rcases hz with rfl | rfl | rfl <;> rfl) (by omega) (by simp; omega) ?_)
        intro v6 w6 hA
        obtain ⟨va6, vc6, rfl⟩ := own_shape hA.1
        have hblk6 : Blk w6 u 34 (bornA (.slice na j nc) (.slice none 0 0) 1) := (H.out.blk.alloc _).grown hA.2.1 (fun e => own_ty H.out.row H.out.blk (by decide) e.symm)
        have hty6 := own_ty hA.1 hblk6 (by decide)
        have H6 := Lib.hid (show Bn1 w (w6.setCell ⟨u, 1, none⟩ (.slice va6 (j + 1) vc6)) u (.slice va6 (j + 1) vc6) (j + 1) from
          ⟨hblk6.set_ 1 (.slice va6 (j + 1) vc6), by
            have h1 := own_set hA.1 hty6 1 (.slice va6 (j + 1) vc6)
            rw [show cellsG lfV (List.range (j + 1)) = cellsG lfV (List.range j) ++ #[Value.int .i64 (j : Int), .int .i64 0, .slice none 0 0].toList by rw [List.range_succ]; unfold cellsG; rw [List.flatMap_append]; rfl]
            exact h1, (below_grown (below_go H.out.bel hbx) (by simp; omega) hA.2.1 fun k e => own_ge H.out.row e).setCell (p := ⟨u, 1, none⟩) (by rw [HU.out]; exact Nat.le_refl u) _⟩)
        have f1 := hblk6.frozen 1
        have c1 : w6.cell? ⟨u, 1, none⟩ = some (.slice na j nc) := hblk6.cell 1
        clear hblk6 hty6 hA hbx v1
        go_wp2
        go_roundw
        case rel => exact ⟨j + 1, _, by omega, by go_num, H6⟩
        case measure => simp [intN]; omega
    · obtain rfl : j = 4 := by omega
      have hd : decide ((4 : Int) < 4) = false := by decide
      have HO := Lib.hid (own_nil wr w.heap.size 30 1)
      have HBW := Lib.hid (H.out.bel.size)
      have v1 : wr.cell? ⟨u, 1, none⟩ = some (.slice na 4 nc) := H.out.blk.cell 1
      have v2 : wr.cell? ⟨u, 2, none⟩ = some (.slice none 0 0) := H.out.blk.cell 2
      have hbx := Ent.below_box wr (.cells #[.slice na 4 nc] 30)
      have hblk := Blk.new wr 30 #[.slice na 4 nc]
      have v3 : (wr.alloc (.cells #[.slice na 4 nc] 30)).cell? ⟨u, 1, none⟩ = some (.slice na 4 nc) := (H.out.blk.alloc _).cell 1
      have v4 : (wr.alloc (.cells #[.slice na 4 nc] 30)).cell? ⟨u, 2, none⟩ = some (.slice none 0 0) := (H.out.blk.alloc _).cell 2
      have FIN := Lib.hid (show ∀ (wa w5 : World) (v5 : Value), Below wr.heap.size wr wa → AppRes wa w5 w.heap.size 30 1 (.slice none 0 0) v5 (0 + 1) ([] ++ #[Value.slice na 4 nc].toList) →
          (w5.cell? ⟨u, 2, none⟩ = some (.slice none 0 0) ∧ w5.frozen? ⟨u, 2, none⟩ = false) ∧ Bn2 w (w5.setCell ⟨u, 2, none⟩ v5) u (.slice na 4 nc) v5 1 from fun wa w5 v5 hb hA => by
        have h5 : Blk w5 u 34 (bornA (.slice na 4 nc) (.slice none 0 0) 1) := (H.out.blk.below hb H.out.blk.lt).grown hA.2.1 (fun e => by cases e)
        refine ⟨⟨h5.cell 2, h5.frozen 2⟩, h5.set_ 2 v5, ?_, own_set hA.1 (own_ty hA.1 h5 (by decide)) 2 v5, ?_⟩
        · exact own_set (own_same H.out.row fun g hg => (hA.2.1.block g (Nat.lt_of_lt_of_le (own_lt H.out.row hg) hb.size) (fun e => by cases e)).trans (hb.block g (own_lt H.out.row hg))) (own_ty H.out.row H.out.blk (by decide)) 2 v5
        · exact (below_grown (below_go H.out.bel hb) (Nat.le_trans H.out.bel.size hb.size) hA.2.1 (fun k e => by cases e)).setCell (p := ⟨u, 2, none⟩) (by rw [HU.out]; exact Nat.le_refl u) _)
      have hbx := Lib.hid hbx
      have hblk := Lib.hid hblk
      go_upto_region 6 with (fail)
      go_region_law (refine step_gen (W := wr) Tryz.underlying31 info_lfs rfl (by decide) (by decide) rfl (.tmp 25) (.tmp 30) rfl w.heap.size (.slice none 0 0) 0 [] (by simp [Act.eval]) wr.heap.size (by simp [Act.eval]) #[.slice na 4 nc] ?hp rfl (fun z hz => by simp at hz; subst hz; rfl) HO.out (by decide) HBW.out ?_; (case hp => first | exact ⟨hbx.out.drew, hblk.out⟩ | exact ⟨hbx.out, hblk.out⟩); intro v5 w5 hb5 hA5; have HE := Lib.hid (FIN.out _ _ _ hb5 hA5); obtain ⟨a5, c5, e5⟩ := own_shape hA5.1; subst e5; have k5 := HE.out.1.1; have f5 := HE.out.1.2; clear hb5 hA5)
      all_goals
        have H2 := Lib.hid HE.out.2
        clear v1 v2 v3 v4 k5 f5 HE FIN
        go_wp2
        go_loopw [3] (fun iv wr => ∃ j : Nat, 1 ≤ j ∧ j ≤ 5 ∧ iv = .int .i64 (j : Int) ∧ Hid (Bn2 w wr u (.slice na 4 nc) (.slice a5 (0 + 1) c5) j)) (fun iv _ => 5 - intN iv)
        case atStart => exact ⟨1, by omega, by omega, rfl, H2⟩
        case round =>
          clear H2
          obtain ⟨j, hj1, hj, rfl, H2⟩ := hrel
          by_cases hjl : j < 5
          · have hd : decide ((j : Int) < 5) = true := decide_eq_true (by omega)
            have f5 := H2.out.blk.frozen (7 + j)
            have c5' : ∃ x, wr.cell? ⟨u, 7 + j, none⟩ = some x := by
              rw [H2.out.blk.cell]
              exact ⟨_, Array.getElem?_eq_getElem (show 7 + j < 17 by omega)⟩
            obtain ⟨x5, c5'⟩ := c5'
            have H3 := Lib.hid (show Bn2 w (wr.setCell ⟨u, 7 + j, none⟩ (.int .i64 1)) u (.slice na 4 nc) (.slice a5 (0 + 1) c5) (j + 1) from
              ⟨by have := H2.out.blk.set_ (7 + j) (.int .i64 1); rwa [born_set _ _ hj1 hjl] at this, own_set H2.out.row (own_ty H2.out.row H2.out.blk (by decide)) _ _, own_set H2.out.all (own_ty H2.out.all H2.out.blk (by decide)) _ _, H2.out.bel.setCell (p := ⟨u, 7 + j, none⟩) (by rw [HU.out]; exact Nat.le_refl u) _⟩)
            go_wp2
            go_roundw
            case rel => exact ⟨j + 1, by omega, by omega, by go_num, H3⟩
            case measure => simp [intN]; omega
          · obtain rfl : j = 5 := by omega
            have hd : decide ((5 : Int) < 5) = false := by decide
            go_wp2
            exact bodyPost_ret (v := .pointer (some ⟨u, 0, none⟩)) (by simp [results, Tryz.results25, go_sem]) rfl ⟨u, _, _, _, _, rfl, H2.out.fin, by rw [HU.out]; exact Nat.le_refl _, H2.out.bel⟩
end Go.Proofs.YtkeocnhndnbamaaGreat.Mend
namespace Go.Proofs.YtkeocnhndnbamaaGreat.Mend
set_option maxRecDepth 100000
open Go.RowKit Go.Sort
open Go.Proofs.YtkeocnhndnbamaaGreat.Mem
open Go.Proofs.YtkeocnhndnbamaaGreat.Slab (Slot Slots)
open Go.Proofs.YtkeocnhndnbamaaGreat.Ent (Ent goodB Ents SmallE cellsE noE)
open Go.Proofs.YtkeocnhndnbamaaGreat.Past (T3 txE AppRes cellsG cellsG_len cellsG_at run_appW wpList_runG)
open Go.Proofs.YtkeocnhndnbamaaGreat.MLog (upd upd_same upd_ne)
/-- a log in memory -/
def PQ (w : World) (B u : Nat) (p : PD) : Prop := ∃ M lv nv av, PM w B u M lv nv av p ∧ B ≤ u
theorem PQ.below {w w' : World} {B u : Nat} {p : PD} (h : PQ w B u p) (hb : Below w.heap.size w w') : PQ w' B u p := by
  obtain ⟨M, lv, nv, av, h, hu⟩ := h
  exact ⟨M, lv, nv, av, h.below hb, hu⟩
theorem own_put {w : World} {B size n c g : Nat} {t : TypeId} {xs : List Value} (h : w.ownsRow B t size (.slice (some ⟨g, 0, none⟩) n c) n xs) (j : Nat) (val : Value) : (w.setCell ⟨g, j, none⟩ val).ownsRow B t size (.slice (some ⟨g, 0, none⟩) n c) n (xs.set j val) := by
  obtain ⟨hl, ⟨e, _⟩ | ⟨g', cap', cur, e, hg, hb, hn2, hc, hcs, ht⟩⟩ := h
  · cases e
  · injection e with e1 e2 e3
    injection e1 with e1
    injection e1 with e1
    subst e1 e3
    refine ⟨by rw [List.length_set]; exact hl, .inr ⟨g, c, cur.setIfInBounds j val, rfl, hg, ?_, hn2, hc, by rw [Array.size_setIfInBounds]; exact hcs, ?_⟩⟩
    · have h1 : Blk w g t cur := hb
      exact h1.set_ _ _
    · rw [Array.toList_setIfInBounds, List.take_set, ht]
theorem lf_set3 (P : List Ro) (k : Nat) (y y' : Ro) (h : P[k]? = some y) (hn : y'.x.n = y.x.n) : (((cellsG lrV P).set (k * 3) (.int .i64 y'.x.n)).set (k * 3 + 1) (.int .i64 y'.x.l)).set (k * 3 + 2) (.slice y'.a y'.n y'.c) = cellsG lrV (P.set k y') := by
  rw [show (cellsG lrV P).set (k * 3) (.int .i64 y'.x.n) = cellsG lrV P from ?_]
  · exact lf_set P k y y' h hn
  · have h1 := cellsG_at (f := lrV) (m := 3) (fun _ => rfl) P k y h 0 (by omega)
    rw [Nat.add_zero] at h1
    have h1 : (cellsG lrV P)[k * 3]? = some (.int .i64 y.x.n) := h1
    rw [hn]
    refine List.ext_getElem? fun j => ?_
    rw [List.getElem?_set]
    by_cases e : k * 3 = j
    · subst e
      rw [if_pos rfl, if_pos (List.getElem?_eq_some_iff.1 h1).1, h1]
    · rw [if_neg e]
/-- a copy of the pages -/
structure CP (w W : World) (M : Nat → Prop) (v5 : Value) (R : List Ro) (nw : Pgs) : Prop where
  bel : Below w.heap.size w W
  row : W.ownsRow w.heap.size 54 3 v5 4 (cellsG lrV R)
  len : R.length = 4
  rx : ∀ i, i < 4 → ∃ y, R[i]? = some y ∧ y.x = ⟨(i : Int), (nw i).1, (nw i).2⟩
  sl : ∀ y ∈ R, y.n ≤ 1000000 ∧ Slots W y.a y.n y.x.z ∧ ∀ b off e, y.a = some ⟨b, off, e⟩ → 0 < y.n → (M b ∨ (w.heap.size ≤ b ∧ b < W.heap.size)) ∧ v5.ownBlock ≠ some b
section
variable {w W W' : World} {M : Nat → Prop} {v5 : Value} {R : List Ro} {nw : Pgs}
theorem CP.below (h : CP w W M v5 R nw) (hb : Below W.heap.size W W') : CP w W' M v5 R nw :=
  ⟨below_go h.bel hb, own_below h.row hb, h.len, h.rx, fun y hy => ⟨(h.sl y hy).1, (h.sl y hy).2.1.below hb, fun b off e ha h0 => ⟨((h.sl y hy).2.2 b off e ha h0).1.imp id fun q => ⟨q.1, Nat.lt_of_lt_of_le q.2 hb.size⟩, ((h.sl y hy).2.2 b off e ha h0).2⟩⟩⟩
/-- the pages in a row, one by one -/
theorem NowR.rows {v : Value} (h : NowR M w v nw) : ∃ g c R, v = .slice (some ⟨g, 0, none⟩) 4 c ∧ M g ∧ g < w.heap.size ∧ R.length = 4 ∧ (∀ j, j < 12 → w.cell? ⟨g, j, none⟩ = (cellsG lrV R)[j]?) ∧ (∀ i, i < 4 → ∃ y, R[i]? = some y ∧ y.x = ⟨(i : Int), (nw i).1, (nw i).2⟩) ∧
    ∀ y ∈ R, SlotsM M w y.a y.n y.x.z := by
  obtain ⟨g, c, e, hm, hg, hc⟩ := h
  obtain ⟨a0, m0, d0, p0, q0, r0, s0⟩ := hc 0 (by omega)
  obtain ⟨a1, m1, d1, p1, q1, r1, s1⟩ := hc 1 (by omega)
  obtain ⟨a2, m2, d2, p2, q2, r2, s2⟩ := hc 2 (by omega)
  obtain ⟨a3, m3, d3, p3, q3, r3, s3⟩ := hc 3 (by omega)
  refine ⟨g, c, [⟨⟨0, (nw 0).1, (nw 0).2⟩, a0, m0, d0⟩, ⟨⟨1, (nw 1).1, (nw 1).2⟩, a1, m1, d1⟩, ⟨⟨2, (nw 2).1, (nw 2).2⟩, a2, m2, d2⟩, ⟨⟨3, (nw 3).1, (nw 3).2⟩, a3, m3, d3⟩], e, hm, hg, rfl, fun j hj => ?_, fun i hi => ?_, fun y hy => ?_⟩
  · rcases (show j = 0 ∨ j = 1 ∨ j = 2 ∨ j = 3 ∨ j = 4 ∨ j = 5 ∨ j = 6 ∨ j = 7 ∨ j = 8 ∨ j = 9 ∨ j = 10 ∨ j = 11 by omega) with rfl | rfl | rfl | rfl | rfl | rfl | rfl | rfl | rfl | rfl | rfl | rfl
    · exact p0
    · exact q0
    · exact r0
    · exact p1
    · exact q1
    · exact r1
    · exact p2
    · exact q2
    · exact r2
    · exact p3
    · exact q3
    · exact r3
  · rcases (show i = 0 ∨ i = 1 ∨ i = 2 ∨ i = 3 by omega) with rfl | rfl | rfl | rfl <;> exact ⟨_, rfl, rfl⟩
  · simp only [List.mem_cons, List.not_mem_nil, or_false] at hy
    rcases hy with rfl | rfl | rfl | rfl
    · exact s0
    · exact s1
    · exact s2
    · exact s3
/-- .. copied -/
theorem CP.start {v : Value} {W5 : World} (h : NowR M w v nw) (hmlt : ∀ k, M k → k < w.heap.size) (hg5 : ∀ g, v5.ownBlock = some g → w.heap.size ≤ g) (hb5 : Below w.heap.size w W5)
    (hrow : ∀ R : List Ro, R.length = 4 → (∀ y ∈ R, SlotsM M w y.a y.n y.x.z) → (∀ i, i < 4 → ∃ y, R[i]? = some y ∧ y.x = ⟨(i : Int), (nw i).1, (nw i).2⟩) → (∃ g c, v = .slice (some ⟨g, 0, none⟩) 4 c ∧ ∀ j, j < 12 → w.cell? ⟨g, j, none⟩ = (cellsG lrV R)[j]?) → W5.ownsRow w.heap.size 54 3 v5 4 (cellsG lrV R)) :
    ∃ R, CP w W5 M v5 R nw := by
  obtain ⟨g, c, R, e, hm, hg, hl, hc, hx, hs⟩ := h.rows
  refine ⟨R, hb5, hrow R hl hs hx ⟨g, c, e, hc⟩, hl, hx, fun y hy => ⟨(hs y hy).2.1, (hs y hy).1.below hb5, fun b off e ha h0 => ?_⟩⟩
  have hmb := (hs y hy).2.2 b off e ha h0
  exact ⟨.inl hmb, fun e2 => by have := hg5 b e2; have := hmlt b hmb; omega⟩
/-- one page of the copy is another one -/
theorem CP.put {g5 c5 : Nat} (h : CP w W M (.slice (some ⟨g5, 0, none⟩) 4 c5) R nw) {k : Nat} (hk : k < 4) {L : Int} {z : List Slot} {a : Option Addr} {n c : Nat} (hn : n ≤ 1000000) (hs : Slots W a n z)
    (hf : ∀ b off e, a = some ⟨b, off, e⟩ → w.heap.size ≤ b ∧ b ≠ g5) :
    CP w (((W.setCell ⟨g5, k * 3, none⟩ (.int .i64 (k : Int))).setCell ⟨g5, k * 3 + 1, none⟩ (.int .i64 L)).setCell ⟨g5, k * 3 + 2, none⟩ (.slice a n c)) M (.slice (some ⟨g5, 0, none⟩) 4 c5) (R.set k ⟨⟨(k : Int), L, z⟩, a, n, c⟩) (upd nw (k : Int) (L, z)) := by
  obtain ⟨y, hy, hyx⟩ := h.rx k hk
  have hg5 : w.heap.size ≤ g5 := Past.own_ge h.row rfl
  have ho : Onl g5 W (((W.setCell ⟨g5, k * 3, none⟩ (.int .i64 (k : Int))).setCell ⟨g5, k * 3 + 1, none⟩ (.int .i64 L)).setCell ⟨g5, k * 3 + 2, none⟩ (.slice a n c)) := (((Onl.refl g5 W).set_ _ _).set_ _ _).set_ _ _
  refine ⟨((h.bel.setCell (p := ⟨g5, _, none⟩) hg5 _).setCell (p := ⟨g5, _, none⟩) hg5 _).setCell (p := ⟨g5, _, none⟩) hg5 _, ?_, by rw [List.length_set]; exact h.len, fun i hi => ?_, fun q hq => ?_⟩
  · rw [← lf_set3 R k y ⟨⟨(k : Int), L, z⟩, a, n, c⟩ hy (by rw [hyx])]
    exact own_put (own_put (own_put h.row _ _) _ _) _ _
  · by_cases e : k = i
    · subst e
      exact ⟨_, by rw [List.getElem?_set, if_pos rfl, if_pos (by rw [h.len]; exact hk)], by rw [upd_same]⟩
    · obtain ⟨q, hq, hqx⟩ := h.rx i hi
      exact ⟨q, by rw [List.getElem?_set, if_neg e]; exact hq, by rw [upd_ne _ _ (by omega)]; exact hqx⟩
  · have hq2 : q.n ≤ 1000000 ∧ Slots W q.a q.n q.x.z ∧ ∀ b off e, q.a = some ⟨b, off, e⟩ → 0 < q.n → (M b ∨ (w.heap.size ≤ b ∧ b < W.heap.size)) ∧ b ≠ g5 := by
      obtain ⟨j, hj⟩ := List.mem_iff_getElem?.1 hq
      rw [List.getElem?_set] at hj
      by_cases e : k = j
      · rw [if_pos e] at hj
        split at hj
        · injection hj with hj
          subst hj
          refine ⟨hn, hs, fun b off e ha h0 => ?_⟩
          obtain ⟨b', off', ha', hlt, -⟩ := hs.2.2 h0
          have ha : a = some ⟨b, off, e⟩ := ha
          have hff := hf b off e ha
          rw [ha] at ha'
          cases ha'
          exact ⟨.inr ⟨hff.1, hlt⟩, hff.2⟩
        · cases hj
      · rw [if_neg e] at hj
        obtain ⟨q1, q2, q3⟩ := h.sl q (List.mem_of_getElem? hj)
        exact ⟨q1, q2, fun b off e ha h0 => ⟨(q3 b off e ha h0).1, fun e2 => (q3 b off e ha h0).2 (by rw [e2]; rfl)⟩⟩
    obtain ⟨q1, q2, q3⟩ := hq2
    refine ⟨q1, slots_same q2 (by simp) fun b off e ha h0 => ho.block b (q3 b off e ha h0).2, fun b off e ha h0 => ⟨by have := (q3 b off e ha h0).1; simpa using this, fun e2 => (q3 b off e ha h0).2 (by injection e2 with e2; exact e2.symm)⟩⟩
end
/-- the log while it is turned; S: what nobody changes any more -/
structure PA (w W6 W : World) (B u : Nat) (M : Nat → Prop) (cs : Array Value) (lv av : Value) (L : List Ent) (vs : List Value) : Prop where
  keep : Keep (fun k => M k ∨ (w.heap.size ≤ k ∧ k < W6.heap.size)) W6 W
  bel : Below B w W
  blk : Blk W u 34 cs
  list : W.ownsRow B 58 13 lv L.length (cellsE L)
  all : W.ownsRow B 30 1 av vs.length vs
  lvb : ∀ g, lv.ownBlock = some g → ¬ (M g ∨ (w.heap.size ≤ g ∧ g < W6.heap.size))
  avb : ∀ g, av.ownBlock = some g → ¬ (M g ∨ (w.heap.size ≤ g ∧ g < W6.heap.size))
section
variable {w W6 W W' Wa W5 : World} {B u : Nat} {M : Nat → Prop} {cs : Array Value} {lv av lv' av' : Value} {L : List Ent} {vs : List Value}
theorem PA.start {nv : Value} {p : PD} (h : PM w B u M lv nv av p) (hu : B ≤ u) (hb : Below w.heap.size w W6) : ∃ vs, PA w W6 W6 B u M (pastA lv nv av p) lv av p.list vs ∧ vs.length = p.all.length ∧ ∀ (k : Nat) (v : Value) (nw : Pgs), vs[k]? = some v → p.all[k]? = some nw → NowR M w v nw := by
  obtain ⟨vs, v1, v2, v3⟩ := h.all
  have h6 := h.below hb
  rw [← v1] at v2
  have hul := h.blk.lt
  refine ⟨vs, ⟨Keep.refl _ _, hb.mono (by omega), h6.blk, h6.list, own_below v2 hb, fun g hg hm => ?_, fun g hg hm => ?_⟩, v1, v3⟩
  · have := own_lt h.list hg
    exact hm.elim (h.ml g hg) fun q => by omega
  · have := own_lt v2 hg
    exact hm.elim (h.ma g hg) fun q => by omega
theorem PA.app (h : PA w W6 W B u M cs lv av L vs) (hu : B ≤ u) (hum : ¬ M u) (huw : u < w.heap.size) (hmlt : ∀ k, M k → k < w.heap.size) (hw6 : w.heap.size ≤ W6.heap.size) {x : Ent} (hb : Below W.heap.size W Wa) (hA : AppRes Wa W5 B 58 13 lv lv' (L ++ [x]).length (cellsE (L ++ [x]))) :
    (W5.cell? ⟨u, 0, none⟩ = cs[0]? ∧ W5.frozen? ⟨u, 0, none⟩ = false) ∧ PA w W6 (W5.setCell ⟨u, 0, none⟩ lv') B u M (cs.setIfInBounds 0 lv') lv' av (L ++ [x]) vs := by
  obtain ⟨h1, h2, h3⟩ := hA
  have hsz := h.keep.size
  have hblk : ∀ k, k < W.heap.size → some k ≠ lv.ownBlock → W5.heap[k]? = W.heap[k]? := fun k hk hne => (h2.block k (Nat.lt_of_lt_of_le hk hb.size) hne).trans (hb.block k hk)
  have hu5 : Blk W5 u 34 cs := (hblk u h.blk.lt fun e => own_ty h.list h.blk (by decide) e.symm).trans h.blk
  have hbel : Below B w W5 := ⟨h2.os.trans (hb.os.trans h.bel.os), h2.tape.trans (hb.tape.trans h.bel.tape), h2.output.trans (hb.output.trans h.bel.output), Nat.le_trans h.bel.size (Nat.le_trans hb.size h2.size), fun k hk => (hblk k (by have := h.bel.size; omega) fun e => by have := Past.own_ge h.list e.symm; omega).trans (h.bel.block k hk)⟩
  have hkeep : Keep (fun k => M k ∨ (w.heap.size ≤ k ∧ k < W6.heap.size)) W6 W5 := ⟨h2.os.trans (hb.os.trans h.keep.os), h2.tape.trans (hb.tape.trans h.keep.tape), h2.output.trans (hb.output.trans h.keep.output), Nat.le_trans hsz (Nat.le_trans hb.size h2.size), fun k hk => (hblk k (hk.elim (fun q => by have := hmlt k q; omega) fun q => by omega) fun e => h.lvb k e.symm hk).trans (h.keep.block k hk)⟩
  refine ⟨⟨hu5.cell 0, hu5.frozen 0⟩, hkeep.set_ (fun hm => hm.elim hum fun q => by omega) 0 lv', hbel.setCell (p := ⟨u, 0, none⟩) hu _, hu5.set_ 0 lv', own_set h1 (own_ty h1 hu5 (by decide)) 0 lv', ?_, fun g hg hm => ?_, h.avb⟩
  · have ha : W5.ownsRow B 30 1 av vs.length vs := own_same h.all fun g hg => hblk g (own_lt h.all hg) fun e => own_own h.all h.list (by decide) g hg e.symm
    exact own_set ha (own_ty h.all h.blk (by decide)) 0 lv'
  · rcases h3 with e3 | e3
    · exact h.lvb g (e3.symm.trans hg) hm
    · rw [e3] at hg
      injection hg with hg
      have := hb.size
      exact hm.elim (fun q => by have := hmlt g q; omega) fun q => by omega
theorem PA.app2 (h : PA w W6 W B u M cs lv av L vs) (hu : B ≤ u) (hum : ¬ M u) (huw : u < w.heap.size) (hmlt : ∀ k, M k → k < w.heap.size) (hw6 : w.heap.size ≤ W6.heap.size) {v5 : Value} (hb : Below W.heap.size W Wa) (hA : AppRes Wa W5 B 30 1 av av' (vs.length + 1) (vs ++ [v5])) :
    (W5.cell? ⟨u, 2, none⟩ = cs[2]? ∧ W5.frozen? ⟨u, 2, none⟩ = false) ∧ PA w W6 (W5.setCell ⟨u, 2, none⟩ av') B u M (cs.setIfInBounds 2 av') lv av' L (vs ++ [v5]) := by
  obtain ⟨h1, h2, h3⟩ := hA
  have hsz := h.keep.size
  have hblk : ∀ k, k < W.heap.size → some k ≠ av.ownBlock → W5.heap[k]? = W.heap[k]? := fun k hk hne => (h2.block k (Nat.lt_of_lt_of_le hk hb.size) hne).trans (hb.block k hk)
  have hu5 : Blk W5 u 34 cs := (hblk u h.blk.lt fun e => own_ty h.all h.blk (by decide) e.symm).trans h.blk
  have hbel : Below B w W5 := ⟨h2.os.trans (hb.os.trans h.bel.os), h2.tape.trans (hb.tape.trans h.bel.tape), h2.output.trans (hb.output.trans h.bel.output), Nat.le_trans h.bel.size (Nat.le_trans hb.size h2.size), fun k hk => (hblk k (by have := h.bel.size; omega) fun e => by have := Past.own_ge h.all e.symm; omega).trans (h.bel.block k hk)⟩
  have hkeep : Keep (fun k => M k ∨ (w.heap.size ≤ k ∧ k < W6.heap.size)) W6 W5 := ⟨h2.os.trans (hb.os.trans h.keep.os), h2.tape.trans (hb.tape.trans h.keep.tape), h2.output.trans (hb.output.trans h.keep.output), Nat.le_trans hsz (Nat.le_trans hb.size h2.size), fun k hk => (hblk k (hk.elim (fun q => by have := hmlt k q; omega) fun q => by omega) fun e => h.avb k e.symm hk).trans (h.keep.block k hk)⟩
  refine ⟨⟨hu5.cell 2, hu5.frozen 2⟩, hkeep.set_ (fun hm => hm.elim hum fun q => by omega) 2 av', hbel.setCell (p := ⟨u, 2, none⟩) hu _, hu5.set_ 2 av', ?_, ?_, h.lvb, fun g hg hm => ?_⟩
  · have ha : W5.ownsRow B 58 13 lv L.length (cellsE L) := own_same h.list fun g hg => hblk g (own_lt h.list hg) fun e => own_own h.list h.all (by decide) g hg e.symm
    exact own_set ha (own_ty h.list h.blk (by decide)) 2 av'
  · rw [List.length_append, List.length_singleton]
    exact own_set h1 (own_ty h1 hu5 (by decide)) 2 av'
  · rcases h3 with e3 | e3
    · exact h.avb g (e3.symm.trans hg) hm
    · rw [e3] at hg
      injection hg with hg
      have := hb.size
      exact hm.elim (fun q => by have := hmlt g q; omega) fun q => by omega
theorem PA.set (h : PA w W6 W B u M cs lv av L vs) (hu : B ≤ u) (hum : ¬ M u) (huw : u < w.heap.size) (i : Nat) (v : Value) : PA w W6 (W.setCell ⟨u, i, none⟩ v) B u M (cs.setIfInBounds i v) lv av L vs :=
  ⟨h.keep.set_ (fun hm => hm.elim hum fun q => by omega) i v, h.bel.setCell (p := ⟨u, i, none⟩) hu v, h.blk.set_ i v, own_set h.list (own_ty h.list h.blk (by decide)) i v, own_set h.all (own_ty h.all h.blk (by decide)) i v, h.lvb, h.avb⟩
theorem PA.below (h : PA w W6 W B u M cs lv av L vs) (hmlt : ∀ k, M k → k < w.heap.size) (hw6 : w.heap.size ≤ W6.heap.size) (hBw : B ≤ w.heap.size) (hb : Below W.heap.size W W') : PA w W6 W' B u M cs lv av L vs :=
  ⟨h.keep.trans (Keep.of_below hb fun k hk => by have := h.keep.size; exact hk.elim (fun q => by have := hmlt k q; omega) fun q => by omega), h.bel.trans (hb.mono (by have := h.bel.size; omega)), h.blk.below hb h.blk.lt, own_below h.list hb, own_below h.all hb, h.lvb, h.avb⟩
/-- the end: the log has one entry more -/
theorem PA.fin {nv v5 : Value} {p : PD} {x : Ent} {nw : Pgs} {R : List Ro} (h0 : PM w B u M lv nv av p) (hu : B ≤ u) {vs0 : List Value} (hvs : vs0.length = p.all.length) (hall : ∀ (k : Nat) (v : Value) (nw : Pgs), vs0[k]? = some v → p.all[k]? = some nw → NowR M w v nw)
    (hc : CP w W6 M v5 R nw) (hx : SmallE x) {c : Nat} (hcl : x.cl = (c : Int)) (hc5 : c < 5) (h : PA w W6 W B u M (((((pastA lv nv av p).setIfInBounds 0 lv').setIfInBounds 1 v5).setIfInBounds 2 av').setIfInBounds (12 + c) (.int .i64 x.lsn)) lv' av' (p.list ++ [x]) (vs0 ++ [v5])) :
    PQ W B u (pushP p x nw) := by
  have hw6 := hc.bel.size
  have hS : Keep M w W := ⟨h.keep.os.trans hc.bel.os, h.keep.tape.trans hc.bel.tape, h.keep.output.trans hc.bel.output, Nat.le_trans hw6 h.keep.size, fun k hk => (h.keep.block k (.inl hk)).trans (hc.bel.block k (h0.mlt k hk))⟩
  have hnow : NowR (fun k => M k ∨ (w.heap.size ≤ k ∧ k < W6.heap.size)) W v5 nw := by
    obtain ⟨g, cap, e, eo, hg, hcell⟩ := own_pos hc.row (by decide)
    have hgw : w.heap.size ≤ g := Past.own_ge hc.row eo
    refine ⟨g, cap, e, .inr ⟨hgw, hg⟩, Nat.lt_of_lt_of_le hg h.keep.size, fun i hi => ?_⟩
    obtain ⟨y, hy, hyx⟩ := hc.rx i hi
    have hat : ∀ j, j < 3 → W.cell? ⟨g, i * 3 + j, none⟩ = (lrV y)[j]? := fun j hj => by
      rw [h.keep.cell (p := ⟨g, i * 3 + j, none⟩) (.inr ⟨hgw, hg⟩), hcell _ (by omega)]
      exact cellsG_at (m := 3) (fun _ => rfl) R i y hy j hj
    obtain ⟨s1, s2, s3⟩ := hc.sl y (List.mem_of_getElem? hy)
    have e1 := hat 0 (by omega)
    have e2 := hat 1 (by omega)
    have e3 := hat 2 (by omega)
    rw [hyx] at s2
    refine ⟨y.a, y.n, y.c, e1.trans (by show some (Value.int .i64 y.x.n) = _; rw [hyx]), e2.trans (by show some (Value.int .i64 y.x.l) = _; rw [hyx]), e3, ?_, s1, fun b off e ha h0 => (s3 b off e ha h0).1⟩
    exact slots_same s2 h.keep.size fun b off e ha h0 => h.keep.block b (s3 b off e ha h0).1
  refine ⟨_, lv', v5, av', ⟨?_, h.list, fun y hy => ?_, hnow, ⟨vs0 ++ [v5], ?_, ?_, fun k v nw2 e1 e2 => ?_⟩, fun hm => hm.elim h0.mu fun q => by have := h0.blk.lt; omega, h.lvb, h.avb, fun k hk => ?_⟩, hu⟩
  · have hb := h.blk
    rcases (show c = 0 ∨ c = 1 ∨ c = 2 ∨ c = 3 ∨ c = 4 by omega) with rfl | rfl | rfl | rfl | rfl <;> (rw [show pastA lv' v5 av' (pushP p x nw) = _ from ?_]; exact hb; unfold pastA pushP; rw [hcl]; rfl)
  · rcases List.mem_append.1 hy with hy | hy
    · exact h0.small y hy
    · have : y = x := by simpa using hy
      rw [this]; exact hx
  · show (vs0 ++ [v5]).length = (p.all ++ [nw]).length
    rw [List.length_append, List.length_append, hvs]; rfl
  · have ha := h.all
    rw [show (pushP p x nw).all.length = (vs0 ++ [v5]).length by show (p.all ++ [nw]).length = _; rw [List.length_append, List.length_append, hvs]; rfl]
    exact ha
  · have e2 : (p.all ++ [nw])[k]? = some nw2 := e2
    rcases Nat.lt_or_ge k vs0.length with hk | hk
    · rw [List.getElem?_append_left hk] at e1
      rw [List.getElem?_append_left (by omega)] at e2
      exact ((hall k v nw2 e1 e2).keep hS).mono fun _ => .inl
    · rw [List.getElem?_append_right hk] at e1
      rw [List.getElem?_append_right (by omega), ← hvs] at e2
      have hk0 : k - vs0.length = 0 := by
        rcases Nat.eq_zero_or_pos (k - vs0.length) with h0 | h0
        · exact h0
        · rw [List.getElem?_eq_none (by simp; omega)] at e1; cases e1
      rw [hk0] at e1 e2
      have e1 : v5 = v := by simpa using e1
      have e2 : nw = nw2 := by simpa using e2
      rw [← e1, ← e2]; exact hnow
  · have := h.keep.size
    exact hk.elim (fun q => by have := h0.mlt k q; omega) fun q => by omega
end
end Go.Proofs.YtkeocnhndnbamaaGreat.Mend
