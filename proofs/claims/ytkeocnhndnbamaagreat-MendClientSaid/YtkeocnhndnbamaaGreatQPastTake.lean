/- One entry is taken in. -/
import Derived.Test.YtkeocnhndnbamaaGreatQBook14
import Derived.StillTailTactics
import Derived.Deep.RegionHeld3
import Derived.Deep.RegionLaw
import Derived.Deep.Cut
import Derived.Deep.DeepCutAuto
namespace Go.Proofs.YtkeocnhndnbamaaGreat.Past
set_option maxRecDepth 100000
open Go.RowKit
open Go.Proofs.YtkeocnhndnbamaaGreat.Mem
open Go.Maps
open Go.Proofs.YtkeocnhndnbamaaGreat.Ent (Ent goodB Ents EntAt SmallE noE entA cellsE)
/-- append, as a step of a drawn region, where its run is known -/
theorem step_known {P : Program} {ops : Array Oper} {o : Oper} {a : Act} {w : World} {K : Act → World → Prop} {Q : Exit → Act → World → Prop} {E : Prop}
    (hg : o.guard = none) (d x : Operand) (dT sT : TypeId) (hop : o.op = Op.call { callee := Callee.builtin Builtin.append, args := #[d, x], argTypes := #[dT, sT] })
    (v u : Value) (hd : a.eval d = v) (hx : a.eval x = u) {v' : Value} {w' : World} (hr : (Builtin.append_ #[dT, sT] o.type #[v, u]).run P w = .ok v' w') (hK : K (a.put o.dst v') w') :
    if Region.wanted o (yielded ops a.tmps) = true then Oper.wp P o a w K Q else E := by
  have hw : Region.wanted o (yielded ops a.tmps) = true := by simp [Region.wanted, hg]
  rw [if_pos hw]
  unfold Oper.wp
  simp [execOp, hop, resolve, invoke, builtin, hd, hx, hr, Result.andThen]
  exact hK
theorem step_dn {ops : Array Oper} {o : Oper} {a : Act} {w wr : World} {K : Act → World → Prop} {Q : Exit → Act → World → Prop} {E : Prop} (hg : o.guard = none) (s x : Operand)
    (hop : o.op = .call { callee := .builtin .append, args := #[s, x], argTypes := #[117, 117] }) (B : Nat)
    (v : Value) (L : List T3) (hs : a.eval s = v) (vb : Nat) (y : T3) (hx : a.eval x = .slice (some ⟨vb, 0, none⟩) 1 1) (hP : Below wr.heap.size wr w ∧ Blk w vb 56 #[.int .i64 y.cl, .int .i64 y.ep, .int .i64 y.n])
    (hown : wr.ownsRow B 56 3 v L.length (cellsG txV L)) (hB : B ≤ wr.heap.size) (hn : L.length ≤ 1000000)
    (hK : ∀ v' w', Below wr.heap.size wr w → AppRes w w' B 56 3 v v' (L ++ [y]).length (cellsG txV (L ++ [y])) → K (a.put o.dst v') w') :
    if Region.wanted o (yielded ops a.tmps) = true then Oper.wp Tryz.prog o a w K Q else E := by
  obtain ⟨v', w', hr, h2⟩ := run_appG (ty := o.type) (f := txV) Tryz.underlying117 info_tx rfl (by decide) (by decide) (fun _ => rfl) (fun x u hu => by simp [txV] at hu; rcases hu with rfl | rfl | rfl <;> rfl) (own_below hown hP.1) (y := y) hP.2 (by omega) (Nat.le_trans hB hP.1.size)
  exact step_known hg s x 117 117 hop v (.slice (some ⟨vb, 0, none⟩) 1 1) hs hx hr (hK v' w' hP.1 h2)
/-- .. beside the entry and a course -/
structure TX (w0 w : World) (B g m1 m2 n gx gc : Nat) (x : Ent) (dv : Value) (T : Tl) (c : Crs) : Prop extends TA w B g m1 m2 dv n T where
  ent : Blk w gx 58 #[.int .i64 x.kind, .int .i64 x.cl, .int .i64 x.ep, .int .i64 x.n, .int .i64 x.lsn, .int .i64 x.prev, .int .i64 x.page, .int .i64 x.slot, .bool x.wu, .string x.wd, .bool x.iu, .string x.id, .int .i64 x.next]
  crs : Blk w gc 153 #[.int .i64 c.beg, .int .i64 c.last, .bool c.com, .bool c.fin]
  xg : gx ≠ g ∧ gc ≠ g ∧ gc ≠ gx
  bel : Below B w0 w
  xl : B ≤ gx ∧ B ≤ gc
section
variable {w0 w w' : World} {B g m1 m2 n gx gc : Nat} {x : Ent} {dv : Value} {T : Tl} {c : Crs}
theorem TX.row_ne2 (h : TX w0 w B g m1 m2 n gx gc x dv T c) : dv.ownBlock ≠ some gx ∧ dv.ownBlock ≠ some gc := by
  have key : ∀ k cs t, Blk w k t cs → t ≠ 56 → dv.ownBlock ≠ some k := fun k cs t hk ht e => by
    obtain ⟨_, ⟨rfl, _⟩ | ⟨gg, cap, cur, rfl, _, hb, _⟩⟩ := h.row
    · cases e
    · simp [Value.ownBlock] at e
      subst e
      unfold Blk at hk
      rw [hb] at hk
      cases hk
      exact ht rfl
  exact ⟨key _ _ _ h.ent (by decide), key _ _ _ h.crs (by decide)⟩
theorem TX.drewN (h : TX w0 w B g m1 m2 n gx gc x dv T c) (q : Nat) : TX w0 (w.drewN q) B g m1 m2 n gx gc x dv T c :=
  { toTA := h.toTA.drewN q, ent := h.ent, crs := h.crs, xg := h.xg, bel := ⟨h.bel.os, h.bel.tape, h.bel.output, h.bel.size, h.bel.block⟩, xl := h.xl }
theorem TX.setC (h : TX w0 w B g m1 m2 n gx gc x dv T c) (i : Nat) (v : Value) (c' : Crs) (e : (#[.int .i64 c.beg, .int .i64 c.last, .bool c.com, .bool c.fin] : Array Value).setIfInBounds i v = #[.int .i64 c'.beg, .int .i64 c'.last, .bool c'.com, .bool c'.fin]) :
    TX w0 (w.setCell ⟨gc, i, none⟩ v) B g m1 m2 n gx gc x dv T c' := by
  have hk : ∀ k, k ≠ gc → (w.setCell ⟨gc, i, none⟩ v).heap[k]? = w.heap[k]? := fun k hk => Below.heap_setCell w _ _ k hk
  have hc := h.crs.set_ i v
  rw [e] at hc
  exact {
    blk := (hk g (fun e => h.xg.2.1 e.symm)).trans h.blk
    mt := h.mt.same (hk m1 (h.mt.not_cells h.crs))
    mp := h.mp.same (hk m2 (h.mp.not_cells h.crs))
    row := own_set h.row h.row_ne2.2 _ _
    hg := h.hg, h1 := h.h1, h2 := h.h2, ne := h.ne
    ent := (hk gx (fun e => h.xg.2.2 e.symm)).trans h.ent
    crs := hc, xg := h.xg, bel := h.bel.setCell (p := ⟨gc, i, none⟩) h.xl.2 v, xl := h.xl }
theorem TX.putP (h : TX w0 w B g m1 m2 n gx gc x dv T c) {p : Int} (hp : Latch.Sm p) (hn : n ≤ 1000000) (at_ : Int) :
    ∃ w', (Instr.mapUpdate 88 (.map (some m2)) (.int .i64 p) (.int .i64 at_)).run Tryz.prog w = .ok () w' ∧
      TX w0 w' B g m1 m2 (n + 1) gx gc x dv ⟨T.tx, fun q => if q = p then some at_ else T.pg q, T.dn⟩ c := by
  obtain ⟨w', hr, hT, hg⟩ := h.toTA.putP hp hn at_
  have e1 := h.mp.not_cells h.ent
  have e2 := h.mp.not_cells h.crs
  exact ⟨w', hr, { toTA := hT, ent := h.ent.grown hg (fun e => by injection e with e; exact e1 e.symm), crs := h.crs.grown hg (fun e => by injection e with e; exact e2 e.symm), xg := h.xg, bel := h.bel.grown hg h.toTA.size (fun k e => by injection e with e; have := h.h2; omega), xl := h.xl }⟩
theorem TX.addDn (h : TX w0 w B g m1 m2 n gx gc x dv T c) {dv' : Value} {y : T3} (ha : AppRes w w' B 56 3 dv dv' (T.dn ++ [y]).length (cellsG txV (T.dn ++ [y]))) :
    TX w0 (w'.setCell ⟨g, 2, none⟩ dv') B g m1 m2 n gx gc x dv' ⟨T.tx, T.pg, T.dn ++ [y]⟩ c := by
  have hT := h.toTA.addDn ha
  obtain ⟨ho, hgr, hu⟩ := ha
  have hr := h.row_ne2
  have hb : Below B w0 w' := h.bel.grown hgr h.toTA.size (fun k e => own_ge h.row e)
  exact { toTA := hT, ent := (h.ent.grown hgr (fun e => hr.1 e.symm)).far h.xg.1 _, crs := (h.crs.grown hgr (fun e => hr.2 e.symm)).far h.xg.2.1 _, xg := h.xg, bel := hb.setCell (p := ⟨g, 2, none⟩) h.hg _, xl := h.xl }
theorem TX.below (h : TX w0 w B g m1 m2 n gx gc x dv T c) (hb : Below w.heap.size w w') : TX w0 w' B g m1 m2 n gx gc x dv T c :=
  { toTA := h.toTA.below hb, ent := h.ent.below hb h.ent.lt, crs := h.crs.below hb h.crs.lt, xg := h.xg, bel := h.bel.trans (hb.mono h.toTA.size), xl := h.xl }
/-- the end: the course is laid under its name -/
theorem TX.fin (h : TX w0 w B g m1 m2 n gx gc x dv T c) (ht : SmT (txE x)) (hn : n ≤ 1000000) {U : Tl} (e1 : ∀ t, (if t = txE x then some c else T.tx t) = U.tx t) (e2 : ∀ p, T.pg p = U.pg p) (e3 : T.dn = U.dn) :
    ∃ w', (Instr.mapUpdate 144 (.map (some m1)) (.agg #[.int .i64 x.cl, .int .i64 x.ep, .int .i64 x.n]) (.agg #[.int .i64 c.beg, .int .i64 c.last, .bool c.com, .bool c.fin])).run Tryz.prog w = .ok () w' ∧
      TA w' B g m1 m2 dv (n + 1) U ∧ Below B w0 w' := by
  obtain ⟨w', hr, hT, hg⟩ := h.toTA.putT ht hn c
  exact ⟨w', hr, hT.ext e1 e2 e3, h.bel.grown hg h.toTA.size (fun k e => by injection e with e; have := h.h1; omega)⟩
end
set_option maxRecDepth 100000 in
set_option maxHeartbeats 16000000 in
theorem take_any (B g m1 m2 n : Nat) (dv : Value) (T : Tl) (x : Ent) (at_ : Nat) (w : World) (h : TA w B g m1 m2 dv n T) (hn : n ≤ 900000) (hd : T.dn.length ≤ 900000) (hg : goodB x = true) :
    Calls Tryz.prog 83 #[.pointer (some ⟨g, 0, none⟩), .int .i64 (at_ : Int), .agg #[.int .i64 x.kind, .int .i64 x.cl, .int .i64 x.ep, .int .i64 x.n, .int .i64 x.lsn, .int .i64 x.prev, .int .i64 x.page, .int .i64 x.slot, .bool x.wu, .string x.wd, .bool x.iu, .string x.id, .int .i64 x.next]] w fun e w' => e = .returned (.tuple #[]) ∧ ∃ dv', TA w' B g m1 m2 dv' (n + 2) (takeT T (at_ : Int) x) ∧ Below B w w' := by
  have hb1 := Ent.below_box w (.cells #[.int .i64 x.kind, .int .i64 x.cl, .int .i64 x.ep, .int .i64 x.n, .int .i64 x.lsn, .int .i64 x.prev, .int .i64 x.page, .int .i64 x.slot, .bool x.wu, .string x.wd, .bool x.iu, .string x.id, .int .i64 x.next] 58)
  have hA1 := h.below hb1
  have hX1 := Blk.new w 58 #[.int .i64 x.kind, .int .i64 x.cl, .int .i64 x.ep, .int .i64 x.n, .int .i64 x.lsn, .int .i64 x.prev, .int .i64 x.page, .int .i64 x.slot, .bool x.wu, .string x.wd, .bool x.iu, .string x.id, .int .i64 x.next]
  have hs1 := Ent.alloc_lt w (.cells #[.int .i64 x.kind, .int .i64 x.cl, .int .i64 x.ep, .int .i64 x.n, .int .i64 x.lsn, .int .i64 x.prev, .int .i64 x.page, .int .i64 x.slot, .bool x.wu, .string x.wd, .bool x.iu, .string x.id, .int .i64 x.next] 58)
  obtain ⟨gx, hgx⟩ : ∃ gx, w.heap.size = gx := ⟨_, rfl⟩
  have HGX := Lib.hid hgx
  clear hgx
  have hSM := good_tx hg
  have HBS := Lib.hid (show B ≤ w.heap.size ∧ g < w.heap.size from ⟨h.size, h.blk.lt⟩)
  have HBB := Lib.hid (hb1.mono h.size)
  clear h
  go_enter Tryz.func83, Tryz.ntmps83
  go_upto_region 1 with (fail)
  generalize hGen : w.alloc (.cells #[.int .i64 x.kind, .int .i64 x.cl, .int .i64 x.ep, .int .i64 x.n, .int .i64 x.lsn, .int .i64 x.prev, .int .i64 x.page, .int .i64 x.slot, .bool x.wu, .string x.wd, .bool x.iu, .string x.id, .int .i64 x.next] 58) = W1 at hA1 hX1 hs1 hb1 HBB ⊢
  clear hGen
  rw [HGX.out] at hX1 hs1 HBS ⊢
  have HSM := Lib.hid hSM
  have HPG := Lib.hid (fun hk => good_page hg hk)
  have HKD := Lib.hid (kind_of hg)
  obtain ⟨o, ho⟩ : ∃ o, T.tx (txE x) = o := ⟨_, rfl⟩
  obtain ⟨ob, hob⟩ : ∃ ob, o.isSome = ob := ⟨_, rfl⟩
  obtain ⟨c, hc⟩ : ∃ c, o.getD crs0 = c := ⟨_, rfl⟩
  have l1 := hA1.lookO hSM
  have l2 := (hA1.drewN 1).lookO hSM
  have l3 := (hA1.below (Ent.below_box W1 (.cells #[.int .i64 0, .int .i64 0, .bool false, .bool false] 153))).lookO hSM
  have l4 := ((hA1.below (Ent.below_box W1 (.cells #[.int .i64 0, .int .i64 0, .bool false, .bool false] 153))).drewN 1).lookO hSM
  change (Instr.lookup _ _ _ _).run _ W1.drew = _ at l2
  change (Instr.lookup _ _ _ _).run _ (W1.alloc _).drew = _ at l4
  rw [ho, hob, hc] at l1 l2 l3 l4
  have HO := Lib.hid (show T.tx (txE x) = o ∧ o.isSome = ob ∧ o.getD crs0 = c from ⟨ho, hob, hc⟩)
  clear ho hob hc
  obtain ⟨cb, cl, cm, cf⟩ := c
  unfold txE at l1 l2 l3 l4
  dsimp only at l1 l2 l3 l4
  have HT0 : Hid (TX w ((((((W1.drewN 1).alloc (.cells #[.int .i64 0, .int .i64 0, .bool false, .bool false] 153)).setCell ⟨W1.heap.size, 0, none⟩ (.int .i64 cb)).setCell ⟨W1.heap.size, 1, none⟩ (.int .i64 cl)).setCell ⟨W1.heap.size, 2, none⟩ (.bool cm)).setCell ⟨W1.heap.size, 3, none⟩ (.bool cf)) B g m1 m2 n gx W1.heap.size x dv T ⟨cb, cl, cm, cf⟩) := by
    refine Lib.hid ?_
    have hz := Blk.new (W1.drewN 1) 153 #[.int .i64 0, .int .i64 0, .bool false, .bool false]
    have hbz := Ent.below_box (W1.drewN 1) (.cells #[.int .i64 0, .int .i64 0, .bool false, .bool false] 153)
    have hgl := hA1.blk.lt
    have h0 : TX w ((W1.drewN 1).alloc (.cells #[.int .i64 0, .int .i64 0, .bool false, .bool false] 153)) B g m1 m2 n gx W1.heap.size x dv T crs0 :=
      { toTA := (hA1.drewN 1).below hbz, ent := (show Blk (W1.drewN 1) gx _ _ from hX1).alloc _, crs := hz, xg := ⟨by have := HBS.out.2; omega, by omega, by omega⟩, bel := HBB.out.trans ((show Below W1.heap.size W1 _ from ⟨hbz.os, hbz.tape, hbz.output, hbz.size, hbz.block⟩).mono hA1.size), xl := ⟨HBS.out.1, hA1.size⟩ }
    exact (((h0.setC 0 _ ⟨cb, 0, false, false⟩ rfl).setC 1 _ ⟨cb, cl, false, false⟩ rfl).setC 2 _ ⟨cb, cl, cm, false⟩ rfl).setC 3 _ ⟨cb, cl, cm, cf⟩ rfl
  go_cut [6, 7] (fun t6 t7 wx => ∃ gc, t6 = .pointer (some ⟨gc, 0, none⟩) ∧ t7 = .bool ob ∧ Hid (TX w wx B g m1 m2 n gx gc x dv T ⟨cb, cl, cm, cf⟩))
  case first =>
    obtain ⟨t0, t1, t2, f0, f1, f2⟩ := hA1.cells
    obtain ⟨c0, c1, c2, c3, c4, c5, c6, c7, c8, c9, c10, c11, c12⟩ := Ent.ent_cells hX1
    have hgl := hA1.blk.lt
    have hz := Blk.new (W1.drewN 1) 153 #[.int .i64 0, .int .i64 0, .bool false, .bool false]
    change Blk _ W1.heap.size _ _ at hz
    have z0 := hz.cell 0
    have z1 := hz.cell 1
    have z2 := hz.cell 2
    have z3 := hz.cell 3
    have y0 := hz.frozen 0
    have y1 := hz.frozen 1
    have y2 := hz.frozen 2
    have y3 := hz.frozen 3
    clear hz hA1 hX1 hSM
    go_region
    all_goals
      go_wp2_with fail
      go_meet
      case rel => exact ⟨_, rfl, rfl, HT0⟩
  case rest =>
    obtain ⟨gc, rfl, rfl, HT⟩ := hcut
    clear HT0 l1 l2 l3 l4 hA1 hX1 hs1 hb1 hSM
    obtain ⟨b1, hb1⟩ : ∃ b1, (if ob = true then cb else (at_ : Int)) = b1 := ⟨_, rfl⟩
    have HB1 := Lib.hid hb1
    have HST0 := Lib.hid (show stepC (at_ : Int) x (T.tx (txE x)) = ⟨b1, x.lsn, cm || decide (x.kind = 3), cf || decide (2 < x.kind)⟩ by
      unfold stepC
      rw [HO.out.1, HO.out.2.1, HO.out.2.2, ← hb1])
    clear hb1
    go_upto_if 21 with (fail)
    go_cut [] (fun wx => Hid (TX w wx B g m1 m2 n gx gc x dv T ⟨b1, cl, cm, cf⟩))
    case first =>
      have q0 := HT.out.crs.cell 0
      have g0 := HT.out.crs.frozen 0
      cases ob with
      | true =>
        have H1 := Lib.hid (show TX w wc B g m1 m2 n gx gc x dv T ⟨b1, cl, cm, cf⟩ by
          have := HB1.out
          rw [if_pos rfl] at this
          rw [← this]; exact HT.out)
        clear HT
        go_wp2_with fail
        go_meet
        case rel => exact H1
      | false =>
        have H1 := Lib.hid (show TX w (wc.setCell ⟨gc, 0, none⟩ (.int .i64 (at_ : Int))) B g m1 m2 n gx gc x dv T ⟨b1, cl, cm, cf⟩ by
          have := HB1.out
          rw [if_neg (by simp)] at this
          rw [← this]; exact HT.out.setC 0 (.int .i64 (at_ : Int)) ⟨at_, cl, cm, cf⟩ rfl)
        clear HT
        go_wp2_with fail
        go_meet
        case rel => exact H1
    case rest =>
      have HT1 := hcut
      clear hcut HT
      have HT2 := Lib.hid (HT1.out.setC 1 (.int .i64 x.lsn) ⟨b1, x.lsn, cm, cf⟩ rfl)
      obtain ⟨c0, c1, c2, c3, c4, c5, c6, c7, c8, c9, c10, c11, c12⟩ := Ent.ent_cells HT1.out.ent
      have q1 := HT1.out.crs.cell 1
      have g1 := HT1.out.crs.frozen 1
      clear HT1
      go_upto_region 5 with (fail)
      generalize hGen : wc.setCell ⟨gc, 1, none⟩ (.int .i64 x.lsn) = W2 at HT2 ⊢
      clear hGen
      clear q1 g1 c0 c1 c2 c3 c4 c5 c6 c7 c8 c9 c10 c11 c12
      rcases HKD.out with hk | hk | hk | hk
      · have e1 : (x.kind == 1) = true := by simp [hk]
        have HSP := Lib.hid (HPG.out (by omega))
        obtain ⟨pb, hpb⟩ : ∃ pb, (T.pg x.page).isSome = pb := ⟨_, rfl⟩
        have HPB := Lib.hid hpb
        have HST := Lib.hid (show stepC (at_ : Int) x (T.tx (txE x)) = ⟨b1, x.lsn, cm, cf⟩ by rw [HST0.out, hk]; simp)
        have l1 := HT2.out.toTA.lookPO HSP.out
        have l2 := (HT2.out.drewN 1).toTA.lookPO HSP.out
        change (Instr.lookup _ _ _ _).run _ W2.drew = _ at l2
        rw [hpb] at l1 l2
        generalize (T.pg x.page).getD 0 = pv at l1 l2
        clear hpb HST0
        have HKK := Lib.hid hk
        clear hk
        obtain ⟨t0, t1, t2, f0, f1, f2⟩ := HT2.out.toTA.cells
        obtain ⟨c0, c1, c2, c3, c4, c5, c6, c7, c8, c9, c10, c11, c12⟩ := Ent.ent_cells HT2.out.ent
        go_upto_region 8 with (fail)
        go_cut [9] (fun t9 wx => t9 = .bool pb ∧ Hid (TX w wx B g m1 m2 n gx gc x dv T ⟨b1, x.lsn, cm, cf⟩))
        case first =>
          have HT3 := Lib.hid (HT2.out.drewN 1)
          go_region
          all_goals
            go_wp2_with fail
            go_meet
            case rel => first | exact ⟨rfl, HT3⟩ | exact ⟨rfl, HT2⟩
        case rest =>
          obtain ⟨rfl, HT3⟩ := hcut
          clear l1 l2 t0 t1 t2 f0 f1 f2 c0 c1 c2 c3 c4 c5 c6 c7 c8 c9 c10 c11 c12 HT2
          clear e1
          cases pb with
          | true =>
            go_upto_region 17 with (fail)
            have E1 := Lib.hid (show ∀ t, (if t = txE x then some (⟨b1, x.lsn, cm, cf⟩ : Crs) else T.tx t) = (takeT T (at_ : Int) x).tx t from fun t => by
              show _ = if t = txE x then some (stepC (at_ : Int) x (T.tx (txE x))) else T.tx t
              rw [HST.out])
            have E2 := Lib.hid (show ∀ p, T.pg p = (takeT T (at_ : Int) x).pg p from fun p => by
              show _ = if x.kind < 3 ∧ (T.pg x.page).isSome = false ∧ p = x.page then some (at_ : Int) else T.pg p
              rw [HPB.out]; simp)
            have E3 := Lib.hid (show T.dn = (takeT T (at_ : Int) x).dn from by
              show _ = if x.kind = 3 ∧ ((T.tx (txE x)).getD crs0).com = false then T.dn ++ [txE x] else T.dn
              rw [HKK.out]; simp)
            obtain ⟨w4, r4, d4, b4⟩ := HT3.out.fin HSM.out (by omega) E1.out E2.out E3.out
            obtain ⟨w5, r5, d5, b5⟩ := (HT3.out.drewN 1).fin HSM.out (by omega) E1.out E2.out E3.out
            change (Instr.mapUpdate _ _ _ _).run _ wc.drew = _ at r5
            have F4 := Lib.hid (show TA w4 B g m1 m2 dv (n + 2) (takeT T (at_ : Int) x) ∧ Below B w w4 from ⟨d4.mono (by omega), b4⟩)
            have F5 := Lib.hid (show TA w5 B g m1 m2 dv (n + 2) (takeT T (at_ : Int) x) ∧ Below B w w5 from ⟨d5.mono (by omega), b5⟩)
            obtain ⟨t0, t1, t2, f0, f1, f2⟩ := HT3.out.toTA.cells
            obtain ⟨c0, c1, c2, c3, c4, c5, c6, c7, c8, c9, c10, c11, c12⟩ := Ent.ent_cells HT3.out.ent
            have q0 := HT3.out.crs.cell 0
            have q1 := HT3.out.crs.cell 1
            have q2 := HT3.out.crs.cell 2
            have q3 := HT3.out.crs.cell 3
            clear d4 d5 b4 b5 E1 E2 E3 HT3 HST HPG HO
            go_wp2_with fail
            go_region
            all_goals
              go_wp2
              go_end0
              first | exact ⟨rfl, _, F5.out⟩ | exact ⟨rfl, _, F4.out⟩
          | false =>
            go_upto_region 10 with (fail)
            obtain ⟨w6, r6, d6⟩ := HT3.out.putP HSP.out (by omega) (at_ : Int)
            obtain ⟨w7, r7, d7⟩ := (HT3.out.drewN 1).putP HSP.out (by omega) (at_ : Int)
            change (Instr.mapUpdate _ _ _ _).run _ wc.drew = _ at r7
            have H6 := Lib.hid d6
            have H7 := Lib.hid d7
            obtain ⟨t0, t1, t2, f0, f1, f2⟩ := HT3.out.toTA.cells
            obtain ⟨c0, c1, c2, c3, c4, c5, c6, c7, c8, c9, c10, c11, c12⟩ := Ent.ent_cells HT3.out.ent
            clear d6 d7
            go_region
            all_goals
              first
              | ((with_reducible show Exit.then _ _ _ _ w6); have HT4 := H6; clear r6 r7 H6 H7; generalize w6 = W9 at HT4 ⊢)
              | (have HT4 := H7; clear r6 r7 H6 H7; generalize w7 = W9 at HT4 ⊢)
              clear t0 t1 t2 f0 f1 f2 c0 c1 c2 c3 c4 c5 c6 c7 c8 c9 c10 c11 c12 HT3
              go_upto_region 17 with (fail)
              have E1 := Lib.hid (show ∀ t, (if t = txE x then some (⟨b1, x.lsn, cm, cf⟩ : Crs) else T.tx t) = (takeT T (at_ : Int) x).tx t from fun t => by
                show _ = if t = txE x then some (stepC (at_ : Int) x (T.tx (txE x))) else T.tx t
                rw [HST.out])
              have E2 := Lib.hid (show ∀ p, (if p = x.page then some (at_ : Int) else T.pg p) = (takeT T (at_ : Int) x).pg p from fun p => by
                show _ = if x.kind < 3 ∧ (T.pg x.page).isSome = false ∧ p = x.page then some (at_ : Int) else T.pg p
                rw [HPB.out, HKK.out]; simp)
              have E3 := Lib.hid (show T.dn = (takeT T (at_ : Int) x).dn from by
                show _ = if x.kind = 3 ∧ ((T.tx (txE x)).getD crs0).com = false then T.dn ++ [txE x] else T.dn
                rw [HKK.out]; simp)
              obtain ⟨w4, r4, d4, b4⟩ := HT4.out.fin HSM.out (by omega) E1.out E2.out E3.out
              obtain ⟨w5, r5, d5, b5⟩ := (HT4.out.drewN 1).fin HSM.out (by omega) E1.out E2.out E3.out
              change (Instr.mapUpdate _ _ _ _).run _ W9.drew = _ at r5
              have F4 := Lib.hid (show TA w4 B g m1 m2 dv (n + 2) (takeT T (at_ : Int) x) ∧ Below B w w4 from ⟨d4.mono (by omega), b4⟩)
              have F5 := Lib.hid (show TA w5 B g m1 m2 dv (n + 2) (takeT T (at_ : Int) x) ∧ Below B w w5 from ⟨d5.mono (by omega), b5⟩)
              obtain ⟨t0, t1, t2, f0, f1, f2⟩ := HT4.out.toTA.cells
              obtain ⟨c0, c1, c2, c3, c4, c5, c6, c7, c8, c9, c10, c11, c12⟩ := Ent.ent_cells HT4.out.ent
              have q0 := HT4.out.crs.cell 0
              have q1 := HT4.out.crs.cell 1
              have q2 := HT4.out.crs.cell 2
              have q3 := HT4.out.crs.cell 3
              clear d4 d5 b4 b5 E1 E2 E3 HT4 HST HPG HO
              go_wp2_with fail
              go_region
              all_goals
                go_wp2
                go_end0
                first | exact ⟨rfl, _, F5.out⟩ | exact ⟨rfl, _, F4.out⟩
      · have e1 : (x.kind == 1) = false := by simp [hk]
        have e2 : (x.kind == 2) = true := by simp [hk]
        have HSP := Lib.hid (HPG.out (by omega))
        obtain ⟨pb, hpb⟩ : ∃ pb, (T.pg x.page).isSome = pb := ⟨_, rfl⟩
        have HPB := Lib.hid hpb
        have HST := Lib.hid (show stepC (at_ : Int) x (T.tx (txE x)) = ⟨b1, x.lsn, cm, cf⟩ by rw [HST0.out, hk]; simp)
        have l1 := HT2.out.toTA.lookPO HSP.out
        have l2 := (HT2.out.drewN 1).toTA.lookPO HSP.out
        change (Instr.lookup _ _ _ _).run _ W2.drew = _ at l2
        rw [hpb] at l1 l2
        generalize (T.pg x.page).getD 0 = pv at l1 l2
        clear hpb HST0
        have HKK := Lib.hid hk
        clear hk
        obtain ⟨t0, t1, t2, f0, f1, f2⟩ := HT2.out.toTA.cells
        obtain ⟨c0, c1, c2, c3, c4, c5, c6, c7, c8, c9, c10, c11, c12⟩ := Ent.ent_cells HT2.out.ent
        go_upto_region 8 with (fail)
        go_cut [9] (fun t9 wx => t9 = .bool pb ∧ Hid (TX w wx B g m1 m2 n gx gc x dv T ⟨b1, x.lsn, cm, cf⟩))
        case first =>
          have HT3 := Lib.hid (HT2.out.drewN 1)
          go_region
          all_goals
            go_wp2_with fail
            go_meet
            case rel => first | exact ⟨rfl, HT3⟩ | exact ⟨rfl, HT2⟩
        case rest =>
          obtain ⟨rfl, HT3⟩ := hcut
          clear l1 l2 t0 t1 t2 f0 f1 f2 c0 c1 c2 c3 c4 c5 c6 c7 c8 c9 c10 c11 c12 HT2
          clear e1 e2
          cases pb with
          | true =>
            go_upto_region 17 with (fail)
            have E1 := Lib.hid (show ∀ t, (if t = txE x then some (⟨b1, x.lsn, cm, cf⟩ : Crs) else T.tx t) = (takeT T (at_ : Int) x).tx t from fun t => by
              show _ = if t = txE x then some (stepC (at_ : Int) x (T.tx (txE x))) else T.tx t
              rw [HST.out])
            have E2 := Lib.hid (show ∀ p, T.pg p = (takeT T (at_ : Int) x).pg p from fun p => by
              show _ = if x.kind < 3 ∧ (T.pg x.page).isSome = false ∧ p = x.page then some (at_ : Int) else T.pg p
              rw [HPB.out]; simp)
            have E3 := Lib.hid (show T.dn = (takeT T (at_ : Int) x).dn from by
              show _ = if x.kind = 3 ∧ ((T.tx (txE x)).getD crs0).com = false then T.dn ++ [txE x] else T.dn
              rw [HKK.out]; simp)
            obtain ⟨w4, r4, d4, b4⟩ := HT3.out.fin HSM.out (by omega) E1.out E2.out E3.out
            obtain ⟨w5, r5, d5, b5⟩ := (HT3.out.drewN 1).fin HSM.out (by omega) E1.out E2.out E3.out
            change (Instr.mapUpdate _ _ _ _).run _ wc.drew = _ at r5
            have F4 := Lib.hid (show TA w4 B g m1 m2 dv (n + 2) (takeT T (at_ : Int) x) ∧ Below B w w4 from ⟨d4.mono (by omega), b4⟩)
            have F5 := Lib.hid (show TA w5 B g m1 m2 dv (n + 2) (takeT T (at_ : Int) x) ∧ Below B w w5 from ⟨d5.mono (by omega), b5⟩)
            obtain ⟨t0, t1, t2, f0, f1, f2⟩ := HT3.out.toTA.cells
            obtain ⟨c0, c1, c2, c3, c4, c5, c6, c7, c8, c9, c10, c11, c12⟩ := Ent.ent_cells HT3.out.ent
            have q0 := HT3.out.crs.cell 0
            have q1 := HT3.out.crs.cell 1
            have q2 := HT3.out.crs.cell 2
            have q3 := HT3.out.crs.cell 3
            clear d4 d5 b4 b5 E1 E2 E3 HT3 HST HPG HO
            go_wp2_with fail
            go_region
            all_goals
              go_wp2
              go_end0
              first | exact ⟨rfl, _, F5.out⟩ | exact ⟨rfl, _, F4.out⟩
          | false =>
            go_upto_region 10 with (fail)
            obtain ⟨w6, r6, d6⟩ := HT3.out.putP HSP.out (by omega) (at_ : Int)
            obtain ⟨w7, r7, d7⟩ := (HT3.out.drewN 1).putP HSP.out (by omega) (at_ : Int)
            change (Instr.mapUpdate _ _ _ _).run _ wc.drew = _ at r7
            have H6 := Lib.hid d6
            have H7 := Lib.hid d7
            obtain ⟨t0, t1, t2, f0, f1, f2⟩ := HT3.out.toTA.cells
            obtain ⟨c0, c1, c2, c3, c4, c5, c6, c7, c8, c9, c10, c11, c12⟩ := Ent.ent_cells HT3.out.ent
            clear d6 d7
            go_region
            all_goals
              first
              | ((with_reducible show Exit.then _ _ _ _ w6); have HT4 := H6; clear r6 r7 H6 H7; generalize w6 = W9 at HT4 ⊢)
              | (have HT4 := H7; clear r6 r7 H6 H7; generalize w7 = W9 at HT4 ⊢)
              clear t0 t1 t2 f0 f1 f2 c0 c1 c2 c3 c4 c5 c6 c7 c8 c9 c10 c11 c12 HT3
              go_upto_region 17 with (fail)
              have E1 := Lib.hid (show ∀ t, (if t = txE x then some (⟨b1, x.lsn, cm, cf⟩ : Crs) else T.tx t) = (takeT T (at_ : Int) x).tx t from fun t => by
                show _ = if t = txE x then some (stepC (at_ : Int) x (T.tx (txE x))) else T.tx t
                rw [HST.out])
              have E2 := Lib.hid (show ∀ p, (if p = x.page then some (at_ : Int) else T.pg p) = (takeT T (at_ : Int) x).pg p from fun p => by
                show _ = if x.kind < 3 ∧ (T.pg x.page).isSome = false ∧ p = x.page then some (at_ : Int) else T.pg p
                rw [HPB.out, HKK.out]; simp)
              have E3 := Lib.hid (show T.dn = (takeT T (at_ : Int) x).dn from by
                show _ = if x.kind = 3 ∧ ((T.tx (txE x)).getD crs0).com = false then T.dn ++ [txE x] else T.dn
                rw [HKK.out]; simp)
              obtain ⟨w4, r4, d4, b4⟩ := HT4.out.fin HSM.out (by omega) E1.out E2.out E3.out
              obtain ⟨w5, r5, d5, b5⟩ := (HT4.out.drewN 1).fin HSM.out (by omega) E1.out E2.out E3.out
              change (Instr.mapUpdate _ _ _ _).run _ W9.drew = _ at r5
              have F4 := Lib.hid (show TA w4 B g m1 m2 dv (n + 2) (takeT T (at_ : Int) x) ∧ Below B w w4 from ⟨d4.mono (by omega), b4⟩)
              have F5 := Lib.hid (show TA w5 B g m1 m2 dv (n + 2) (takeT T (at_ : Int) x) ∧ Below B w w5 from ⟨d5.mono (by omega), b5⟩)
              obtain ⟨t0, t1, t2, f0, f1, f2⟩ := HT4.out.toTA.cells
              obtain ⟨c0, c1, c2, c3, c4, c5, c6, c7, c8, c9, c10, c11, c12⟩ := Ent.ent_cells HT4.out.ent
              have q0 := HT4.out.crs.cell 0
              have q1 := HT4.out.crs.cell 1
              have q2 := HT4.out.crs.cell 2
              have q3 := HT4.out.crs.cell 3
              clear d4 d5 b4 b5 E1 E2 E3 HT4 HST HPG HO
              go_wp2_with fail
              go_region
              all_goals
                go_wp2
                go_end0
                first | exact ⟨rfl, _, F5.out⟩ | exact ⟨rfl, _, F4.out⟩
      · have e1 : (x.kind == 1) = false := by simp [hk]
        have e2 : (x.kind == 2) = false := by simp [hk]
        have e3 : (x.kind == 3) = true := by simp [hk]
        have HST := Lib.hid (show stepC (at_ : Int) x (T.tx (txE x)) = ⟨b1, x.lsn, true, true⟩ by rw [HST0.out, hk]; simp)
        have HCM := Lib.hid (show ((T.tx (txE x)).getD crs0).com = cm by rw [HO.out.1, HO.out.2.2])
        have HKK := Lib.hid hk
        clear hk HST0
        obtain ⟨c0, c1, c2, c3, c4, c5, c6, c7, c8, c9, c10, c11, c12⟩ := Ent.ent_cells HT2.out.ent
        have q2 := HT2.out.crs.cell 2
        cases cm with
        | true =>
          have HT3 := Lib.hid ((HT2.out.setC 2 (.bool true) ⟨b1, x.lsn, true, cf⟩ rfl).setC 3 (.bool true) ⟨b1, x.lsn, true, true⟩ rfl)
          have q3 := HT2.out.crs.cell 3
          have g2 := HT2.out.crs.frozen 2
          have g3 := HT2.out.crs.frozen 3
          clear HT2
          go_upto_region 17 with (fail)
          generalize hGen : (W2.setCell ⟨gc, 2, none⟩ (.bool true)).setCell ⟨gc, 3, none⟩ (.bool true) = W3 at HT3 ⊢
          clear hGen
          clear q2 q3 g2 g3 c0 c1 c2 c3 c4 c5 c6 c7 c8 c9 c10 c11 c12
          have E1 := Lib.hid (show ∀ t, (if t = txE x then some (⟨b1, x.lsn, true, true⟩ : Crs) else T.tx t) = (takeT T (at_ : Int) x).tx t from fun t => by
            show _ = if t = txE x then some (stepC (at_ : Int) x (T.tx (txE x))) else T.tx t
            rw [HST.out])
          have E2 := Lib.hid (show ∀ p, T.pg p = (takeT T (at_ : Int) x).pg p from fun p => by
            show _ = if x.kind < 3 ∧ (T.pg x.page).isSome = false ∧ p = x.page then some (at_ : Int) else T.pg p
            rw [HKK.out]; simp)
          have E3 := Lib.hid (show T.dn = (takeT T (at_ : Int) x).dn from by
            show _ = if x.kind = 3 ∧ ((T.tx (txE x)).getD crs0).com = false then T.dn ++ [txE x] else T.dn
            rw [HCM.out]; simp)
          obtain ⟨w4, r4, d4, b4⟩ := HT3.out.fin HSM.out (by omega) E1.out E2.out E3.out
          obtain ⟨w5, r5, d5, b5⟩ := (HT3.out.drewN 1).fin HSM.out (by omega) E1.out E2.out E3.out
          change (Instr.mapUpdate _ _ _ _).run _ W3.drew = _ at r5
          have F4 := Lib.hid (show TA w4 B g m1 m2 dv (n + 2) (takeT T (at_ : Int) x) ∧ Below B w w4 from ⟨d4.mono (by omega), b4⟩)
          have F5 := Lib.hid (show TA w5 B g m1 m2 dv (n + 2) (takeT T (at_ : Int) x) ∧ Below B w w5 from ⟨d5.mono (by omega), b5⟩)
          obtain ⟨t0, t1, t2, f0, f1, f2⟩ := HT3.out.toTA.cells
          obtain ⟨c0, c1, c2, c3, c4, c5, c6, c7, c8, c9, c10, c11, c12⟩ := Ent.ent_cells HT3.out.ent
          have q0 := HT3.out.crs.cell 0
          have q1 := HT3.out.crs.cell 1
          have q2 := HT3.out.crs.cell 2
          have q3 := HT3.out.crs.cell 3
          clear d4 d5 b4 b5 E1 E2 E3 HT3 HST HPG HO
          go_wp2_with fail
          go_region
          all_goals
            go_wp2
            go_end0
            first | exact ⟨rfl, _, F5.out⟩ | exact ⟨rfl, _, F4.out⟩
        | false =>
          obtain ⟨va, vc, rfl⟩ := own_shape HT2.out.row
          have FIN : Hid (∀ W6 v5 w5, Below W2.heap.size W2 W6 → AppRes W6 w5 B 56 3 (.slice va T.dn.length vc) v5 (T.dn ++ [txE x]).length (cellsG txV (T.dn ++ [txE x])) →
              (∃ a n c, v5 = .slice a n c) ∧ w5.cell? ⟨g, 2, none⟩ = some (.slice va T.dn.length vc) ∧ w5.frozen? ⟨g, 2, none⟩ = false ∧ TX w (w5.setCell ⟨g, 2, none⟩ v5) B g m1 m2 n gx gc x v5 ⟨T.tx, T.pg, T.dn ++ [txE x]⟩ ⟨b1, x.lsn, false, cf⟩) := Lib.hid fun W6 v5 w5 hb hA => by
            have h2 := HT2.out.below hb
            obtain ⟨a5, c5, e5⟩ := own_shape hA.1
            have hk : Blk w5 g 146 #[.map (some m1), .map (some m2), .slice va T.dn.length vc] := h2.blk.grown hA.2.1 (fun e => h2.toTA.row_ne.1 e.symm)
            exact ⟨⟨a5, _, c5, e5⟩, hk.cell 2, hk.frozen 2, h2.addDn hA⟩
          go_upto_region 13 with (fail)
          have d1 : W2.cell? ⟨g, 2, none⟩ = some (.slice va T.dn.length vc) := HT2.out.blk.cell 2
          have d6 : (W2.alloc (.cells #[.int .i64 x.cl, .int .i64 x.ep, .int .i64 x.n] 56)).cell? ⟨g, 2, none⟩ = some (.slice va T.dn.length vc) := ((Ent.below_box W2 _).cell (p := ⟨g, 2, none⟩) HT2.out.blk.lt).trans d1
          have d7 : (W2.alloc (.cells #[.int .i64 x.cl, .int .i64 x.ep, .int .i64 x.n] 56)).drew.cell? ⟨g, 2, none⟩ = some (.slice va T.dn.length vc) := d6
          have HROW := Lib.hid HT2.out.row
          have hBs := HT2.out.toTA.size
          clear q2
          go_cut [] (fun wx => ∃ v5, Hid (TX w wx B g m1 m2 n gx gc x v5 ⟨T.tx, T.pg, T.dn ++ [txE x]⟩ ⟨b1, x.lsn, false, cf⟩))
          case first =>
            go_region_law (refine step_dn (wr := W2) rfl (.tmp 60) (.tmp 63) rfl B (.slice va T.dn.length vc) T.dn (by simp [Act.eval]) W2.heap.size (txE x) (by simp [Act.eval]) ?hp HROW.out hBs (by omega) ?_; (case hp => first | exact ⟨(Ent.below_box W2 _).drew, Blk.new W2 _ _⟩ | exact ⟨Ent.below_box W2 _, Blk.new W2 _ _⟩); intro v5 w5 hb5 hA5; have HE := Lib.hid (FIN.out _ v5 w5 hb5 hA5); obtain ⟨a5, n5, c5, e5⟩ := HE.out.1; subst e5; have k5 := HE.out.2.1; have f5 := HE.out.2.2.1; clear hb5 hA5)
            all_goals
              have HEE := Lib.hid HE.out.2.2.2
              clear FIN HROW HT2 d6 d7
              go_wp2_with fail
              go_meet
              case rel => exact ⟨_, HEE⟩
          case rest =>
            obtain ⟨v5, HT3⟩ := hcut
            clear FIN HROW HT2 d1 d6 d7 c0 c1 c2 c3 c4 c5 c6 c7 c8 c9 c10 c11 c12
            have HT4 := Lib.hid ((HT3.out.setC 2 (.bool true) ⟨b1, x.lsn, true, cf⟩ rfl).setC 3 (.bool true) ⟨b1, x.lsn, true, true⟩ rfl)
            have q2 := HT3.out.crs.cell 2
            have q3 := HT3.out.crs.cell 3
            have g2 := HT3.out.crs.frozen 2
            have g3 := HT3.out.crs.frozen 3
            clear HT3
            go_upto_region 17 with (fail)
            generalize hGen : (wc.setCell ⟨gc, 2, none⟩ (.bool true)).setCell ⟨gc, 3, none⟩ (.bool true) = W3 at HT4 ⊢
            clear hGen
            clear q2 q3 g2 g3
            have E1 := Lib.hid (show ∀ t, (if t = txE x then some (⟨b1, x.lsn, true, true⟩ : Crs) else T.tx t) = (takeT T (at_ : Int) x).tx t from fun t => by
              show _ = if t = txE x then some (stepC (at_ : Int) x (T.tx (txE x))) else T.tx t
              rw [HST.out])
            have E2 := Lib.hid (show ∀ p, T.pg p = (takeT T (at_ : Int) x).pg p from fun p => by
              show _ = if x.kind < 3 ∧ (T.pg x.page).isSome = false ∧ p = x.page then some (at_ : Int) else T.pg p
              rw [HKK.out]; simp)
            have E3 := Lib.hid (show T.dn ++ [txE x] = (takeT T (at_ : Int) x).dn from by
              show _ = if x.kind = 3 ∧ ((T.tx (txE x)).getD crs0).com = false then T.dn ++ [txE x] else T.dn
              rw [HCM.out, HKK.out]; simp)
            obtain ⟨w4, r4, d4, b4⟩ := HT4.out.fin HSM.out (by omega) E1.out E2.out E3.out
            obtain ⟨w5, r5, d5, b5⟩ := (HT4.out.drewN 1).fin HSM.out (by omega) E1.out E2.out E3.out
            change (Instr.mapUpdate _ _ _ _).run _ W3.drew = _ at r5
            have F4 := Lib.hid (show TA w4 B g m1 m2 v5 (n + 2) (takeT T (at_ : Int) x) ∧ Below B w w4 from ⟨d4.mono (by omega), b4⟩)
            have F5 := Lib.hid (show TA w5 B g m1 m2 v5 (n + 2) (takeT T (at_ : Int) x) ∧ Below B w w5 from ⟨d5.mono (by omega), b5⟩)
            obtain ⟨t0, t1, t2, f0, f1, f2⟩ := HT4.out.toTA.cells
            obtain ⟨c0, c1, c2, c3, c4, c5, c6, c7, c8, c9, c10, c11, c12⟩ := Ent.ent_cells HT4.out.ent
            have q0 := HT4.out.crs.cell 0
            have q1 := HT4.out.crs.cell 1
            have q2 := HT4.out.crs.cell 2
            have q3 := HT4.out.crs.cell 3
            clear d4 d5 b4 b5 E1 E2 E3 HT4 HST HPG HO
            go_wp2_with fail
            go_region
            all_goals
              go_wp2
              go_end0
              first | exact ⟨rfl, _, F5.out⟩ | exact ⟨rfl, _, F4.out⟩
      · have e1 : (x.kind == 1) = false := by simp [hk]
        have e2 : (x.kind == 2) = false := by simp [hk]
        have e3 : (x.kind == 3) = false := by simp [hk]
        have e4 : (x.kind == 4) = true := by simp [hk]
        have HST := Lib.hid (show stepC (at_ : Int) x (T.tx (txE x)) = ⟨b1, x.lsn, cm, true⟩ by rw [HST0.out, hk]; simp)
        have HKK := Lib.hid hk
        clear hk HST0
        have HT3 := Lib.hid (HT2.out.setC 3 (.bool true) ⟨b1, x.lsn, cm, true⟩ rfl)
        obtain ⟨c0, c1, c2, c3, c4, c5, c6, c7, c8, c9, c10, c11, c12⟩ := Ent.ent_cells HT2.out.ent
        have q3 := HT2.out.crs.cell 3
        have g3 := HT2.out.crs.frozen 3
        clear HT2
        go_upto_region 17 with (fail)
        generalize hGen : W2.setCell ⟨gc, 3, none⟩ (.bool true) = W3 at HT3 ⊢
        clear hGen
        clear q3 g3 c0 c1 c2 c3 c4 c5 c6 c7 c8 c9 c10 c11 c12
        have E1 := Lib.hid (show ∀ t, (if t = txE x then some (⟨b1, x.lsn, cm, true⟩ : Crs) else T.tx t) = (takeT T (at_ : Int) x).tx t from fun t => by
          show _ = if t = txE x then some (stepC (at_ : Int) x (T.tx (txE x))) else T.tx t
          rw [HST.out])
        have E2 := Lib.hid (show ∀ p, T.pg p = (takeT T (at_ : Int) x).pg p from fun p => by
          show _ = if x.kind < 3 ∧ (T.pg x.page).isSome = false ∧ p = x.page then some (at_ : Int) else T.pg p
          rw [HKK.out]; simp)
        have E3 := Lib.hid (show T.dn = (takeT T (at_ : Int) x).dn from by
          show _ = if x.kind = 3 ∧ ((T.tx (txE x)).getD crs0).com = false then T.dn ++ [txE x] else T.dn
          rw [HKK.out]; simp)
        obtain ⟨w4, r4, d4, b4⟩ := HT3.out.fin HSM.out (by omega) E1.out E2.out E3.out
        obtain ⟨w5, r5, d5, b5⟩ := (HT3.out.drewN 1).fin HSM.out (by omega) E1.out E2.out E3.out
        change (Instr.mapUpdate _ _ _ _).run _ W3.drew = _ at r5
        have F4 := Lib.hid (show TA w4 B g m1 m2 dv (n + 2) (takeT T (at_ : Int) x) ∧ Below B w w4 from ⟨d4.mono (by omega), b4⟩)
        have F5 := Lib.hid (show TA w5 B g m1 m2 dv (n + 2) (takeT T (at_ : Int) x) ∧ Below B w w5 from ⟨d5.mono (by omega), b5⟩)
        obtain ⟨t0, t1, t2, f0, f1, f2⟩ := HT3.out.toTA.cells
        obtain ⟨c0, c1, c2, c3, c4, c5, c6, c7, c8, c9, c10, c11, c12⟩ := Ent.ent_cells HT3.out.ent
        have q0 := HT3.out.crs.cell 0
        have q1 := HT3.out.crs.cell 1
        have q2 := HT3.out.crs.cell 2
        have q3 := HT3.out.crs.cell 3
        clear d4 d5 b4 b5 E1 E2 E3 HT3 HST HPG HO
        go_wp2_with fail
        go_region
        all_goals
          go_wp2
          go_end0
          first | exact ⟨rfl, _, F5.out⟩ | exact ⟨rfl, _, F4.out⟩
end Go.Proofs.YtkeocnhndnbamaaGreat.Past
