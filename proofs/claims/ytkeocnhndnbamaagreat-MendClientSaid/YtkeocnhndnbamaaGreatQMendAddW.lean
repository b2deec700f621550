/- An entry more in a log: the statements' own add, walked. -/
import Derived.Test.YtkeocnhndnbamaaGreatQBook23
import Derived.Deep.RegionHeld3
namespace Go.Proofs.YtkeocnhndnbamaaGreat.Mend
set_option maxRecDepth 100000
open Go.RowKit Go.Sort
open Go.Proofs.YtkeocnhndnbamaaGreat.Mem
open Go.Proofs.YtkeocnhndnbamaaGreat.Slab (Slot Slots)
open Go.Proofs.YtkeocnhndnbamaaGreat.Ent (Ent goodB Ents SmallE cellsE noE)
open Go.Proofs.YtkeocnhndnbamaaGreat.Past (T3 txE AppRes cellsG cellsG_len cellsG_at run_appW wpList_runG)
open Go.Proofs.YtkeocnhndnbamaaGreat.MLog (upd upd_same upd_ne)
open Go.Proofs.YtkeocnhndnbamaaGreat.Patch
theorem own_frozen {w : World} {B size n c g : Nat} {t : TypeId} {xs : List Value} (h : w.ownsRow B t size (.slice (some ⟨g, 0, none⟩) n c) n xs) (j : Nat) : w.frozen? ⟨g, j, none⟩ = false := by
  obtain ⟨hl, ⟨e, _⟩ | ⟨g', cap', cur, e, hg, hb, hn2, hc, hcs, ht⟩⟩ := h
  · cases e
  · injection e with e1 e2 e3
    injection e1 with e1
    injection e1 with e1
    subst e1
    simp [World.frozen?, hb]
theorem wpList_copyLf {w : World} {ops : Array Oper} {rest : List Oper} {o : Oper} {a : Act} {Q : Exit → Act → World → Prop} (hgd : o.guard = none) (s x : Operand)
    (ho : o.op = .call { callee := .builtin .append, args := #[s, x], argTypes := #[30, 30] }) (B : Nat) (v : Value) (hs : a.eval s = v) (hown : w.ownsRow B 54 3 v 0 []) (g c : Nat) (hx : a.eval x = .slice (some ⟨g, 0, none⟩) 4 c) (R : List Ro) (hR : R.length = 4)
    (hc : ∀ j, j < 12 → w.cell? ⟨g, j, none⟩ = (cellsG lrV R)[j]?) (hB : B ≤ w.heap.size)
    (hK : ∀ v' w', AppRes w w' B 54 3 v v' 4 (cellsG lrV R) → wpList Tryz.prog ops Q rest (a.put o.dst v') w') : wpList Tryz.prog ops Q (o :: rest) a w := by
  have hlen : (cellsG lrV R).length = 12 := by rw [cellsG_len (m := 3) (fun _ => rfl), hR]
  obtain ⟨v', w', hr, h2⟩ := run_appW (ty := o.type) Tryz.underlying30 info_lf rfl (by decide) (by decide) hown (some ⟨g, 0, none⟩) 4 c (cellsG lrV R) (by rw [hlen]) (fun _ => ⟨_, rfl, fun j u hj => by
      have hlt := (List.getElem?_eq_some_iff.1 hj).1
      rw [hlen] at hlt
      rw [Addr.add_lit, Nat.zero_add, hc j hlt, hj]⟩) (fun u hu => by
      obtain ⟨y, -, hy⟩ := List.mem_flatMap.1 hu
      simp [lrV] at hy
      rcases hy with rfl | rfl | rfl <;> rfl) (by decide) hB
  rw [Nat.zero_add, List.nil_append] at h2
  exact wpList_runG hgd s x ho hs hx hr (hK v' w' h2)
def nwOf (p : PD) (x : Ent) : Pgs := if x.kind ≤ 2 then upd p.now x.page (redoN (p.now x.page).1 (p.now x.page).2 x, redoZ (p.now x.page).1 (p.now x.page).2 x) else p.now
theorem addP_yes {p : PD} {x : Ent} (h : addB p x = true) : addP p x = pushP p x (nwOf p x) := by unfold addP; rw [if_pos h]; rfl
theorem addP_no {p : PD} {x : Ent} (h : addB p x = false) : addP p x = p := by unfold addP; rw [if_neg (by rw [h]; simp)]
section
variable {w : World} {B u : Nat} {M : Nat → Prop} {lv nv av : Value} {p : PD}
set_option maxRecDepth 100000 in
set_option maxHeartbeats 16000000 in
theorem add_any (h : PM w B u M lv nv av p) (hBu : B ≤ u) (x : Ent) (hx : SmallE x) (hpg : x.kind ≤ 2 → ∃ k : Nat, k < 4 ∧ x.page = (k : Int)) {c : Nat} (hc5 : c < 5) (hcl : x.cl = (c : Int)) (hl : p.list.length ≤ 900000) (hal : p.all.length ≤ 900000) :
    Calls Tryz.prog 21 #[.pointer (some ⟨u, 0, none⟩), .agg #[.int .i64 x.kind, .int .i64 x.cl, .int .i64 x.ep, .int .i64 x.n, .int .i64 x.lsn, .int .i64 x.prev, .int .i64 x.page, .int .i64 x.slot, .bool x.wu, .string x.wd, .bool x.iu, .string x.id, .int .i64 x.next]] w fun e w' => e = .returned (.bool (addB p x)) ∧ PQ w' B u (addP p x) ∧ Below B w w' := by
  have H0 := Lib.hid h
  have HSX := Lib.hid hx
  have HPG := Lib.hid hpg
  have HCL := Lib.hid hcl
  have HUW := Lib.hid h.blk.lt
  obtain ⟨gn, cn, R0, en, hmn, hgn, hR0, hcn, hrx, hsl⟩ := h.now.rows
  subst en
  have hb1 := Ent.below_box w (.cells #[.int .i64 x.kind, .int .i64 x.cl, .int .i64 x.ep, .int .i64 x.n, .int .i64 x.lsn, .int .i64 x.prev, .int .i64 x.page, .int .i64 x.slot, .bool x.wu, .string x.wd, .bool x.iu, .string x.id, .int .i64 x.next] 58)
  have hb2 := below_go hb1 (Ent.below_box (w.alloc (.cells #[.int .i64 x.kind, .int .i64 x.cl, .int .i64 x.ep, .int .i64 x.n, .int .i64 x.lsn, .int .i64 x.prev, .int .i64 x.page, .int .i64 x.slot, .bool x.wu, .string x.wd, .bool x.iu, .string x.id, .int .i64 x.next] 58)) (.cells #[] 54))
  have hX := Lib.hid ((Blk.new w 58 #[.int .i64 x.kind, .int .i64 x.cl, .int .i64 x.ep, .int .i64 x.n, .int .i64 x.lsn, .int .i64 x.prev, .int .i64 x.page, .int .i64 x.slot, .bool x.wu, .string x.wd, .bool x.iu, .string x.id, .int .i64 x.next]).alloc (.cells #[] 54))
  have u1 : ((w.alloc (.cells #[.int .i64 x.kind, .int .i64 x.cl, .int .i64 x.ep, .int .i64 x.n, .int .i64 x.lsn, .int .i64 x.prev, .int .i64 x.page, .int .i64 x.slot, .bool x.wu, .string x.wd, .bool x.iu, .string x.id, .int .i64 x.next] 58)).alloc (.cells #[] 54)).cell? ⟨u, 1, none⟩ = some (.slice (some ⟨gn, 0, none⟩) 4 cn) := (h.blk.below hb2 h.blk.lt).cell 1
  have hcn2 : ∀ j, j < 12 → ((w.alloc (.cells #[.int .i64 x.kind, .int .i64 x.cl, .int .i64 x.ep, .int .i64 x.n, .int .i64 x.lsn, .int .i64 x.prev, .int .i64 x.page, .int .i64 x.slot, .bool x.wu, .string x.wd, .bool x.iu, .string x.id, .int .i64 x.next] 58)).alloc (.cells #[] 54)).cell? ⟨gn, j, none⟩ = (cellsG lrV R0)[j]? := fun j hj => (hb2.cell (p := ⟨gn, j, none⟩) hgn).trans (hcn j hj)
  have hown := Past.own_base (Past.own_new (w.alloc (.cells #[.int .i64 x.kind, .int .i64 x.cl, .int .i64 x.ep, .int .i64 x.n, .int .i64 x.lsn, .int .i64 x.prev, .int .i64 x.page, .int .i64 x.slot, .bool x.wu, .string x.wd, .bool x.iu, .string x.id, .int .i64 x.next] 58)) 54 3) (show w.heap.size ≤ (w.alloc (.cells #[.int .i64 x.kind, .int .i64 x.cl, .int .i64 x.ep, .int .i64 x.n, .int .i64 x.lsn, .int .i64 x.prev, .int .i64 x.page, .int .i64 x.slot, .bool x.wu, .string x.wd, .bool x.iu, .string x.id, .int .i64 x.next] 58)).heap.size by simp)
  have hs1 : (w.alloc (.cells #[.int .i64 x.kind, .int .i64 x.cl, .int .i64 x.ep, .int .i64 x.n, .int .i64 x.lsn, .int .i64 x.prev, .int .i64 x.page, .int .i64 x.slot, .bool x.wu, .string x.wd, .bool x.iu, .string x.id, .int .i64 x.next] 58)).heap.size = w.heap.size + 1 := by simp
  rw [hs1] at hown
  have HR0 := Lib.hid (And.intro hR0 (And.intro hrx hsl))
  have HOW := Lib.hid hown
  have HB2 := Lib.hid hb2
  have HCN := Lib.hid hcn2
  have hsz2 : w.heap.size ≤ ((w.alloc (.cells #[.int .i64 x.kind, .int .i64 x.cl, .int .i64 x.ep, .int .i64 x.n, .int .i64 x.lsn, .int .i64 x.prev, .int .i64 x.page, .int .i64 x.slot, .bool x.wu, .string x.wd, .bool x.iu, .string x.id, .int .i64 x.next] 58)).alloc (.cells #[] 54)).heap.size := hb2.size
  have HSZ := Lib.hid hsz2
  clear h hx hpg hcl hR0 hrx hsl hcn hcn2 hown hb1 hb2 hs1 hsz2 hmn hgn
  go_enter Tryz.func21, Tryz.ntmps21
  go_upto_region 2 with (at_builtin; refine wpList_copyLf rfl _ _ rfl w.heap.size _ rfl HOW.out gn cn rfl R0 HR0.out.1 HCN.out HSZ.out ?_; intro v5 w5 hA; have HA := Lib.hid hA; clear hA)
  have HCP := Lib.hid (show CP w w5 M v5 R0 p.now from by
    have hbel : Below w.heap.size w w5 := Past.below_grown HB2.out HSZ.out HA.out.2.1 fun k e => Past.own_ge HOW.out e
    refine ⟨hbel, HA.out.1, HR0.out.1, HR0.out.2.1, fun y hy => ⟨(HR0.out.2.2 y hy).2.1, (HR0.out.2.2 y hy).1.below hbel, fun b off e ha h0 => ?_⟩⟩
    have hmb := (HR0.out.2.2 y hy).2.2 b off e ha h0
    exact ⟨.inl hmb, fun e2 => by have := Past.own_ge HA.out.1 e2; have := H0.out.mlt b hmb; omega⟩)
  have HX5 := Lib.hid (hX.out.grown HA.out.2.1 (fun e => by have e : some w.heap.size = some (w.heap.size + 1) := e; injection e with e; omega))
  obtain ⟨g3, hg3⟩ : ∃ g3, w.heap.size = g3 := ⟨_, rfl⟩
  have HG3 := Lib.hid hg3
  rw [hg3] at HX5
  try rw [hg3]
  clear hg3 hX u1 HOW HB2 HCN HSZ HA HR0
  obtain ⟨va, vc, hv5⟩ := own_shape HCP.out.row
  subst hv5
  have c0 := HX5.out.cell 0
  obtain ⟨kb, hkb⟩ : ∃ kb, decide (x.kind ≤ 2) = kb := ⟨_, rfl⟩
  go_upto_if 17 with (fail)
  have HKB := Lib.hid hkb
  clear hkb c0
  go_cut [] (fun wx => ∃ R, Hid (addB p x = true ∧ CP w wx M (.slice va 4 vc) R (nwOf p x) ∧ Blk wx g3 58 #[.int .i64 x.kind, .int .i64 x.cl, .int .i64 x.ep, .int .i64 x.n, .int .i64 x.lsn, .int .i64 x.prev, .int .i64 x.page, .int .i64 x.slot, .bool x.wu, .string x.wd, .bool x.iu, .string x.id, .int .i64 x.next]))
  case first =>
    cases kb with
    | true =>
      have hk := of_decide_eq_true HKB.out
      obtain ⟨k, hk4, hkp⟩ := HPG.out hk
      obtain ⟨y, hy, hyx⟩ := HCP.out.rx k hk4
      obtain ⟨l5, hl5⟩ : ∃ l5, (p.now (k : Int)).1 = l5 := ⟨_, rfl⟩
      obtain ⟨z5, hz5⟩ : ∃ z5, (p.now (k : Int)).2 = z5 := ⟨_, rfl⟩
      rw [hl5, hz5] at hyx
      obtain ⟨N, hN⟩ : ∃ N, redoN l5 z5 x = N := ⟨_, rfl⟩
      obtain ⟨Z, hZ⟩ : ∃ Z, redoZ l5 z5 x = Z := ⟨_, rfl⟩
      obtain ⟨DD, hDD⟩ : ∃ D, redoD l5 z5 x = D := ⟨_, rfl⟩
      obtain ⟨CC, hCC⟩ : ∃ C, redoCode l5 z5 x = C := ⟨_, rfl⟩
      have HAB := Lib.hid (show addB p x = (decide (CC = 0) && DD) by unfold addB; rw [if_pos hk, hkp, hl5, hz5, hCC, hDD])
      have HNW := Lib.hid (show nwOf p x = upd p.now (k : Int) (N, Z) by unfold nwOf; rw [if_pos hk, hkp, hl5, hz5, hN, hZ])
      have HRN := Lib.hid hN
      have HRZ := Lib.hid hZ
      have HRD := Lib.hid hDD
      have HRC := Lib.hid hCC
      have HKP := Lib.hid hkp
      obtain ⟨g5, cap, e5, eo, hg5, hcell⟩ := own_pos HCP.out.row (by decide)
      injection e5 with e51 e52 e53
      subst e51 e53
      have hat : ∀ j, j < 3 → w5.cell? ⟨g5, k * 3 + j, none⟩ = (lrV y)[j]? := fun j hj => by
        rw [hcell _ (by omega)]
        exact cellsG_at (m := 3) (fun _ => rfl) R0 k y hy j hj
      have p1 : w5.cell? ⟨g5, k * 3 + 1, none⟩ = some (.int .i64 l5) := (hat 1 (by omega)).trans (by show some (Value.int .i64 y.x.l) = _; rw [hyx])
      have p2 : w5.cell? ⟨g5, k * 3 + 2, none⟩ = some (.slice y.a y.n y.c) := hat 2 (by omega)
      have hyz : y.x.z = z5 := by rw [hyx]
      have HSL := Lib.hid (show Slots w5 y.a y.n z5 ∧ y.n ≤ 1000000 from ⟨by have := (HCP.out.sl y (List.mem_of_getElem? hy)).2.1; rwa [hyz] at this, (HCP.out.sl y (List.mem_of_getElem? hy)).1⟩)
      have HG5 := Lib.hid (And.intro (show w.heap.size ≤ g5 from Past.own_ge HCP.out.row eo) hg5)
      have hkd : decide ((k : Int) < 4) = true := decide_eq_true (by omega)
      have hk0 : (0 : Int) ≤ (k : Int) := by omega
      have hkI : (k : Int) < 4 := by omega
      have HS := Lib.hid (show ∀ W', Below w5.heap.size w5 W' → W'.cell? ⟨g5, k * 3 + 1, none⟩ = some (.int .i64 l5) ∧ W'.cell? ⟨g5, k * 3 + 2, none⟩ = some (.slice y.a y.n y.c) ∧ W'.cell? ⟨g3, 0, none⟩ = some (.int .i64 x.kind) ∧ W'.cell? ⟨g3, 1, none⟩ = some (.int .i64 x.cl) ∧ W'.cell? ⟨g3, 2, none⟩ = some (.int .i64 x.ep) ∧ W'.cell? ⟨g3, 3, none⟩ = some (.int .i64 x.n) ∧ W'.cell? ⟨g3, 4, none⟩ = some (.int .i64 x.lsn) ∧ W'.cell? ⟨g3, 5, none⟩ = some (.int .i64 x.prev) ∧ W'.cell? ⟨g3, 6, none⟩ = some (.int .i64 x.page) ∧ W'.cell? ⟨g3, 7, none⟩ = some (.int .i64 x.slot) ∧ W'.cell? ⟨g3, 8, none⟩ = some (.bool x.wu) ∧ W'.cell? ⟨g3, 9, none⟩ = some (.string x.wd) ∧ W'.cell? ⟨g3, 10, none⟩ = some (.bool x.iu) ∧ W'.cell? ⟨g3, 11, none⟩ = some (.string x.id) ∧ W'.cell? ⟨g3, 12, none⟩ = some (.int .i64 x.next) from fun W' hb => by
        have hq := HX5.out.below hb HX5.out.lt
        exact ⟨(hb.cell (p := ⟨g5, k * 3 + 1, none⟩) HG5.out.2).trans p1, (hb.cell (p := ⟨g5, k * 3 + 2, none⟩) HG5.out.2).trans p2, hq.cell 0, hq.cell 1, hq.cell 2, hq.cell 3, hq.cell 4, hq.cell 5, hq.cell 6, hq.cell 7, hq.cell 8, hq.cell 9, hq.cell 10, hq.cell 11, hq.cell 12⟩)
      have HRDO := Lib.hid (show ∀ W, Slots W y.a y.n z5 → Calls Tryz.prog 36 #[.agg #[.int .i64 l5, .slice y.a y.n y.c], .agg #[.int .i64 x.kind, .int .i64 x.cl, .int .i64 x.ep, .int .i64 x.n, .int .i64 x.lsn, .int .i64 x.prev, .int .i64 (k : Int), .int .i64 x.slot, .bool x.wu, .string x.wd, .bool x.iu, .string x.id, .int .i64 x.next]] W (RedoRes none (redoN l5 z5 x) (redoZ l5 z5 x) (redoD l5 z5 x) (redoCode l5 z5 x) W) from fun W hs => by
        have h1 := redo_any l5 y.a y.n y.c z5 x W hs HSL.out.2 HSX.out
        rw [HKP.out] at h1
        exact h1)
      have z0 := HS.out w5 (Below.refl _ _)
      have z1 := HS.out w5.drew (Below.refl _ _).drew
      rw [HKP.out] at z0 z1
      rw [HKP.out] at HS
      clear p1 p2 hat hcell hy hyx hyz hl5 hz5 hN hZ hDD hCC hkp hk e52 eo hg5
      go_upto_region 3 with (fail)
      go_cut [6, 7, 8] (fun t6 t7 t8 wy => ∃ (g9 : Nat) (aa : Option Addr) (nn cc : Nat), t6 = .pointer (some ⟨g9, 0, none⟩) ∧ t7 = .bool DD ∧ t8 = .int .i64 CC ∧ Hid (Blk wy g9 52 #[.int .i64 N, .slice aa nn cc] ∧ Below w5.heap.size w5 wy ∧ w5.heap.size ≤ g9 ∧ Slots wy aa nn Z ∧ ∀ b off e, aa = some ⟨b, off, e⟩ → w5.heap.size ≤ b))
      case first =>
        go_region_held3 (fun W' => W'.cell? ⟨g5, k * 3 + 1, none⟩ = some (.int .i64 l5) ∧ W'.cell? ⟨g5, k * 3 + 2, none⟩ = some (.slice y.a y.n y.c) ∧ W'.cell? ⟨g3, 0, none⟩ = some (.int .i64 x.kind) ∧ W'.cell? ⟨g3, 1, none⟩ = some (.int .i64 x.cl) ∧ W'.cell? ⟨g3, 2, none⟩ = some (.int .i64 x.ep) ∧ W'.cell? ⟨g3, 3, none⟩ = some (.int .i64 x.n) ∧ W'.cell? ⟨g3, 4, none⟩ = some (.int .i64 x.lsn) ∧ W'.cell? ⟨g3, 5, none⟩ = some (.int .i64 x.prev) ∧ W'.cell? ⟨g3, 6, none⟩ = some (.int .i64 (k : Int)) ∧ W'.cell? ⟨g3, 7, none⟩ = some (.int .i64 x.slot) ∧ W'.cell? ⟨g3, 8, none⟩ = some (.bool x.wu) ∧ W'.cell? ⟨g3, 9, none⟩ = some (.string x.wd) ∧ W'.cell? ⟨g3, 10, none⟩ = some (.bool x.iu) ∧ W'.cell? ⟨g3, 11, none⟩ = some (.string x.id) ∧ W'.cell? ⟨g3, 12, none⟩ = some (.int .i64 x.next))
          (first | (with_unfolding_none exact K1.out _ _) | (with_unfolding_none assumption) | (with_unfolding_none exact z0) | (with_unfolding_none exact z1) | (with_unfolding_none exact HS.out _ (Ent.below_box _ _)) | (with_unfolding_none exact HS.out _ (Ent.below_box _ _).drew) | (with_unfolding_none exact HS.out _ (below_go B2.out (Ent.below_box _ _))) | (with_unfolding_none exact HS.out _ (below_go B2.out (Ent.below_box _ _)).drew))
          (first | (go_at_call 36; refine (HRDO.out _ (HSL.out.1.below (by first | (with_reducible exact Below.refl _ _) | (with_reducible exact bx_d _) | (with_reducible exact Ent.below_box _ _) | (with_reducible exact bx_ad _ _)))).mono ?_; rintro e w2 ⟨aa, nn, cc, rfl, hsl, b2, hfr⟩; have B2 := Lib.hid (show Below w5.heap.size w5 w2 from (by first | (with_reducible exact b2) | (with_reducible exact bn_d b2) | (with_reducible exact bn_a b2) | (with_reducible exact bn_ad b2))); (first | ((with_reducible have hq := pbox b2); have HBX := Lib.hid hq; clear hq; have e0 := HBX.out.cell 0; have e1 := HBX.out.cell 1; have f0 := HBX.out.frozen 0; have f1 := HBX.out.frozen 1; have HFR := Lib.hid (fresh_a hfr)) | ((with_reducible have hq := pbox_d b2); have HBX := Lib.hid hq; clear hq; have e0 := HBX.out.cell 0; have e1 := HBX.out.cell 1; have f0 := HBX.out.frozen 0; have f1 := HBX.out.frozen 1; have HFR := Lib.hid (fresh_ad hfr)) | (with_reducible have HFR := Lib.hid (fresh_d hfr)) | (with_reducible have HFR := Lib.hid (fresh_n hfr))); rw [HRZ.out] at hsl; have HSN := Lib.hid hsl; clear b2 hfr hsl; have z2 := HS.out w2 B2.out; rw [HRN.out, HRD.out, HRC.out]; have K1 := Lib.hid (show ∀ (q0 q1 : Value), ((w2.setCell ⟨w5.heap.size, 0, none⟩ q0).setCell ⟨w5.heap.size, 1, none⟩ q1).cell? ⟨g5, k * 3 + 1, none⟩ = some (.int .i64 l5) ∧ ((w2.setCell ⟨w5.heap.size, 0, none⟩ q0).setCell ⟨w5.heap.size, 1, none⟩ q1).cell? ⟨g5, k * 3 + 2, none⟩ = some (.slice y.a y.n y.c) ∧ ((w2.setCell ⟨w5.heap.size, 0, none⟩ q0).setCell ⟨w5.heap.size, 1, none⟩ q1).cell? ⟨g3, 0, none⟩ = some (.int .i64 x.kind) ∧ ((w2.setCell ⟨w5.heap.size, 0, none⟩ q0).setCell ⟨w5.heap.size, 1, none⟩ q1).cell? ⟨g3, 1, none⟩ = some (.int .i64 x.cl) ∧ ((w2.setCell ⟨w5.heap.size, 0, none⟩ q0).setCell ⟨w5.heap.size, 1, none⟩ q1).cell? ⟨g3, 2, none⟩ = some (.int .i64 x.ep) ∧ ((w2.setCell ⟨w5.heap.size, 0, none⟩ q0).setCell ⟨w5.heap.size, 1, none⟩ q1).cell? ⟨g3, 3, none⟩ = some (.int .i64 x.n) ∧ ((w2.setCell ⟨w5.heap.size, 0, none⟩ q0).setCell ⟨w5.heap.size, 1, none⟩ q1).cell? ⟨g3, 4, none⟩ = some (.int .i64 x.lsn) ∧ ((w2.setCell ⟨w5.heap.size, 0, none⟩ q0).setCell ⟨w5.heap.size, 1, none⟩ q1).cell? ⟨g3, 5, none⟩ = some (.int .i64 x.prev) ∧ ((w2.setCell ⟨w5.heap.size, 0, none⟩ q0).setCell ⟨w5.heap.size, 1, none⟩ q1).cell? ⟨g3, 6, none⟩ = some (.int .i64 (k : Int)) ∧ ((w2.setCell ⟨w5.heap.size, 0, none⟩ q0).setCell ⟨w5.heap.size, 1, none⟩ q1).cell? ⟨g3, 7, none⟩ = some (.int .i64 x.slot) ∧ ((w2.setCell ⟨w5.heap.size, 0, none⟩ q0).setCell ⟨w5.heap.size, 1, none⟩ q1).cell? ⟨g3, 8, none⟩ = some (.bool x.wu) ∧ ((w2.setCell ⟨w5.heap.size, 0, none⟩ q0).setCell ⟨w5.heap.size, 1, none⟩ q1).cell? ⟨g3, 9, none⟩ = some (.string x.wd) ∧ ((w2.setCell ⟨w5.heap.size, 0, none⟩ q0).setCell ⟨w5.heap.size, 1, none⟩ q1).cell? ⟨g3, 10, none⟩ = some (.bool x.iu) ∧ ((w2.setCell ⟨w5.heap.size, 0, none⟩ q0).setCell ⟨w5.heap.size, 1, none⟩ q1).cell? ⟨g3, 11, none⟩ = some (.string x.id) ∧ ((w2.setCell ⟨w5.heap.size, 0, none⟩ q0).setCell ⟨w5.heap.size, 1, none⟩ q1).cell? ⟨g3, 12, none⟩ = some (.int .i64 x.next) from fun q0 q1 => HS.out _ ((B2.out.setCell (p := ⟨w5.heap.size, 0, none⟩) (Nat.le_refl _) q0).setCell (p := ⟨w5.heap.size, 1, none⟩) (Nat.le_refl _) q1))))
        all_goals
          go_wp2_with fail
          go_meet
          case rel =>
            first
            | (with_unfolding_none exact ⟨_, aa, nn, cc, rfl, rfl, rfl, Lib.hid ⟨Blk.new w2 _ _, below_go B2.out (Ent.below_box _ _), B2.out.size, HSN.out.below (Ent.below_box _ _), fun b off e ha => HFR.out b off e ha⟩⟩)
            | exact ⟨_, aa, nn, cc, rfl, rfl, rfl, Lib.hid ⟨(HBX.out.set_ 0 _).set_ 1 _, (B2.out.setCell (p := ⟨w5.heap.size, 0, none⟩) (Nat.le_refl _) _).setCell (p := ⟨w5.heap.size, 1, none⟩) (Nat.le_refl _) _, Nat.le_refl _, slots_two HSN.out (fun b off e ha => Nat.ne_of_gt (HFR.out b off e ha)) _ _, fun b off e ha => Nat.le_of_lt (HFR.out b off e ha)⟩⟩
      case rest =>
        obtain ⟨g9, aa, nn, cc, rfl, rfl, rfl, H9⟩ := hcut
        have HC9 := Lib.hid (HCP.out.below H9.out.2.1)
        have HX9 := Lib.hid (HX5.out.below H9.out.2.1 HX5.out.lt)
        have HPQ := Lib.hid (show PQ wc B u p ∧ Below B w wc from ⟨⟨M, lv, _, av, H0.out.below HC9.out.bel, hBu⟩, HC9.out.bel.mono (by have := HUW.out; omega)⟩)
        clear z0 z1 HS HRDO
        by_cases hz : CC = 0
        · cases DD with
          | true =>
            have HAT := Lib.hid (show addB p x = true by rw [HAB.out, hz]; rfl)
            have hlen : nn ≤ 1000000 := by
              have hcode : redoCode l5 z5 x = 0 := by rw [HRC.out]; exact hz
              have hgood := (redo_zero hcode).1
              obtain ⟨h0, h1, -⟩ := Slab.good_parts hgood
              obtain ⟨-, -, -, -, -, i', -, hi⟩ := redo_of (i := ⟨z5, good_lsn hgood (by decide) (by decide)⟩) (lsn := l5) (x := x) hcode HRD.out
              have h2 := (Slab.good_parts i'.2).2.2.1
              have h3 := H9.out.2.2.2.1.1
              have hi : redoZ l5 z5 x = i'.1 := hi
              rw [← HRZ.out, hi] at h3
              omega
            have HPUT := Lib.hid (HC9.out.put hk4 (L := N) (z := Z) (a := aa) (n := nn) (c := cc) hlen H9.out.2.2.2.1 (fun b off e ha => by have h8 := H9.out.2.2.2.2 b off e ha; have := HG5.out.2; have := HCP.out.bel.size; exact ⟨by omega, by omega⟩))
            have hne : g3 ≠ g5 := fun e => own_ty HC9.out.row HX9.out (by decide) (by rw [e]; rfl)
            have HX10 := Lib.hid (((HX9.out.far (p := ⟨g5, k * 3, none⟩) hne (.int .i64 (k : Int))).far (p := ⟨g5, k * 3 + 1, none⟩) hne (.int .i64 N)).far (p := ⟨g5, k * 3 + 2, none⟩) hne (.slice aa nn cc))
            have f0 := own_frozen HC9.out.row (k * 3)
            have f1 := own_frozen HC9.out.row (k * 3 + 1)
            have f2 := own_frozen HC9.out.row (k * 3 + 2)
            have c6 : wc.cell? ⟨g3, 6, none⟩ = some (.int .i64 (k : Int)) := (HX9.out.cell 6).trans (by rw [← HKP.out]; rfl)
            have q0 := H9.out.1.cell 0
            have q1 := H9.out.1.cell 1
            obtain ⟨y9, hy9, -⟩ := HC9.out.rx k hk4
            have hat9 : ∀ j, j < 3 → ∃ v, wc.cell? ⟨g5, k * 3 + j, none⟩ = some v := fun j hj => by
              obtain ⟨g', cap', e5, -, -, hcell⟩ := own_pos HC9.out.row (by decide)
              injection e5 with e51 e52 e53
              injection e51 with e51
              injection e51 with e51
              subst e51
              exact ⟨_, (hcell _ (by omega)).trans ((cellsG_at (m := 3) (fun _ => rfl) R0 k y9 hy9 j hj).trans (List.getElem?_eq_getElem (by simp [lrV]; omega)))⟩
            obtain ⟨w0, t0⟩ := hat9 0 (by omega)
            obtain ⟨w1, t1⟩ := hat9 1 (by omega)
            obtain ⟨w2, t2⟩ := hat9 2 (by omega)
            rw [Nat.add_zero] at t0
            have hne0 : ((0 : Int) != 0) = false := by simp
            subst hz
            clear hat9 hy9 hne hlen
            go_wp2
            go_meet
            case rel => exact ⟨_, Lib.hid ⟨HAT.out, by rw [HNW.out]; exact HPUT.out, HX10.out⟩⟩
          | false =>
            have HAT := Lib.hid (show addB p x = false by rw [HAB.out]; simp)
            have hne0 : ((0 : Int) != 0) = false := by simp
            subst hz
            go_wp2
            exact bodyPost_ret (v := .bool false) (by simp [results, Tryz.results21, go_sem]) rfl ⟨by rw [HAT.out], by rw [addP_no HAT.out]; exact HPQ.out.1, HPQ.out.2⟩
        · have e1 : (CC != 0) = true := by simp [hz]
          have e2 : (CC == 0) = false := by simp [hz]
          have e3 : decide (CC = 0) = false := decide_eq_false hz
          have HAT := Lib.hid (show addB p x = false by rw [HAB.out, e3]; rfl)
          clear hz
          go_wp2
          exact bodyPost_ret (v := .bool false) (by simp [results, Tryz.results21, go_sem]) rfl ⟨by rw [HAT.out], by rw [addP_no HAT.out]; exact HPQ.out.1, HPQ.out.2⟩
    | false =>
      have hk := of_decide_eq_false HKB.out
      have HE := Lib.hid (show addB p x = true ∧ CP w w5 M (.slice va 4 vc) R0 (nwOf p x) ∧ Blk w5 g3 58 #[.int .i64 x.kind, .int .i64 x.cl, .int .i64 x.ep, .int .i64 x.n, .int .i64 x.lsn, .int .i64 x.prev, .int .i64 x.page, .int .i64 x.slot, .bool x.wu, .string x.wd, .bool x.iu, .string x.id, .int .i64 x.next] from ⟨by unfold addB; rw [if_neg hk], by unfold nwOf; rw [if_neg hk]; exact HCP.out, HX5.out⟩)
      clear hk
      go_wp2
      go_meet
      case rel => exact ⟨_, HE⟩
  case rest =>
    obtain ⟨R, H6⟩ := hcut
    clear HX5 HCP HPG HKB
    obtain ⟨vs, hpa, hvs, hall⟩ := PA.start H0.out hBu H6.out.2.1.bel
    have HVS := Lib.hid (And.intro hvs hall)
    obtain ⟨la, lc, hlv⟩ := own_shape hpa.list
    obtain ⟨aa, ac, hav⟩ := own_shape hpa.all
    subst hlv hav
    have HPA := Lib.hid hpa
    have HMU := Lib.hid (And.intro H0.out.mu H0.out.mlt)
    have HW6 := Lib.hid H6.out.2.1.bel.size
    have u0 : wc.cell? ⟨u, 0, none⟩ = some (.slice la p.list.length lc) := HPA.out.blk.cell 0
    have hbx := Ent.below_box wc (.cells #[.int .i64 x.kind, .int .i64 x.cl, .int .i64 x.ep, .int .i64 x.n, .int .i64 x.lsn, .int .i64 x.prev, .int .i64 x.page, .int .i64 x.slot, .bool x.wu, .string x.wd, .bool x.iu, .string x.id, .int .i64 x.next] 58)
    have u0' : (wc.alloc (.cells #[.int .i64 x.kind, .int .i64 x.cl, .int .i64 x.ep, .int .i64 x.n, .int .i64 x.lsn, .int .i64 x.prev, .int .i64 x.page, .int .i64 x.slot, .bool x.wu, .string x.wd, .bool x.iu, .string x.id, .int .i64 x.next] 58)).cell? ⟨u, 0, none⟩ = some (.slice la p.list.length lc) := (HPA.out.blk.below hbx HPA.out.blk.lt).cell 0
    have hX2 := Lib.hid (Blk.new wc 58 #[.int .i64 x.kind, .int .i64 x.cl, .int .i64 x.ep, .int .i64 x.n, .int .i64 x.lsn, .int .i64 x.prev, .int .i64 x.page, .int .i64 x.slot, .bool x.wu, .string x.wd, .bool x.iu, .string x.id, .int .i64 x.next])
    have hbx := Lib.hid hbx
    have HO := Lib.hid HPA.out.list
    have hBw : B ≤ wc.heap.size := by have := HUW.out; have := HW6.out; omega
    obtain ⟨c0, c1, c2, c3, c4, c5, c6, c7, c8, c9, c10, c11, c12⟩ := Ent.ent_cells H6.out.2.2
    have FIN := Lib.hid (show ∀ (wa w7 : World) (v7 : Value), Below wc.heap.size wc wa → AppRes wa w7 B 58 13 (.slice la p.list.length lc) v7 (p.list ++ [x]).length (cellsE (p.list ++ [x])) →
        (w7.cell? ⟨u, 0, none⟩ = some (.slice la p.list.length lc) ∧ w7.frozen? ⟨u, 0, none⟩ = false) ∧ PA w wc (w7.setCell ⟨u, 0, none⟩ v7) B u M ((pastA (.slice la p.list.length lc) (.slice (some ⟨gn, 0, none⟩) 4 cn) (.slice aa vs.length ac) p).setIfInBounds 0 v7) v7 (.slice aa vs.length ac) (p.list ++ [x]) vs from fun wa w7 v7 hb hA =>
      HPA.out.app hBu HMU.out.1 HUW.out HMU.out.2 HW6.out hb hA)
    clear hpa hvs hall
    go_upto_region 7 with (fail)
    go_region_law (refine step_ent (wr := wc) rfl (.tmp 48) (.tmp 50) rfl B (.slice la p.list.length lc) p.list (by simp [Act.eval]) wc.heap.size x (by simp [Act.eval]) ?hp HO.out hBw hl ?_; (case hp => first | exact ⟨hbx.out.drew, hX2.out⟩ | exact ⟨hbx.out, hX2.out⟩); intro v7 w7 hb7 hA7; have HE := Lib.hid (FIN.out _ _ _ hb7 hA7); obtain ⟨a7, c7', e7⟩ := own_shape hA7.1; rw [List.length_append, List.length_singleton] at e7; subst e7; have k7 := HE.out.1.1; have f7 := HE.out.1.2; clear hb7 hA7)
    all_goals
      have P7 := Lib.hid HE.out.2
      clear u0 u0' k7 f7 HE FIN c0 c1 c2 c3 c4 c5 c6 c7 c8 c9 c10 c11 c12 hX2 hbx HO
      generalize hGen : w7.setCell ⟨u, 0, none⟩ (.slice a7 (p.list.length + 1) c7') = W7 at P7 ⊢
      clear hGen
      have k1 : W7.cell? ⟨u, 1, none⟩ = some (.slice (some ⟨gn, 0, none⟩) 4 cn) := P7.out.blk.cell 1
      have f1 := P7.out.blk.frozen 1
      have P8 := Lib.hid (P7.out.set hBu HMU.out.1 HUW.out 1 (.slice va 4 vc))
      go_upto_region 9 with (fail)
      clear k1 f1 P7
      generalize hGen : W7.setCell ⟨u, 1, none⟩ (.slice va 4 vc) = W8 at P8 ⊢
      clear hGen
      have k2 : W8.cell? ⟨u, 2, none⟩ = some (.slice aa vs.length ac) := P8.out.blk.cell 2
      have hbz := Ent.below_box W8 (.cells #[.slice va 4 vc] 30)
      have HBZ := Lib.hid hbz
      have HAW := Lib.hid (own_below P8.out.all hbz)
      have hBw8 : B ≤ (W8.alloc (.cells #[.slice va 4 vc] 30)).heap.size := by have h9 := P8.out.keep.size; simp; omega
      have hvl : vs.length + 1 ≤ 1000000 := by have := HVS.out.1; omega
      have HBL := Lib.hid (Blk.new W8 30 #[.slice va 4 vc])
      have FIN := Lib.hid (show ∀ (w9 : World) (v9 : Value), AppRes (W8.alloc (.cells #[.slice va 4 vc] 30)) w9 B 30 1 (.slice aa vs.length ac) v9 (vs.length + 1) (vs ++ #[Value.slice va 4 vc].toList) →
          (w9.cell? ⟨u, 2, none⟩ = some (.slice aa vs.length ac) ∧ w9.frozen? ⟨u, 2, none⟩ = false) ∧ PA w wc (w9.setCell ⟨u, 2, none⟩ v9) B u M ((((pastA (.slice la p.list.length lc) (.slice (some ⟨gn, 0, none⟩) 4 cn) (.slice aa vs.length ac) p).setIfInBounds 0 (.slice a7 (p.list.length + 1) c7')).setIfInBounds 1 (.slice va 4 vc)).setIfInBounds 2 v9) (.slice a7 (p.list.length + 1) c7') v9 (p.list ++ [x]) (vs ++ [.slice va 4 vc]) from fun w9 v9 hA =>
        P8.out.app2 hBu HMU.out.1 HUW.out HMU.out.2 HW6.out HBZ.out hA)
      clear hbz
      go_upto_region 10 with (at_builtin; refine wpList_app1 Tryz.underlying31 info_lfs rfl (by decide) (by decide) rfl _ _ rfl B _ vs.length vs rfl HAW.out W8.heap.size rfl #[.slice va 4 vc] HBL.out rfl (fun z hz => by simp at hz; subst hz; rfl) hvl hBw8 ?_; intro v9 w9 hA9; have HE := Lib.hid (FIN.out w9 v9 hA9); obtain ⟨a9, c9, e9⟩ := own_shape hA9.1; subst e9; have k9 := HE.out.1.1; have f9 := HE.out.1.2; clear hA9)
      have P9 := Lib.hid HE.out.2
      clear k2 k9 f9 HE FIN HAW HBL HBZ
      generalize hGen : w9.setCell ⟨u, 2, none⟩ (.slice a9 (vs.length + 1) c9) = W9 at P9 ⊢
      clear hGen
      have HX9 := Lib.hid (P9.out.keep.blk H6.out.2.2 (.inr ⟨by rw [HG3.out]; exact Nat.le_refl _, H6.out.2.2.lt⟩))
      have c1 : W9.cell? ⟨g3, 1, none⟩ = some (.int .i64 (c : Int)) := (HX9.out.cell 1).trans (by rw [← HCL.out]; rfl)
      have c4 := HX9.out.cell 4
      have f5 := P9.out.blk.frozen (12 + c)
      obtain ⟨o5, k5⟩ : ∃ o5, W9.cell? ⟨u, 12 + c, none⟩ = some o5 := by
        rw [P9.out.blk.cell]
        exact ⟨_, Array.getElem?_eq_getElem (by simp [pastA]; omega)⟩
      have hcd : decide ((c : Int) < 5) = true := decide_eq_true (by omega)
      have hc0 : (0 : Int) ≤ (c : Int) := by omega
      have hcI : (c : Int) < 5 := by omega
      have P10 := Lib.hid (P9.out.set hBu HMU.out.1 HUW.out (12 + c) (.int .i64 x.lsn))
      have HFIN := Lib.hid (show PQ (W9.setCell ⟨u, 12 + c, none⟩ (.int .i64 x.lsn)) B u (addP p x) ∧ Below B w (W9.setCell ⟨u, 12 + c, none⟩ (.int .i64 x.lsn)) from ⟨by
        rw [addP_yes H6.out.1]
        exact PA.fin H0.out hBu HVS.out.1 HVS.out.2 H6.out.2.1 HSX.out HCL.out hc5 P10.out, P10.out.bel⟩)
      have HFIN2 := Lib.hid (show PQ (W9.drew.setCell ⟨u, 12 + c, none⟩ (.int .i64 x.lsn)) B u (addP p x) ∧ Below B w (W9.drew.setCell ⟨u, 12 + c, none⟩ (.int .i64 x.lsn)) from ⟨HFIN.out.1.below (Below.refl _ _).drew, HFIN.out.2.drew⟩)
      clear P9 P10
      go_region
      all_goals
        go_wp2
        exact bodyPost_ret (v := .bool true) (by simp [results, Tryz.results21, go_sem]) rfl ⟨by rw [H6.out.1], by first | exact HFIN.out.1 | exact HFIN2.out.1, by first | exact HFIN.out.2 | exact HFIN2.out.2⟩
end
end Go.Proofs.YtkeocnhndnbamaaGreat.Mend
