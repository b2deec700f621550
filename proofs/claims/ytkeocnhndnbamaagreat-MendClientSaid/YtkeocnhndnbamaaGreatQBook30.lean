/- What awake asks, on plain data. == of records told. awake: the answers that the document fixes by number. Whether pages hold just what is wanted: the statements' own holds, where they do. -/
import Derived.Test.YtkeocnhndnbamaaGreatQBook29
import Derived.Test.YtkeocnhndnbamaaGreatQBook5
import Derived.Test.YtkeocnhndnbamaaGreatQMendRowP
import Derived.Test.YtkeocnhndnbamaaGreatQBook6
import Derived.Test.YtkeocnhndnbamaaGreatQBook11
import Derived.Test.YtkeocnhndnbamaaGreatQBook2
namespace Go.Proofs.YtkeocnhndnbamaaGreat.Mend
set_option maxRecDepth 100000
open Go.Proofs.YtkeocnhndnbamaaGreat.Slab (Slot nos atL putCode putL)
open Go.Proofs.YtkeocnhndnbamaaGreat.Ent (Ent goodB longB)
open Go.Proofs.YtkeocnhndnbamaaGreat.Past (T3 txE)
open Go.Proofs.YtkeocnhndnbamaaGreat.MLog
open Go.Proofs.YtkeocnhndnbamaaGreat.Patch (allR)
def awX : Ent := ⟨1, 1, 1, 1, 5, 0, 2, 0, false, ⟨#[]⟩, true, ⟨#[97]⟩, 0⟩
def awL : List Ent := [awX]
def awT : T3 := ⟨1, 1, 1⟩
def awP : List Lf := [⟨2, 0, []⟩]
def awI : Im := ⟨[⟨true, ⟨#[97]⟩⟩], by decide⟩
theorem aw_good : ∀ x ∈ awL, goodB x = true := fun x hx => by
  have : x = awX := by simpa [awL] using hx
  rw [this]; decide
theorem aw_put : G.put i0 0 ⟨true, ⟨#[97]⟩⟩ = some awI := put_is.2 ⟨by decide, by rfl⟩
theorem aw_log : ∃ s : St T3 Slot Im, Log G i0 (awL.map enE) s ∧ s.pg 2 = (5, awI) ∧ s.stk awT = [enE awX] ∧ s.last awT = 5 ∧ s.ended awT = false := by
  have h0 : Log G i0 [] (st0 i0 : St T3 Slot Im) := .nil
  have h1 := Log.snoc h0 (Step.change (G := G) (s := st0 i0) (e := enE awX) (i' := awI) rfl rfl rfl (by decide) (by decide) (.inl rfl) (by rfl) aw_put)
  exact ⟨_, h1, by rfl, by rfl, by rfl, by rfl⟩
theorem aw_back : backL awL awT 0 = some awX := by rfl
theorem aw_ok : PagesOK awP := ⟨List.pairwise_singleton _ _, fun x hx => by
  have : x = ⟨2, 0, []⟩ := by simpa [awP] using hx
  rw [this]; decide, fun x hx => by
  have : x = ⟨2, 0, []⟩ := by simpa [awP] using hx
  rw [this]; decide⟩
theorem aw_fit : Fits awL awP := fun x hx => by
  have : x = awX := by simpa [awL] using hx
  rw [this]
  exact ⟨by decide, fun _ => by decide⟩
theorem aw_logok {s : St T3 Slot Im} (h : Log G i0 (awL.map enE) s) : LogOK awL s awP 5 :=
  ⟨h, aw_good, fun x hx => by
    have : x = awX := by simpa [awL] using hx
    rw [this]; decide, by decide, by decide, aw_ok, aw_fit⟩
theorem aw_redo {s : St T3 Slot Im} (h : Log G i0 (awL.map enE) s) (n : Int) : allR n 0 [] awL = (0, (s.pg n).1, (s.pg n).2.1) :=
  redo_log (A := []) (R := awL) aw_good (Log.nil) h n
theorem run_none {C : T3 → Prop} {L B : List (En T3 Slot)} {s m : St T3 Slot Im} (h : Run G C L s B m) (e : B = []) : m = s := by
  cases h with
  | refl => rfl
  | snoc => simp at e
theorem fin_none {B : List (En T3 Slot)} {s m : St T3 Slot Im} (h : Fin G s B m) (e : B = []) : m = s := by
  cases h with
  | refl => rfl
  | snoc => simp at e
/-- an image that has nothing is bare -/
theorem img_nil {i : Im} (h : ∀ k : Nat, G.at_ i k = nos) : i.1 = [] := by
  obtain ⟨-, -, -, h4, -⟩ := Slab.good_parts i.2
  rcases Nat.eq_zero_or_pos i.1.length with h0 | h0
  · exact List.length_eq_zero_iff.1 h0
  · exfalso
    have h5 := Slab.used_at i.1 (by omega)
    have h6 := h (Slab.usedN i.1 - 1)
    have h7 := Slab.atL_getD i.2 (Slab.usedN i.1 - 1)
    rw [← h7] at h5
    have h6 : atL 0 i.1 ((Slab.usedN i.1 - 1 : Nat) : Int) = nos := h6
    rw [h6] at h5
    cases h5
theorem aw_undo {s : St T3 Slot Im} (h : Log G i0 (awL.map enE) s) (h1 : s.stk awT = [enE awX]) (h2 : s.last awT = 5) (h3 : s.ended awT = false) {E : List Ent} {R : List Lf} (hp : PostU (fun _ => True) awL s awP 5 E R) :
    ∃ (e1 e2 : Ent) (l : Int), E = [e1, e2] ∧ e1.kind = 2 ∧ e2.kind = 4 ∧ R = [⟨2, l, []⟩] := by
  obtain ⟨B, F, m, z, rfl, hu, rfl, -, hlen⟩ := hp
  have hlen : (B ++ F).length ≤ 2 := hlen
  rw [List.length_append] at hlen
  obtain ⟨r1, r2, r3, r4, r5, r6, r7, r8⟩ := run_is h hu.run
  obtain ⟨f1, f2, f3, f4, f5, f6, f7⟩ := fin_is r1 hu.fin
  have hB : B ≠ [] := fun e => by
    have hm : m = s := run_none hu.run (by rw [e]; rfl)
    have hc := hu.clean awT trivial (by rw [r4]; exact h3)
    rw [hm, h1] at hc
    cases hc
  have hF : F ≠ [] := fun e => by
    have hz : z = m := fin_none hu.fin (by rw [e]; rfl)
    have hl : 0 < m.last awT := (r7 awT).2 (by omega)
    have := hu.all awT trivial (by rw [hz]; exact hl)
    rw [hz, r4, h3] at this
    cases this
  match B, F, hB, hF with
  | [b], [f], _, _ =>
    have hk := hu.kinds h
    have hb := (hk.1 b (by simp)).1
    have hf := (hk.2 f (by simp)).1
    have hb : b.kind.toNat = 2 := hb
    have hf : f.kind.toNat = 4 := hf
    refine ⟨b, f, (z.pg 2).1, rfl, by omega, by omega, ?_⟩
    have hfold := fun k => hu.folds h 2 k
    have hz : (z.pg 2).2.1 = [] := img_nil fun k => by rw [hfold]; rfl
    show List.map _ awP = _
    simp only [awP, List.map_cons, List.map_nil, hz]
  | b :: b' :: B, F, _, hF =>
    exfalso
    have : 0 < F.length := List.length_pos_iff.2 hF
    simp only [List.length_cons] at hlen
    omega
  | [b], f :: f' :: F, _, _ =>
    exfalso
    simp only [List.length_cons, List.length_nil] at hlen
    omega
theorem aw_rows : rowsL [⟨2, 5, [⟨true, ⟨#[97]⟩⟩]⟩] = [⟨2, 0, ⟨#[97]⟩⟩] := by rfl
end Go.Proofs.YtkeocnhndnbamaaGreat.Mend
namespace Go.Proofs.YtkeocnhndnbamaaGreat.Mend
set_option maxRecDepth 100000
open Go.RowKit
open Go.Proofs.YtkeocnhndnbamaaGreat.Mem
def sameRc (x y : Rc) : Bool := (x.n == y.n) && ((x.k == y.k) && (x.d.toList == y.d.toList))
theorem sameRc_eq (x y : Rc) : sameRc x y = true ↔ x = y := by
  unfold sameRc
  obtain ⟨n, k, d⟩ := x
  obtain ⟨n', k', d'⟩ := y
  simp only [Bool.and_eq_true, beq_iff_eq, Rc.mk.injEq]
  constructor
  · rintro ⟨h1, h2, h3⟩
    exact ⟨h1, h2, Slab.list_inj h3⟩
  · rintro ⟨h1, h2, h3⟩
    exact ⟨h1, h2, by rw [h3]⟩
set_option maxRecDepth 100000 in
set_option maxHeartbeats 800000 in
theorem run_eq_rc (x y : Rc) (w : World) : (binOp .eql 73 (.agg #[.int .i64 x.n, .int .i64 (x.k : Int), .string x.d]) (.agg #[.int .i64 y.n, .int .i64 (y.k : Int), .string y.d])).run Tryz.prog w = .ok (.bool (sameRc x y)) w := by
  have u4 := Tryz.underlying3
  have a4 := Tryz.isAgg3
  have z4 := Tryz.sizeOf3
  have u9 := Tryz.underlying9
  have a9 := Tryz.isAgg9
  have z9 := Tryz.sizeOf9
  have hS : Tryz.prog.underlying 73 = some (.struct (Tryz.prog.fieldsOf 73)) := by kernel_rfl
  have hp : Tryz.prog.stoodInHeld 73 = false := by kernel_rfl
  rw [run_eql_struct, show (10000 : Nat) = 9999 + 1 from rfl, run_equalIn_agg w 9999 73 _ _ hS hp]
  clear hS hp
  simp only [Program.fieldsOf, Tryz.underlying73]
  go_simp
  unfold sameRc
  have hk : ((x.k : Int) = (y.k : Int)) ↔ x.k = y.k := by omega
  by_cases h1 : x.n = y.n
  rotate_left
  · simp [h1]
  by_cases h2 : x.k = y.k
  rotate_left
  · have h3 : ¬ (x.k : Int) = (y.k : Int) := fun e => h2 (hk.1 e)
    simp [h1, h2, h3]
  have h3 : (x.k : Int) = (y.k : Int) := hk.2 h2
  by_cases h4 : x.d.toList = y.d.toList
  rotate_left
  · simp [h1, h2, h4]
  simp [h1, h2, h4]
theorem run_guard_rc (op : BinOp) (A B : Operand) (xs ys : Array Value) (w : World) : (eqGuard op 73 A B (.agg xs) (.agg ys)).run Tryz.prog w = .ok () w := run_eqGuard_agg w op 73 A B xs ys (by kernel_rfl)
end Go.Proofs.YtkeocnhndnbamaaGreat.Mend
namespace Go.Proofs.YtkeocnhndnbamaaGreat.Mend
set_option maxRecDepth 100000
open Go.RowKit
open Go.Proofs.YtkeocnhndnbamaaGreat.Mem
open Go.Proofs.YtkeocnhndnbamaaGreat.Slab (Slot Slots)
open Go.Proofs.YtkeocnhndnbamaaGreat.Ent (Ent goodB Ents SmallE noE)
open Go.Proofs.YtkeocnhndnbamaaGreat.Past (T3 txE SmT smI_of)
open Go.Proofs.YtkeocnhndnbamaaGreat.MLog
theorem aw_small : ∀ x ∈ awL, SmallE x := fun x hx => by
  have : x = awX := by simpa [awL] using hx
  rw [this]; exact ⟨by decide, by decide⟩
theorem aw_smt : SmT awT := ⟨smI_of (by decide), smI_of (by decide), smI_of (by decide)⟩
theorem aw_ents (W : World) : Ents (W.alloc (.cells #[.int .i64 1, .int .i64 1, .int .i64 1, .int .i64 1, .int .i64 5, .int .i64 0, .int .i64 2, .int .i64 0, .bool false, .string ⟨#[]⟩, .bool true, .string ⟨#[97]⟩, .int .i64 0] 58)) (some ⟨W.heap.size, 0, none⟩) 1 awL :=
  Ent.ents_of_blk (zs := awL) (t := 58) (Blk.new W 58 _) aw_small
theorem aw_leaves {w W : World} {g : Nat} (h : Blk w g 54 #[.int .i64 2, .int .i64 0, .slice none 0 0]) (hb : Below w.heap.size w W) : LeavesI W (some ⟨g, 0, none⟩) 1 awP := by
  have h2 := h.below hb h.lt
  refine ⟨rfl, fun x hx => ?_, fun _ => ⟨g, 0, rfl, h2.lt, fun i hi => ?_⟩⟩
  · have : x = ⟨2, 0, []⟩ := by simpa [awP] using hx
    rw [this]; decide
  · obtain rfl : i = 0 := by omega
    exact ⟨none, 0, 0, h2.cell 0, h2.cell 1, h2.cell 2, ⟨rfl, fun x hx => (nomatch hx), fun h => absurd h (Nat.lt_irrefl 0)⟩, Nat.zero_le _⟩
theorem aw_few : ∀ x ∈ [(⟨2, 5, [⟨true, ⟨#[97]⟩⟩]⟩ : Lf)], x.z.length ≤ 50 := fun x hx => by
  have e : x = ⟨2, 5, [⟨true, ⟨#[97]⟩⟩]⟩ := by simpa using hx
  rw [e]; decide
theorem aw_plen : awP.length = 1 := rfl
theorem aw_in {x : Lf} (hx : x ∈ awP) : x = ⟨2, 0, []⟩ := by simpa [awP] using hx
theorem aw_redone {w : World} {a : Option Addr} {s : St T3 Slot Im} (hr : Patch.allR 2 0 [] awL = (0, (s.pg 2).1, (s.pg 2).2.1)) (hp : s.pg 2 = (5, awI)) (h : LeavesI w a 1 (awP.map (redoLf awL))) : LeavesI w a 1 [⟨2, 5, [⟨true, ⟨#[97]⟩⟩]⟩] := by
  have e : awP.map (redoLf awL) = [⟨2, 5, [⟨true, ⟨#[97]⟩⟩]⟩] := by
    show [redoLf awL ⟨2, 0, []⟩] = _
    unfold redoLf
    rw [show Patch.allR (⟨2, 0, []⟩ : Lf).n (⟨2, 0, []⟩ : Lf).l (⟨2, 0, []⟩ : Lf).z awL = Patch.allR 2 0 [] awL from rfl, hr, hp]
    rfl
  rwa [e] at h
set_option maxRecDepth 100000 in
set_option maxHeartbeats 16000000 in
theorem awake_any (w : World) : Calls Tryz.prog 9 #[] w fun e w' => e = .returned (.bool true) ∧ Below w.heap.size w w' := by
  obtain ⟨s, hlog, hpg, hstk, hlast, hend⟩ := aw_log
  have HLOG := Lib.hid hlog
  have hok := aw_logok hlog
  have HU := Lib.hid (fun E R hp => aw_undo (E := E) (R := R) hlog hstk hlast hend hp)
  have hr := fun n => aw_redo hlog n
  have HPG := Lib.hid hpg
  have HOK := Lib.hid hok
  have HR := Lib.hid hr
  clear hlog hok hr hpg hstk hlast hend
  go_enter Tryz.func9, Tryz.ntmps9
  dsimp only [List.append]
  go_upto_region 2 with (fail)
  have HX := Lib.hid (Blk.new w 58 #[.int .i64 1, .int .i64 1, .int .i64 1, .int .i64 1, .int .i64 5, .int .i64 0, .int .i64 2, .int .i64 0, .bool false, .string ⟨#[]⟩, .bool true, .string ⟨#[97]⟩, .int .i64 0])
  have HB := Lib.hid (Ent.below_box w (.cells #[.int .i64 1, .int .i64 1, .int .i64 1, .int .i64 1, .int .i64 5, .int .i64 0, .int .i64 2, .int .i64 0, .bool false, .string ⟨#[]⟩, .bool true, .string ⟨#[97]⟩, .int .i64 0] 58))
  obtain ⟨gx, hgx⟩ : ∃ gx, w.heap.size = gx := ⟨_, rfl⟩
  rw [hgx] at HX
  try rw [hgx]
  clear hgx
  generalize hGen : w.alloc (.cells #[.int .i64 1, .int .i64 1, .int .i64 1, .int .i64 1, .int .i64 5, .int .i64 0, .int .i64 2, .int .i64 0, .bool false, .string ⟨#[]⟩, .bool true, .string ⟨#[97]⟩, .int .i64 0] 58) = W1 at HX HB ⊢
  clear hGen
  go_upto_region 3 with (fail)
  have HP := Lib.hid (Blk.new W1 54 #[.int .i64 2, .int .i64 0, .slice none 0 0])
  have HB2 := Lib.hid (below_go HB.out (Ent.below_box W1 (.cells #[.int .i64 2, .int .i64 0, .slice none 0 0] 54)))
  have HX2 := Lib.hid (HX.out.alloc (.cells #[.int .i64 2, .int .i64 0, .slice none 0 0] 54))
  obtain ⟨gp, hgp⟩ : ∃ gp, W1.heap.size = gp := ⟨_, rfl⟩
  rw [hgp] at HP
  try rw [hgp]
  clear hgp HX HB
  generalize hGen : W1.alloc (.cells #[.int .i64 2, .int .i64 0, .slice none 0 0] 54) = W2 at HP HB2 HX2 ⊢
  clear hGen
  obtain ⟨c0, c1, c2, c3, c4, c5, c6, c7, c8, c9, c10, c11, c12⟩ := Ent.ent_cells (x := awX) HX2.out
  simp only [awX] at c0 c1 c2 c3 c4 c5 c6 c7 c8 c9 c10 c11 c12
  have HE := Lib.hid (aw_ents W2)
  have HBE := Lib.hid (Ent.below_box W2 (.cells #[.int .i64 1, .int .i64 1, .int .i64 1, .int .i64 1, .int .i64 5, .int .i64 0, .int .i64 2, .int .i64 0, .bool false, .string ⟨#[]⟩, .bool true, .string ⟨#[97]⟩, .int .i64 0] 58))
  go_upto_region 4 with ((with_reducible refine (redo_pages _ 1 1 awL _ 1 1 awP _ HE.out (aw_leaves HP.out HBE.out) (by omega) (by omega) aw_ok aw_fit (fun x hx => (aw_in hx).symm ▸ (congrArg Prod.fst (HR.out 2)))).mono ?_); rintro e w3 ⟨qa, qc, rfl, hq, hb3⟩; have HQ := Lib.hid (aw_redone (HR.out 2) HPG.out hq); have HB3 := Lib.hid (below_go HBE.out hb3); clear hq hb3; rw [aw_plen])
  have HX3 := Lib.hid (HX2.out.below HB3.out HX2.out.lt)
  have HP3 := Lib.hid (HP.out.below HB3.out HP.out.lt)
  have HW3 := Lib.hid (below_go HB2.out HB3.out)
  clear HE HBE HB3 HX2 HP HB2 c0 c1 c2 c3 c4 c5 c6 c7 c8 c9 c10 c11 c12
  obtain ⟨c0, c1, c2, c3, c4, c5, c6, c7, c8, c9, c10, c11, c12⟩ := Ent.ent_cells (x := awX) HX3.out
  simp only [awX] at c0 c1 c2 c3 c4 c5 c6 c7 c8 c9 c10 c11 c12
  have HE := Lib.hid (aw_ents w3)
  have HBE := Lib.hid (Ent.below_box w3 (.cells #[.int .i64 1, .int .i64 1, .int .i64 1, .int .i64 1, .int .i64 5, .int .i64 0, .int .i64 2, .int .i64 0, .bool false, .string ⟨#[]⟩, .bool true, .string ⟨#[97]⟩, .int .i64 0] 58))
  go_upto_region 5 with ((with_reducible refine (restart_any HOK.out (fun x hx => (aw_in hx).symm ▸ (HR.out 2)) _ 1 1 _ 1 1 _ HE.out (aw_leaves HP3.out HBE.out) (by omega)).mono ?_); rintro e w4 ⟨E, R, a1, a2, k1, k2, rfl, hpost, he, hlv, hb4⟩; obtain ⟨e1, e2, l, hE, he1, he2, hR⟩ := HU.out E R hpost; subst hE hR; have HE4 := Lib.hid he.1; have HL4 := Lib.hid hlv; have HK := Lib.hid (And.intro he1 he2); have HB4 := Lib.hid (below_go HBE.out hb4); clear he hlv hb4 he1 he2 hpost)
  have HX4 := Lib.hid (HX3.out.below HB4.out HX3.out.lt)
  have HQ4 := Lib.hid (HQ.out.below HB4.out)
  have HW4 := Lib.hid (below_go HW3.out HB4.out)
  clear HE HBE HB4 HX3 HP3 HW3 HQ c0 c1 c2 c3 c4 c5 c6 c7 c8 c9 c10 c11 c12
  obtain ⟨c0, c1, c2, c3, c4, c5, c6, c7, c8, c9, c10, c11, c12⟩ := Ent.ent_cells (x := awX) HX4.out
  simp only [awX] at c0 c1 c2 c3 c4 c5 c6 c7 c8 c9 c10 c11 c12
  have HE := Lib.hid (aw_ents w4)
  have HBE := Lib.hid (Ent.below_box w4 (.cells #[.int .i64 1, .int .i64 1, .int .i64 1, .int .i64 1, .int .i64 5, .int .i64 0, .int .i64 2, .int .i64 0, .bool false, .string ⟨#[]⟩, .bool true, .string ⟨#[97]⟩, .int .i64 0] 58))
  obtain ⟨x0, x1, x2, x3, -⟩ := Ent.ent_cells (x := awX) (HX4.out.alloc (.cells #[.int .i64 1, .int .i64 1, .int .i64 1, .int .i64 1, .int .i64 5, .int .i64 0, .int .i64 2, .int .i64 0, .bool false, .string ⟨#[]⟩, .bool true, .string ⟨#[97]⟩, .int .i64 0] 58))
  simp only [awX] at x1 x2 x3
  have HBK := Lib.hid (show ∀ W, Ents W (some ⟨w4.heap.size, 0, none⟩) 1 awL → Calls Tryz.prog 18 #[.slice (some ⟨w4.heap.size, 0, none⟩) 1 1, .agg #[.int .i64 1, .int .i64 1, .int .i64 1], .int .i64 0] W (fun e w' => e = .returned (.tuple #[.agg #[.int .i64 1, .int .i64 1, .int .i64 1, .int .i64 1, .int .i64 5, .int .i64 0, .int .i64 2, .int .i64 0, .bool false, .string ⟨#[]⟩, .bool true, .string ⟨#[97]⟩, .int .i64 0], .bool true]) ∧ Below W.heap.size W w') from fun W h => by
    have hb := back_any (some ⟨w4.heap.size, 0, none⟩) 1 1 awL awT 0 W h aw_smt (by omega)
    rw [aw_back] at hb
    exact hb)
  go_upto_region 6 with ((with_reducible refine (HBK.out _ HE.out).mono ?_); rintro e w5 ⟨rfl, hb5⟩; have HB5 := Lib.hid (below_go HBE.out hb5); clear hb5)
  have HX5 := Lib.hid ((HX4.out.below HB5.out HX4.out.lt).alloc (.cells #[.int .i64 1, .int .i64 1, .int .i64 1, .int .i64 1, .int .i64 5, .int .i64 0, .int .i64 2, .int .i64 0, .bool false, .string ⟨#[]⟩, .bool true, .string ⟨#[97]⟩, .int .i64 0] 58))
  have hbz := below_go HB5.out (Ent.below_box w5 (.cells #[.int .i64 1, .int .i64 1, .int .i64 1, .int .i64 1, .int .i64 5, .int .i64 0, .int .i64 2, .int .i64 0, .bool false, .string ⟨#[]⟩, .bool true, .string ⟨#[97]⟩, .int .i64 0] 58))
  have HW6 := Lib.hid (below_go HW4.out hbz)
  have HY := Lib.hid (Blk.new w5 58 #[.int .i64 1, .int .i64 1, .int .i64 1, .int .i64 1, .int .i64 5, .int .i64 0, .int .i64 2, .int .i64 0, .bool false, .string ⟨#[]⟩, .bool true, .string ⟨#[97]⟩, .int .i64 0])
  have HQ6 := Lib.hid (HQ4.out.below hbz)
  have HE6 := Lib.hid (HE4.out.next hbz)
  have HL6 := Lib.hid (HL4.out.below hbz)
  clear hbz HE HBE HBK HX4 HQ4 HE4 HL4 HW4 HB5 x0 x1 x2 x3 c0 c1 c2 c3 c4 c5 c6 c7 c8 c9 c10 c11 c12
  obtain ⟨gy, hgy⟩ : ∃ gy, w5.heap.size = gy := ⟨_, rfl⟩
  rw [hgy] at HY
  try rw [hgy]
  clear hgy
  generalize hGen : w5.alloc (.cells #[.int .i64 1, .int .i64 1, .int .i64 1, .int .i64 1, .int .i64 5, .int .i64 0, .int .i64 2, .int .i64 0, .bool false, .string ⟨#[]⟩, .bool true, .string ⟨#[97]⟩, .int .i64 0] 58) = W6 at HX5 HY HQ6 HE6 HL6 HW6 ⊢
  clear hGen
  obtain ⟨qb, qo, qa', qn', qc', qx, rfl, hql, hqx, -, q1, -, -, -⟩ := HQ6.out.at_ (i := 0) (by omega)
  have hqx : (⟨2, 5, [⟨true, ⟨#[97]⟩⟩]⟩ : Lf) = qx := by simpa using hqx
  subst hqx
  obtain ⟨ab, ao, rfl, hal, hac⟩ := HE6.out.2.2 (by simp)
  have ha0 : W6.cell? ⟨ab, ao, none⟩ = some (.int .i64 2) := by have h := (hac 0 (by simp)).cells.1; rw [← HK.out.1]; simpa using h
  have ha1 : W6.cell? ⟨ab, ao + 13, none⟩ = some (.int .i64 4) := by have h := (hac 1 (by simp)).cells.1; rw [← HK.out.2]; simpa using h
  obtain ⟨lb, lo, la', ln', lc', lx, rfl, hll, hlx, -, -, l2, hls, -⟩ := HL6.out.at_ (i := 0) (by simp)
  have hlx : (⟨2, l, []⟩ : Lf) = lx := by simpa using hlx
  subst hlx
  have hln : ln' = 0 := by have := hls.1; simpa using this.symm
  subst hln
  have hq1 : W6.cell? ⟨qb, qo + 1, none⟩ = some (.int .i64 5) := by simpa using q1
  have hl2 : W6.cell? ⟨lb, lo + 2, none⟩ = some (.slice la' 0 lc') := by simpa using l2
  have HF := Lib.hid (show ∀ W', Below W6.heap.size W6 W' → W'.cell? ⟨ab, ao, none⟩ = some (.int .i64 2) ∧ W'.cell? ⟨ab, ao + 13, none⟩ = some (.int .i64 4) ∧ W'.cell? ⟨qb, qo + 1, none⟩ = some (.int .i64 5) ∧ W'.cell? ⟨lb, lo + 2, none⟩ = some (.slice la' 0 lc') ∧ (Blk W' gx 58 #[.int .i64 1, .int .i64 1, .int .i64 1, .int .i64 1, .int .i64 5, .int .i64 0, .int .i64 2, .int .i64 0, .bool false, .string ⟨#[]⟩, .bool true, .string ⟨#[97]⟩, .int .i64 0]) ∧ Blk W' gy 58 #[.int .i64 1, .int .i64 1, .int .i64 1, .int .i64 1, .int .i64 5, .int .i64 0, .int .i64 2, .int .i64 0, .bool false, .string ⟨#[]⟩, .bool true, .string ⟨#[97]⟩, .int .i64 0] from fun W' hb =>
    ⟨(hb.cell (p := ⟨ab, ao, none⟩) hal).trans ha0, (hb.cell (p := ⟨ab, ao + 13, none⟩) hal).trans ha1, (hb.cell (p := ⟨qb, qo + 1, none⟩) hql).trans hq1, (hb.cell (p := ⟨lb, lo + 2, none⟩) hll).trans hl2, HX5.out.below hb HX5.out.lt, HY.out.below hb HY.out.lt⟩)
  have HRW := Lib.hid (mrows_any (some ⟨qb, qo, none⟩) 1 qc _ W6 HQ6.out (by omega) aw_few)
  unfold RowsG at HRW
  rw [aw_rows] at HRW
  have hqe : ∀ w, (binOp .eql 58 (.agg #[.int .i64 1, .int .i64 1, .int .i64 1, .int .i64 1, .int .i64 5, .int .i64 0, .int .i64 2, .int .i64 0, .bool false, .string ⟨#[]⟩, .bool true, .string ⟨#[97]⟩, .int .i64 0]) (.agg #[.int .i64 1, .int .i64 1, .int .i64 1, .int .i64 1, .int .i64 5, .int .i64 0, .int .i64 2, .int .i64 0, .bool false, .string ⟨#[]⟩, .bool true, .string ⟨#[97]⟩, .int .i64 0])).run Tryz.prog w = .ok (.bool true) w := fun w => by have := Ent.run_eq_ent awX awX w; rw [Ent.sameE_refl] at this; exact this
  have hqr : ∀ w, (binOp .eql 73 (.agg #[.int .i64 2, .int .i64 0, .string ⟨#[97]⟩]) (.agg #[.int .i64 2, .int .i64 0, .string ⟨#[97]⟩])).run Tryz.prog w = .ok (.bool true) w := fun w => by have := run_eq_rc ⟨2, 0, ⟨#[97]⟩⟩ ⟨2, 0, ⟨#[97]⟩⟩ w; rw [(sameRc_eq _ _).2 rfl] at this; exact this
  have hge := fun (A B : Operand) xs ys W => Ent.run_guard_ent .eql A B xs ys W
  have hgr := fun (A B : Operand) xs ys W => run_guard_rc .eql A B xs ys W
  clear ha0 ha1 hac q1 l2 hls hq1 hl2 HX5 HY HQ6 HE6 HL6 hql hal hll HK HU HR HOK HPG HLOG
  go_wp2_with ((with_reducible refine HRW.out.mono ?_); rintro e w7 ⟨v, rfl, hv, hb7⟩; have HB7 := Lib.hid hb7; obtain ⟨rg, rc, e7, -, -, hrc⟩ := own_pos hv (by decide); subst e7; have r0 : w7.cell? ⟨rg, 0, none⟩ = some (.int .i64 2) := hrc 0 (by decide); have r1 : w7.cell? ⟨rg, 1, none⟩ = some (.int .i64 0) := hrc 1 (by decide); have r2 : w7.cell? ⟨rg, 2, none⟩ = some (.string ⟨#[97]⟩) := hrc 2 (by decide); obtain ⟨y0, y1, y2, y3, hbx, hby⟩ := HF.out w7 hb7; obtain ⟨c0, c1, c2, c3, c4, c5, c6, c7, c8, c9, c10, c11, c12⟩ := Ent.ent_cells (x := awX) hbx; obtain ⟨d0, d1, d2, d3, d4, d5, d6, d7, d8, d9, d10, d11, d12⟩ := Ent.ent_cells (x := awX) hby; simp only [awX] at c0 c1 c2 c3 c4 c5 c6 c7 c8 c9 c10 c11 c12 d0 d1 d2 d3 d4 d5 d6 d7 d8 d9 d10 d11 d12; clear hv hb7 hrc hbx hby HF HRW)
  exact bodyPost_ret (v := .bool true) (by simp [results, Tryz.results9, go_sem]) rfl ⟨rfl, below_go HW6.out HB7.out⟩
end Go.Proofs.YtkeocnhndnbamaaGreat.Mend
namespace Go.Proofs.YtkeocnhndnbamaaGreat.Mend
set_option maxRecDepth 100000
open Go.RowKit Go.Sort
open Go.Proofs.YtkeocnhndnbamaaGreat.Mem
open Go.Proofs.YtkeocnhndnbamaaGreat.Slab (Slot nos atL slotV sameB sameB_refl run_ne_slot run_guard_slot)
/-- what is wanted, as the cells of a [4][5]Slot -/
def wantA (f : Int → Int → Slot) : Array Value := #[
  .bool (f 0 0).u, .string (f 0 0).d, .bool (f 0 1).u, .string (f 0 1).d, .bool (f 0 2).u, .string (f 0 2).d, .bool (f 0 3).u, .string (f 0 3).d, .bool (f 0 4).u, .string (f 0 4).d,
  .bool (f 1 0).u, .string (f 1 0).d, .bool (f 1 1).u, .string (f 1 1).d, .bool (f 1 2).u, .string (f 1 2).d, .bool (f 1 3).u, .string (f 1 3).d, .bool (f 1 4).u, .string (f 1 4).d,
  .bool (f 2 0).u, .string (f 2 0).d, .bool (f 2 1).u, .string (f 2 1).d, .bool (f 2 2).u, .string (f 2 2).d, .bool (f 2 3).u, .string (f 2 3).d, .bool (f 2 4).u, .string (f 2 4).d,
  .bool (f 3 0).u, .string (f 3 0).d, .bool (f 3 1).u, .string (f 3 1).d, .bool (f 3 2).u, .string (f 3 2).d, .bool (f 3 3).u, .string (f 3 3).d, .bool (f 3 4).u, .string (f 3 4).d]
theorem want_at (f : Int → Int → Slot) {n k : Nat} (hn : n < 4) (hk : k < 5) : (wantA f)[n * 10 + k * 2]? = some (.bool (f n k).u) ∧ (wantA f)[n * 10 + k * 2 + 1]? = some (.string (f n k).d) := by
  rcases (show n = 0 ∨ n = 1 ∨ n = 2 ∨ n = 3 by omega) with rfl | rfl | rfl | rfl <;>
    rcases (show k = 0 ∨ k = 1 ∨ k = 2 ∨ k = 3 ∨ k = 4 by omega) with rfl | rfl | rfl | rfl | rfl <;> exact ⟨rfl, rfl⟩
/-- a row of four pages that can be read -/
def Four (w : World) (b off : Nat) (l : Nat → Int) (z : Nat → List Slot) : Prop :=
  b < w.heap.size ∧ ∀ i : Nat, i < 4 → ∃ a m d, w.cell? ⟨b, off + i * 3 + 1, none⟩ = some (.int .i64 (l i)) ∧ w.cell? ⟨b, off + i * 3 + 2, none⟩ = some (.slice a m d) ∧ Slab.Slots w a m (z i) ∧ m ≤ 1000000
theorem Four.below {w w' : World} {b off : Nat} {l : Nat → Int} {z : Nat → List Slot} (h : Four w b off l z) (hb : Below w.heap.size w w') : Four w' b off l z := by
  refine ⟨Nat.lt_of_lt_of_le h.1 hb.size, fun i hi => ?_⟩
  obtain ⟨a, m, d, c1, c2, c3, c4⟩ := h.2 i hi
  exact ⟨a, m, d, (hb.cell (p := ⟨b, off + i * 3 + 1, none⟩) h.1).trans c1, (hb.cell (p := ⟨b, off + i * 3 + 2, none⟩) h.1).trans c2, c3.mono hb (Nat.le_refl _), c4⟩
set_option maxRecDepth 100000 in
set_option maxHeartbeats 8000000 in
theorem holds_any (b off c : Nat) (l : Nat → Int) (z : Nat → List Slot) (f : Int → Int → Slot) (w : World) (h : Four w b off l z)
    (hf : ∀ n k : Nat, n < 4 → k < 32 → atL (l n) (z n) (k : Int) = if k < 5 then f n k else nos) :
    Calls Tryz.prog 13 #[.slice (some ⟨b, off, none⟩) 4 c, .agg (wantA f)] w fun e w' => e = .returned (.bool true) ∧ Below w.heap.size w w' := by
  have hbx := Ent.below_box w (.cells (wantA f) 43)
  have HP := Lib.hid (h.below hbx)
  have HF := Lib.hid hf
  have HW := Lib.hid (Blk.new w 43 (wantA f))
  have HB := Lib.hid hbx
  clear h hf hbx
  generalize hA : wantA f = A at HW HB HP ⊢
  have HA := Lib.hid hA
  clear hA
  go_enter Tryz.func13, Tryz.ntmps13
  go_upto_region 1 with (fail)
  generalize w.alloc (.cells A 43) = w1 at HW HB HP ⊢
  obtain ⟨g, hg⟩ : ∃ g, w.heap.size = g := ⟨_, rfl⟩
  have HG := Lib.hid hg
  rw [hg] at HW
  rw [hg]
  clear hg
  go_wp2
  go_loopw [5] (fun nv wr => ∃ n : Nat, n ≤ 4 ∧ nv = .int .i64 (n : Int) ∧ Hid (Below w1.heap.size w1 wr)) (fun nv _ => 4 - intN nv)
  case atStart => exact ⟨0, by omega, rfl, Lib.hid (Below.refl _ _)⟩
  case round =>
    obtain ⟨n, hn, rfl, H⟩ := hrel
    by_cases hnl : n < 4
    · have hd : decide ((n : Int) < 4) = true := decide_eq_true (by omega)
      go_wp2
      go_loopw [6] (fun kv wz => ∃ k : Nat, k ≤ 32 ∧ kv = .int .i64 (k : Int) ∧ Hid (Below w1.heap.size w1 wz)) (fun kv _ => 32 - intN kv)
      case atStart => exact ⟨0, by omega, rfl, H⟩
      case round =>
        obtain ⟨k, hk, rfl, H2⟩ := hrel
        by_cases hkl : k < 32
        · have hd2 : decide ((k : Int) < 32) = true := decide_eq_true (by omega)
          have HFK := Lib.hid (HF.out n k hnl hkl)
          by_cases hk5 : k < 5
          · as_aux_lemma =>
              have hd3 : decide ((k : Int) < 5) = true := decide_eq_true (by omega)
              have hWz := (HW.out.below H2.out HW.out.lt).alloc (.cells #[.bool false, .string ⟨#[]⟩] 41)
              have y0 := hWz.cell (n * 10 + k * 2)
              have y1 := hWz.cell (n * 10 + k * 2 + 1)
              rw [← HA.out, (want_at f hnl hk5).1] at y0
              rw [← HA.out, (want_at f hnl hk5).2] at y1
              have HX := Lib.hid (Blk.new wr 41 #[.bool (f n k).u, .string (f n k).d])
              have H3 := Lib.hid (below_go H2.out (Ent.below_box wr (.cells #[.bool (f n k).u, .string (f n k).d] 41)))
              clear hWz
              go_upto_region 12 with (fail)
              generalize hw5 : wr.alloc (.cells #[.bool (f n k).u, .string (f n k).d] 41) = w5 at HX H3 ⊢
              generalize wr.heap.size = x at HX ⊢
              clear hw5
              obtain ⟨a, m, d, c1, c2, c3, c4⟩ := (HP.out.below H3.out).2 n hnl
              have q0 := cell_regrown (HX.out.cell 0)
              have q1 := cell_regrown (HX.out.cell 1)
              have q2 := cell_regrown c1
              have q3 := cell_regrown c2
              have cA : ∀ dd os, Calls Tryz.prog 16 #[.agg #[.int .i64 (l n), .slice a m d], .int .i64 (k : Int)] (grow (redrawn w5 dd) os) fun e w'' => e = .returned (slotV (atL (l n) (z n) (k : Int))) ∧ ∃ p : Regrown, w'' = grow (redrawn w5 p.d) p.os := fun dd os => Calls.regrown_of (Slab.at_any (l n) a m d (z n) (k : Int) _ (c3.mono (below_regrown w5 dd os) (Nat.le_refl _)) c4)
              rw [HFK.out, if_pos hk5] at cA
              generalize f n k = y at cA q0 q1
              unfold slotV at cA
              have hq := fun W => run_ne_slot y.u y.u y.d y.d W
              rw [sameB_refl] at hq
              have hgd := fun (A B : Operand) xs ys W => run_guard_slot .neq A B xs ys W
              clear c1 c2 c3 y0 y1
              refine wp_region_quiet_below (by kernel_rfl) (by kernel_rfl) ?_
              repeat (go_big_quiet_step ((with_reducible exact cA _ _)))
              refine wpQuiet_nil ?_
              intro _ hw'
              obtain ⟨⟨dq, osq⟩, hw''⟩ := hw'
              subst hw''
              have b6 := below_regrown w5 dq osq
              generalize grow (redrawn w5 dq) osq = w6 at b6 ⊢
              have H4 := Lib.hid (below_go H3.out b6)
              clear b6 cA q0 q1 q2 q3
              go_wp2
              go_roundw
              case rel => exact ⟨k + 1, by omega, by go_num, H4⟩
              case measure => simp [intN]; omega
          · as_aux_lemma =>
              have hd3 : decide ((k : Int) < 5) = false := decide_eq_false (by omega)
              have HX := Lib.hid (Blk.new wr 41 #[.bool false, .string ⟨#[]⟩])
              have H3 := Lib.hid (below_go H2.out (Ent.below_box wr (.cells #[.bool false, .string ⟨#[]⟩] 41)))
              go_upto_region 12 with (fail)
              generalize hw5 : wr.alloc (.cells #[.bool false, .string ⟨#[]⟩] 41) = w5 at HX H3 ⊢
              generalize wr.heap.size = x at HX ⊢
              clear hw5
              obtain ⟨a, m, d, c1, c2, c3, c4⟩ := (HP.out.below H3.out).2 n hnl
              have q0 := cell_regrown (HX.out.cell 0)
              have q1 := cell_regrown (HX.out.cell 1)
              have q2 := cell_regrown c1
              have q3 := cell_regrown c2
              have cA : ∀ dd os, Calls Tryz.prog 16 #[.agg #[.int .i64 (l n), .slice a m d], .int .i64 (k : Int)] (grow (redrawn w5 dd) os) fun e w'' => e = .returned (slotV (atL (l n) (z n) (k : Int))) ∧ ∃ p : Regrown, w'' = grow (redrawn w5 p.d) p.os := fun dd os => Calls.regrown_of (Slab.at_any (l n) a m d (z n) (k : Int) _ (c3.mono (below_regrown w5 dd os) (Nat.le_refl _)) c4)
              rw [HFK.out, if_neg hk5] at cA
              unfold slotV nos at cA
              have hq := fun W => run_ne_slot false false ⟨#[]⟩ ⟨#[]⟩ W
              rw [sameB_refl] at hq
              have hgd := fun (A B : Operand) xs ys W => run_guard_slot .neq A B xs ys W
              clear c1 c2 c3
              refine wp_region_quiet_below (by kernel_rfl) (by kernel_rfl) ?_
              repeat (go_big_quiet_step ((with_reducible exact cA _ _)))
              refine wpQuiet_nil ?_
              intro _ hw'
              obtain ⟨⟨dq, osq⟩, hw''⟩ := hw'
              subst hw''
              have b6 := below_regrown w5 dq osq
              generalize grow (redrawn w5 dq) osq = w6 at b6 ⊢
              have H4 := Lib.hid (below_go H3.out b6)
              clear b6 cA q0 q1 q2 q3
              go_wp2
              go_roundw
              case rel => exact ⟨k + 1, by omega, by go_num, H4⟩
              case measure => simp [intN]; omega
        · obtain rfl : k = 32 := by omega
          go_wp2
          go_roundw
          case rel => exact ⟨n + 1, by omega, by go_num, H2⟩
          case measure => simp [intN]; omega
    · obtain rfl : n = 4 := by omega
      have HE := Lib.hid (show Below w.heap.size w wr from below_go HB.out H.out)
      go_wp2
      go_ret
      exact ⟨rfl, HE.out⟩
end Go.Proofs.YtkeocnhndnbamaaGreat.Mend
