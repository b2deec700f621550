/- undoAll: the losers wait; then one after the other is undone. -/
import Derived.Test.YtkeocnhndnbamaaGreatQMendUndo
import Derived.Test.YtkeocnhndnbamaaGreatQBook19
import Derived.Deep.LoopGhost
namespace Go.Proofs.YtkeocnhndnbamaaGreat.Mend
set_option maxRecDepth 100000
open Go.RowKit Go.Sort
open Go.Proofs.YtkeocnhndnbamaaGreat.Mem
open Go.Proofs.YtkeocnhndnbamaaGreat.Slab (Slot Slots)
open Go.Proofs.YtkeocnhndnbamaaGreat.Ent (Ent goodB Ents EntAt SmallE entA cellsE noE)
open Go.Proofs.YtkeocnhndnbamaaGreat.Past (T3 SmT txE AppRes cellsG ofL)
open Go.Proofs.YtkeocnhndnbamaaGreat.Latch (MapN Sm sm_of)
open Go.Proofs.YtkeocnhndnbamaaGreat.Patch (turnY turnB redoCode redoZ redoN)
def nzO (L : List Ent) (z : LZ) : Option Ent → LZ
  | some x => { z with nx := x, at_ := atOf L x }
  | none => z
theorem nz_b (L : List Ent) (z : LZ) (o : Option Ent) : (nzO L z o).b = z.b := by cases o <;> rfl
def bO (z : LZ) (o : Option Ent) : List Nat := if o.isSome then [z.b] else []
/-- f of the first j -/
def mapZ (f : LZ → LZ) (Z : List LZ) (j : Nat) : List LZ := (Z.take j).map f ++ Z.drop j
theorem mapZ_at (f : LZ → LZ) {Z : List LZ} {j : Nat} {z : LZ} (h : Z[j]? = some z) : (mapZ f Z j)[j]? = some z ∧ (mapZ f Z j).set j (f z) = mapZ f Z (j + 1) := by
  have hl := (List.getElem?_eq_some_iff.1 h).1
  have hz : ((Z.take j).map f).length = j := by rw [List.length_map, List.length_take]; omega
  have hd : Z.drop j = z :: Z.drop (j + 1) := by
    rw [List.drop_eq_getElem_cons hl, (List.getElem?_eq_some_iff.1 h).2]
  unfold mapZ
  constructor
  · rw [List.getElem?_append_right (by omega), hz, Nat.sub_self, hd]; rfl
  · rw [List.set_append_right _ _ (by omega), hz, Nat.sub_self, hd, List.set_cons_zero, List.take_add_one, h]
    simp
theorem mapZ_bs (f : LZ → LZ) (hf : ∀ z, (f z).b = z.b) (Z : List LZ) (j : Nat) : bsOf (mapZ f Z j) = bsOf Z := by
  unfold mapZ bsOf
  rw [List.map_append, List.map_map, show ((fun z : LZ => z.b) ∘ f) = (fun z : LZ => z.b) from funext hf, ← List.map_append, List.take_append_drop]
section
variable {w w' : World} {B u : Nat} {M : Nat → Prop} {D : WD} {L : List Ent} {ls : List Lf} {P : List Ro} {Z : List LZ} {Q : List Nat} {A : List Ent}
theorem follow_mem {O : List Ent} {y : Ent} : ∀ (f : Nat) (l : Int), followL O f l = some (some y) → y ∈ O
  | 0, _, h => by cases h
  | f + 1, l, h => by
    rw [followL] at h
    by_cases h0 : l = 0
    · rw [if_pos h0] at h; cases h
    · rw [if_neg h0] at h
      cases hf : O.find? (fun y => decide (y.lsn = l)) with
      | none => rw [hf] at h; cases h
      | some z =>
        rw [hf] at h
        dsimp only at h
        by_cases h1 : z.kind = 1
        · rw [if_pos h1] at h
          injection h with h
          injection h with h
          rw [← h]; exact List.mem_of_find?_eq_some hf
        · rw [if_neg h1] at h
          by_cases h2 : z.kind = 2
          · rw [if_pos h2] at h; exact follow_mem f _ h
          · rw [if_neg h2] at h; cases h
theorem next_mem {L : List Ent} {t : T3} {y : Ent} (h : nextL L t = some (some y)) : y ∈ L := by
  unfold nextL at h
  cases hl : (ofL L t).getLast? with
  | none => rw [hl] at h; cases h
  | some e =>
    rw [hl] at h
    dsimp only at h
    by_cases h1 : e.kind = 1
    · rw [if_pos h1] at h
      injection h with h
      injection h with h
      rw [← h]; exact (of_mem.1 (List.mem_of_getLast? hl)).1
    · rw [if_neg h1] at h
      by_cases h2 : e.kind = 2
      · rw [if_pos h2] at h; exact (of_mem.1 (follow_mem _ _ h)).1
      · rw [if_neg h2] at h; cases h
theorem set_self {Z : List LZ} {i : Nat} {z : LZ} (h : Z[i]? = some z) : Z.set i z = Z := by
  obtain ⟨h1, h2⟩ := List.getElem?_eq_some_iff.1 h
  rw [← h2, List.set_getElem_self]
/-- wait, whatever is next -/
theorem wwait_any (h : WM w B u M D L ls P Z Q A) {i : Nat} {z : LZ} (hz : Z[i]? = some z) (o : Option Ent) (ho : ∀ x, o = some x → x.kind = 1 ∧ goodB x = true) (hQ : Q.length ≤ 900000) :
    Calls Tryz.prog 48 #[.pointer (some ⟨u, 0, none⟩), .pointer (some ⟨z.b, 0, none⟩), .agg #[.int .i64 (o.getD noE).kind, .int .i64 (o.getD noE).cl, .int .i64 (o.getD noE).ep, .int .i64 (o.getD noE).n, .int .i64 (o.getD noE).lsn, .int .i64 (o.getD noE).prev, .int .i64 (o.getD noE).page, .int .i64 (o.getD noE).slot, .bool (o.getD noE).wu, .string (o.getD noE).wd, .bool (o.getD noE).iu, .string (o.getD noE).id, .int .i64 (o.getD noE).next]] w fun e w' => e = .returned (.tuple #[]) ∧ ∃ (v' : Value) (Q' : List Nat), Q'.Perm (Q ++ bO z o) ∧ WM w' B u M { D with qv := v' } L ls P (Z.set i (nzO L z o)) Q' A ∧ Below B w w' := by
  cases o with
  | none =>
    refine (wwait_none h noE (by decide)).mono ?_
    rintro e w' ⟨rfl, h1, h2⟩
    refine ⟨rfl, D.qv, Q, by simp [bO], ?_, h2.mono (by have := h.bu; have := h.blk.lt; omega)⟩
    show WM w' B u M D L ls P (Z.set i z) Q A
    rw [set_self hz]; exact h1
  | some x =>
    obtain ⟨h1, h2⟩ := ho x rfl
    refine (wwait_some h hz x h1 h2 hQ h.rest.en.1).mono ?_
    rintro e w' ⟨rfl, v', Q', q1, q2, q3⟩
    exact ⟨rfl, v', Q', q1, q2, q3⟩
/-- who waits -/
def nxO (L : List Ent) (t : T3) : Option Ent := (nextL L t).getD none
def nz1 (L : List Ent) (z : LZ) : LZ := nzO L z (nxO L z.t)
theorem wait_len (L : List Ent) : ∀ Z : List LZ, (Z.flatMap fun z => bO z (nxO L z.t)).length ≤ Z.length
  | [] => by simp
  | z :: r => by
    have := wait_len L r
    have h : (bO z (nxO L z.t)).length ≤ 1 := by unfold bO; split <;> simp
    simp only [List.flatMap_cons, List.length_append, List.length_cons]
    omega
structure WI (w W : World) (B u : Nat) (M : Nat → Prop) (D : WD) (L : List Ent) (ls : List Lf) (P : List Ro) (Z : List LZ) (A : List Ent) (j : Nat) : Prop where
  m : ∃ (v : Value) (Q : List Nat), Q.Perm ((Z.take j).flatMap fun z => bO z (nxO L z.t)) ∧ WM W B u M { D with qv := v } L ls P (mapZ (nz1 L) Z j) Q A
  b : Below B w W
theorem QC.pop {w W : World} {u g : Nat} {v v' : Value} (hg : w.grownBy W (some g)) (hu : u ≠ g) (hv : v.ownBlock = some g) (hv' : v'.ownBlock = some g) : QC w (W.setCell ⟨u, 6, none⟩ v') u v v' := by
  refine ⟨hg.os, hg.tape, hg.output, by simpa using hg.size, fun k hk h1 h2 => ?_, fun T cs hB => ?_, .inl (hv'.trans hv.symm)⟩
  · exact (Below.heap_setCell W ⟨u, 6, none⟩ v' k h1).trans (hg.block k hk (by rw [← hv]; exact h2))
  · have h1 : Blk W u T cs := hB.grown hg fun e => hu (by injection e)
    exact h1.set_ 6 v'
/-- what one more step of undoing wants, and what it leaves (J: so many rounds at most are to come) -/
structure UO (L : List Ent) (ls : List Lf) (J : Nat → List LZ → List Nat → List Ro → List Ent → Prop) (n : Nat) (Z : List LZ) (Q' : List Nat) (P : List Ro) (A : List Ent) (p i : Nat) (z : LZ) (k : Nat) (y : Ro) (lsn : Int) (x : Ent) (o : Option Ent) : Prop where
  hz : Z[i]? = some z
  hp : z.b = p
  hk : P[k]? = some y
  hidx : idxL ls z.nx.page = some k
  hsm : Sm z.nx.page
  hlsn : 1 + max y.x.l z.last = lsn
  hy : 0 ≤ y.x.l ∧ y.x.l ≤ 1099511627776
  hzl : 0 ≤ z.last ∧ z.last ≤ 1099511627776
  hl2 : lsn ≤ 1099511627776
  hsx : SmallE z.nx
  hx : turnY z.nx lsn z.last = x
  ht : turnB z.nx lsn z.last = true
  hr : redoCode y.x.l y.x.z x = 0
  hzn : (redoZ y.x.l y.x.z x).length ≤ 1000000
  hA : A.length ≤ 800000
  hT : SmT z.t
  hprev : 0 ≤ z.nx.prev ∧ z.nx.prev ≤ 1099511627776
  hlead : leadL L z.t z.nx.prev = some o
  ho : ∀ x', o = some x' → x'.kind = 1 ∧ goodB x' = true
  hQ : Q'.length ≤ 800000
  next : ∀ (y' : Ro) (Q2 : List Nat), y'.x = ⟨y.x.n, redoN y.x.l y.x.z x, redoZ y.x.l y.x.z x⟩ → Q2.Perm (Q' ++ bO z o) → J n ((Z.set i { z with last := lsn }).set i (nzO L { z with last := lsn } o)) Q2 (P.set k y') (A ++ [x])
/-- the loop's going -/
structure UI (w W : World) (B u : Nat) (M : Nat → Prop) (D : WD) (L : List Ent) (ls : List Lf) (J : Nat → List LZ → List Nat → List Ro → List Ent → Prop) (n : Nat) (M' : Nat → Prop) (qv av : Value) (Z : List LZ) (Q : List Nat) (P : List Ro) (A : List Ent) : Prop where
  mm : ∀ k, M k → M' k
  j : J n Z Q P A
  m : WM W B u M' { D with qv := qv, av := av } L ls P Z Q A
  b : Below B w W
set_option maxRecDepth 100000 in
set_option maxHeartbeats 8000000 in
theorem undoAll_any (h : WM w B u M D L ls P Z [] A) (hnx : ∀ z ∈ Z, nextL L z.t ≠ none) (hT : ∀ z ∈ Z, SmT z.t) (hG : ∀ x ∈ L, goodB x = true) (hZl : Z.length ≤ 1000) (J : Nat → List LZ → List Nat → List Ro → List Ent → Prop) (N : Nat)
    (hJ0 : ∀ Q, Q.Perm (Z.flatMap fun z => bO z (nxO L z.t)) → J N (mapZ (nz1 L) Z Z.length) Q P A) (hJQ : ∀ n Z Q P A, J n Z Q P A → Q.length ≤ 800000)
    (hJ : ∀ n Z Q P A, J n Z Q P A → ∀ p Q', (p :: Q').Perm Q → ∃ n' i z k y lsn x o, n' < n ∧ UO L ls J n' Z Q' P A p i z k y lsn x o) :
    Calls Tryz.prog 29 #[.pointer (some ⟨u, 0, none⟩)] w fun e w' => e = .returned (.int .i64 0) ∧ ∃ n M' qv av Z' P' A', UI w w' B u M D L ls J n M' qv av Z' [] P' A' := by
  have HJ0 := Lib.hid hJ0
  have HJQ := Lib.hid hJQ
  have HJS := Lib.hid hJ
  clear hJ0 hJQ hJ
  have H0 := Lib.hid (show WI w w B u M D L ls P Z A 0 from ⟨⟨D.qv, [], by simp, by simpa [mapZ] using h⟩, Below.refl _ _⟩)
  have u5' := h.blk.cell 5
  obtain ⟨la, lc, hlv⟩ := own_shape h.rest.lo
  have hu5 : w.cell? ⟨u, 5, none⟩ = some (.slice la Z.length lc) := by
    rw [show (bsOf Z).length = Z.length by unfold bsOf; rw [List.length_map]] at hlv
    rw [← hlv]; exact u5'
  have HLV := Lib.hid hlv
  have HNX := Lib.hid hnx
  have HTT := Lib.hid hT
  have HG := Lib.hid hG
  obtain ⟨m, hm⟩ : ∃ m, Z.length = m := ⟨_, rfl⟩
  rw [hm] at hu5 hZl
  have HM := Lib.hid hm
  clear h hlv hnx hT hG hm u5'
  go_enter Tryz.func29, Tryz.ntmps29
  go_wp2_with fail
  go_loopw [16] (fun iv wr => ∃ j : Nat, j ≤ m ∧ iv = .int .i64 (j : Int) ∧ Hid (WI w wr B u M D L ls P Z A j)) (fun iv _ => m - intN iv)
  case atStart => exact ⟨0, Nat.zero_le _, rfl, H0⟩
  case round =>
    obtain ⟨j, hj, rfl, HR⟩ := hrel
    clear H0 hu5
    by_cases hjl : j < m
    · obtain ⟨z, hz⟩ : ∃ z, Z[j]? = some z := ⟨_, List.getElem?_eq_getElem (by rw [HM.out]; exact hjl)⟩
      obtain ⟨qv, Q, hQ, HW⟩ := HR.out.m
      have HB := Lib.hid HR.out.b
      have HQ := Lib.hid hQ
      have hzm := List.mem_of_getElem? hz
      have HT := Lib.hid (HTT.out z hzm)
      obtain ⟨o, hno⟩ : ∃ o, nextL L z.t = some o := by
        cases e : nextL L z.t with
        | none => exact absurd e (HNX.out z hzm)
        | some o => exact ⟨o, rfl⟩
      have HO := Lib.hid (show nxO L z.t = o by unfold nxO; rw [hno]; rfl)
      obtain ⟨xx, hxx⟩ : ∃ xx, o.getD noE = xx := ⟨_, rfl⟩
      have HXX := Lib.hid hxx
      have HN := Lib.hid (show ansL (nextL L z.t) = (xx, 0) by rw [hno, ← hxx]; cases o <;> rfl)
      have HKD := Lib.hid (show ∀ x, o = some x → x.kind = 1 ∧ goodB x = true from fun x e => by
        rw [e] at hno
        exact ⟨next_kind hno, HG.out x (next_mem hno)⟩)
      have hEA := Lib.hid (mapZ_at (nz1 L) hz)
      have HJ := Lib.hid hEA.out.1
      have HJ0 := Lib.hid hz
      have hd : decide ((j : Int) < (m : Int)) = true := decide_eq_true (by omega)
      have hmb := mapZ_bs (nz1 L) (fun z => nz_b L z _) Z j
      have hbl : (bsOf Z).length = m := by unfold bsOf; rw [List.length_map, HM.out]
      obtain ⟨lg, lcap, e1, -, -, hcell⟩ := own_pos HW.rest.lo (by rw [hmb, hbl]; omega)
      rw [hmb, hbl] at e1
      have e2 := HLV.out.symm.trans e1
      rw [hbl] at e2
      injection e2 with e3 e4 e5
      subst e3 e5
      clear e4
      have l0 := hcell j (by rw [hmb, hbl]; omega)
      rw [hmb, show ((bsOf Z).map ptrV)[j]? = some (.pointer (some ⟨z.b, 0, none⟩)) by unfold bsOf; rw [List.getElem?_map, List.getElem?_map, hz]; rfl] at l0
      have HW := Lib.hid HW
      clear hcell hz hQ hno hxx hzm hmb
      have HS := Lib.hid (show ∀ W', Below wr.heap.size wr W' → W'.cell? ⟨u, 0, none⟩ = some (.slice D.a D.n D.c) ∧ W'.cell? ⟨u, 1, none⟩ = some (.map (some D.ml)) ∧ W'.cell? ⟨u, 2, none⟩ = some (.map (some D.mf)) ∧ W'.cell? ⟨z.b, 0, none⟩ = some (.int .i64 z.t.cl) ∧ W'.cell? ⟨z.b, 1, none⟩ = some (.int .i64 z.t.ep) ∧ W'.cell? ⟨z.b, 2, none⟩ = some (.int .i64 z.t.n) from fun W' hb => by
        obtain ⟨-, -, a0, a1, a2⟩ := work_all (HW.out.below hb).blk
        obtain ⟨a3, a4, a5, -⟩ := loser_head ((HW.out.below hb).lz z (List.mem_of_getElem? HJ.out)).1
        exact ⟨a0, a1, a2, a3, a4, a5⟩)
      have z0 := HS.out wr (Below.refl _ _)
      have z1 := HS.out wr.drew (Below.refl _ _).drew
      go_upto_region 4 with (fail)
      go_cut [5, 6] from 17 to 39 (fun t5 t6 wy => ∃ g5 : Nat, t5 = .pointer (some ⟨g5, 0, none⟩) ∧ t6 = .int .i64 0 ∧ Hid (Blk wy g5 58 #[.int .i64 xx.kind, .int .i64 xx.cl, .int .i64 xx.ep, .int .i64 xx.n, .int .i64 xx.lsn, .int .i64 xx.prev, .int .i64 xx.page, .int .i64 xx.slot, .bool xx.wu, .string xx.wd, .bool xx.iu, .string xx.id, .int .i64 xx.next] ∧ Below wr.heap.size wr wy))
      case first =>
        go_region_held3 (fun W' => W'.cell? ⟨u, 0, none⟩ = some (.slice D.a D.n D.c) ∧ W'.cell? ⟨u, 1, none⟩ = some (.map (some D.ml)) ∧ W'.cell? ⟨u, 2, none⟩ = some (.map (some D.mf)) ∧ W'.cell? ⟨z.b, 0, none⟩ = some (.int .i64 z.t.cl) ∧ W'.cell? ⟨z.b, 1, none⟩ = some (.int .i64 z.t.ep) ∧ W'.cell? ⟨z.b, 2, none⟩ = some (.int .i64 z.t.n))
          (first | (with_unfolding_none exact K1.out _ _ _ _ _ _ _ _ _ _ _ _ _) | (with_unfolding_none assumption) | (with_unfolding_none exact z0) | (with_unfolding_none exact z1) | (with_unfolding_none exact HS.out _ (Ent.below_box _ _)) | (with_unfolding_none exact HS.out _ (Ent.below_box _ _).drew) | (with_unfolding_none exact HS.out _ (below_go B2.out (Ent.below_box _ _))) | (with_unfolding_none exact HS.out _ (below_go B2.out (Ent.below_box _ _)).drew))
          (first | (go_at_call 34; refine (next_any _ _ _ _ _ _ L z.t _ (HW.out.below (by first | (with_reducible exact Below.refl _ _) | (with_reducible exact bx_d _) | (with_reducible exact Ent.below_box _ _) | (with_reducible exact bx_ad _ _))).rest.tr (HW.out.below (by first | (with_reducible exact Below.refl _ _) | (with_reducible exact bx_d _) | (with_reducible exact Ent.below_box _ _) | (with_reducible exact bx_ad _ _))).rest.en HG.out HT.out).mono ?_; rintro e w2 ⟨rfl, b2⟩; have B2 := Lib.hid (show Below wr.heap.size wr w2 from (by first | (with_reducible exact b2) | (with_reducible exact bn_d b2) | (with_reducible exact bn_a b2) | (with_reducible exact bn_ad b2))); (first | ((with_reducible have hq := ebox b2); have HBX := Lib.hid hq; clear hq; obtain ⟨e0, e1, e2, e3, e4, e5, e6, e7, e8, e9, e10, e11, e12⟩ := Ent.ent_cells (x := noE) HBX.out; simp only [noE] at e0 e1 e2 e3 e4 e5 e6 e7 e8 e9 e10 e11 e12; obtain ⟨f0, f1, f2, f3, f4, f5, f6, f7, f8, f9, f10, f11, f12⟩ := Ent.ent_frozen HBX.out) | ((with_reducible have hq := ebox_d b2); have HBX := Lib.hid hq; clear hq; obtain ⟨e0, e1, e2, e3, e4, e5, e6, e7, e8, e9, e10, e11, e12⟩ := Ent.ent_cells (x := noE) HBX.out; simp only [noE] at e0 e1 e2 e3 e4 e5 e6 e7 e8 e9 e10 e11 e12; obtain ⟨f0, f1, f2, f3, f4, f5, f6, f7, f8, f9, f10, f11, f12⟩ := Ent.ent_frozen HBX.out) | skip); clear b2; have z2 := HS.out w2 B2.out; rw [HN.out]; have K1 := Lib.hid (show ∀ (q0 q1 q2 q3 q4 q5 q6 q7 q8 q9 q10 q11 q12 : Value), (((((((((((((w2.setCell ⟨wr.heap.size, 0, none⟩ q0).setCell ⟨wr.heap.size, 1, none⟩ q1).setCell ⟨wr.heap.size, 2, none⟩ q2).setCell ⟨wr.heap.size, 3, none⟩ q3).setCell ⟨wr.heap.size, 4, none⟩ q4).setCell ⟨wr.heap.size, 5, none⟩ q5).setCell ⟨wr.heap.size, 6, none⟩ q6).setCell ⟨wr.heap.size, 7, none⟩ q7).setCell ⟨wr.heap.size, 8, none⟩ q8).setCell ⟨wr.heap.size, 9, none⟩ q9).setCell ⟨wr.heap.size, 10, none⟩ q10).setCell ⟨wr.heap.size, 11, none⟩ q11).setCell ⟨wr.heap.size, 12, none⟩ q12).cell? ⟨u, 0, none⟩ = some (.slice D.a D.n D.c) ∧ (((((((((((((w2.setCell ⟨wr.heap.size, 0, none⟩ q0).setCell ⟨wr.heap.size, 1, none⟩ q1).setCell ⟨wr.heap.size, 2, none⟩ q2).setCell ⟨wr.heap.size, 3, none⟩ q3).setCell ⟨wr.heap.size, 4, none⟩ q4).setCell ⟨wr.heap.size, 5, none⟩ q5).setCell ⟨wr.heap.size, 6, none⟩ q6).setCell ⟨wr.heap.size, 7, none⟩ q7).setCell ⟨wr.heap.size, 8, none⟩ q8).setCell ⟨wr.heap.size, 9, none⟩ q9).setCell ⟨wr.heap.size, 10, none⟩ q10).setCell ⟨wr.heap.size, 11, none⟩ q11).setCell ⟨wr.heap.size, 12, none⟩ q12).cell? ⟨u, 1, none⟩ = some (.map (some D.ml)) ∧ (((((((((((((w2.setCell ⟨wr.heap.size, 0, none⟩ q0).setCell ⟨wr.heap.size, 1, none⟩ q1).setCell ⟨wr.heap.size, 2, none⟩ q2).setCell ⟨wr.heap.size, 3, none⟩ q3).setCell ⟨wr.heap.size, 4, none⟩ q4).setCell ⟨wr.heap.size, 5, none⟩ q5).setCell ⟨wr.heap.size, 6, none⟩ q6).setCell ⟨wr.heap.size, 7, none⟩ q7).setCell ⟨wr.heap.size, 8, none⟩ q8).setCell ⟨wr.heap.size, 9, none⟩ q9).setCell ⟨wr.heap.size, 10, none⟩ q10).setCell ⟨wr.heap.size, 11, none⟩ q11).setCell ⟨wr.heap.size, 12, none⟩ q12).cell? ⟨u, 2, none⟩ = some (.map (some D.mf)) ∧ (((((((((((((w2.setCell ⟨wr.heap.size, 0, none⟩ q0).setCell ⟨wr.heap.size, 1, none⟩ q1).setCell ⟨wr.heap.size, 2, none⟩ q2).setCell ⟨wr.heap.size, 3, none⟩ q3).setCell ⟨wr.heap.size, 4, none⟩ q4).setCell ⟨wr.heap.size, 5, none⟩ q5).setCell ⟨wr.heap.size, 6, none⟩ q6).setCell ⟨wr.heap.size, 7, none⟩ q7).setCell ⟨wr.heap.size, 8, none⟩ q8).setCell ⟨wr.heap.size, 9, none⟩ q9).setCell ⟨wr.heap.size, 10, none⟩ q10).setCell ⟨wr.heap.size, 11, none⟩ q11).setCell ⟨wr.heap.size, 12, none⟩ q12).cell? ⟨z.b, 0, none⟩ = some (.int .i64 z.t.cl) ∧ (((((((((((((w2.setCell ⟨wr.heap.size, 0, none⟩ q0).setCell ⟨wr.heap.size, 1, none⟩ q1).setCell ⟨wr.heap.size, 2, none⟩ q2).setCell ⟨wr.heap.size, 3, none⟩ q3).setCell ⟨wr.heap.size, 4, none⟩ q4).setCell ⟨wr.heap.size, 5, none⟩ q5).setCell ⟨wr.heap.size, 6, none⟩ q6).setCell ⟨wr.heap.size, 7, none⟩ q7).setCell ⟨wr.heap.size, 8, none⟩ q8).setCell ⟨wr.heap.size, 9, none⟩ q9).setCell ⟨wr.heap.size, 10, none⟩ q10).setCell ⟨wr.heap.size, 11, none⟩ q11).setCell ⟨wr.heap.size, 12, none⟩ q12).cell? ⟨z.b, 1, none⟩ = some (.int .i64 z.t.ep) ∧ (((((((((((((w2.setCell ⟨wr.heap.size, 0, none⟩ q0).setCell ⟨wr.heap.size, 1, none⟩ q1).setCell ⟨wr.heap.size, 2, none⟩ q2).setCell ⟨wr.heap.size, 3, none⟩ q3).setCell ⟨wr.heap.size, 4, none⟩ q4).setCell ⟨wr.heap.size, 5, none⟩ q5).setCell ⟨wr.heap.size, 6, none⟩ q6).setCell ⟨wr.heap.size, 7, none⟩ q7).setCell ⟨wr.heap.size, 8, none⟩ q8).setCell ⟨wr.heap.size, 9, none⟩ q9).setCell ⟨wr.heap.size, 10, none⟩ q10).setCell ⟨wr.heap.size, 11, none⟩ q11).setCell ⟨wr.heap.size, 12, none⟩ q12).cell? ⟨z.b, 2, none⟩ = some (.int .i64 z.t.n) from fun q0 q1 q2 q3 q4 q5 q6 q7 q8 q9 q10 q11 q12 => HS.out _ (Ent.below13 B2.out (Nat.le_refl _) _ _ _ _ _ _ _ _ _ _ _ _ _))))
        all_goals
          go_wp2_with fail
          go_meet
          case rel =>
            first
            | (with_unfolding_none exact ⟨_, rfl, rfl, Lib.hid ⟨Blk.new w2 _ _, below_go B2.out (Ent.below_box _ _)⟩⟩)
            | (refine ⟨_, rfl, rfl, Lib.hid ⟨?_, ?_⟩⟩
               · exact blk13 HBX.out _ _ _ _ _ _ _ _ _ _ _ _ _
               · exact Ent.below13 B2.out (Nat.le_refl _) _ _ _ _ _ _ _ _ _ _ _ _ _)
      case rest =>
        obtain ⟨g5, rfl, rfl, H5⟩ := hcut
        clear z0 z1 HS
        have HW5 := Lib.hid (HW.out.below H5.out.2)
        have HB5 := Lib.hid (HB.out.trans (H5.out.2.mono (by have := HW.out.bu; have := HW.out.blk.lt; omega)))
        obtain ⟨c0, c1, c2, c3, c4, c5, c6, c7, c8, c9, c10, c11, c12⟩ := Ent.ent_cells H5.out.1
        have hql : Q.length ≤ 900000 := by
          have h1 := HQ.out.length_eq
          have h2 := wait_len L (Z.take j)
          rw [List.length_take] at h2
          omega
        have HWT := Lib.hid (wwait_any HW5.out HJ.out o HKD.out hql)
        rw [HXX.out] at HWT
        clear H5
        go_wp2_with (with_reducible refine (HWT.out).mono ?_; rintro e w4 ⟨rfl, v', Q', q1, q2, q3⟩; have H4 := Lib.hid (And.intro q1 (And.intro q2 q3)); clear q1 q2 q3)
        go_roundw
        case rel =>
          refine ⟨j + 1, by omega, by go_num, Lib.hid ⟨⟨v', Q', ?_, ?_⟩, HB5.out.trans H4.out.2.2⟩⟩
          · rw [List.take_add_one, HJ0.out, Option.toList_some, List.flatMap_append]
            simp only [List.flatMap_cons, List.flatMap_nil, List.append_nil]
            rw [HO.out]
            exact H4.out.1.trans (HQ.out.append_right _)
          · have h4 := H4.out.2.1
            have h5 := hEA.out.2
            rw [show nz1 L z = nzO L z o by unfold nz1; rw [HO.out]] at h5
            rw [h5] at h4
            exact h4
        case measure => simp [intN]; omega
    · obtain rfl : j = m := by omega
      have hd : decide ((j : Int) < (j : Int)) = false := decide_eq_false (by omega)
      obtain ⟨qv, Q, hQ, HW⟩ := HR.out.m
      rw [List.take_of_length_le (by rw [HM.out]; exact Nat.le_refl _)] at hQ
      have HU := Lib.hid (show ∃ M' qv av Z' Q P' A', UI w wr B u M D L ls J N M' qv av Z' Q P' A' from ⟨M, qv, D.av, _, Q, P, A, ⟨fun _ h => h, by have := HJ0.out Q hQ; rw [HM.out] at this; exact this, HW, HR.out.b⟩⟩)
      clear HW HR hQ HJ0
      go_wp2_with fail
      go_loopg [] N (fun gg wz => Hid (∃ M' qv av Z' Q P' A', UI w wz B u M D L ls J gg M' qv av Z' Q P' A'))
      case atStart => exact HU
      case round =>
        obtain ⟨M', qv, av, Z', Q, P', A', HV⟩ := hrel.out
        clear HU hrel
        obtain ⟨qa, qc, hqv⟩ := own_shape HV.m.qu
        have q6' := HV.m.blk.cell 6
        have q6 : wr.cell? ⟨u, 6, none⟩ = some (.slice qa Q.length qc) := by rw [← hqv]; exact q6'
        clear q6'
        have HVV := Lib.hid HV
        by_cases hq0 : Q.length = 0
        · have hQn : Q = [] := List.eq_nil_of_length_eq_zero hq0
          clear HV hqv
          rw [hq0] at q6
          go_wp2_with fail
          go_ret
          refine ⟨rfl, gk, M', qv, av, Z', P', A', ?_⟩
          have := HVV.out
          rw [hQn] at this
          exact this
        · have hd9 : 0 < Q.length := by omega
          obtain ⟨g, cap, e, hq⟩ := HV.m.qv.hq (by omega)
          have hqg : qv.ownBlock = some g := by rw [show qv = _ from e]; rfl
          have LP := Lib.hid (hpop_any hq (by omega) (by have := HJQ.out _ _ _ _ _ HV.j; omega))
          unfold qP at LP
          have HUG := Lib.hid hq.ug
          have HQG := Lib.hid hqg
          have hta : ∀ (W : World) (x : Value), (Instr.typeAssert (.iface 124 x) 20 124 false).run Tryz.prog W = .ok x W := fun _ _ => by kernel_rfl
          clear HV hqv e hq hqg hq0
          go_upto_region 12 with (first
            | (with_reducible refine (LP.out).mono ?_
               rintro e w2 ⟨p, Q', W, rfl, hperm, hq2, hgr, rfl⟩
               obtain ⟨n', i, z, k, y, lsn, x, o, hn, HO1⟩ := HJS.out _ _ _ _ _ HVV.out.j p Q' hperm
               have hc := QC.pop (v' := .slice (some ⟨g, 0, none⟩) Q'.length cap) hgr HUG.out HQG.out rfl
               have hm2 := HVV.out.m.requeue hc hq2.row (fun q hm => HVV.out.m.ql q (hperm.mem_iff.1 (List.mem_cons_of_mem _ hm)))
               have hb2 := HVV.out.b.trans (hc.bel HVV.out.m.bu HVV.out.m.blk.lt fun g hg => Past.own_ge HVV.out.m.qu hg)
               have HN1 := Lib.hid hn
               have HOO := Lib.hid HO1
               have HB2 := Lib.hid hb2
               have LU := Lib.hid (wundo_any hm2 HO1.hz HO1.hk HO1.hidx HO1.hsm HO1.hlsn HO1.hy HO1.hzl HO1.hl2 HO1.hsx HO1.hx HO1.ht HO1.hr HO1.hzn HO1.hA)
               rw [HO1.hp] at LU
               unfold ptrV
               clear hm2 hc hb2 hgr hq2 hperm HO1 hn)
            | (with_reducible refine (LU.out).mono ?_
               rintro e w3 ⟨rfl, M3, v3, y3, hM3, hy3, h3, hb3⟩
               have HW := Lib.hid h3
               have HM3 := Lib.hid (fun k hk => hM3 k (HVV.out.mm k hk))
               have HY3 := Lib.hid hy3
               have HB3 := Lib.hid (HB2.out.trans hb3)
               clear h3 hM3 hy3 hb3))
          obtain ⟨xx, hxx⟩ : ∃ xx, o.getD noE = xx := ⟨_, rfl⟩
          have HXX := Lib.hid hxx
          have HN := Lib.hid (show ansL (leadL L z.t z.nx.prev) = (xx, 0) by rw [HOO.out.hlead, ← hxx]; cases o <;> rfl)
          have HT := Lib.hid HOO.out.hT
          have HPV := Lib.hid HOO.out.hprev
          have HJ := Lib.hid (show (Z'.set i { z with last := lsn })[i]? = some { z with last := lsn } by rw [List.getElem?_set_self (List.getElem?_eq_some_iff.1 HOO.out.hz).1])
          have hpz : p = z.b := HOO.out.hp.symm
          subst hpz
          clear hd9 q6 hxx hta LP
          have HS := Lib.hid (show ∀ W', Below w3.heap.size w3 W' → W'.cell? ⟨u, 0, none⟩ = some (.slice D.a D.n D.c) ∧ W'.cell? ⟨u, 1, none⟩ = some (.map (some D.ml)) ∧ W'.cell? ⟨u, 2, none⟩ = some (.map (some D.mf)) ∧ W'.cell? ⟨z.b, 0, none⟩ = some (.int .i64 z.t.cl) ∧ W'.cell? ⟨z.b, 1, none⟩ = some (.int .i64 z.t.ep) ∧ W'.cell? ⟨z.b, 2, none⟩ = some (.int .i64 z.t.n) ∧ W'.cell? ⟨z.b, 9, none⟩ = some (.int .i64 z.nx.prev) from fun W' hb => by
            obtain ⟨-, -, a0, a1, a2⟩ := work_all (HW.out.below hb).blk
            have hl := ((HW.out.below hb).lz _ (List.mem_of_getElem? HJ.out)).1
            obtain ⟨a3, a4, a5, -⟩ := loser_head hl
            exact ⟨a0, a1, a2, a3, a4, a5, hl.cell 9⟩)
          have z0 := HS.out w3 (Below.refl _ _)
          have z1 := HS.out w3.drew (Below.refl _ _).drew
          go_upto_region 14 with (fail)
          go_cut [9, 10] from 58 to 81 (fun t9 t10 wy => ∃ g5 : Nat, t9 = .pointer (some ⟨g5, 0, none⟩) ∧ t10 = .int .i64 0 ∧ Hid (Blk wy g5 58 #[.int .i64 xx.kind, .int .i64 xx.cl, .int .i64 xx.ep, .int .i64 xx.n, .int .i64 xx.lsn, .int .i64 xx.prev, .int .i64 xx.page, .int .i64 xx.slot, .bool xx.wu, .string xx.wd, .bool xx.iu, .string xx.id, .int .i64 xx.next] ∧ Below w3.heap.size w3 wy))
          case first =>
            go_region_held3 (fun W' => W'.cell? ⟨u, 0, none⟩ = some (.slice D.a D.n D.c) ∧ W'.cell? ⟨u, 1, none⟩ = some (.map (some D.ml)) ∧ W'.cell? ⟨u, 2, none⟩ = some (.map (some D.mf)) ∧ W'.cell? ⟨z.b, 0, none⟩ = some (.int .i64 z.t.cl) ∧ W'.cell? ⟨z.b, 1, none⟩ = some (.int .i64 z.t.ep) ∧ W'.cell? ⟨z.b, 2, none⟩ = some (.int .i64 z.t.n) ∧ W'.cell? ⟨z.b, 9, none⟩ = some (.int .i64 z.nx.prev))
              (first | (with_unfolding_none exact K1.out _ _ _ _ _ _ _ _ _ _ _ _ _) | (with_unfolding_none assumption) | (with_unfolding_none exact z0) | (with_unfolding_none exact z1) | (with_unfolding_none exact HS.out _ (Ent.below_box _ _)) | (with_unfolding_none exact HS.out _ (Ent.below_box _ _).drew) | (with_unfolding_none exact HS.out _ (below_go B2.out (Ent.below_box _ _))) | (with_unfolding_none exact HS.out _ (below_go B2.out (Ent.below_box _ _)).drew))
              (first | (go_at_call 51; refine (lead_any _ _ _ _ _ _ L z.t z.nx.prev _ (HW.out.below (by first | (with_reducible exact Below.refl _ _) | (with_reducible exact bx_d _) | (with_reducible exact Ent.below_box _ _) | (with_reducible exact bx_ad _ _))).rest.tr (HW.out.below (by first | (with_reducible exact Below.refl _ _) | (with_reducible exact bx_d _) | (with_reducible exact Ent.below_box _ _) | (with_reducible exact bx_ad _ _))).rest.en HG.out HT.out HPV.out).mono ?_; rintro e w2 ⟨rfl, b2⟩; have B2 := Lib.hid (show Below w3.heap.size w3 w2 from (by first | (with_reducible exact b2) | (with_reducible exact bn_d b2) | (with_reducible exact bn_a b2) | (with_reducible exact bn_ad b2))); (first | ((with_reducible have hq := ebox b2); have HBX := Lib.hid hq; clear hq; obtain ⟨e0, e1, e2, e3, e4, e5, e6, e7, e8, e9, e10, e11, e12⟩ := Ent.ent_cells (x := noE) HBX.out; simp only [noE] at e0 e1 e2 e3 e4 e5 e6 e7 e8 e9 e10 e11 e12; obtain ⟨f0, f1, f2, f3, f4, f5, f6, f7, f8, f9, f10, f11, f12⟩ := Ent.ent_frozen HBX.out) | ((with_reducible have hq := ebox_d b2); have HBX := Lib.hid hq; clear hq; obtain ⟨e0, e1, e2, e3, e4, e5, e6, e7, e8, e9, e10, e11, e12⟩ := Ent.ent_cells (x := noE) HBX.out; simp only [noE] at e0 e1 e2 e3 e4 e5 e6 e7 e8 e9 e10 e11 e12; obtain ⟨f0, f1, f2, f3, f4, f5, f6, f7, f8, f9, f10, f11, f12⟩ := Ent.ent_frozen HBX.out) | skip); clear b2; have z2 := HS.out w2 B2.out; rw [HN.out]; have K1 := Lib.hid (show ∀ (q0 q1 q2 q3 q4 q5 q6 q7 q8 q9 q10 q11 q12 : Value), (((((((((((((w2.setCell ⟨w3.heap.size, 0, none⟩ q0).setCell ⟨w3.heap.size, 1, none⟩ q1).setCell ⟨w3.heap.size, 2, none⟩ q2).setCell ⟨w3.heap.size, 3, none⟩ q3).setCell ⟨w3.heap.size, 4, none⟩ q4).setCell ⟨w3.heap.size, 5, none⟩ q5).setCell ⟨w3.heap.size, 6, none⟩ q6).setCell ⟨w3.heap.size, 7, none⟩ q7).setCell ⟨w3.heap.size, 8, none⟩ q8).setCell ⟨w3.heap.size, 9, none⟩ q9).setCell ⟨w3.heap.size, 10, none⟩ q10).setCell ⟨w3.heap.size, 11, none⟩ q11).setCell ⟨w3.heap.size, 12, none⟩ q12).cell? ⟨u, 0, none⟩ = some (.slice D.a D.n D.c) ∧ (((((((((((((w2.setCell ⟨w3.heap.size, 0, none⟩ q0).setCell ⟨w3.heap.size, 1, none⟩ q1).setCell ⟨w3.heap.size, 2, none⟩ q2).setCell ⟨w3.heap.size, 3, none⟩ q3).setCell ⟨w3.heap.size, 4, none⟩ q4).setCell ⟨w3.heap.size, 5, none⟩ q5).setCell ⟨w3.heap.size, 6, none⟩ q6).setCell ⟨w3.heap.size, 7, none⟩ q7).setCell ⟨w3.heap.size, 8, none⟩ q8).setCell ⟨w3.heap.size, 9, none⟩ q9).setCell ⟨w3.heap.size, 10, none⟩ q10).setCell ⟨w3.heap.size, 11, none⟩ q11).setCell ⟨w3.heap.size, 12, none⟩ q12).cell? ⟨u, 1, none⟩ = some (.map (some D.ml)) ∧ (((((((((((((w2.setCell ⟨w3.heap.size, 0, none⟩ q0).setCell ⟨w3.heap.size, 1, none⟩ q1).setCell ⟨w3.heap.size, 2, none⟩ q2).setCell ⟨w3.heap.size, 3, none⟩ q3).setCell ⟨w3.heap.size, 4, none⟩ q4).setCell ⟨w3.heap.size, 5, none⟩ q5).setCell ⟨w3.heap.size, 6, none⟩ q6).setCell ⟨w3.heap.size, 7, none⟩ q7).setCell ⟨w3.heap.size, 8, none⟩ q8).setCell ⟨w3.heap.size, 9, none⟩ q9).setCell ⟨w3.heap.size, 10, none⟩ q10).setCell ⟨w3.heap.size, 11, none⟩ q11).setCell ⟨w3.heap.size, 12, none⟩ q12).cell? ⟨u, 2, none⟩ = some (.map (some D.mf)) ∧ (((((((((((((w2.setCell ⟨w3.heap.size, 0, none⟩ q0).setCell ⟨w3.heap.size, 1, none⟩ q1).setCell ⟨w3.heap.size, 2, none⟩ q2).setCell ⟨w3.heap.size, 3, none⟩ q3).setCell ⟨w3.heap.size, 4, none⟩ q4).setCell ⟨w3.heap.size, 5, none⟩ q5).setCell ⟨w3.heap.size, 6, none⟩ q6).setCell ⟨w3.heap.size, 7, none⟩ q7).setCell ⟨w3.heap.size, 8, none⟩ q8).setCell ⟨w3.heap.size, 9, none⟩ q9).setCell ⟨w3.heap.size, 10, none⟩ q10).setCell ⟨w3.heap.size, 11, none⟩ q11).setCell ⟨w3.heap.size, 12, none⟩ q12).cell? ⟨z.b, 0, none⟩ = some (.int .i64 z.t.cl) ∧ (((((((((((((w2.setCell ⟨w3.heap.size, 0, none⟩ q0).setCell ⟨w3.heap.size, 1, none⟩ q1).setCell ⟨w3.heap.size, 2, none⟩ q2).setCell ⟨w3.heap.size, 3, none⟩ q3).setCell ⟨w3.heap.size, 4, none⟩ q4).setCell ⟨w3.heap.size, 5, none⟩ q5).setCell ⟨w3.heap.size, 6, none⟩ q6).setCell ⟨w3.heap.size, 7, none⟩ q7).setCell ⟨w3.heap.size, 8, none⟩ q8).setCell ⟨w3.heap.size, 9, none⟩ q9).setCell ⟨w3.heap.size, 10, none⟩ q10).setCell ⟨w3.heap.size, 11, none⟩ q11).setCell ⟨w3.heap.size, 12, none⟩ q12).cell? ⟨z.b, 1, none⟩ = some (.int .i64 z.t.ep) ∧ (((((((((((((w2.setCell ⟨w3.heap.size, 0, none⟩ q0).setCell ⟨w3.heap.size, 1, none⟩ q1).setCell ⟨w3.heap.size, 2, none⟩ q2).setCell ⟨w3.heap.size, 3, none⟩ q3).setCell ⟨w3.heap.size, 4, none⟩ q4).setCell ⟨w3.heap.size, 5, none⟩ q5).setCell ⟨w3.heap.size, 6, none⟩ q6).setCell ⟨w3.heap.size, 7, none⟩ q7).setCell ⟨w3.heap.size, 8, none⟩ q8).setCell ⟨w3.heap.size, 9, none⟩ q9).setCell ⟨w3.heap.size, 10, none⟩ q10).setCell ⟨w3.heap.size, 11, none⟩ q11).setCell ⟨w3.heap.size, 12, none⟩ q12).cell? ⟨z.b, 2, none⟩ = some (.int .i64 z.t.n) ∧ (((((((((((((w2.setCell ⟨w3.heap.size, 0, none⟩ q0).setCell ⟨w3.heap.size, 1, none⟩ q1).setCell ⟨w3.heap.size, 2, none⟩ q2).setCell ⟨w3.heap.size, 3, none⟩ q3).setCell ⟨w3.heap.size, 4, none⟩ q4).setCell ⟨w3.heap.size, 5, none⟩ q5).setCell ⟨w3.heap.size, 6, none⟩ q6).setCell ⟨w3.heap.size, 7, none⟩ q7).setCell ⟨w3.heap.size, 8, none⟩ q8).setCell ⟨w3.heap.size, 9, none⟩ q9).setCell ⟨w3.heap.size, 10, none⟩ q10).setCell ⟨w3.heap.size, 11, none⟩ q11).setCell ⟨w3.heap.size, 12, none⟩ q12).cell? ⟨z.b, 9, none⟩ = some (.int .i64 z.nx.prev) from fun q0 q1 q2 q3 q4 q5 q6 q7 q8 q9 q10 q11 q12 => HS.out _ (Ent.below13 B2.out (Nat.le_refl _) _ _ _ _ _ _ _ _ _ _ _ _ _))))
            all_goals
              go_wp2_with fail
              go_meet
              case rel =>
                first
                | (with_unfolding_none exact ⟨_, rfl, rfl, Lib.hid ⟨Blk.new w2 _ _, below_go B2.out (Ent.below_box _ _)⟩⟩)
                | (refine ⟨_, rfl, rfl, Lib.hid ⟨?_, ?_⟩⟩
                   · exact blk13 HBX.out _ _ _ _ _ _ _ _ _ _ _ _ _
                   · exact Ent.below13 B2.out (Nat.le_refl _) _ _ _ _ _ _ _ _ _ _ _ _ _)
          case rest =>
            obtain ⟨g5, rfl, rfl, H5⟩ := hcut
            clear z0 z1 HS
            have HW5 := Lib.hid (HW.out.below H5.out.2)
            have HB5 := Lib.hid (HB3.out.trans (H5.out.2.mono (by have := HW.out.bu; have := HW.out.blk.lt; omega)))
            obtain ⟨c0, c1, c2, c3, c4, c5, c6, c7, c8, c9, c10, c11, c12⟩ := Ent.ent_cells H5.out.1
            have HWT := Lib.hid (wwait_any HW5.out HJ.out o HOO.out.ho (by have := HOO.out.hQ; omega))
            rw [HXX.out] at HWT
            clear H5
            go_wp2_with (with_reducible refine (HWT.out).mono ?_; rintro e w4 ⟨rfl, v', Q2, q1, q2, q3⟩; have H4 := Lib.hid (And.intro q1 (And.intro q2 q3)); clear q1 q2 q3)
            go_roundg n'
            case rel =>
              refine Lib.hid ⟨M3, v', v3, _, Q2, _, _, ⟨HM3.out, HOO.out.next y3 Q2 HY3.out ?_, ?_, HB5.out.trans H4.out.2.2⟩⟩
              · exact H4.out.1
              · exact H4.out.2.1
            all_goals exact HN1.out
end
end Go.Proofs.YtkeocnhndnbamaaGreat.Mend
