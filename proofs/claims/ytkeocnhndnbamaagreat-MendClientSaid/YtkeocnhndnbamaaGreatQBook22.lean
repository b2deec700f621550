/- wait, as the program does it. The losers' Ends. -/
import Derived.Test.YtkeocnhndnbamaaGreatQBook21
namespace Go.Proofs.YtkeocnhndnbamaaGreat.Mend
set_option maxRecDepth 100000
open Go.RowKit Go.Sort
open Go.Proofs.YtkeocnhndnbamaaGreat.Mem
open Go.Proofs.YtkeocnhndnbamaaGreat.Ent (Ent goodB Ents EntAt SmallE entA cellsE)
open Go.Proofs.YtkeocnhndnbamaaGreat.Past (T3 txE AppRes cellsG)
section
variable {w w' : World} {B u : Nat} {M : Nat → Prop} {D : WD} {L : List Ent} {ls : List Lf} {P : List Ro} {Z : List LZ} {Q : List Nat} {A : List Ent}
def atOf (L : List Ent) (x : Ent) : Int := numO (firstI L (pOf x))
theorem QC.bel {v v' : Value} (h : QC w w' u v v') (hu : B ≤ u) (hul : u < w.heap.size) (hv : ∀ g, v.ownBlock = some g → B ≤ g) : Below B w w' :=
  ⟨h.os, h.tape, h.output, h.size, fun k hk => h.block k (by omega) (by omega) fun e => by have := hv k e.symm; omega⟩
theorem loser_cells {w : World} {z : LZ} (h : Blk w z.b 126 (loserA z)) : w.cell? ⟨z.b, 4, none⟩ = some (.int .i64 z.nx.kind) ∧ w.cell? ⟨z.b, 5, none⟩ = some (.int .i64 z.nx.cl) ∧ w.cell? ⟨z.b, 6, none⟩ = some (.int .i64 z.nx.ep) ∧ w.cell? ⟨z.b, 7, none⟩ = some (.int .i64 z.nx.n) ∧ w.cell? ⟨z.b, 8, none⟩ = some (.int .i64 z.nx.lsn) ∧ w.cell? ⟨z.b, 9, none⟩ = some (.int .i64 z.nx.prev) ∧ w.cell? ⟨z.b, 10, none⟩ = some (.int .i64 z.nx.page) ∧ w.cell? ⟨z.b, 11, none⟩ = some (.int .i64 z.nx.slot) ∧ w.cell? ⟨z.b, 12, none⟩ = some (.bool z.nx.wu) ∧ w.cell? ⟨z.b, 13, none⟩ = some (.string z.nx.wd) ∧ w.cell? ⟨z.b, 14, none⟩ = some (.bool z.nx.iu) ∧ w.cell? ⟨z.b, 15, none⟩ = some (.string z.nx.id) ∧ w.cell? ⟨z.b, 16, none⟩ = some (.int .i64 z.nx.next) ∧ w.cell? ⟨z.b, 17, none⟩ = some (.int .i64 z.at_) :=
  ⟨h.cell 4, h.cell 5, h.cell 6, h.cell 7, h.cell 8, h.cell 9, h.cell 10, h.cell 11, h.cell 12, h.cell 13, h.cell 14, h.cell 15, h.cell 16, h.cell 17⟩
theorem loser_frozen {w : World} {z : LZ} (h : Blk w z.b 126 (loserA z)) : w.frozen? ⟨z.b, 4, none⟩ = false ∧ w.frozen? ⟨z.b, 5, none⟩ = false ∧ w.frozen? ⟨z.b, 6, none⟩ = false ∧ w.frozen? ⟨z.b, 7, none⟩ = false ∧ w.frozen? ⟨z.b, 8, none⟩ = false ∧ w.frozen? ⟨z.b, 9, none⟩ = false ∧ w.frozen? ⟨z.b, 10, none⟩ = false ∧ w.frozen? ⟨z.b, 11, none⟩ = false ∧ w.frozen? ⟨z.b, 12, none⟩ = false ∧ w.frozen? ⟨z.b, 13, none⟩ = false ∧ w.frozen? ⟨z.b, 14, none⟩ = false ∧ w.frozen? ⟨z.b, 15, none⟩ = false ∧ w.frozen? ⟨z.b, 16, none⟩ = false ∧ w.frozen? ⟨z.b, 17, none⟩ = false :=
  ⟨h.frozen 4, h.frozen 5, h.frozen 6, h.frozen 7, h.frozen 8, h.frozen 9, h.frozen 10, h.frozen 11, h.frozen 12, h.frozen 13, h.frozen 14, h.frozen 15, h.frozen 16, h.frozen 17⟩
theorem onl_below {g : Nat} (h : Onl g w w') (hg : B ≤ g) : Below B w w' := ⟨h.os, h.tape, h.output, Nat.le_of_eq h.size.symm, fun k hk => h.block k (by omega)⟩
set_option maxRecDepth 100000 in
theorem wait_end {w2 : World} (h : WM w2 B u M D L ls P Z Q A) {i : Nat} {z : LZ} (hz : Z[i]? = some z) (x : Ent) (a : Int) (hb : Below B w w2) : Hid (WM ((((((((((((((w2.setCell ⟨z.b, 4, none⟩ (.int .i64 x.kind)).setCell ⟨z.b, 5, none⟩ (.int .i64 x.cl)).setCell ⟨z.b, 6, none⟩ (.int .i64 x.ep)).setCell ⟨z.b, 7, none⟩ (.int .i64 x.n)).setCell ⟨z.b, 8, none⟩ (.int .i64 x.lsn)).setCell ⟨z.b, 9, none⟩ (.int .i64 x.prev)).setCell ⟨z.b, 10, none⟩ (.int .i64 x.page)).setCell ⟨z.b, 11, none⟩ (.int .i64 x.slot)).setCell ⟨z.b, 12, none⟩ (.bool x.wu)).setCell ⟨z.b, 13, none⟩ (.string x.wd)).setCell ⟨z.b, 14, none⟩ (.bool x.iu)).setCell ⟨z.b, 15, none⟩ (.string x.id)).setCell ⟨z.b, 16, none⟩ (.int .i64 x.next)).setCell ⟨z.b, 17, none⟩ (.int .i64 a)) B u M D L ls P (Z.set i { z with nx := x, at_ := a }) Q A ∧ Below B w ((((((((((((((w2.setCell ⟨z.b, 4, none⟩ (.int .i64 x.kind)).setCell ⟨z.b, 5, none⟩ (.int .i64 x.cl)).setCell ⟨z.b, 6, none⟩ (.int .i64 x.ep)).setCell ⟨z.b, 7, none⟩ (.int .i64 x.n)).setCell ⟨z.b, 8, none⟩ (.int .i64 x.lsn)).setCell ⟨z.b, 9, none⟩ (.int .i64 x.prev)).setCell ⟨z.b, 10, none⟩ (.int .i64 x.page)).setCell ⟨z.b, 11, none⟩ (.int .i64 x.slot)).setCell ⟨z.b, 12, none⟩ (.bool x.wu)).setCell ⟨z.b, 13, none⟩ (.string x.wd)).setCell ⟨z.b, 14, none⟩ (.bool x.iu)).setCell ⟨z.b, 15, none⟩ (.string x.id)).setCell ⟨z.b, 16, none⟩ (.int .i64 x.next)).setCell ⟨z.b, 17, none⟩ (.int .i64 a))) := by
  obtain ⟨y1, y2, y3⟩ := h.lz z (List.mem_of_getElem? hz)
  have h1 := onl14 w2 z.b (.int .i64 x.kind) (.int .i64 x.cl) (.int .i64 x.ep) (.int .i64 x.n) (.int .i64 x.lsn) (.int .i64 x.prev) (.int .i64 x.page) (.int .i64 x.slot) (.bool x.wu) (.string x.wd) (.bool x.iu) (.string x.id) (.int .i64 x.next) (.int .i64 a)
  have h2 := blk14 y1 x a
  exact Lib.hid ⟨WM.lset h (z' := { z with nx := x, at_ := a }) hz rfl h1 h2, hb.trans (onl_below h1 y2)⟩
set_option maxRecDepth 100000 in
set_option maxHeartbeats 8000000 in
/-- no change: nothing is done -/
theorem wwait_none (h : WM w B u M D L ls P Z Q A) {p : Nat} (x : Ent) (hk : x.kind ≠ 1) :
    Calls Tryz.prog 48 #[.pointer (some ⟨u, 0, none⟩), .pointer (some ⟨p, 0, none⟩), .agg #[.int .i64 x.kind, .int .i64 x.cl, .int .i64 x.ep, .int .i64 x.n, .int .i64 x.lsn, .int .i64 x.prev, .int .i64 x.page, .int .i64 x.slot, .bool x.wu, .string x.wd, .bool x.iu, .string x.id, .int .i64 x.next]] w fun e w' => e = .returned (.tuple #[]) ∧ WM w' B u M D L ls P Z Q A ∧ Below w.heap.size w w' := by
  have hbx := Ent.below_box w (.cells #[.int .i64 x.kind, .int .i64 x.cl, .int .i64 x.ep, .int .i64 x.n, .int .i64 x.lsn, .int .i64 x.prev, .int .i64 x.page, .int .i64 x.slot, .bool x.wu, .string x.wd, .bool x.iu, .string x.id, .int .i64 x.next] 58)
  have hX := Blk.new w 58 #[.int .i64 x.kind, .int .i64 x.cl, .int .i64 x.ep, .int .i64 x.n, .int .i64 x.lsn, .int .i64 x.prev, .int .i64 x.page, .int .i64 x.slot, .bool x.wu, .string x.wd, .bool x.iu, .string x.id, .int .i64 x.next]
  have c0 := hX.cell 0
  have HF := Lib.hid (And.intro (h.below hbx) hbx)
  have hd : decide (x.kind = 1) = false := decide_eq_false hk
  clear h hbx hX
  go_enter Tryz.func48, Tryz.ntmps48
  go_wp2
  go_end0
  exact ⟨rfl, HF.out⟩
set_option maxRecDepth 100000 in
set_option maxHeartbeats 8000000 in
/-- a change: it waits -/
theorem wwait_some (h : WM w B u M D L ls P Z Q A) {i : Nat} {z : LZ} (hz : Z[i]? = some z) (x : Ent) (hk : x.kind = 1) (hg : goodB x = true) (hQ : Q.length ≤ 900000) (hlen : L.length = D.n) :
    Calls Tryz.prog 48 #[.pointer (some ⟨u, 0, none⟩), .pointer (some ⟨z.b, 0, none⟩), .agg #[.int .i64 x.kind, .int .i64 x.cl, .int .i64 x.ep, .int .i64 x.n, .int .i64 x.lsn, .int .i64 x.prev, .int .i64 x.page, .int .i64 x.slot, .bool x.wu, .string x.wd, .bool x.iu, .string x.id, .int .i64 x.next]] w fun e w' => e = .returned (.tuple #[]) ∧ ∃ (v' : Value) (Q' : List Nat), Q'.Perm (Q ++ [z.b]) ∧ WM w' B u M { D with qv := v' } L ls P (Z.set i { z with nx := x, at_ := atOf L x }) Q' A ∧ Below B w w' := by
  have hbx := Ent.below_box w (.cells #[.int .i64 x.kind, .int .i64 x.cl, .int .i64 x.ep, .int .i64 x.n, .int .i64 x.lsn, .int .i64 x.prev, .int .i64 x.page, .int .i64 x.slot, .bool x.wu, .string x.wd, .bool x.iu, .string x.id, .int .i64 x.next] 58)
  have hX := Blk.new w 58 #[.int .i64 x.kind, .int .i64 x.cl, .int .i64 x.ep, .int .i64 x.n, .int .i64 x.lsn, .int .i64 x.prev, .int .i64 x.page, .int .i64 x.slot, .bool x.wu, .string x.wd, .bool x.iu, .string x.id, .int .i64 x.next]
  have H1 := Lib.hid (h.below hbx)
  have HB1 := Lib.hid hbx
  have HK := Lib.hid hk
  have HZ := Lib.hid hz
  have HG := Lib.hid hg
  have HBU := Lib.hid (And.intro h.bu h.blk.lt)
  have HL := Lib.hid (show L.take D.n = L from List.take_of_length_le (by omega))
  clear h hbx hz hg hk
  go_enter Tryz.func48, Tryz.ntmps48
  go_upto_region 1 with (fail)
  obtain ⟨g5, hg5⟩ : ∃ g5, w.heap.size = g5 := ⟨_, rfl⟩
  rw [hg5] at hX
  try rw [hg5]
  have HG5 := Lib.hid hg5
  clear hg5
  generalize hGen : w.alloc (.cells #[.int .i64 x.kind, .int .i64 x.cl, .int .i64 x.ep, .int .i64 x.n, .int .i64 x.lsn, .int .i64 x.prev, .int .i64 x.page, .int .i64 x.slot, .bool x.wu, .string x.wd, .bool x.iu, .string x.id, .int .i64 x.next] 58) = W1 at H1 hX HB1 ⊢
  clear hGen
  obtain ⟨c0, c1, c2, c3, c4, c5, c6, c7, c8, c9, c10, c11, c12⟩ := Ent.ent_cells hX
  have u2 : W1.cell? ⟨u, 2, none⟩ = some (.map (some D.mf)) := H1.out.blk.cell 2
  have HX := Lib.hid hX
  clear hX
  have hd : (x.kind == 1) = true := beq_iff_eq.2 HK.out
  go_upto_region 2 with (fail)
  clear hd
  go_cut [] (fun wx => Hid (WM wx B u M D L ls P (Z.set i { z with nx := x, at_ := atOf L x }) Q A ∧ Below B w wx))
  case first =>
    go_region_law (go_simp; go_at_call 57; refine (point_any x _).mono ?_; rintro e w2 ⟨rfl, b2⟩; have B2 := Lib.hid (show Below W1.heap.size W1 w2 from (by first | (with_reducible exact b2) | (with_reducible exact bn_d b2))); clear b2; have H2 := Lib.hid (H1.out.below B2.out); (first | clear c0 c1 c2 c3 c4 c5 c6 c7 c8 c9 c10 c11 c12 u2 | skip); have hq := HX.out.below B2.out HX.out.lt; obtain ⟨c0, c1, c2, c3, c4, c5, c6, c7, c8, c9, c10, c11, c12⟩ := Ent.ent_cells hq; clear hq; have u2 : w2.cell? ⟨u, 2, none⟩ = some (.map (some D.mf)) := H2.out.blk.cell 2; have lk : (Instr.lookup 85 (.map (some D.mf)) (.agg #[.int .i64 x.cl, .int .i64 x.ep, .int .i64 x.n, .int .i64 x.lsn]) false).run Tryz.prog w2 = .ok (.int .i64 (atOf L x)) w2 := (by have hq := H2.out.rest.tr.lookF1 (smP_of HG.out); rw [HL.out] at hq; exact hq); have hzb := (H2.out.lz z (List.mem_of_getElem? HZ.out)).1; have FX := wait_end (w := w) H2.out HZ.out x (atOf L x) ((HB1.out.mono (by have := HBU.out; omega)).trans (B2.out.mono (by have := HBU.out; have := HB1.out.size; omega))); obtain ⟨l4, l5, l6, l7, l8, l9, l10, l11, l12, l13, l14, l15, l16, l17⟩ := loser_cells hzb; obtain ⟨f4, f5, f6, f7, f8, f9, f10, f11, f12, f13, f14, f15, f16, f17⟩ := loser_frozen hzb; clear hzb)
    all_goals
      clear c0 c1 c2 c3 c4 c5 c6 c7 c8 c9 c10 c11 c12 u2 lk l4 l5 l6 l7 l8 l9 l10 l11 l12 l13 l14 l15 l16 l17 f4 f5 f6 f7 f8 f9 f10 f11 f12 f13 f14 f15 f16 f17
      go_wp2_with fail
      go_meet
      case rel => with_unfolding_none exact FX
  case rest =>
    have HC := hcut
    clear hcut c0 c1 c2 c3 c4 c5 c6 c7 c8 c9 c10 c11 c12 u2
    have hzm : { z with nx := x, at_ := atOf L x } ∈ Z.set i { z with nx := x, at_ := atOf L x } := List.mem_of_getElem? (i := i) (by rw [List.getElem?_set_self (List.getElem?_eq_some_iff.1 HZ.out).1])
    have hlz := (HC.out.1.lz _ hzm).1
    have HP := Lib.hid (hpush_any (p := z.b) (a := atOf L x) HC.out.1.qv (loser_cells hlz).2.2.2.2.2.2.2.2.2.2.2.2.2 hlz.lt (fun g hg e => own_ty HC.out.1.qu hlz (by decide) (by rw [hg, ← e])) hQ (by have := HC.out.1.bu; have := HC.out.1.blk.lt; omega))
    unfold qP ptrV at HP
    clear hzm hlz
    go_wp2_with (with_reducible refine (HP.out).mono ?_; rintro e w4 ⟨rfl, v', Q', W, g, cap, hp, hq, rfl, hc, hg⟩; have HF := Lib.hid (And.intro hp (And.intro hq (And.intro hc hg))); clear hp hq hc hg)
    go_end0
    obtain ⟨hp, hq, hc, hg⟩ := HF.out
    have hc2 := hc.grown hg rfl hq.ug
    refine ⟨rfl, _, Q', hp, HC.out.1.requeue hc2 hq.row fun q hm => ?_, HC.out.2.trans (hc2.bel HC.out.1.bu HC.out.1.blk.lt fun g hg => Past.own_ge HC.out.1.qu hg)⟩
    have hm := hp.mem_iff.1 hm
    rcases List.mem_append.1 hm with hm | hm
    · exact HC.out.1.ql q hm
    · rw [List.mem_singleton.1 hm, bs_set (z' := { z with nx := x, at_ := atOf L x }) HZ.out rfl]
      exact List.mem_map.2 ⟨z, List.mem_of_getElem? HZ.out, rfl⟩
end
end Go.Proofs.YtkeocnhndnbamaaGreat.Mend
namespace Go.Proofs.YtkeocnhndnbamaaGreat.Mend
set_option maxRecDepth 100000
open Go.RowKit Go.Sort
open Go.Proofs.YtkeocnhndnbamaaGreat.Mem
open Go.Proofs.YtkeocnhndnbamaaGreat.Ent (Ent goodB Ents EntAt SmallE entA cellsE noE)
open Go.Proofs.YtkeocnhndnbamaaGreat.Past (T3 txE AppRes cellsG)
def endE (z : LZ) : Ent := ⟨4, z.t.cl, z.t.ep, z.t.n, z.last + 1, z.last, 0, 0, false, noE.wd, false, noE.id, 0⟩
def endZ (z : LZ) : LZ := { z with last := z.last + 1 }
def endsZ (Z : List LZ) (j : Nat) : List LZ := (Z.take j).map endZ ++ Z.drop j
theorem ends_at {Z : List LZ} {j : Nat} {z : LZ} (h : Z[j]? = some z) : (endsZ Z j)[j]? = some z ∧ (endsZ Z j).set j (endZ z) = endsZ Z (j + 1) := by
  have hl := (List.getElem?_eq_some_iff.1 h).1
  have hz : ((Z.take j).map endZ).length = j := by rw [List.length_map, List.length_take]; omega
  have hd : Z.drop j = z :: Z.drop (j + 1) := by
    rw [List.drop_eq_getElem_cons hl, (List.getElem?_eq_some_iff.1 h).2]
  unfold endsZ
  constructor
  · rw [List.getElem?_append_right (by omega), hz, Nat.sub_self, hd]; rfl
  · rw [List.set_append_right _ _ (by omega), hz, Nat.sub_self, hd, List.set_cons_zero, List.take_add_one, h]
    simp
theorem ends_bs (Z : List LZ) (j : Nat) : bsOf (endsZ Z j) = bsOf Z := by
  unfold endsZ bsOf
  rw [List.map_append, List.map_map, show ((fun z : LZ => z.b) ∘ endZ) = (fun z : LZ => z.b) from rfl, ← List.map_append, List.take_append_drop]
section
variable {w w' : World} {B u : Nat} {M : Nat → Prop} {D : WD} {L : List Ent} {ls : List Lf} {P : List Ro} {Z : List LZ} {Q : List Nat} {A : List Ent}
theorem loser_head {w : World} {z : LZ} (h : Blk w z.b 126 (loserA z)) : w.cell? ⟨z.b, 0, none⟩ = some (.int .i64 z.t.cl) ∧ w.cell? ⟨z.b, 1, none⟩ = some (.int .i64 z.t.ep) ∧ w.cell? ⟨z.b, 2, none⟩ = some (.int .i64 z.t.n) ∧ w.cell? ⟨z.b, 3, none⟩ = some (.int .i64 z.last) := ⟨h.cell 0, h.cell 1, h.cell 2, h.cell 3⟩
structure EI (w W : World) (B u : Nat) (M : Nat → Prop) (D : WD) (L : List Ent) (ls : List Lf) (P : List Ro) (Z : List LZ) (Q : List Nat) (A : List Ent) (j : Nat) : Prop where
  m : ∃ v, WM W B u M { D with av := v } L ls P (endsZ Z j) Q (A ++ (Z.take j).map endE)
  b : Below B w W
set_option maxRecDepth 100000 in
set_option maxHeartbeats 8000000 in
theorem endAll_any (h : WM w B u M D L ls P Z Q A) (hZ : ∀ z ∈ Z, 0 ≤ z.last ∧ z.last < 1099511627776) (hZl : Z.length ≤ 1000) (hAl : A.length ≤ 800000) :
    Calls Tryz.prog 30 #[.pointer (some ⟨u, 0, none⟩)] w fun e w' => e = .returned (.int .i64 0) ∧ EI w w' B u M D L ls P Z Q A Z.length := by
  have H0 := Lib.hid (show EI w w B u M D L ls P Z Q A 0 from ⟨⟨D.av, by simpa [endsZ] using h⟩, Below.refl _ _⟩)
  have u5' := h.blk.cell 5
  obtain ⟨la, lc, hlv⟩ := own_shape h.rest.lo
  have u5 : w.cell? ⟨u, 5, none⟩ = some (.slice la Z.length lc) := by
    rw [show (bsOf Z).length = Z.length by unfold bsOf; rw [List.length_map]] at hlv
    rw [← hlv]; exact u5'
  have HLV := Lib.hid hlv
  have HZ := Lib.hid hZ
  obtain ⟨m, hm⟩ : ∃ m, Z.length = m := ⟨_, rfl⟩
  rw [hm] at u5 hZl ⊢
  have HM := Lib.hid hm
  clear h hlv hZ hm u5'
  go_enter Tryz.func30, Tryz.ntmps30
  go_wp2_with fail
  go_loopw [10] (fun iv wr => ∃ j : Nat, j ≤ m ∧ iv = .int .i64 (j : Int) ∧ Hid (EI w wr B u M D L ls P Z Q A j)) (fun iv _ => m - intN iv)
  case atStart => exact ⟨0, Nat.zero_le _, rfl, H0⟩
  case round =>
    obtain ⟨j, hj, rfl, HR⟩ := hrel
    clear H0 u5
    by_cases hjl : j < m
    · obtain ⟨z, hz⟩ : ∃ z, Z[j]? = some z := ⟨_, List.getElem?_eq_getElem (by rw [HM.out]; exact hjl)⟩
      obtain ⟨av, HW⟩ := HR.out.m
      have HWW := Lib.hid HW
      have hzz := HZ.out z (List.mem_of_getElem? hz)
      have hEA := Lib.hid (ends_at hz)
      have HJ := Lib.hid hz
      have hd : decide ((j : Int) < (m : Int)) = true := decide_eq_true (by omega)
      obtain ⟨lg, lcap, e1, -, -, hcell⟩ := own_pos HW.rest.lo (by rw [ends_bs]; unfold bsOf; rw [List.length_map, HM.out]; omega)
      rw [ends_bs, show (bsOf Z).length = m by unfold bsOf; rw [List.length_map, HM.out]] at e1
      have e2 := HLV.out.symm.trans e1
      have hbl : (bsOf Z).length = m := by unfold bsOf; rw [List.length_map, HM.out]
      rw [hbl] at e2
      injection e2 with e3 e4 e5
      subst e3
      have l0 := hcell j (by rw [ends_bs, hbl]; omega)
      rw [ends_bs, show ((bsOf Z).map ptrV)[j]? = some (.pointer (some ⟨z.b, 0, none⟩)) by unfold bsOf; rw [List.getElem?_map, List.getElem?_map, hz]; rfl] at l0
      obtain ⟨b0, b1, b2, b3⟩ := loser_head (HW.lz z (List.mem_of_getElem? hEA.out.1)).1
      have hne : decide (z.last = 1099511627776) = false := decide_eq_false (by omega)
      have HAD := Lib.hid (show ∀ (W : World), Below wr.heap.size wr W → Calls Tryz.prog 52 #[.pointer (some ⟨u, 0, none⟩), .pointer (some ⟨z.b, 0, none⟩), .agg #[.int .i64 4, .int .i64 z.t.cl, .int .i64 z.t.ep, .int .i64 z.t.n, .int .i64 (z.last + 1), .int .i64 z.last, .int .i64 0, .int .i64 0, .bool false, .string ⟨#[]⟩, .bool false, .string ⟨#[]⟩, .int .i64 0]] W
          (fun e w' => e = .returned (.tuple #[]) ∧ EI w w' B u M D L ls P Z Q A (j + 1)) from fun W hb => by
        refine (wadd_any (HWW.out.below hb) hEA.out.1 (endE z) (by rw [List.length_append, List.length_map, List.length_take]; omega) (by have := (HWW.out.below hb).bu; have := (HWW.out.below hb).blk.lt; omega)).mono ?_
        rintro e w4 ⟨rfl, v', h4, b4⟩
        refine ⟨rfl, ⟨v', ?_⟩, (HR.out.b.trans (hb.mono (by have := HWW.out.bu; have := HWW.out.blk.lt; omega))).trans b4⟩
        have e1 := hEA.out.2
        unfold endZ at e1
        rw [← e1, List.take_add_one, HJ.out, Option.toList_some, List.map_append, ← List.append_assoc]
        exact h4)
      have hwr : IntKind.i64.wrap (z.last + 1) = z.last + 1 := by rw [IntWalk.i64_left, IntWalk.wrap64_in _ (by omega)]
      clear HW hcell hz
      go_upto_region 6 with (fail)
      go_region_law (go_simp; go_at_call 52; (with_reducible refine (HAD.out _ ?_).mono ?_); (first | exact Below.refl _ _ | exact (Below.refl _ _).drew); rintro e w4 ⟨rfl, h4⟩; have H4 := Lib.hid h4; clear h4)
      all_goals
        clear b0 b1 b2 b3 l0 HAD hwr hne hd HWW
        go_wp2_with fail
        go_roundw
        case rel => exact ⟨_, _, _, ⟨j + 1, by omega, by go_num, H4⟩, rfl, rfl, rfl⟩
        case measure => simp [intN]; omega
    · obtain rfl : j = m := by omega
      have hd : decide ((j : Int) < (j : Int)) = false := decide_eq_false (by omega)
      go_wp2_with fail
      go_ret
      exact ⟨rfl, HR.out⟩
end
end Go.Proofs.YtkeocnhndnbamaaGreat.Mend
