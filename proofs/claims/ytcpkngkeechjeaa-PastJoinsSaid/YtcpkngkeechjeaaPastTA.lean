/- What the program keeps of a list, in memory. -/
import Derived.Test.YtcpkngkeechjeaaPastSort
import Derived.Test.YtcpkngkeechjeaaPastTale
namespace Go.Proofs.Ytcpkngkeechjeaa.Past
set_option maxRecDepth 100000
open Go.RowKit
open Go.Proofs.Ytcpkngkeechjeaa.Mem
open Go.Maps
open Go.Proofs.Ytcpkngkeechjeaa.Ent (Ent goodB Ents EntAt SmallE noE entA cellsE)
open Go.Proofs.Ytcpkngkeechjeaa.Latch (MapN)
def crsV (c : Crs) : Value := .agg #[.int .i64 c.beg, .int .i64 c.last, .bool c.com, .bool c.fin]
structure TA (w : World) (B g m1 m2 : Nat) (dv : Value) (n : Nat) (T : Tl) : Prop where
  blk : Blk w g 56 #[.map (some m1), .map (some m2), dv]
  mt : MapT w m1 n (fun t => (T.tx t).map crsV)
  mp : MapN w m2 n (fun p => (T.pg p).map (Value.int .i64))
  row : w.ownsRow B 24 3 dv T.dn.length (cellsG txV T.dn)
  hg : B ≤ g
  h1 : B ≤ m1
  h2 : B ≤ m2
  ne : m1 ≠ m2
theorem zero_crs (w : World) : (zeroValue 63).run Try.prog w = .ok (.agg #[.int .i64 0, .int .i64 0, .bool false, .bool false]) w := by kernel_rfl
theorem zero_int (w : World) : (zeroValue 3).run Try.prog w = .ok (.int .i64 0) w := by kernel_rfl
theorem good_tx {x : Ent} (h : goodB x = true) : SmT (txE x) := by
  have h1 : Ent.headB x = true := by unfold goodB at h; rw [Bool.and_eq_true] at h; exact h.1
  unfold Ent.headB Ent.knownB Ent.withinB at h1
  simp only [Bool.and_eq_true, decide_eq_true_eq] at h1
  obtain ⟨⟨⟨⟨a, b⟩, c⟩, d⟩, e⟩ := h1
  exact ⟨smI_of (by show _ ≤ x.cl ∧ x.cl ≤ _; omega), smI_of (by show _ ≤ x.ep ∧ x.ep ≤ _; omega), smI_of (by show _ ≤ x.n ∧ x.n ≤ _; omega)⟩
theorem good_page {x : Ent} (h : goodB x = true) (hk : x.kind < 3) : Latch.Sm x.page := by
  unfold goodB at h
  rw [Bool.and_eq_true] at h
  have h2 := h.2
  have hc : Ent.chB x = true := by
    by_cases k1 : x.kind = 1
    · rw [if_pos k1, Bool.and_eq_true] at h2; exact h2.2
    · rw [if_neg k1] at h2
      by_cases k2 : x.kind = 2
      · rw [if_pos k2, Bool.and_eq_true] at h2; exact h2.2
      · rw [if_neg k2, if_neg (by omega)] at h2; cases h2
  unfold Ent.chB Ent.withinB at hc
  simp only [Bool.and_eq_true, decide_eq_true_eq] at hc
  exact Latch.sm_of (by omega)
section
variable {w w' : World} {B g m1 m2 n : Nat} {dv : Value} {T : Tl}
theorem TA.same (h : TA w B g m1 m2 dv n T) (hb : ∀ k, k < w.heap.size → w'.heap[k]? = w.heap[k]?) : TA w' B g m1 m2 dv n T :=
  { blk := (hb g h.blk.lt).trans h.blk, mt := h.mt.same (hb _ h.mt.lt), mp := h.mp.same (hb _ h.mp.lt), row := own_same h.row fun k e => hb k (own_lt h.row e), hg := h.hg, h1 := h.h1, h2 := h.h2, ne := h.ne }
theorem TA.below (h : TA w B g m1 m2 dv n T) (hb : Below w.heap.size w w') : TA w' B g m1 m2 dv n T := h.same hb.block
theorem TA.drewN (h : TA w B g m1 m2 dv n T) (q : Nat) : TA (w.drewN q) B g m1 m2 dv n T := h.same fun _ _ => rfl
theorem TA.row_ne (h : TA w B g m1 m2 dv n T) : dv.ownBlock ≠ some g ∧ dv.ownBlock ≠ some m1 ∧ dv.ownBlock ≠ some m2 := by
  have key : ∀ k (o : Obj), w.heap[k]? = some o → (∀ cs t fr, o = .cells cs t fr → t ≠ 24) → dv.ownBlock ≠ some k := fun k o hk ho e => by
    obtain ⟨_, ⟨rfl, _⟩ | ⟨gg, cap, cur, rfl, _, hb, _⟩⟩ := h.row
    · cases e
    · simp [Value.ownBlock] at e
      subst e
      rw [hb] at hk
      cases hk
      exact ho _ _ _ rfl rfl
  refine ⟨key g _ h.blk fun cs t fr e => by cases e; decide, ?_, ?_⟩
  · obtain ⟨D, ⟨es, clock, hb, r⟩, h2⟩ := h.mt
    exact key m1 _ hb fun cs t fr e => by cases e
  · obtain ⟨D, ⟨es, clock, hb, r⟩, h2⟩ := h.mp
    exact key m2 _ hb fun cs t fr e => by cases e
theorem TA.gne (h : TA w B g m1 m2 dv n T) : m1 ≠ g ∧ m2 ≠ g := ⟨h.mt.not_cells h.blk, h.mp.not_cells h.blk⟩
theorem TA.cells (h : TA w B g m1 m2 dv n T) : w.cell? ⟨g, 0, none⟩ = some (.map (some m1)) ∧ w.cell? ⟨g, 1, none⟩ = some (.map (some m2)) ∧ w.cell? ⟨g, 2, none⟩ = some dv ∧ w.frozen? ⟨g, 0, none⟩ = false ∧ w.frozen? ⟨g, 1, none⟩ = false ∧ w.frozen? ⟨g, 2, none⟩ = false :=
  ⟨h.blk.cell 0, h.blk.cell 1, h.blk.cell 2, h.blk.frozen 0, h.blk.frozen 1, h.blk.frozen 2⟩
theorem TA.lookO (h : TA w B g m1 m2 dv n T) {t : T3} (ht : SmT t) : (Instr.lookup 53 (.map (some m1)) (.agg #[.int .i64 t.cl, .int .i64 t.ep, .int .i64 t.n]) true).run Try.prog w =
    .ok (.tuple #[.agg #[.int .i64 ((T.tx t).getD crs0).beg, .int .i64 ((T.tx t).getD crs0).last, .bool ((T.tx t).getD crs0).com, .bool ((T.tx t).getD crs0).fin], .bool (T.tx t).isSome]) w := by
  rw [h.mt.look_ok Try.underlying53 (zero_crs w) ht]
  cases T.tx t <;> rfl
theorem TA.look (h : TA w B g m1 m2 dv n T) {t : T3} (ht : SmT t) : (Instr.lookup 53 (.map (some m1)) (.agg #[.int .i64 t.cl, .int .i64 t.ep, .int .i64 t.n]) false).run Try.prog w =
    .ok (.agg #[.int .i64 ((T.tx t).getD crs0).beg, .int .i64 ((T.tx t).getD crs0).last, .bool ((T.tx t).getD crs0).com, .bool ((T.tx t).getD crs0).fin]) w := by
  rw [h.mt.look Try.underlying53 (zero_crs w) ht]
  cases T.tx t <;> rfl
theorem TA.lookPO (h : TA w B g m1 m2 dv n T) {p : Int} (hp : Latch.Sm p) : (Instr.lookup 54 (.map (some m2)) (.int .i64 p) true).run Try.prog w = .ok (.tuple #[.int .i64 ((T.pg p).getD 0), .bool (T.pg p).isSome]) w := by
  rw [h.mp.look_ok Try.underlying54 (zero_int w) hp]
  cases T.pg p <;> rfl
theorem TA.lookP (h : TA w B g m1 m2 dv n T) {p : Int} (hp : Latch.Sm p) : (Instr.lookup 54 (.map (some m2)) (.int .i64 p) false).run Try.prog w = .ok (.int .i64 ((T.pg p).getD 0)) w := by
  rw [h.mp.look Try.underlying54 (zero_int w) hp]
  cases T.pg p <;> rfl
/-- a store of a course -/
theorem TA.putT (h : TA w B g m1 m2 dv n T) {t : T3} (ht : SmT t) (hn : n ≤ 1000000) (c : Crs) :
    ∃ w', (Instr.mapUpdate 53 (.map (some m1)) (.agg #[.int .i64 t.cl, .int .i64 t.ep, .int .i64 t.n]) (.agg #[.int .i64 c.beg, .int .i64 c.last, .bool c.com, .bool c.fin])).run Try.prog w = .ok () w' ∧
      TA w' B g m1 m2 dv (n + 1) ⟨fun u => if u = t then some c else T.tx u, T.pg, T.dn⟩ ∧ w.grownBy w' (some m1) := by
  obtain ⟨w', hr, hm, ht2⟩ := h.mt.put Try.underlying53 ht (by unfold maxLen; omega) (.agg #[.int .i64 c.beg, .int .i64 c.last, .bool c.com, .bool c.fin])
  have hgr := ht2.grown
  refine ⟨w', hr, { blk := h.blk.grown hgr (fun e => by injection e with e; exact h.gne.1 e.symm), mt := hm.ext fun u => ?_, mp := (h.mp.same (hgr.block _ h.mp.lt (fun e => by injection e with e; exact h.ne e.symm))).mono (Nat.le_succ _), row := own_same h.row fun k e => hgr.block k (own_lt h.row e) (fun e2 => by injection e2 with e2; exact h.row_ne.2.1 (by rw [e, e2])), hg := h.hg, h1 := h.h1, h2 := h.h2, ne := h.ne }, hgr⟩
  dsimp only
  by_cases e : u = t
  · rw [if_pos e, if_pos e]; rfl
  · rw [if_neg e, if_neg e]
/-- .. of a page's place -/
theorem TA.putP (h : TA w B g m1 m2 dv n T) {p : Int} (hp : Latch.Sm p) (hn : n ≤ 1000000) (at_ : Int) :
    ∃ w', (Instr.mapUpdate 54 (.map (some m2)) (.int .i64 p) (.int .i64 at_)).run Try.prog w = .ok () w' ∧
      TA w' B g m1 m2 dv (n + 1) ⟨T.tx, fun q => if q = p then some at_ else T.pg q, T.dn⟩ ∧ w.grownBy w' (some m2) := by
  obtain ⟨w', hr, hm, ht2⟩ := h.mp.put Try.underlying54 hp (by unfold maxLen; omega) (.int .i64 at_)
  have hgr := ht2.grown
  refine ⟨w', hr, { blk := h.blk.grown hgr (fun e => by injection e with e; exact h.gne.2 e.symm), mp := hm.ext fun u => ?_, mt := (h.mt.same (hgr.block _ h.mt.lt (fun e => by injection e with e; exact h.ne e))).mono (Nat.le_succ _), row := own_same h.row fun k e => hgr.block k (own_lt h.row e) (fun e2 => by injection e2 with e2; exact h.row_ne.2.2 (by rw [e, e2])), hg := h.hg, h1 := h.h1, h2 := h.h2, ne := h.ne }, hgr⟩
  dsimp only
  by_cases e : u = p
  · rw [if_pos e, if_pos e]; rfl
  · rw [if_neg e, if_neg e]
/-- one more is done -/
theorem TA.addDn (h : TA w B g m1 m2 dv n T) {dv' : Value} {y : T3} (ha : AppRes w w' B 24 3 dv dv' (T.dn ++ [y]).length (cellsG txV (T.dn ++ [y]))) :
    TA (w'.setCell ⟨g, 2, none⟩ dv') B g m1 m2 dv' n ⟨T.tx, T.pg, T.dn ++ [y]⟩ := by
  obtain ⟨ho, hgr, hu⟩ := ha
  have hr := h.row_ne
  have hb : Blk w' g 56 #[.map (some m1), .map (some m2), dv] := h.blk.grown hgr (fun e => hr.1 e.symm)
  have hset : ∀ k, k ≠ g → (w'.setCell ⟨g, 2, none⟩ dv').heap[k]? = w'.heap[k]? := fun k hk => Below.heap_setCell w' _ _ k hk
  have hb2 := hb.set_ 2 dv'
  have hdv : dv'.ownBlock ≠ some g := fun e => by
    obtain ⟨_, ⟨rfl, _⟩ | ⟨gg, cap, cur, rfl, _, hb3, _⟩⟩ := ho
    · cases e
    · simp [Value.ownBlock] at e
      subst e
      unfold Blk at hb
      rw [hb3] at hb
      cases hb
  exact {
    blk := by simpa using hb2
    mt := h.mt.same ((hset m1 h.gne.1).trans (hgr.block _ h.mt.lt (fun e => hr.2.1 e.symm)))
    mp := h.mp.same ((hset m2 h.gne.2).trans (hgr.block _ h.mp.lt (fun e => hr.2.2 e.symm)))
    row := own_set ho hdv _ _
    hg := h.hg, h1 := h.h1, h2 := h.h2, ne := h.ne }
theorem TA.mono (h : TA w B g m1 m2 dv n T) {k : Nat} (hk : n ≤ k) : TA w B g m1 m2 dv k T := { h with mt := h.mt.mono hk, mp := h.mp.mono hk }
theorem TA.size (h : TA w B g m1 m2 dv n T) : B ≤ w.heap.size := by have := h.hg; have := h.blk.lt; omega
theorem TA.ext (h : TA w B g m1 m2 dv n T) {U : Tl} (e1 : ∀ t, T.tx t = U.tx t) (e2 : ∀ p, T.pg p = U.pg p) (e3 : T.dn = U.dn) : TA w B g m1 m2 dv n U := by
  obtain ⟨a, b, c⟩ := T
  obtain ⟨a', b', c'⟩ := U
  obtain rfl : a = a' := funext e1
  obtain rfl : b = b' := funext e2
  obtain rfl : c = c' := e3
  exact h
end
end Go.Proofs.Ytcpkngkeechjeaa.Past
