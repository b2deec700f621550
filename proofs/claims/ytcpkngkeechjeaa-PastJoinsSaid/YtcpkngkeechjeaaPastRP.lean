/- The program's Read: what stands in memory on its way. -/
import Derived.Test.YtcpkngkeechjeaaPastTell
import Derived.Test.YtcpkngkeechjeaaPastRes
namespace Go.Proofs.Ytcpkngkeechjeaa.Past
set_option maxRecDepth 100000
open Go.RowKit
open Go.Proofs.Ytcpkngkeechjeaa.Mem
open Go.Maps
open Go.Proofs.Ytcpkngkeechjeaa.Ent (Ent goodB Ents EntAt SmallE noE entA cellsE)
theorem own_ty {w : World} {B size n k : Nat} {t t' : TypeId} {v : Value} {xs : List Value} {cs : Array Value} (h : w.ownsRow B t size v n xs) (hk : Blk w k t' cs) (hne : t' ≠ t) : v.ownBlock ≠ some k := fun e => by
  obtain ⟨_, ⟨rfl, _⟩ | ⟨gg, cap, cur, rfl, _, hb, _⟩⟩ := h
  · cases e
  · simp [Value.ownBlock] at e
    subst e
    unfold Blk at hk
    rw [hb] at hk
    cases hk
    exact hne rfl
theorem own_own {w : World} {B B' size size' n n' : Nat} {t t' : TypeId} {v v' : Value} {xs xs' : List Value} (h : w.ownsRow B t size v n xs) (h' : w.ownsRow B' t' size' v' n' xs') (hne : t' ≠ t) : ∀ g, v.ownBlock = some g → v'.ownBlock ≠ some g := fun g e e' => by
  obtain ⟨_, ⟨rfl, _⟩ | ⟨gg, cap, cur, rfl, _, hb, _⟩⟩ := h
  · cases e
  · obtain ⟨_, ⟨rfl, _⟩ | ⟨gg', cap', cur', rfl, _, hb', _⟩⟩ := h'
    · cases e'
    · simp [Value.ownBlock] at e e'
      subst e
      rw [e', hb] at hb'
      cases hb'
      exact hne rfl
theorem own_map {w : World} {B size n k : Nat} {t : TypeId} {v : Value} {xs : List Value} {es : Array MapEntry} {c : Nat} (h : w.ownsRow B t size v n xs) (hk : w.heap[k]? = some (.map es c)) : v.ownBlock ≠ some k := fun e => by
  obtain ⟨_, ⟨rfl, _⟩ | ⟨gg, cap, cur, rfl, _, hb, _⟩⟩ := h
  · cases e
  · simp [Value.ownBlock] at e
    subst e
    rw [hb] at hk
    cases hk
structure RP (w0 w : World) (B r g u m1 m2 n : Nat) (dv sl pg : Value) (T : Tl) (los : List (T3 × Int)) (pgs : List (Int × Int)) : Prop where
  ta : TA w B g m1 m2 dv n T
  ub : Blk w u 37 #[sl, dv, pg]
  rb : Blk w r 37 #[.slice none 0 0, .slice none 0 0, .slice none 0 0]
  lo : w.ownsRow B 43 4 sl los.length (cellsG loV los)
  fi : w.ownsRow B 45 2 pg pgs.length (cellsG fiV pgs)
  bel : Below w0.heap.size w0 w
  old : w0.heap.size ≤ r ∧ r < B ∧ B ≤ u
section
variable {w0 w w' : World} {B r g u m1 m2 n : Nat} {dv sl pg : Value} {T : Tl} {los : List (T3 × Int)} {pgs : List (Int × Int)}
theorem RP.same (h : RP w0 w B r g u m1 m2 n dv sl pg T los pgs) (hb : ∀ k, k < w.heap.size → w'.heap[k]? = w.heap[k]?) (hbb : Below w0.heap.size w0 w') : RP w0 w' B r g u m1 m2 n dv sl pg T los pgs :=
  { ta := h.ta.same hb, ub := (hb u h.ub.lt).trans h.ub, rb := (hb r h.rb.lt).trans h.rb, lo := own_same h.lo fun k e => hb k (own_lt h.lo e), fi := own_same h.fi fun k e => hb k (own_lt h.fi e), bel := hbb, old := h.old }
theorem RP.below (h : RP w0 w B r g u m1 m2 n dv sl pg T los pgs) (hb : Below w.heap.size w w') : RP w0 w' B r g u m1 m2 n dv sl pg T los pgs := h.same hb.block (h.bel.trans (hb.mono h.bel.size))
theorem RP.size (h : RP w0 w B r g u m1 m2 n dv sl pg T los pgs) : B ≤ w.heap.size := h.ta.size
/-- what a growing row of another kind leaves -/
theorem TA.grownO {t : TypeId} {size k : Nat} {v : Value} {xs : List Value} (h : TA w B g m1 m2 dv n T) (hr : w.ownsRow B t size v k xs) (h1 : 56 ≠ t) (h2 : 24 ≠ t) (hg : w.grownBy w' v.ownBlock) : TA w' B g m1 m2 dv n T := by
  have k1 : v.ownBlock ≠ some m1 := by
    obtain ⟨D, ⟨es, clock, hb, r⟩, h2⟩ := h.mt
    exact own_map hr hb
  have k2 : v.ownBlock ≠ some m2 := by
    obtain ⟨D, ⟨es, clock, hb, r⟩, h2⟩ := h.mp
    exact own_map hr hb
  exact { blk := h.blk.grown hg (fun e => own_ty hr h.blk h1 e.symm), mt := h.mt.same (hg.block _ h.mt.lt (fun e => k1 e.symm)), mp := h.mp.same (hg.block _ h.mp.lt (fun e => k2 e.symm)), row := own_same h.row fun k e => hg.block k (own_lt h.row e) (fun e2 => own_own hr h.row h2 k e2.symm e), hg := h.hg, h1 := h.h1, h2 := h.h2, ne := h.ne }
theorem RP.addLo (h : RP w0 w B r g u m1 m2 n dv sl pg T los pgs) {sl' : Value} {los' : List (T3 × Int)} (hne : u ≠ g) (ha : AppRes w w' B 43 4 sl sl' los'.length (cellsG loV los')) :
    RP w0 (w'.setCell ⟨u, 0, none⟩ sl') B r g u m1 m2 n dv sl' pg T los' pgs := by
  obtain ⟨ho, hg, hu⟩ := ha
  have hT := h.ta.grownO h.lo (by decide) (by decide) hg
  have hub : Blk w' u 37 #[sl, dv, pg] := h.ub.grown hg (fun e => own_ty h.lo h.ub (by decide) e.symm)
  have hrb : Blk w' r 37 #[.slice none 0 0, .slice none 0 0, .slice none 0 0] := h.rb.grown hg (fun e => own_ty h.lo h.rb (by decide) e.symm)
  have hfi : w'.ownsRow B 45 2 pg pgs.length (cellsG fiV pgs) := own_same h.fi fun k e => hg.block k (own_lt h.fi e) (fun e2 => own_own h.lo h.fi (by decide) k e2.symm e)
  have hb : Below w0.heap.size w0 w' := below_grown h.bel h.bel.size hg fun k e => by have := own_ge h.lo e; have := h.old; omega
  have hset := hub.set_ 0 sl'
  exact { ta := hT.far hub (by decide) hne 0 _, ub := by simpa using hset, rb := hrb.far (by have := h.old; simp only; omega) _, lo := own_set ho (own_ty ho hub (by decide)) _ _, fi := own_set hfi (own_ty hfi hub (by decide)) _ _, bel := hb.setCell (p := ⟨u, 0, none⟩) (by have := h.old; simp only; omega) _, old := h.old }
theorem RP.addPg (h : RP w0 w B r g u m1 m2 n dv sl pg T los pgs) {pg' : Value} {pgs' : List (Int × Int)} (hne : u ≠ g) (ha : AppRes w w' B 45 2 pg pg' pgs'.length (cellsG fiV pgs')) :
    RP w0 (w'.setCell ⟨u, 2, none⟩ pg') B r g u m1 m2 n dv sl pg' T los pgs' := by
  obtain ⟨ho, hg, hu⟩ := ha
  have hT := h.ta.grownO h.fi (by decide) (by decide) hg
  have hub : Blk w' u 37 #[sl, dv, pg] := h.ub.grown hg (fun e => own_ty h.fi h.ub (by decide) e.symm)
  have hrb : Blk w' r 37 #[.slice none 0 0, .slice none 0 0, .slice none 0 0] := h.rb.grown hg (fun e => own_ty h.fi h.rb (by decide) e.symm)
  have hlo : w'.ownsRow B 43 4 sl los.length (cellsG loV los) := own_same h.lo fun k e => hg.block k (own_lt h.lo e) (fun e2 => own_own h.fi h.lo (by decide) k e2.symm e)
  have hb : Below w0.heap.size w0 w' := below_grown h.bel h.bel.size hg fun k e => by have := own_ge h.fi e; have := h.old; omega
  have hset := hub.set_ 2 pg'
  exact { ta := hT.far hub (by decide) hne 2 _, ub := by simpa using hset, rb := hrb.far (by have := h.old; simp only; omega) _, fi := own_set ho (own_ty ho hub (by decide)) _ _, lo := own_set hlo (own_ty hlo hub (by decide)) _ _, bel := hb.setCell (p := ⟨u, 2, none⟩) (by have := h.old; simp only; omega) _, old := h.old }
/-- a row of another kind stays -/
theorem row_stays {B1 size n1 k1 i : Nat} {t t1 t2 : TypeId} {size1 : Nat} {v v1 v1' sl : Value} {xs xs1 : List Value} {cs : Array Value} {m : Nat} {ys : List Value} (h : w.ownsRow B1 t size v n1 xs) (h1 : w.ownsRow B t1 size1 v1 k1 xs1) (hne : t ≠ t1) (ha : AppRes w w' B t1 size1 v1 v1' m ys) (hu : Blk w u t2 cs) (hne2 : t2 ≠ t) (hne3 : t2 ≠ t1) :
    (w'.setCell ⟨u, i, none⟩ sl).ownsRow B1 t size v n1 xs := by
  have h2 : w'.ownsRow B1 t size v n1 xs := own_same h fun k e => ha.2.1.block k (own_lt h e) (fun e2 => own_own h1 h hne k e2.symm e)
  have hu2 : Blk w' u t2 cs := hu.grown ha.2.1 (fun e => own_ty h1 hu hne3 e.symm)
  exact own_set h2 (own_ty h2 hu2 hne2) _ _
theorem pg_bound {L : List Ent} (h : Tells L T) {p k : Int} (hk : T.pg p = some k) : 0 ≤ k ∧ k < L.length := by
  rw [h.pg p] at hk
  cases e : L.findIdx? (pgP p) with
  | none => rw [e] at hk; cases hk
  | some i =>
    rw [e] at hk
    injection hk with hk
    rw [List.findIdx?_eq_some_iff_getElem] at e
    obtain ⟨hl, _⟩ := e
    rw [← hk]
    exact ⟨Int.natCast_nonneg i, by simp; exact hl⟩
theorem beg_bound {L : List Ent} (h : Tells L T) {t : T3} {c : Crs} (hc : T.tx t = some c) : 0 ≤ c.beg ∧ c.beg < L.length := by
  have h1 := (h.yes t c hc).1
  cases e : L.findIdx? (isT t) with
  | none => rw [e] at h1; cases h1
  | some i =>
    rw [e] at h1
    injection h1 with hk
    rw [List.findIdx?_eq_some_iff_getElem] at e
    obtain ⟨hl, _⟩ := e
    rw [← hk]
    exact ⟨Int.natCast_nonneg i, by simp; exact hl⟩
end
end Go.Proofs.Ytcpkngkeechjeaa.Past
