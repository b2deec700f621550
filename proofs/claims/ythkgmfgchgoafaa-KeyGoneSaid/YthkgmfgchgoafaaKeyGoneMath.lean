/- A client that is gone. -/
import Derived.Test.YthkgmfgchgoafaaKeySafeMath
import Derived.Test.YthkgmfgchgoafaaKeyAwake
import Derived.Test.YthkgmfgchgoafaaArr
import Derived.Deep.WholeRow
namespace Go.Proofs.Ythkgmfgchgoafaa.Key
set_option maxRecDepth 100000
open Go.RowKit
open Go.Proofs.Ythkgmfgchgoafaa.Mem
open Go.Maps
/-- c has nothing; what others held in S is theirs -/
structure Left (S : KS) (c : Int) (T : KS) : Prop where
  wf : T.wf
  none : ∀ p, T.L p c = none
  noq : ∀ p, noQ T c p
  more : ∀ d q, d ≠ c → holdsS S d q ≤ holdsS T d q
section
variable {S T : KS} {c : Int}
theorem left_grant (h : Left S c T) {p : Int} {r : Rq} (hr : r ∈ T.Q p) : Left S c (grantK T p r) := by
  have hn := h.noq p r hr
  refine ⟨h.wf.grant (h.wf.rq p r hr), fun q => ?_, fun q x hx => ?_, fun d q hd => Int.le_trans (h.more d q hd) ?_⟩
  · rw [grant_L, if_neg (fun e => hn e.2.symm)]; exact h.none q
  · rw [grant_Q] at hx
    split at hx
    · exact h.noq p x (List.mem_filter.1 hx).1
    · exact h.noq q x hx
  · show holdsS T d q ≤ holdsS (grantK T p r) d q
    by_cases e : q = p ∧ d = r.cl
    · have e2 : holdsS (grantK T p r) d q = hasK T r p := by unfold holdsS; rw [grant_L, if_pos e]
      rw [e2, e.1, e.2]
      unfold hasK
      omega
    · have e2 : holdsS (grantK T p r) d q = holdsS T d q := by unfold holdsS; rw [grant_L, if_neg e]
      rw [e2]; omega
theorem left_callK (h : Left S c T) (p st : Int) (cs : List Int) : Left S c (callK T p cs st) := by
  have hw := h.wf.callK p st cs
  refine ⟨hw, fun q => ?_, fun q x hx => ?_, fun d q hd => ?_⟩
  · rw [← holds_none hw, callK_holds, holds_none h.wf]; exact h.none q
  · rw [callK_Q] at hx; exact h.noq q x hx
  · rw [callK_holds]; exact h.more d q hd
theorem left_settleN : ∀ (n : Nat) {T : KS} (p : Int), Left S c T → Left S c (settleN n T p)
  | n, T, p, h => by
    unfold settleN
    cases hq : T.Q p with
    | nil => exact h
    | cons r q =>
      have hr : r ∈ T.Q p := by rw [hq]; exact List.mem_cons_self
      dsimp only
      split
      · cases n with
        | zero => exact h
        | succ m => exact left_settleN m p (left_grant h hr)
      · exact left_callK h p _ _
theorem left_stls : ∀ (L : List Int) {T : KS}, Left S c T → Left S c (L.foldl settleK T)
  | [], _, h => h
  | p :: L, _, h => left_stls L (left_settleN _ p h)
theorem unls_L (c : Int) : ∀ (L : List Int) (S : KS) (q d : Int), (L.foldl (fun S p => setK S p c none) S).L q d = if d = c ∧ q ∈ L then none else S.L q d
  | [], S, q, d => by simp
  | p :: L, S, q, d => by
    rw [List.foldl_cons, unls_L c L]
    have e : (setK S p c none).L q d = if q = p ∧ d = c then none else S.L q d := rfl
    rw [e]
    by_cases h1 : d = c ∧ q ∈ L
    · rw [if_pos h1, if_pos ⟨h1.1, List.mem_cons_of_mem _ h1.2⟩]
    · rw [if_neg h1]
      by_cases h2 : q = p ∧ d = c
      · rw [if_pos h2, if_pos ⟨h2.2, by rw [h2.1]; exact List.mem_cons_self⟩]
      · rw [if_neg h2, if_neg]
        intro h3
        rcases List.mem_cons.1 h3.2 with e | e
        · exact h2 ⟨e, h3.1⟩
        · exact h1 ⟨h3.1, e⟩
theorem unls_Q (c : Int) : ∀ (L : List Int) (S : KS) (q : Int), (L.foldl (fun S p => setK S p c none) S).Q q = S.Q q
  | [], _, _ => rfl
  | p :: L, S, q => unls_Q c L (setK S p c none) q
theorem unqs_L (c : Int) : ∀ (L : List Int) (S : KS) (q d : Int), (L.foldl (fun S p => unqK S c p) S).L q d = S.L q d
  | [], _, _, _ => rfl
  | p :: L, S, q, d => unqs_L c L (unqK S c p) q d
theorem unqs_Q (c : Int) : ∀ (L : List Int) (S : KS) (q : Int) (r : Rq), r ∈ (L.foldl (fun S p => unqK S c p) S).Q q → r ∈ S.Q q ∧ (q ∈ L → r.cl ≠ c)
  | [], _, _, _, h => ⟨h, fun hq => by cases hq⟩
  | p :: L, S, q, r, h => by
    obtain ⟨h1, h2⟩ := unqs_Q c L (unqK S c p) q r h
    have e : (unqK S c p).Q q = if q = p then (S.Q p).filter (notR c) else S.Q q := rfl
    rw [e] at h1
    by_cases hp : q = p
    · rw [if_pos hp] at h1
      obtain ⟨h3, h4⟩ := List.mem_filter.1 h1
      exact ⟨by rw [hp]; exact h3, fun _ => by simpa [notR] using h4⟩
    · rw [if_neg hp] at h1
      exact ⟨h1, fun hq => (List.mem_cons.1 hq).elim (fun e => absurd e hp) h2⟩
theorem left_gone (h : S.wf) : Left S c (goneK S c) := by
  have hw1 : ((heldP S c 1).foldl (fun S p => setK S p c none) S).wf := fold_wf (fun _ p h => h.setK fun l e => by cases e) _ h
  have hw2 := fold_wf (f := fun S p => unqK S c p) (fun _ p h => h.unq c p) (waitsP ((heldP S c 1).foldl (fun S p => setK S p c none) S) c) hw1
  unfold goneK leaveK
  refine left_stls _ ⟨hw2, fun p => ?_, fun p r hr e => ?_, fun d q hd => ?_⟩
  · rw [unqs_L, unls_L]
    split
    · rfl
    · rename_i hn
      cases hl : S.L p c with
      | none => rfl
      | some l =>
        have hb := h.lk p c l hl
        refine absurd ⟨rfl, List.mem_filter.2 ⟨(mem_upFrom _ _ _).2 (by omega), ?_⟩⟩ hn
        unfold heldB
        rw [hl]
        simp; omega
  · obtain ⟨h1, h2⟩ := unqs_Q c _ _ p r hr
    rw [unls_Q] at h1
    have hb := h.rq p r h1
    refine h2 (List.mem_filter.2 ⟨(mem_upFrom _ _ _).2 (by omega), ?_⟩) e
    unfold waitB
    rw [unls_Q]
    exact List.any_eq_true.2 ⟨r, h1, by simp [e]⟩
  · have e : ∀ (U V : KS), (∀ x y, y = d → U.L x y = V.L x y) → holdsS U d q = holdsS V d q := fun U V hu => by unfold holdsS; rw [hu q d rfl]
    have e2 := e ((waitsP ((heldP S c 1).foldl (fun S p => setK S p c none) S) c).foldl (fun S p => unqK S c p) ((heldP S c 1).foldl (fun S p => setK S p c none) S)) S fun x y hy => by rw [unqs_L, unls_L, if_neg (fun e => hd (hy ▸ e.1))]
    omega
theorem left_of (h : Left S c T) : (upFrom 0 1024).filter (heldB T c 2) = [] := by
  rw [List.filter_eq_nil_iff]
  intro p _ hp
  unfold heldB at hp
  rw [h.none p] at hp
  cases hp
theorem left_edge (h : Left S c T) {a b : Int} (he : EdgeOf T a b) : a ≠ c ∧ b ≠ c := by
  obtain ⟨x, ⟨r, hr, rfl⟩, hb⟩ := he
  refine ⟨h.noq x r hr, ?_⟩
  rcases hb with ⟨s, hs, rfl⟩ | hb
  · exact h.noq x s hs
  · rintro rfl; exact hb (h.none x)
theorem left_self (h : Left S c T) (p : Int) : holdsS T c p = 0 := by unfold holdsS; rw [h.none p]
end
theorem own_le {w : World} {B n k : Nat} {T : TypeId} {v : Value} {xs : List Value} (h : w.ownsRow B T k v n xs) : n ≤ 9223372036854775807 := by
  rcases h.2 with ⟨_, h0⟩ | ⟨g, cap, cur, _, _, _, h1, h2, _⟩
  · omega
  · have : maxLen = 9223372036854775807 := by decide
    omega
theorem edge_at {w : World} {B i : Nat} {v : Value} {E : List Rq} {x : Rq} (h : w.ownsRow B 63 2 v E.length (reqV E)) (hi : E[i]? = some x) :
    ∃ g cap, v = .slice (some ⟨g, 0, none⟩) E.length cap ∧ w.cell? ⟨g, i * 2, none⟩ = some (.int .i64 x.cl) ∧ w.cell? ⟨g, i * 2 + 1, none⟩ = some (.int .i64 x.wants) := by
  have hlt := (List.getElem?_eq_some_iff.1 hi).1
  obtain ⟨g, cap, e, _, _, hc⟩ := own_pos h (by omega)
  obtain ⟨r1, r2⟩ := req_at E i x hi
  exact ⟨g, cap, e, by rw [hc _ (by omega), r1], by rw [hc _ (by omega), r2]⟩
/-- what was held, as it is noted -/
def wasV (S : KS) (m k : Nat) : Value := .int .i64 (if 8 ≤ k ∧ k < m then holdsS S ((k / 8 : Nat) : Int) ((k % 8 : Nat) : Int) else 0)
theorem was_at (S : KS) {c q m : Nat} (hc : 1 ≤ c) (hq : q < 8) (hm : c * 8 + q < m) : wasV S m (c * 8 + q) = .int .i64 (holdsS S (c : Int) (q : Int)) := by
  unfold wasV
  rw [if_pos (by omega), show (c * 8 + q) / 8 = c by omega, show (c * 8 + q) % 8 = q by omega]
theorem was_next (S : KS) {c q : Nat} (j : Nat) : wasV S (c * 8 + (q + 1)) j = if j = c * 8 + q then wasV S (c * 8 + (q + 1)) (c * 8 + q) else wasV S (c * 8 + q) j := by
  by_cases hj : j = c * 8 + q
  · rw [if_pos hj, hj]
  · rw [if_neg hj]
    unfold wasV
    have : (8 ≤ j ∧ j < c * 8 + (q + 1)) ↔ (8 ≤ j ∧ j < c * 8 + q) := by omega
    simp only [this]
theorem zero_is : Try.zeroCells60 = Array.replicate 72 (.int .i64 0) := by kernel_rfl
theorem zero_was (S : KS) (w : World) : Arr (w.alloc (.cells Try.zeroCells60 60)) w.heap.size 60 72 (wasV S 8) := by
  refine ⟨_, Blk.new w _ _, by rw [zero_is]; rfl, fun k hk => ?_⟩
  have e : wasV S 8 k = .int .i64 0 := by unfold wasV; rw [if_neg (by omega)]
  rw [e, zero_is]
  simp [hk]
theorem zero_store (w : World) : (storeCells ⟨w.heap.size, 0, none⟩ Try.zeroCells60.toList 0).run Try.prog (w.alloc (.cells Try.zeroCells60 60)) = .ok () (w.alloc (.cells Try.zeroCells60 60)) :=
  run_storeCells_new w 60 _ _ (by kernel_rfl) rfl (by kernel_rfl)
structure Wt (w : World) (p gA : Nat) (S : KS) (m : Nat) (W : World) : Prop where
  t : TQ W p (fun k => k < w.heap.size ∨ k = gA) S
  a : Arr W gA 60 72 (wasV S m)
  b : Below w.heap.size w W
  g : w.heap.size ≤ gA
theorem Wt.set_ {w W : World} {p gA c q : Nat} {S : KS} (h : Wt w p gA S (c * 8 + q) W) (hc : 1 ≤ c) (hc8 : c ≤ 8) (hq : q < 8) : Wt w p gA S (c * 8 + (q + 1)) (W.setCell ⟨gA, c * 8 + q, none⟩ (.int .i64 (holdsS S (c : Int) (q : Int)))) := by
  refine ⟨h.t.set_ (.inr rfl) _ _, ?_, h.b.setCell h.g _, h.g⟩
  have := h.a.set_ (k := c * 8 + q) (by omega) (wasV S (c * 8 + (q + 1))) (was_next S)
  rwa [was_at S hc hq (by omega)] at this
theorem Wt.drew {w W : World} {p gA m : Nat} {S : KS} (h : Wt w p gA S m W) : Wt w p gA S m W.drew :=
  ⟨h.t.drewN 1, h.a.of_block rfl, h.b.drew, h.g⟩
end Go.Proofs.Ythkgmfgchgoafaa.Key
