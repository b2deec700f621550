/- MistCounts: the net and the array of counts. -/
import Derived.Test.YthkgmfgchgoafaaMistApart0
import Derived.Test.YthkgmfgchgoafaaMistActs
namespace Go.Proofs.Ythkgmfgchgoafaa.Mist
set_option maxRecDepth 100000
open Go.RowKit
open Go.Proofs.Ythkgmfgchgoafaa.Mem Go.Proofs.Ythkgmfgchgoafaa.CordG
def b2n (u : Bool) : Nat := if u then 1 else 0
/-- the count in the cell j -/
def cntV (L : List Gr) (j : Nat) : Value := .int .i64 (countL L ((j / 2 : Nat) : Int) (j % 2 == 1) : Int)
theorem cnt_at (L : List Gr) (K : Nat) (u : Bool) : cntV L (K * 2 + b2n u) = .int .i64 (countL L (K : Int) u : Int) := by
  unfold cntV b2n
  cases u
  · rw [show (K * 2 + if (false : Bool) = true then 1 else 0) = K * 2 by simp, show K * 2 / 2 = K by omega, show K * 2 % 2 = 0 by omega]; rfl
  · rw [show (K * 2 + if (true : Bool) = true then 1 else 0) = K * 2 + 1 by simp, show (K * 2 + 1) / 2 = K by omega, show (K * 2 + 1) % 2 = 1 by omega]; rfl
theorem cnt_other {L L' : List Gr} {K : Nat} {u : Bool} (h : ∀ (c : Int) (v : Bool), (c ≠ (K : Int) ∨ v ≠ u) → countL L' c v = countL L c v) (j : Nat) : cntV L' j = if j = K * 2 + b2n u then cntV L' (K * 2 + b2n u) else cntV L j := by
  by_cases hj : j = K * 2 + b2n u
  · rw [if_pos hj, hj]
  · rw [if_neg hj]
    unfold cntV
    rw [h]
    by_cases hk : ((j / 2 : Nat) : Int) = (K : Int)
    · right
      intro e
      apply hj
      have e2 : j / 2 = K := by omega
      unfold b2n
      cases u
      · have : j % 2 = 0 := by
          have h2 : j % 2 < 2 := Nat.mod_lt _ (by decide)
          have : ¬ (j % 2 = 1) := by simpa using e
          omega
        simp; omega
      · have : j % 2 = 1 := by simpa using e
        simp; omega
    · exact .inl hk
theorem count_snoc (L : List Gr) (x : Gr) (c : Int) (u : Bool) : countL (L ++ [x]) c u = countL L c u + (if onW c u x = true then 1 else 0) := by
  unfold countL
  rw [List.filter_append, List.length_append]
  congr 1
  by_cases h : onW c u x = true
  · simp [h]
  · simp [h]
theorem count_cut {L : List Gr} {k : Nat} {x : Gr} (h : L[k]? = some x) (c : Int) (u : Bool) : countL L c u = countL (cutL L k) c u + (if onW c u x = true then 1 else 0) := by
  have e : (List.filter (onW c u) L).length = (List.filter (onW c u) (L.take k ++ x :: L.drop (k + 1))).length := congrArg (fun l => (List.filter (onW c u) l).length) (split_at h)
  unfold countL cutL
  rw [e, List.filter_append, List.filter_append, List.length_append, List.length_append]
  by_cases hx : onW c u x = true
  · rw [if_pos hx, List.filter_cons_of_pos hx, List.length_cons]; omega
  · rw [if_neg hx, List.filter_cons_of_neg hx]; omega
theorem on_self (x : Gr) : onW x.cl x.up x = true := by simp [onW]
theorem on_eq {c : Int} {u : Bool} {x : Gr} (h : onW c u x = true) : x.cl = c ∧ x.up = u := by unfold onW at h; simpa using h
theorem on_not {c : Int} {u : Bool} {x : Gr} (h : c ≠ x.cl ∨ u ≠ x.up) : onW c u x = false := by
  cases e : onW c u x with
  | false => rfl
  | true => obtain ⟨h1, h2⟩ := on_eq e; exact (h.elim (fun k => k h1.symm) (fun k => k h2.symm)).elim
/-- what the counts make of the lists -/
structure Ok3 (L : List Gr) : Prop where
  in3 : ∀ x ∈ L, 1 ≤ x.cl ∧ x.cl ≤ 3
  le : ∀ c u, countL L c u ≤ 64
theorem ok_nil : Ok3 [] := ⟨fun x h => (by cases h), fun c u => (by simp [countL])⟩
theorem ok_put {L : List Gr} {x : Gr} (h : Ok3 L) (hx : 1 ≤ x.cl ∧ x.cl ≤ 3) : Ok3 (putL L x) := by
  rcases put_is L x with ⟨_, _, e⟩ | ⟨_, _, _, _, e⟩ | ⟨_, _, hc, _, e⟩ <;> rw [e]
  · exact h
  · exact h
  · refine ⟨fun y hy => ?_, fun c u => ?_⟩
    · rcases List.mem_append.1 hy with h1 | h1
      · exact h.in3 y h1
      · rw [List.mem_singleton] at h1; rw [h1]; exact hx
    · rw [count_snoc]
      by_cases ho : onW c u x = true
      · obtain ⟨rfl, rfl⟩ := on_eq ho
        rw [if_pos ho]; omega
      · rw [if_neg ho]; have := h.le c u; omega
theorem ok_cut {L : List Gr} {k : Nat} {x : Gr} (h : Ok3 L) (hx : L[k]? = some x) : Ok3 (cutL L k) := by
  refine ⟨fun y hy => ?_, fun c u => ?_⟩
  · unfold cutL at hy
    rcases List.mem_append.1 hy with h1 | h1
    · exact h.in3 y (List.mem_of_mem_take h1)
    · exact h.in3 y (List.mem_of_mem_drop h1)
  · have := count_cut hx c u
    have := h.le c u
    omega
/-- one more on the way of x, or one less -/
def More (L L' : List Gr) (c : Int) (u : Bool) : Prop := countL L' c u = countL L c u + 1 ∧ ∀ (d : Int) (v : Bool), (d ≠ c ∨ v ≠ u) → countL L' d v = countL L d v
theorem more_snoc (L : List Gr) (x : Gr) : More L (L ++ [x]) x.cl x.up := ⟨by rw [count_snoc, if_pos (on_self x)], fun d v h => by rw [count_snoc, on_not h]; simp⟩
theorem less_cut {L : List Gr} {k : Nat} {x : Gr} (h : L[k]? = some x) : More (cutL L k) L x.cl x.up := ⟨by rw [count_cut h, if_pos (on_self x)], fun d v hd => by rw [count_cut h, on_not hd]; simp⟩
theorem put_more {L : List Gr} {x : Gr} (h : putX L x = 0) : More L (putL L x) x.cl x.up := by unfold putL; rw [if_pos h]; exact more_snoc L x
theorem put_none {L : List Gr} {x : Gr} (h : putX L x ≠ 0) : putL L x = L := by unfold putL; rw [if_neg h]
theorem pick_some {L : List Gr} {c : Int} {u : Bool} {i : Int} {x : Gr} (h : pickO L c u i = some x) : More (pickL L c u i) L c u ∧ (Ok3 L → Ok3 (pickL L c u i)) := by
  unfold pickO at h
  unfold pickL
  cases hf : findN L c u i with
  | none => rw [hf] at h; cases h
  | some z =>
    obtain ⟨h1, h2⟩ := findN_get hf
    obtain ⟨rfl, rfl⟩ := on_eq h2
    exact ⟨less_cut h1, fun h3 => ok_cut h3 h1⟩
theorem pick_none {L : List Gr} {c : Int} {u : Bool} {i : Int} (h : pickO L c u i = none) : pickL L c u i = L := by
  unfold pickO at h
  unfold pickL
  cases hf : findN L c u i with
  | none => rfl
  | some z => rw [hf] at h; cases h
theorem copy_true {L : List Gr} {c : Int} {u : Bool} {i : Int} (h : copyB L c u i = true) : More L (copyL L c u i) c u := by
  unfold copyB at h
  unfold copyL
  cases hf : findN L c u i with
  | none => rw [hf] at h; cases h
  | some z =>
    rw [hf] at h
    have h1 : putX L z.1 = 0 := by simpa using h
    obtain ⟨rfl, rfl⟩ := on_eq (findN_get hf).2
    exact put_more h1
theorem copy_false {L : List Gr} {c : Int} {u : Bool} {i : Int} (h : copyB L c u i = false) : copyL L c u i = L := by
  unfold copyB at h
  unfold copyL
  cases hf : findN L c u i with
  | none => rfl
  | some z =>
    rw [hf] at h
    have h1 : putX L z.1 ≠ 0 := by simpa using h
    exact put_none h1
theorem ok_copy {L : List Gr} {c : Int} {u : Bool} {i : Int} (h : Ok3 L) : Ok3 (copyL L c u i) := by
  unfold copyL
  cases hf : findN L c u i with
  | none => exact h
  | some z => exact ok_put h (h.in3 _ (List.mem_of_getElem? (findN_get hf).1))
theorem eld_some {L : List Gr} {x : Gr} (h : eldO L = some x) : More L.tail L x.cl x.up ∧ (Ok3 L → Ok3 L.tail) ∧ x ∈ L := by
  cases L with
  | nil => cases h
  | cons y r =>
    obtain rfl : y = x := by simpa [eldO] using h
    have h0 : (y :: r)[0]? = some y := rfl
    have e : cutL (y :: r) 0 = r := rfl
    have h1 := less_cut h0
    rw [e] at h1
    exact ⟨h1, fun h3 => by have := ok_cut h3 h0; rw [e] at this; exact this, by simp⟩
theorem eld_none {L : List Gr} (h : eldO L = none) : L.tail = L := by
  cases L with
  | nil => rfl
  | cons y r => cases h
/-- the net, the array -/
structure CS (w0 W : World) (p gC : Nat) (X : Nat → Prop) (Ln Lc : List Gr) : Prop where
  n : PQ 69 W p (fun k => k < w0.heap.size ∨ k = gC ∨ X k) Ln
  c : Arr W gC 27 8 (cntV Lc)
  bel : Below w0.heap.size w0 W
  low : w0.heap.size ≤ gC
  ok : Ok3 Ln
section
variable {w0 W W' : World} {p gC : Nat} {X X' : Nat → Prop} {Ln Lc L' : List Gr}
theorem CS.below (h : CS w0 W p gC X Ln Lc) (hb : Below W.heap.size W W') : CS w0 W' p gC X Ln Lc := ⟨h.n.below hb, h.c.below hb, h.bel.trans (hb.mono h.bel.size), h.low, h.ok⟩
theorem CS.box (h : CS w0 W p gC X Ln Lc) (hb : Below W.heap.size W W') {g : Nat} (hg : W.heap.size ≤ g ∧ g < W'.heap.size) : CS w0 W' p gC (fun k => X k ∨ k = g) Ln Lc :=
  ⟨h.n.step hb.size (fun k hk _ => hb.block k hk) (fun k h => by rcases h with h | h | h | h; exact .inl (.inl h); exact .inl (.inr (.inl h)); exact .inl (.inr (.inr h)); exact .inr (by omega)), h.c.below hb, h.bel.trans (hb.mono h.bel.size), h.low, h.ok⟩
theorem CS.less (h : CS w0 W p gC X Ln Lc) (hx : ∀ k, X' k → X k) : CS w0 W p gC X' Ln Lc := ⟨h.n.mono fun k h => h.imp id fun h => h.imp id (hx k), h.c, h.bel, h.low, h.ok⟩
theorem CS.call (h : CS w0 W p gC X Ln Lc) (hn : PQ 69 W' p (fun k => k < w0.heap.size ∨ k = gC ∨ X k) L') (hk : Keep (fun k => k < w0.heap.size ∨ k = gC ∨ X k) W W') (ho : Ok3 L') : CS w0 W' p gC X L' Lc :=
  ⟨hn, h.c.keep hk (.inr (.inl rfl)), h.bel.trans (hk.below fun _ h => .inl h), h.low, ho⟩
theorem CS.other (h : CS w0 W p gC X Ln Lc) {b : Nat} (hb : X b) (hg : gC ≠ b) (hl : w0.heap.size ≤ b) (i : Nat) (v : Value) : CS w0 (W.setCell ⟨b, i, none⟩ v) p gC X Ln Lc :=
  ⟨h.n.set_ (.inr (.inr hb)) i v, h.c.far (p := ⟨b, i, none⟩) hg v, h.bel.setCell (p := ⟨b, i, none⟩) hl v, h.low, h.ok⟩
theorem CS.six (h : CS w0 W p gC X Ln Lc) {b : Nat} (hb : X b) (hg : gC ≠ b) (hl : w0.heap.size ≤ b) (v0 v1 v2 v3 v4 v5 : Value) : CS w0 ((((((W.setCell ⟨b, 0, none⟩ v0).setCell ⟨b, 1, none⟩ v1).setCell ⟨b, 2, none⟩ v2).setCell ⟨b, 3, none⟩ v3).setCell ⟨b, 4, none⟩ v4).setCell ⟨b, 5, none⟩ v5) p gC X Ln Lc :=
  (((((h.other hb hg hl 0 v0).other hb hg hl 1 v1).other hb hg hl 2 v2).other hb hg hl 3 v3).other hb hg hl 4 v4).other hb hg hl 5 v5
theorem blk_six {W : World} {g b : Nat} {T : TypeId} {cs : Array Value} (h : Blk W g T cs) (hg : g ≠ b) (v0 v1 v2 v3 v4 v5 : Value) : Blk ((((((W.setCell ⟨b, 0, none⟩ v0).setCell ⟨b, 1, none⟩ v1).setCell ⟨b, 2, none⟩ v2).setCell ⟨b, 3, none⟩ v3).setCell ⟨b, 4, none⟩ v4).setCell ⟨b, 5, none⟩ v5) g T cs :=
  (((((h.far (p := ⟨b, 0, none⟩) hg v0).far (p := ⟨b, 1, none⟩) hg v1).far (p := ⟨b, 2, none⟩) hg v2).far (p := ⟨b, 3, none⟩) hg v3).far (p := ⟨b, 4, none⟩) hg v4).far (p := ⟨b, 5, none⟩) hg v5
/-- .. and all that was made since -/
theorem CS.since (h : CS w0 W p gC X Ln Lc) (hb : Below W.heap.size W W') : CS w0 W' p gC (fun k => X k ∨ (W.heap.size ≤ k ∧ k < W'.heap.size)) Ln Lc :=
  ⟨h.n.step hb.size (fun k hk _ => hb.block k hk) (fun k h => by rcases h with h | h | h | h; exact .inl (.inl h); exact .inl (.inr (.inl h)); exact .inl (.inr (.inr h)); exact .inr h), h.c.below hb, h.bel.trans (hb.mono h.bel.size), h.low, h.ok⟩
/-- the cell of a way is set -/
theorem CS.set_ (h : CS w0 W p gC X Ln Lc) {K : Nat} {u : Bool} {v : Value} (hK : K < 4) (hv : v = cntV Ln (K * 2 + b2n u)) (ho : ∀ (c : Int) (v : Bool), (c ≠ (K : Int) ∨ v ≠ u) → countL Ln c v = countL Lc c v) : CS w0 (W.setCell ⟨gC, K * 2 + b2n u, none⟩ v) p gC X Ln Ln := by
  have hb : b2n u ≤ 1 := by unfold b2n; split <;> omega
  subst hv
  exact ⟨h.n.set_ (.inr (.inl rfl)) _ _, h.c.set_ (k := K * 2 + b2n u) (by omega) (cntV Ln) (cnt_other ho), h.bel.setCell (p := ⟨gC, K * 2 + b2n u, none⟩) h.low _, h.low, h.ok⟩
theorem CS.at_ (h : CS w0 W p gC X Ln Lc) {K : Nat} (u : Bool) (hK : K < 4) : W.cell? ⟨gC, K * 2 + b2n u, none⟩ = some (.int .i64 (countL Lc (K : Int) u : Int)) ∧ W.frozen? ⟨gC, K * 2 + b2n u, none⟩ = false := by
  have hb : b2n u ≤ 1 := by unfold b2n; split <;> omega
  have := h.c.at_ (k := K * 2 + b2n u) (by omega)
  rw [cnt_at] at this
  exact this
end
end Go.Proofs.Ythkgmfgchgoafaa.Mist
