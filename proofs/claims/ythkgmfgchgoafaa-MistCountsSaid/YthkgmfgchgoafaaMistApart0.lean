/- MistApart: what Pick, Copy and Clear leave on a way; a net and a row. -/
import Derived.Test.YthkgmfgchgoafaaMistTwo
import Derived.Test.YthkgmfgchgoafaaArr
namespace Go.Proofs.Ythkgmfgchgoafaa.Mist
set_option maxRecDepth 100000
open Go.RowKit
open Go.Proofs.Ythkgmfgchgoafaa.Mem Go.Proofs.Ythkgmfgchgoafaa.CordG
theorem split_at {L : List Gr} {k : Nat} {x : Gr} (h : L[k]? = some x) : L = L.take k ++ x :: L.drop (k + 1) := by
  have := List.take_append_drop k L
  rw [drop_cons h] at this
  exact this.symm
theorem cut_filter {L : List Gr} {k : Nat} {x : Gr} {f : Gr → Bool} (h : L[k]? = some x) (hp : f x = false) : (cutL L k).filter f = L.filter f := by
  have e := congrArg (List.filter f) (split_at h)
  rw [List.filter_append, List.filter_cons_of_neg (by simp [hp])] at e
  unfold cutL
  rw [List.filter_append, ← e]
theorem pick_other (L : List Gr) (c : Int) (u : Bool) (i : Int) (f : Gr → Bool) (hf : ∀ x, onW c u x = true → f x = false) : (pickL L c u i).filter f = L.filter f := by
  unfold pickL
  cases h : findN L c u i with
  | none => rfl
  | some x => obtain ⟨h1, h2⟩ := findN_get h; exact cut_filter h1 (hf _ h2)
theorem copy_other (L : List Gr) (c : Int) (u : Bool) (i : Int) (f : Gr → Bool) (hf : ∀ x, onW c u x = true → f x = false) : (copyL L c u i).filter f = L.filter f := by
  unfold copyL
  cases h : findN L c u i with
  | none => rfl
  | some x =>
    obtain ⟨h1, h2⟩ := findN_get h
    rcases put_is L x.1 with ⟨_, _, e⟩ | ⟨_, _, _, _, e⟩ | ⟨_, _, _, _, e⟩ <;> simp only [e]
    rw [List.filter_append, List.filter_cons_of_neg (by simp [hf _ h2])]; simp
theorem find_of {L : List Gr} {c : Int} {u : Bool} {k : Nat} {y : Gr} (h : (L.filter (onW c u))[k]? = some y) : ∃ j, findN L c u (k : Int) = some (y, j) := by
  rw [← map_way, List.getElem?_map] at h
  unfold findN
  rw [if_neg (by omega)]
  cases hw : (wayL L c u)[k]? with
  | none => rw [hw] at h; cases h
  | some z =>
    rw [hw] at h
    obtain ⟨y', j⟩ := z
    injection h with h
    simp at h
    subst h
    exact ⟨j, by simpa using hw⟩
theorem pick_first {L : List Gr} {c : Int} {u : Bool} {y : Gr} {r : List Gr} (h : L.filter (onW c u) = y :: r) : pickO L c u 0 = some y ∧ (pickL L c u 0).filter (onW c u) = r := by
  obtain ⟨j, hj⟩ := find_of (L := L) (c := c) (u := u) (k := 0) (y := y) (by rw [h]; rfl)
  have hj0 : findN L c u 0 = some (y, j) := hj
  obtain ⟨h1, h2⟩ := findN_get hj0
  dsimp only at h1 h2
  have hA : (L.take j).filter (onW c u) = [] := by
    have hw : (wayL L c u)[0]? = some (y, j) := by
      unfold findN at hj0
      simpa using hj0
    have e := congrArg (fun l => wayL l c u) (split_at h1)
    simp only [wayL, List.zipIdx_append, List.filter_append] at e
    cases hz : ((L.take j).zipIdx).filter (onX c u) with
    | nil =>
      have hm := map_way (L.take j) c u
      unfold wayL at hm
      rw [hz] at hm
      exact hm.symm
    | cons z t =>
      have hm : z ∈ ((L.take j).zipIdx).filter (onX c u) := by rw [hz]; simp
      obtain ⟨hm1, _⟩ := List.mem_filter.1 hm
      obtain ⟨z1, z2⟩ := z
      have hlt := (List.mem_zipIdx hm1).2.1
      unfold wayL at hw
      rw [e, hz] at hw
      simp at hw
      obtain ⟨_, rfl⟩ := hw
      rw [List.length_take] at hlt
      omega
  refine ⟨by unfold pickO; rw [hj0]; rfl, ?_⟩
  unfold pickL
  rw [hj0]
  have e := congrArg (List.filter (onW c u)) (split_at h1)
  rw [List.filter_append, List.filter_cons_of_pos h2, hA, h] at e
  simp at e
  simp only [cutO, cutL]
  rw [List.filter_append, hA, e]; rfl
theorem copy_same {L : List Gr} {c : Int} {u : Bool} {k : Nat} {y : Gr} (h : (L.filter (onW c u))[k]? = some y) (hc : 1 ≤ c ∧ c ≤ 8) (hl : L.length < 64) : copyB L c u (k : Int) = true ∧ copyL L c u (k : Int) = L ++ [y] := by
  obtain ⟨j, hj⟩ := find_of h
  have hon := (findN_get hj).2
  dsimp only at hon
  unfold onW at hon
  rw [Bool.and_eq_true] at hon
  have hcl : y.cl = c := by simpa using hon.1
  have hx : putX L y = 0 := by
    unfold putX
    rw [if_neg (by rw [hcl]; omega), if_neg (by have := count_le L y.cl y.up; omega)]
  unfold copyB copyL
  rw [hj]
  refine ⟨?_, ?_⟩
  · show (putX L y == 0) = true
    rw [hx]; rfl
  · show putL L y = L ++ [y]
    unfold putL; rw [if_pos hx]
theorem clear_keeps (L : List Gr) (c c' : Int) (u : Bool) (h : c' ≠ c) : (L.filter (notC c)).filter (onW c' u) = L.filter (onW c' u) := by
  rw [List.filter_filter]
  apply List.filter_congr
  intro x _
  unfold onW notC
  by_cases hx : x.cl = c'
  · simp [hx, h]
  · simp [hx]
theorem clear_none (L : List Gr) (c : Int) (u : Bool) : (L.filter (notC c)).filter (onW c u) = [] := by
  rw [List.filter_eq_nil_iff]
  intro x hx
  have := (List.mem_filter.1 hx).2
  unfold notC at this
  unfold onW
  simp at this ⊢
  intro h; exact absurd h this
theorem on_off {c c' : Int} {u u' : Bool} (h : c ≠ c' ∨ u ≠ u') : ∀ x, onW c u x = true → onW c' u' x = false := by
  intro x hx
  unfold onW at hx ⊢
  simp at hx ⊢
  intro h1
  rcases h with h | h
  · exact absurd (hx.1.symm.trans h1) h
  · rw [hx.2]; exact h
/-- a net, a row, and other new blocks X -/
structure One (w0 W : World) (p : Nat) (vn vs : Value) (X : Nat → Prop) (Ln Ls : List Gr) : Prop where
  n : PA 69 W p vn (fun k => k < w0.heap.size ∨ vs.ownBlock = some k ∨ X k) Ln
  s : W.ownsRow w0.heap.size 29 6 vs Ls.length (gramsV Ls)
  bel : Below w0.heap.size w0 W
section
variable {w0 W W' : World} {p : Nat} {vn vs vn' vs' : Value} {X X' : Nat → Prop} {Ln Ls Ln' Ls' : List Gr}
theorem One.below (h : One w0 W p vn vs X Ln Ls) (hb : Below W.heap.size W W') : One w0 W' p vn vs X Ln Ls :=
  ⟨h.n.step hb.size (fun k hk _ => hb.block k hk) (fun _ h => .inl h), Mem.own_below h.s hb, h.bel.trans (hb.mono h.bel.size)⟩
theorem One.box (h : One w0 W p vn vs X Ln Ls) (hb : Below W.heap.size W W') {g : Nat} (hg : W.heap.size ≤ g ∧ g < W'.heap.size) : One w0 W' p vn vs (fun k => X k ∨ k = g) Ln Ls :=
  ⟨h.n.step hb.size (fun k hk _ => hb.block k hk) (fun k h => by rcases h with h | h | h | h; exact .inl (.inl h); exact .inl (.inr (.inl h)); exact .inl (.inr (.inr h)); exact .inr (by omega)), Mem.own_below h.s hb, h.bel.trans (hb.mono h.bel.size)⟩
theorem One.less (h : One w0 W p vn vs X Ln Ls) (hx : ∀ k, X' k → X k) : One w0 W p vn vs X' Ln Ls :=
  ⟨h.n.mono fun k h => h.imp id fun h => h.imp id (hx k), h.s, h.bel⟩
theorem One.call (h : One w0 W p vn vs X Ln Ls) (hn : PA 69 W' p vn' (fun k => k < w0.heap.size ∨ vs.ownBlock = some k ∨ X k) Ln') (hk : Keep (fun k => k < w0.heap.size ∨ vs.ownBlock = some k ∨ X k) W W') : One w0 W' p vn' vs X Ln' Ls :=
  ⟨hn, own_same h.s fun g hg => hk.block g (.inr (.inl hg)), h.bel.trans (hk.below fun _ h => .inl h)⟩
theorem One.app (h : One w0 W p vn vs (fun _ => False) Ln Ls) (hs : W'.ownsRow w0.heap.size 29 6 vs' Ls'.length (gramsV Ls')) (hg : W.grownBy W' vs.ownBlock) (hv : vs'.ownBlock = vs.ownBlock ∨ vs'.ownBlock = some W.heap.size) : One w0 W' p vn vs' (fun _ => False) Ln Ls' := by
  have hsz := hg.size
  refine ⟨h.n.move (hg.block p h.n.blk.lt fun e => h.n.m0 (.inr (.inl e.symm))) (fun g hgv => hg.block g (own_lt h.n.own hgv) fun e => h.n.m1 g hgv (.inr (.inl e.symm))) ?_ ?_ ?_, hs, h.bel.grown hg h.bel.size (fun k e => own_ge h.s k e)⟩
  · rintro (h1 | h1 | h1)
    · exact h.n.m0 (.inl h1)
    · rcases hv with e | e <;> rw [e] at h1
      · exact h.n.m0 (.inr (.inl h1))
      · injection h1 with h1; have := h.n.blk.lt; omega
    · exact h1
  · rintro g hgv (h1 | h1 | h1)
    · exact h.n.m1 g hgv (.inl h1)
    · rcases hv with e | e <;> rw [e] at h1
      · exact h.n.m1 g hgv (.inr (.inl h1))
      · injection h1 with h1; have := own_lt h.n.own hgv; omega
    · exact h1
  · rintro k (h1 | h1 | h1)
    · have := h.n.lt k (.inl h1); omega
    · exact own_lt hs h1
    · exact h1.elim
end
theorem add_of (x c : Int) (n : Int) (hc : 0 ≤ c ∧ c ≤ 1000) (hn : 1 ≤ n) (hm : n ≤ 1000) : ∃ K : Nat, wrap64 (c + wrap64 ((IntKind.u64.wrap x).tmod n)) = (K : Int) ∧ c ≤ K ∧ (K : Int) < c + n := by
  obtain ⟨K, h1, h2⟩ := cut_of x n hn (by omega)
  exact ⟨(c + K).toNat, by rw [h1]; unfold wrap64; omega, by omega, by omega⟩
end Go.Proofs.Ythkgmfgchgoafaa.Mist
