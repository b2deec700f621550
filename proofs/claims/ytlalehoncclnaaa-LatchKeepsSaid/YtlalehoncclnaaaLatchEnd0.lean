/- End, as plain data; letGo at any state; a row of what is let go. -/
import Derived.Test.YtlalehoncclnaaaLatchCall
import Derived.Maps.AppendAt
namespace Go.Proofs.Ytlalehoncclnaaa.Latch
set_option maxRecDepth 100000
open Go.RowKit
open Go.Proofs.Ytlalehoncclnaaa.Mem
open Go.Maps
/-- what is needed -/
def uL (L : LS) : LS := L.filter fun k => decide (0 < k.us)
/-- what is let go of the first j of them -/
def outE (L : LS) (j : Nat) : List (Int × Bool) := ((uL L).take j).filterMap letF
/-- which locks there are behind the first j of them -/
def fE (L : LS) (j : Nat) (q : Int) : Option Value := if ((uL L).take j).any (fun k => k.pg == q) = true then hasF (endL L) q else hasF L q
section
variable {L : LS}
theorem uL_mem {k : Lk} (h : k ∈ uL L) : k ∈ L ∧ 0 < k.us := by simpa [uL] using h
theorem uL_up (h : Up L) : ((uL L).map (·.pg)).Pairwise (fun x y => x < y) := List.pairwise_map.2 (List.Pairwise.filter _ h)
theorem uL_keys (h : Up L) (x : Int) : x ∈ (uL L).map (·.pg) ↔ useF L x ≠ none := by
  constructor
  · intro hx
    obtain ⟨k, hk, rfl⟩ := List.mem_map.1 hx
    obtain ⟨h1, h2⟩ := uL_mem hk
    unfold useF
    rw [at_of_mem h h1]
    dsimp only [Option.bind_some]
    rw [if_neg (by omega)]
    simp
  · intro hx
    unfold useF at hx
    cases e : atL x L with
    | none => rw [e] at hx; exact absurd rfl hx
    | some k =>
      rw [e] at hx
      dsimp only [Option.bind_some] at hx
      refine List.mem_map.2 ⟨k, ?_, at_pg e⟩
      unfold uL
      rw [List.mem_filter]
      refine ⟨at_mem e, ?_⟩
      by_cases h0 : k.us = 0
      · rw [if_pos h0] at hx; exact absurd rfl hx
      · simp; omega
theorem hasF_end (h : Ok L) {k : Lk} (hk : k ∈ L) : hasF (endL L) k.pg = if k.wt = 2 then none else some (.int .i64 (if (k.x && k.wt == 0) = true then 2 else 1)) := by
  unfold hasF
  rw [at_end h.1, at_of_mem h.1 hk]
  dsimp only [Option.bind_some]
  unfold endF
  split
  · rfl
  · rfl
theorem useF_end (h : Ok L) (q : Int) : useF (endL L) q = none := by
  unfold useF
  rw [at_end h.1]
  cases atL q L with
  | none => rfl
  | some k =>
    dsimp only [Option.bind_some]
    unfold endF
    split
    · rfl
    · rfl
theorem fE_zero (q : Int) : fE L 0 q = hasF L q := by unfold fE; simp
theorem fE_step {j : Nat} {k : Lk} (hk : (uL L)[j]? = some k) (q : Int) : fE L (j + 1) q = if q = k.pg then hasF (endL L) k.pg else fE L j q := by
  unfold fE
  rw [List.take_add_one, hk]
  simp only [Option.toList_some, List.any_append, List.any_cons, List.any_nil, Bool.or_false, Bool.or_eq_true, beq_iff_eq]
  by_cases e : q = k.pg
  · rw [if_pos e, if_pos (.inr e.symm), e]
  · rw [if_neg e]
    by_cases e2 : ((uL L).take j).any (fun k => k.pg == q) = true
    · rw [if_pos (.inl e2), if_pos e2]
    · rw [if_neg (fun e3 => e3.elim e2 (fun e4 => e e4.symm)), if_neg e2]
theorem fE_end (h : Ok L) (q : Int) : fE L (uL L).length q = hasF (endL L) q := by
  unfold fE
  rw [List.take_length]
  split
  · rfl
  · rename_i e
    have hq : ∀ k ∈ uL L, k.pg ≠ q := fun k hk e2 => e (List.any_eq_true.2 ⟨k, hk, by simpa using e2⟩)
    unfold hasF
    rw [at_end h.1]
    cases ha : atL q L with
    | none => rfl
    | some k =>
      have hm := at_mem ha
      have hu : k.us = 0 := by
        refine Nat.eq_zero_of_not_pos fun h0 => hq k ?_ (at_pg ha)
        unfold uL
        rw [List.mem_filter]
        exact ⟨hm, by simpa using h0⟩
      obtain ⟨o1, o2, o3, o4⟩ := h.2 k hm
      have hw : k.wt = 0 := by omega
      dsimp only [Option.bind_some]
      unfold endF
      rw [if_neg (by omega)]
      simp [lvlK, hw]
theorem outE_zero : outE L 0 = [] := rfl
theorem outE_step {j : Nat} {k : Lk} (hk : (uL L)[j]? = some k) : outE L (j + 1) = outE L j ++ (letF k).toList := by
  unfold outE
  rw [List.take_add_one, hk, List.filterMap_append]
  have e : (some k).toList.filterMap letF = (letF k).toList := by cases h : letF k <;> simp [h]
  rw [e]
theorem outE_end (h : Ok L) : outE L (uL L).length = endO L := by
  unfold outE endO
  rw [List.take_length]
  have h2 := h.2
  clear h
  unfold uL
  induction L with
  | nil => rfl
  | cons a L ih =>
    have ih2 := ih fun k hk => h2 k (List.mem_cons_of_mem _ hk)
    rw [List.filter_cons]
    by_cases e : 0 < a.us
    · rw [if_pos (by simpa using e), List.filterMap_cons, List.filterMap_cons, ih2]
    · rw [if_neg (by simpa using e), ih2, List.filterMap_cons]
      obtain ⟨o1, o2, o3, o4⟩ := h2 a List.mem_cons_self
      have : letF a = none := by unfold letF; rw [if_pos (by omega)]
      rw [this]
theorem outE_len (j : Nat) : (outE L j).length ≤ L.length := by
  unfold outE
  refine Nat.le_trans (List.length_filterMap_le _ _) ?_
  rw [List.length_take]
  exact Nat.le_trans (Nat.min_le_right _ _) (List.length_filter_le _ _)
end
/-! ### Any two maps at a client's locks -/
structure RW (w : World) (p hb ub n m : Nat) (f g : Int → Option Value) : Prop where
  top : Blk w p 56 #[.map (some hb), .map (some ub)]
  hm : MapN w hb n f
  um : MapN w ub m g
  nu : hb ≠ ub
def Ex (b : Nat) (k : Nat) : Prop := k ≠ b
section
variable {w w' : World} {p hb ub n m : Nat} {f g : Int → Option Value} {pg : Int}
theorem RW.np (h : RW w p hb ub n m f g) : hb ≠ p ∧ ub ≠ p := ⟨h.hm.not_cells h.top, h.um.not_cells h.top⟩
theorem RW.keep (h : RW w p hb ub n m f g) (k1 : w'.heap[p]? = w.heap[p]?) (k2 : w'.heap[hb]? = w.heap[hb]?) (k3 : w'.heap[ub]? = w.heap[ub]?) : RW w' p hb ub n m f g :=
  ⟨k1.trans h.top, h.hm.same k2, h.um.same k3, h.nu⟩
theorem RW.below (h : RW w p hb ub n m f g) (hb' : Below w.heap.size w w') : RW w' p hb ub n m f g := h.keep (hb'.block _ h.top.lt) (hb'.block _ h.hm.lt) (hb'.block _ h.um.lt)
theorem RW.grown (h : RW w p hb ub n m f g) {row : Option Nat} (hg : w.grownBy w' row) (hr : ∀ k, row = some k → k ≠ p ∧ k ≠ hb ∧ k ≠ ub) : RW w' p hb ub n m f g :=
  h.keep (hg.block _ h.top.lt fun e => (hr _ e.symm).1 rfl) (hg.block _ h.hm.lt fun e => (hr _ e.symm).2.1 rfl) (hg.block _ h.um.lt fun e => (hr _ e.symm).2.2 rfl)
theorem RW.ext (h : RW w p hb ub n m f g) {f' : Int → Option Value} (e : ∀ q, f q = f' q) : RW w p hb ub n m f' g := ⟨h.top, h.hm.ext e, h.um, h.nu⟩
theorem RW.mono (h : RW w p hb ub n m f g) {n' : Nat} (e : n ≤ n') : RW w p hb ub n' m f g := ⟨h.top, h.hm.mono e, h.um, h.nu⟩
theorem RW.turn (h : RW w p hb ub n m f g) {n' : Nat} {f' : Int → Option Value} (hm : MapN w' hb n' f') (ht : w.mapTurned w' hb) : RW w' p hb ub n' m f' g ∧ Keep (Ex hb) w w' := by
  have hg := ht.grown
  have hbl : ∀ k, k < w.heap.size → k ≠ hb → w'.heap[k]? = w.heap[k]? := fun k hk hne => hg.block k hk (fun e => hne (by injection e))
  refine ⟨⟨(hbl p h.top.lt (fun e => h.np.1 e.symm)).trans h.top, hm, h.um.same (hbl _ h.um.lt h.nu.symm), h.nu⟩, hg.os, hg.tape, hg.output, hg.size, fun k hk => ?_⟩
  by_cases hlt : k < w.heap.size
  · exact hbl k hlt hk
  · obtain ⟨es, c, es', c', h0, he⟩ := ht
    rw [he]
    have : (ChangeMaps.setBlock w hb (.map es' c')).heap.size = w.heap.size := by simp [ChangeMaps.setBlock]
    rw [Array.getElem?_eq_none (by omega), Array.getElem?_eq_none (by omega)]
set_option maxRecDepth 100000 in
theorem letGoR_all (h : RW w p hb ub n m f g) (hx : Sm pg) :
    Calls Try.prog 27 #[.pointer (some ⟨p, 0, none⟩), .int .i64 pg, .int .i64 0] w fun e w' => e = .returned (.tuple #[]) ∧ RW w' p hb ub n m (fun q => if q = pg then none else f q) g ∧ Keep (Ex hb) w w' := by
  have c0 := h.top.cell 0
  have HD : Hid (∀ ty, ∃ w', (Builtin.delete_ #[53, 3] ty #[.map (some hb), .int .i64 pg]).run Try.prog w = .ok (.tuple #[]) w' ∧ RW w' p hb ub n m (fun q => if q = pg then none else f q) g ∧ Keep (Ex hb) w w') := Lib.hid fun ty => by
    obtain ⟨w', hr, hm, ht⟩ := h.hm.del Try.underlying53 hx ty
    exact ⟨w', hr, h.turn hm ht⟩
  clear h hx
  go_enter Try.func27, Try.ntmps27
  go_wp2_with (at_delete; refine wpList_mdel (t := 53) rfl _ _ rfl hb rfl pg rfl _ HD.out ?_; intro w2 h2)
  refine bodyPost_ret (results_none rfl _ _ _) rfl ?_
  exact ⟨rfl, h2⟩
set_option maxRecDepth 100000 in
theorem letGoR_x (h : RW w p hb ub n m f g) (hx : Sm pg) (hn : n ≤ 2000000) :
    Calls Try.prog 27 #[.pointer (some ⟨p, 0, none⟩), .int .i64 pg, .int .i64 1] w fun e w' => e = .returned (.tuple #[]) ∧ RW w' p hb ub (n + 1) m (fun q => if q = pg then some (.int .i64 1) else f q) g ∧ Keep (Ex hb) w w' := by
  have c0 := h.top.cell 0
  obtain ⟨w', hr, hm, ht⟩ := h.hm.put Try.underlying53 hx (by unfold maxLen; omega) (.int .i64 1)
  have H1 := Lib.hid (h.turn hm ht)
  clear h hx hm ht
  go_enter Try.func27, Try.ntmps27
  go_wp2
  go_end0
  first | exact ⟨⟨_, rfl⟩, H1.out⟩ | exact ⟨rfl, H1.out⟩
end
/-! ### A row of what is let go -/
def letsV (l : List (Int × Bool)) : List Value := l.flatMap fun x => [.int .i64 x.1, .bool x.2]
theorem lets_len (l : List (Int × Bool)) : (letsV l).length = l.length * 2 := by
  induction l with
  | nil => rfl
  | cons a l ih =>
    have e : letsV (a :: l) = .int .i64 a.1 :: .bool a.2 :: letsV l := by simp [letsV]
    rw [e]; simp [ih]; omega
theorem lets_app (a b : List (Int × Bool)) : letsV (a ++ b) = letsV a ++ letsV b := by simp [letsV]
theorem lets_one (x : Int × Bool) : letsV [x] = [.int .i64 x.1, .bool x.2] := by simp [letsV]
theorem lets_at : ∀ (L : List (Int × Bool)) (i : Nat) (x : Int × Bool), L[i]? = some x → (letsV L)[i * 2]? = some (.int .i64 x.1) ∧ (letsV L)[i * 2 + 1]? = some (.bool x.2)
  | [], i, x, h => by simp at h
  | a :: l, 0, x, h => by simp at h; subst h; simp [letsV]
  | a :: l, i + 1, x, h => by
    have h1 := lets_at l i x (by simpa using h)
    have e : letsV (a :: l) = .int .i64 a.1 :: .bool a.2 :: letsV l := by simp [letsV]
    rw [e]
    have e1 : (i + 1) * 2 = i * 2 + 1 + 1 := by omega
    rw [e1]
    simpa using h1
theorem info_let : (Try.prog.info? 50).map (fun i => (i.zero, i.size, i.bytes)) = some (some (.agg #[.int .i64 0, .bool false]), 2, 16) := by kernel_rfl
section
variable {w : World} {ops : Array Oper} {rest : List Oper} {o : Oper} {a : Act} {Q : Exit → Act → World → Prop}
/-- append of one to an own row -/
theorem wpList_appL (hgd : o.guard = none) (s x : Operand) (ho : o.op = .call { callee := .builtin .append, args := #[s, x], argTypes := #[37, 37] }) (B : Nat)
    (v : Value) (L : List (Int × Bool)) (hs : a.eval s = v) (hown : w.ownsRow B 50 2 v L.length (letsV L)) (vb : Nat) (y : Int × Bool) (hx : a.eval x = .slice (some ⟨vb, 0, none⟩) 1 1)
    (hb : Blk w vb 50 #[.int .i64 y.1, .bool y.2]) (hn : L.length ≤ 4000000) (hB : B ≤ w.heap.size)
    (h : ∀ v' w', w'.ownsRow B 50 2 v' (L ++ [y]).length (letsV (L ++ [y])) → w.grownBy w' v.ownBlock → (v'.ownBlock = v.ownBlock ∨ v'.ownBlock = some w.heap.size) → wpList Try.prog ops Q rest (a.put o.dst v') w') : wpList Try.prog ops Q (o :: rest) a w := by
  obtain ⟨i0, hi, hz0, hz1, hz2⟩ := info_parts info_let
  refine wpList_append_own_at w hgd s x 37 ho B 50 i0 (.agg #[.int .i64 0, .bool false]) 2 16 Try.underlying37 hi hz0 hz1 hz2 rfl (by decide) v L.length (letsV L) hs hown ⟨vb, 0, none⟩ 1 1 [.int .i64 y.1, .bool y.2] hx rfl (fun j z hj => ?_) (fun z hz => ?_) (by unfold maxLen; omega) (by omega) hB ?_
  · rw [Addr.add_lit, hb.cell, Nat.zero_add, ← Array.getElem?_toList]; exact hj
  · simp at hz; rcases hz with rfl | rfl <;> rfl
  · intro v' w' h1 h2 _ h4
    refine h v' w' ?_ h2 h4
    rw [List.length_append, lets_app, lets_one]; exact h1
end
end Go.Proofs.Ytlalehoncclnaaa.Latch
