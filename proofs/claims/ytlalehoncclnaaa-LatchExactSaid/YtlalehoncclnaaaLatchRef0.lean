/- The document's own locks in memory: a row of structs. -/
import Derived.Test.YtlalehoncclnaaaLatchLaw0
import Derived.Maps.AppendAt
namespace Go.Proofs.Ytlalehoncclnaaa.LRef
set_option maxRecDepth 100000
open Go.RowKit
open Go.Proofs.Ytlalehoncclnaaa.Mem
open Go.Proofs.Ytlalehoncclnaaa.Latch
def lkV (k : Lk) : List Value := [.int .i64 k.pg, .bool k.x, .int .i64 k.us, .int .i64 k.wt]
def cellsK (L : LS) : List Value := L.flatMap lkV
theorem cellsK_cons (a : Lk) (L : LS) : cellsK (a :: L) = .int .i64 a.pg :: .bool a.x :: .int .i64 a.us :: .int .i64 a.wt :: cellsK L := by simp [cellsK, lkV]
theorem cellsK_len (L : LS) : (cellsK L).length = L.length * 4 := by
  induction L with
  | nil => rfl
  | cons a l ih => rw [cellsK_cons]; simp [ih]; omega
theorem cellsK_app (a b : LS) : cellsK (a ++ b) = cellsK a ++ cellsK b := by simp [cellsK]
theorem cellsK_at : ∀ (L : LS) (i : Nat) (k : Lk), L[i]? = some k → ∀ j, j < 4 → (cellsK L)[i * 4 + j]? = (lkV k)[j]?
  | [], i, k, h => by simp at h
  | a :: l, 0, k, h => by
    simp at h; subst h
    intro j hj
    rw [cellsK_cons, Nat.zero_mul, Nat.zero_add]
    match j, hj with
    | 0, _ => rfl
    | 1, _ => rfl
    | 2, _ => rfl
    | 3, _ => rfl
  | a :: l, i + 1, k, h => by
    have h1 := cellsK_at l i k (by simpa using h)
    intro j hj
    have e1 : (i + 1) * 4 + j = i * 4 + j + 1 + 1 + 1 + 1 := by omega
    rw [cellsK_cons, e1]
    simpa using h1 j hj
theorem cellsK_set : ∀ (L : LS) (i : Nat) (k k' : Lk) (j : Nat) (v : Value), L[i]? = some k → j < 4 → lkV k' = (lkV k).set j v → cellsK (L.set i k') = (cellsK L).set (i * 4 + j) v
  | [], i, k, k', j, v, h, _, _ => by simp at h
  | a :: l, 0, k, k', j, v, h, hj, e => by
    simp at h; subst h
    have e2 : cellsK ((a :: l).set 0 k') = lkV k' ++ cellsK l := by simp [cellsK]
    have e3 : cellsK (a :: l) = lkV a ++ cellsK l := by simp [cellsK]
    rw [e2, e3, e, Nat.zero_mul, Nat.zero_add, List.set_append_left _ _ (by simp [lkV]; omega)]
  | a :: l, i + 1, k, k', j, v, h, hj, e => by
    have h1 := cellsK_set l i k k' j v (by simpa using h) hj e
    have e1 : (i + 1) * 4 + j = i * 4 + j + 1 + 1 + 1 + 1 := by omega
    rw [List.set_cons_succ, cellsK_cons, cellsK_cons, h1, e1]
    simp
/-! ### Turned in one place -/
theorem upd_none {p : Int} {f : Lk → Option Lk} {L : LS} (h : ∀ k ∈ L, k.pg ≠ p) : updL p f L = L := by
  unfold updL
  induction L with
  | nil => rfl
  | cons a L ih =>
    rw [List.filterMap_cons, if_neg (h a List.mem_cons_self)]
    simp only []
    rw [ih fun k hk => h k (List.mem_cons_of_mem _ hk)]
theorem upd_set {p : Int} {f : Lk → Option Lk} : ∀ {L : LS} {i : Nat} {k k' : Lk}, Up L → L[i]? = some k → k.pg = p → f k = some k' → updL p f L = L.set i k'
  | [], i, k, k', _, h, _, _ => by simp at h
  | a :: l, 0, k, k', hU, h, hp, hf => by
    simp at h; subst h
    have hr : ∀ j ∈ l, j.pg ≠ p := fun j hj => by have := List.rel_of_pairwise_cons hU hj; omega
    have := upd_none (f := f) hr
    unfold updL at this ⊢
    rw [List.filterMap_cons, if_pos hp, hf]
    simp only []
    rw [this]
    rfl
  | a :: l, i + 1, k, k', hU, h, hp, hf => by
    have h2 : l[i]? = some k := by simpa using h
    have ha : a.pg ≠ p := by have := List.rel_of_pairwise_cons hU (List.mem_of_getElem? h2); omega
    have := upd_set (List.Pairwise.of_cons hU) h2 hp hf
    unfold updL at this ⊢
    rw [List.filterMap_cons, if_neg ha]
    simp only []
    rw [this]
    rfl
theorem upd_drop {p : Int} {f : Lk → Option Lk} {L : LS} (hf : ∀ k ∈ L, k.pg = p → f k = none) : updL p f L = L.filter fun k => decide (k.pg ≠ p) := by
  unfold updL
  induction L with
  | nil => rfl
  | cons a L ih =>
    have ih2 := ih fun k hk => hf k (List.mem_cons_of_mem _ hk)
    rw [List.filterMap_cons, List.filter_cons]
    by_cases e : a.pg = p
    · rw [if_pos e, hf a List.mem_cons_self e]
      simp only []
      rw [ih2, if_neg (by simpa using e)]
    · rw [if_neg e]
      simp only []
      rw [ih2, if_pos (by simpa using e)]
theorem at_index {p : Int} {L : LS} {k : Lk} (h : atL p L = some k) : ∃ i, L[i]? = some k ∧ i < L.length := by
  obtain ⟨i, hi, e⟩ := List.getElem_of_mem (at_mem h)
  exact ⟨i, by rw [List.getElem?_eq_getElem hi, e], hi⟩
theorem up_inj : ∀ {L : LS} {i j : Nat} {k k' : Lk}, Up L → L[i]? = some k → L[j]? = some k' → k.pg = k'.pg → i = j
  | [], i, j, k, k', _, h, _, _ => by simp at h
  | a :: l, 0, 0, k, k', _, _, _, _ => rfl
  | a :: l, 0, j + 1, k, k', hU, h, h', e => by
    simp at h; subst h
    have := List.rel_of_pairwise_cons hU (List.mem_of_getElem? (show l[j]? = some k' by simpa using h'))
    omega
  | a :: l, i + 1, 0, k, k', hU, h, h', e => by
    simp at h'; subst h'
    have := List.rel_of_pairwise_cons hU (List.mem_of_getElem? (show l[i]? = some k by simpa using h))
    omega
  | a :: l, i + 1, j + 1, k, k', hU, h, h', e => by
    rw [up_inj (List.Pairwise.of_cons hU) (show l[i]? = some k by simpa using h) (show l[j]? = some k' by simpa using h') e]
/-! ### In memory -/
structure UV (w : World) (u : Nat) (v : Value) (M : Nat → Prop) (L : LS) : Prop where
  blk : Blk w u 29 #[v]
  own : w.ownsRow 0 44 4 v L.length (cellsK L)
  n0 : v.ownBlock ≠ some u
  m0 : ¬ M u
  m1 : ∀ g, v.ownBlock = some g → ¬ M g
  lt : ∀ k, M k → k < w.heap.size
def UQ (w : World) (u : Nat) (M : Nat → Prop) (L : LS) : Prop := ∃ v, UV w u v M L
section
variable {w w' : World} {u : Nat} {v : Value} {M M' : Nat → Prop} {L : LS}
theorem UV.step (h : UV w u v M L) (hs : w.heap.size ≤ w'.heap.size) (hk : ∀ k, k < w.heap.size → ¬ M k → w'.heap[k]? = w.heap[k]?) (hm : ∀ k, M' k → M k ∨ (w.heap.size ≤ k ∧ k < w'.heap.size)) : UV w' u v M' L where
  blk := (hk u h.blk.lt h.m0).trans h.blk
  own := own_same h.own fun g hg => hk g (own_lt h.own hg) (h.m1 g hg)
  n0 := h.n0
  m0 := fun e => (hm u e).elim h.m0 fun x => by have := h.blk.lt; omega
  m1 := fun g hg e => (hm g e).elim (h.m1 g hg) fun x => by have := own_lt h.own hg; omega
  lt := fun k e => (hm k e).elim (fun x => Nat.lt_of_lt_of_le (h.lt k x) hs) (·.2)
theorem UQ.step (h : UQ w u M L) (hs : w.heap.size ≤ w'.heap.size) (hk : ∀ k, k < w.heap.size → ¬ M k → w'.heap[k]? = w.heap[k]?) (hm : ∀ k, M' k → M k ∨ (w.heap.size ≤ k ∧ k < w'.heap.size)) : UQ w' u M' L := by
  obtain ⟨v, h⟩ := h; exact ⟨v, h.step hs hk hm⟩
theorem UV.below (h : UV w u v M L) (hb : Below w.heap.size w w') : UV w' u v M L := h.step hb.size (fun k hk _ => hb.block k hk) (fun _ hk => .inl hk)
theorem UV.row (h : UV w u v M L) {i : Nat} {k : Lk} (hi : L[i]? = some k) : ∃ g c, v = .slice (some ⟨g, 0, none⟩) L.length c ∧ v.ownBlock = some g ∧ g < w.heap.size ∧ i < L.length ∧
    w.cell? ⟨g, i * 4, none⟩ = some (.int .i64 k.pg) ∧ w.cell? ⟨g, i * 4 + 1, none⟩ = some (.bool k.x) ∧ w.cell? ⟨g, i * 4 + 2, none⟩ = some (.int .i64 k.us) ∧ w.cell? ⟨g, i * 4 + 3, none⟩ = some (.int .i64 k.wt) ∧
    w.frozen? ⟨g, i * 4 + 1, none⟩ = false ∧ w.frozen? ⟨g, i * 4 + 2, none⟩ = false ∧ w.frozen? ⟨g, i * 4 + 3, none⟩ = false := by
  have hlt := (List.getElem?_eq_some_iff.1 hi).1
  rcases h.own.2 with ⟨_, h0⟩ | ⟨g, c, cur, rfl, _, hg, hnc, _, hcs, ht⟩
  · omega
  · have hB : Blk w g _ _ := hg
    have k1 : ∀ j, j < 4 → w.cell? ⟨g, i * 4 + j, none⟩ = (lkV k)[j]? := fun j hj => by
      rw [hB.cell, ← cellsK_at L i k hi j hj, ← ht, List.getElem?_take_of_lt (by omega), Array.getElem?_toList]
    exact ⟨g, c, rfl, rfl, hB.lt, hlt, k1 0 (by decide), k1 1 (by decide), k1 2 (by decide), k1 3 (by decide), hB.frozen _, hB.frozen _, hB.frozen _⟩
theorem own_cell {w : World} {base n g c size : Nat} {t : TypeId} {xs : List Value} (h : w.ownsRow base t size (.slice (some ⟨g, 0, none⟩) n c) n xs) (j : Nat) (u : Value) : (w.setCell ⟨g, j, none⟩ u).ownsRow base t size (.slice (some ⟨g, 0, none⟩) n c) n (xs.set j u) := by
  obtain ⟨hl, ⟨e, _⟩ | ⟨g', c', cur, e, hbg, hg, hnc, hcm, hcs, ht⟩⟩ := h
  · cases e
  · injection e with e1 e2 e3
    injection e1 with e1
    injection e1 with e1
    subst e1; subst e3
    refine ⟨by rw [List.length_set]; exact hl, .inr ⟨g, c, cur.setIfInBounds j u, rfl, hbg, Blk.set_ (show Blk w g _ _ from hg) j u, hnc, hcm, by simpa using hcs, ?_⟩⟩
    rw [Array.toList_setIfInBounds, ← ht, List.take_set]
/-- one cell of a lock is turned -/
theorem UV.turn {g c : Nat} (h : UV w u (.slice (some ⟨g, 0, none⟩) L.length c) M L) {i : Nat} {k k' : Lk} (hi : L[i]? = some k) {j : Nat} (hj : j < 4) {x : Value} (e : lkV k' = (lkV k).set j x) :
    UV (w.setCell ⟨g, i * 4 + j, none⟩ x) u (.slice (some ⟨g, 0, none⟩) L.length c) M (L.set i k') ∧ Keep M w (w.setCell ⟨g, i * 4 + j, none⟩ x) := by
  have hgu : g ≠ u := fun e => h.n0 (by rw [← e]; rfl)
  refine ⟨⟨h.blk.far (fun e => hgu e.symm) x, ?_, h.n0, h.m0, h.m1, fun k hk => by have := h.lt k hk; simpa using this⟩, (Keep.refl M w).set_ (h.m1 g rfl) _ _⟩
  have := own_cell h.own (i * 4 + j) x
  rw [← cellsK_set L i k k' j x hi hj e] at this
  rwa [List.length_set]
/-- the row laid anew -/
theorem UV.laid (h : UV w u v M L) {wr : World} {vo : Value} {L2 : LS} (hb : Below w.heap.size w wr) (ho : wr.ownsRow w.heap.size 44 4 vo L2.length (cellsK L2)) :
    UV (wr.setCell ⟨u, 0, none⟩ vo) u vo M L2 ∧ Keep M w (wr.setCell ⟨u, 0, none⟩ vo) := by
  have hlt := h.blk.lt
  have hge := own_ge ho
  have hne : vo.ownBlock ≠ some u := fun e => by have := hge u e; omega
  refine ⟨⟨by simpa using (h.blk.below hb hlt).set_ 0 vo, own_set (own_low ho (Nat.zero_le _)) hne 0 vo, hne, h.m0, fun g hg hm => by have := h.lt g hm; have := hge g hg; omega, fun k hk => by have := h.lt k hk; have := hb.size; simp; omega⟩, (Keep.of_below hb h.lt).set_ h.m0 0 vo⟩
end
theorem info_lock : (Try.prog.info? 44).map (fun i => (i.zero, i.size, i.bytes)) = some (some (.agg #[.int .i64 0, .bool false, .int .i64 0, .int .i64 0]), 4, 32) := by kernel_rfl
section
variable {w : World} {ops : Array Oper} {rest : List Oper} {o : Oper} {a : Go.Act} {Q : Exit → Go.Act → World → Prop}
/-- append of one lock to an own row -/
theorem wpList_appK (hgd : o.guard = none) (s x : Operand) (ho : o.op = .call { callee := .builtin .append, args := #[s, x], argTypes := #[27, 27] }) (B : Nat)
    (v : Value) (L : LS) (hs : a.eval s = v) (hown : w.ownsRow B 44 4 v L.length (cellsK L)) (vb : Nat) (y : Lk) (hx : a.eval x = .slice (some ⟨vb, 0, none⟩) 1 1)
    (hb : Blk w vb 44 #[.int .i64 y.pg, .bool y.x, .int .i64 y.us, .int .i64 y.wt]) (hn : L.length ≤ 3000000) (hB : B ≤ w.heap.size)
    (h : ∀ v' w', w'.ownsRow B 44 4 v' (L ++ [y]).length (cellsK (L ++ [y])) → w.grownBy w' v.ownBlock → (v'.ownBlock = v.ownBlock ∨ v'.ownBlock = some w.heap.size) → wpList Try.prog ops Q rest (a.put o.dst v') w') : wpList Try.prog ops Q (o :: rest) a w := by
  obtain ⟨i0, hi, hz0, hz1, hz2⟩ := info_parts info_lock
  refine wpList_append_own_at w hgd s x 27 ho B 44 i0 (.agg #[.int .i64 0, .bool false, .int .i64 0, .int .i64 0]) 4 32 Try.underlying27 hi hz0 hz1 hz2 rfl (by decide) v L.length (cellsK L) hs hown ⟨vb, 0, none⟩ 1 1 (lkV y) hx rfl (fun j z hj => ?_) (fun z hz => ?_) (by unfold maxLen; omega) (by omega) hB ?_
  · rw [Addr.add_lit, hb.cell, Nat.zero_add, ← Array.getElem?_toList]; exact hj
  · simp [lkV] at hz; rcases hz with rfl | rfl | rfl | rfl <;> rfl
  · intro v' w' h1 h2 _ h4
    refine h v' w' ?_ h2 h4
    rw [List.length_append, cellsK_app, show cellsK [y] = lkV y by simp [cellsK]]; exact h1
end
end Go.Proofs.Ytlalehoncclnaaa.LRef
