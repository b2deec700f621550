/- Who asks is served: the eight rows of numbers beside the table. -/
import Derived.Test.YthodggkpkjfggaaKeyServes2
import Derived.Test.YthodggkpkjfggaaKeyAwake
import Derived.Test.YthodggkpkjfggaaArr
namespace Go.Proofs.Ythodggkpkjfggaa.Key
set_option maxRecDepth 100000
open Go.RowKit
open Go.Proofs.Ythodggkpkjfggaa.Mem
open Go.Maps
/-- append of a number to a row of one's own -/
theorem step_int {ops : Array Oper} {o : Oper} {a : Go.Act} {w wr : World} {K : Go.Act → World → Prop} {Q : Exit → Go.Act → World → Prop} {E : Prop} (hg : o.guard = none) (s x : Operand)
    (hop : o.op = .call { callee := .builtin .append, args := #[s, x], argTypes := #[26, 26] })
    (v : Value) (n : Nat) (xs : List Value) (hs : a.eval s = v) (vb : Nat) (c : Int) (hx : a.eval x = .slice (some ⟨vb, 0, none⟩) 1 1) (hP : Below wr.heap.size wr w ∧ Blk w vb 3 #[.int .i64 c])
    (hown : wr.ownsRow 0 3 1 v n xs) (hn : n ≤ 3000000)
    (hK : ∀ v' w', Below wr.heap.size wr w → w'.ownsRow 0 3 1 v' (n + 1) (xs ++ [.int .i64 c]) → w.grownBy w' v.ownBlock → (v'.ownBlock = v.ownBlock ∨ v'.ownBlock = some w.heap.size) → K (a.put o.dst v') w') :
    if Region.wanted o (yielded ops a.tmps) = true then Oper.wp Try.prog o a w K Q else E := by
  obtain ⟨i0, hi, hz0, hz1, hz2⟩ := info_parts info_int
  have hown2 : w.ownsRow 0 3 1 v n xs := own_same hown fun g hg => hP.1.block g (own_lt hown hg)
  obtain ⟨v', w', hr, h2, h3, _, h5⟩ := run_append_own_at (P := Try.prog) w 0 26 o.type 3 i0 (.int .i64 0) 1 8 Try.underlying26 hi hz0 hz1 hz2 rfl (by decide) v n xs hown2 ⟨vb, 0, none⟩ 1 1 [.int .i64 c] rfl
    (fun j z hj => by rw [Addr.add_lit, hP.2.cell, Nat.zero_add, ← Array.getElem?_toList]; exact hj) (fun z hz => by simp at hz; subst hz; rfl) (by unfold maxLen; omega) (by omega) (Nat.zero_le _)
  exact step_append_known hg s x 26 26 hop v (.slice (some ⟨vb, 0, none⟩) 1 1) hs hx hr (hK v' w' hP.1 h2 h3 h5)
theorem wpList_int {w wr : World} {ops : Array Oper} {rest : List Oper} {o : Oper} {a : Go.Act} {Q : Exit → Go.Act → World → Prop} (hgd : o.guard = none) (s x : Operand)
    (ho : o.op = .call { callee := .builtin .append, args := #[s, x], argTypes := #[26, 26] })
    (v : Value) (n : Nat) (xs : List Value) (hs : a.eval s = v) (vb : Nat) (c : Int) (hx : a.eval x = .slice (some ⟨vb, 0, none⟩) 1 1) (hP : Below wr.heap.size wr w ∧ Blk w vb 3 #[.int .i64 c])
    (hown : wr.ownsRow 0 3 1 v n xs) (hn : n ≤ 3000000)
    (hK : ∀ v' w', Below wr.heap.size wr w → w'.ownsRow 0 3 1 v' (n + 1) (xs ++ [.int .i64 c]) → w.grownBy w' v.ownBlock → (v'.ownBlock = v.ownBlock ∨ v'.ownBlock = some w.heap.size) → wpList Try.prog ops Q rest (a.put o.dst v') w') : wpList Try.prog ops Q (o :: rest) a w := by
  obtain ⟨i0, hi, hz0, hz1, hz2⟩ := info_parts info_int
  have hown2 : w.ownsRow 0 3 1 v n xs := own_same hown fun g hg => hP.1.block g (own_lt hown hg)
  refine wpList_append_own_at w hgd s x 26 ho 0 3 i0 (.int .i64 0) 1 8 Try.underlying26 hi hz0 hz1 hz2 rfl (by decide) v n xs hs hown2 ⟨vb, 0, none⟩ 1 1 [.int .i64 c] hx rfl
    (fun j z hj => by rw [Addr.add_lit, hP.2.cell, Nat.zero_add, ← Array.getElem?_toList]; exact hj) (fun z hz => by simp at hz; subst hz; rfl) (by unfold maxLen; omega) (by omega) (Nat.zero_le _) fun v' w' h2 h3 _ h5 => hK v' w' hP.1 h2 h3 h5
theorem said_le (S : KS) (R : List Wd) : S.said.length ≤ Phi S R := by
  have : ∀ l : List Wd, l.length ≤ WW l := fun l => by
    induction l with
    | nil => exact Nat.le_refl _
    | cons w l ih =>
      rw [WW_cons, List.length_cons]
      have : 1 ≤ ww w := by unfold ww; split <;> (try split) <;> omega
      omega
  have := this S.said
  unfold Phi
  omega
def nums (a g : Int → Nat) (k : Nat) : Nat := if k < 4 then a (k : Int) else g ((k : Int) - 4)
/-- the two arrays of four rows each, and the table, at W, since w -/
structure E8 (w : World) (p gA gG : Nat) (X : Nat → Prop) (S : KS) (n : Nat → Nat) (v : Nat → Value) (W : World) : Prop where
  t : TQ W p (fun k => k < w.heap.size ∨ k = gA ∨ k = gG ∨ (∃ j, j < 8 ∧ (v j).ownBlock = some k) ∨ X k) S
  aA : Arr W gA 27 4 v
  aG : Arr W gG 27 4 (fun k => v (k + 4))
  own : ∀ k, k < 8 → ∃ xs, W.ownsRow 0 3 1 (v k) (n k) xs
  sep : ∀ j k, j < 8 → k < 8 → j ≠ k → ∀ b, (v j).ownBlock = some b → (v k).ownBlock ≠ some b
  off : ∀ k, k < 8 → ∀ b, (v k).ownBlock = some b → b ≠ gA ∧ b ≠ gG ∧ w.heap.size ≤ b ∧ ¬ X b
  gs : gA ≠ gG ∧ w.heap.size ≤ gA ∧ w.heap.size ≤ gG ∧ ¬ X gA ∧ ¬ X gG
  b : Below w.heap.size w W
section
variable {w W W' : World} {p gA gG : Nat} {X Y : Nat → Prop} {S T : KS} {n : Nat → Nat} {v : Nat → Value}
theorem E8.call (h : E8 w p gA gG X S n v W) (hT : TQ W' p (fun k => k < w.heap.size ∨ k = gA ∨ k = gG ∨ (∃ j, j < 8 ∧ (v j).ownBlock = some k) ∨ X k) T)
    (hk : Keep (fun k => k < w.heap.size ∨ k = gA ∨ k = gG ∨ (∃ j, j < 8 ∧ (v j).ownBlock = some k) ∨ X k) W W') : E8 w p gA gG X T n v W' :=
  ⟨hT, h.aA.keep hk (.inr (.inl rfl)), h.aG.keep hk (.inr (.inr (.inl rfl))), fun k hk8 => by
    obtain ⟨xs, hx⟩ := h.own k hk8
    exact ⟨xs, own_same hx fun g hg => hk.block g (.inr (.inr (.inr (.inl ⟨k, hk8, hg⟩))))⟩, h.sep, h.off, h.gs, h.b.trans (hk.below fun _ h => .inl h)⟩
theorem E8.below (h : E8 w p gA gG X S n v W) (hb : Below W.heap.size W W') : E8 w p gA gG X S n v W' :=
  h.call (h.t.below hb) (Keep.of_below hb h.t.lt)
theorem E8.less (h : E8 w p gA gG X S n v W) (hY : ∀ k, Y k → X k) : E8 w p gA gG Y S n v W :=
  ⟨h.t.mono fun k hk => by
    rcases hk with h1 | h1 | h1 | h1 | h1
    · exact .inl h1
    · exact .inr (.inl h1)
    · exact .inr (.inr (.inl h1))
    · exact .inr (.inr (.inr (.inl h1)))
    · exact .inr (.inr (.inr (.inr (hY k h1)))), h.aA, h.aG, h.own, h.sep, fun k hk b hb => by have := h.off k hk b hb; exact ⟨this.1, this.2.1, this.2.2.1, fun e => this.2.2.2 (hY b e)⟩, ⟨h.gs.1, h.gs.2.1, h.gs.2.2.1, fun e => h.gs.2.2.2.1 (hY _ e), fun e => h.gs.2.2.2.2 (hY _ e)⟩, h.b⟩
/-- a row of X stays, whatever is called -/
theorem E8.held (_h : E8 w p gA gG X S n v W) (hk : Keep (fun k => k < w.heap.size ∨ k = gA ∨ k = gG ∨ (∃ j, j < 8 ∧ (v j).ownBlock = some k) ∨ X k) W W') {k : Nat} (hX : X k) : W'.heap[k]? = W.heap[k]? :=
  hk.block k (.inr (.inr (.inr (.inr hX))))
theorem E8.take (h : E8 w p gA gG (fun _ => False) S n v W) {u : Value} (hT : TQ W' p (fun k => (k < w.heap.size ∨ k = gA ∨ k = gG ∨ (∃ j, j < 8 ∧ (v j).ownBlock = some k) ∨ False) ∨ u.ownBlock = some k) T)
    (hk : Keep (fun k => k < w.heap.size ∨ k = gA ∨ k = gG ∨ (∃ j, j < 8 ∧ (v j).ownBlock = some k) ∨ False) W W') (hu : ∀ k, u.ownBlock = some k → ¬ (k < w.heap.size ∨ k = gA ∨ k = gG ∨ (∃ j, j < 8 ∧ (v j).ownBlock = some k) ∨ False)) :
    E8 w p gA gG (fun k => u.ownBlock = some k) T n v W' := by
  have h1 := h.call (T := T) (hT.mono fun k hk => .inl hk) hk
  refine ⟨hT.mono fun k hk => ?_, h1.aA, h1.aG, h1.own, h1.sep, fun k hk8 b hb => ?_, ⟨h.gs.1, h.gs.2.1, h.gs.2.2.1, fun e => hu _ e (.inr (.inl rfl)), fun e => hu _ e (.inr (.inr (.inl rfl)))⟩, h1.b⟩
  · rcases hk with h1 | h1 | h1 | h1 | h1
    · exact .inl (.inl h1)
    · exact .inl (.inr (.inl h1))
    · exact .inl (.inr (.inr (.inl h1)))
    · exact .inl (.inr (.inr (.inr (.inl h1))))
    · exact .inr h1
  · have := h1.off k hk8 b hb
    exact ⟨this.1, this.2.1, this.2.2.1, fun e => hu b e (.inr (.inr (.inr (.inl ⟨k, hk8, hb⟩))))⟩
def put8 (v : Nat → Value) (k : Nat) (u : Value) (j : Nat) : Value := if j = k then u else v j
def inc8 (n : Nat → Nat) (k j : Nat) : Nat := if j = k then n j + 1 else n j
/-- a row has grown, and is written into its array -/
theorem E8.app (h : E8 w p gA gG X S n v W) (hX : ∀ k, X k → k < W.heap.size) {k : Nat} (hk : k < 8) {u : Value} {w1 w2 : World} {xs : List Value} (hb : Below W.heap.size W w1)
    (ho : w2.ownsRow 0 3 1 u (n k + 1) xs) (hg : w1.grownBy w2 (v k).ownBlock) (hu : u.ownBlock = (v k).ownBlock ∨ u.ownBlock = some w1.heap.size) {g i : Nat} (hgi : (g = gA ∧ i = k ∧ k < 4) ∨ (g = gG ∧ i + 4 = k)) :
    E8 w p gA gG X S (inc8 n k) (put8 v k u) (w2.setCell ⟨g, i, none⟩ u) ∧ (∀ b, X b → (w2.setCell ⟨g, i, none⟩ u).heap[b]? = W.heap[b]?) := by
  have hsz : W.heap.size ≤ w2.heap.size := Nat.le_trans hb.size hg.size
  have hlt : ∀ j, j < 8 → ∀ b, (v j).ownBlock = some b → b < W.heap.size := fun j hj b hb' => by obtain ⟨ys, hy⟩ := h.own j hj; exact own_lt hy hb'
  have hub : ∀ b, u.ownBlock = some b → (v k).ownBlock = some b ∨ W.heap.size ≤ b := fun b e => by
    rcases hu with e1 | e1
    · exact .inl (by rw [← e1]; exact e)
    · rw [e1] at e; injection e with e; exact .inr (by have := hb.size; omega)
  have hgA := h.aA.lt
  have hgG := h.aG.lt
  have hgg : g = gA ∨ g = gG := hgi.imp (fun e => e.1) fun e => e.1
  -- what isn't the row nor the array stays
  have same : ∀ b, b < W.heap.size → (v k).ownBlock ≠ some b → b ≠ g → (w2.setCell ⟨g, i, none⟩ u).heap[b]? = W.heap[b]? := fun b h1 h2 h3 =>
    (Below.heap_setCell w2 ⟨g, i, none⟩ u b h3).trans ((hg.block b (Nat.lt_of_lt_of_le h1 hb.size) (fun e => h2 e.symm)).trans (hb.block b h1))
  have same2 : ∀ b, b < W.heap.size → (v k).ownBlock ≠ some b → w2.heap[b]? = W.heap[b]? := fun b h1 h2 => (hg.block b (Nat.lt_of_lt_of_le h1 hb.size) (fun e => h2 e.symm)).trans (hb.block b h1)
  have hkg : (v k).ownBlock ≠ some gA ∧ (v k).ownBlock ≠ some gG := ⟨fun e => (h.off k hk _ e).1 rfl, fun e => (h.off k hk _ e).2.1 rfl⟩
  have hugne : ∀ b, u.ownBlock = some b → b ≠ gA ∧ b ≠ gG ∧ w.heap.size ≤ b := fun b e => by
    rcases hub b e with e1 | e1
    · have := h.off k hk b e1; exact ⟨this.1, this.2.1, this.2.2.1⟩
    · have := h.b.size; exact ⟨by omega, by omega, by omega⟩
  have hXs : ∀ b, X b → (w2.setCell ⟨g, i, none⟩ u).heap[b]? = W.heap[b]? := fun b hb' => same b (hX b hb') (fun e => (h.off k hk b e).2.2.2 hb') (fun e => by
    rcases hgg with e1 | e1
    · exact h.gs.2.2.2.1 (by rw [← e1, ← e]; exact hb')
    · exact h.gs.2.2.2.2 (by rw [← e1, ← e]; exact hb'))
  refine ⟨⟨?_, ?_, ?_, fun j hj => ?_, fun j l hj hl hjl b hb1 hb2 => ?_, fun j hj b hb1 => ?_, h.gs, ?_⟩, hXs⟩
  · refine h.t.step (by simp; omega) (fun b h1 h2 => same b h1 (fun e => h2 (.inr (.inr (.inr (.inl ⟨k, hk, e⟩))))) (fun e => ?_)) (fun b hb1 => ?_)
    · rcases hgg with e1 | e1
      · exact h2 (.inr (.inl (e.trans e1)))
      · exact h2 (.inr (.inr (.inl (e.trans e1))))
    · rcases hb1 with h1 | h1 | h1 | ⟨j, hj, h1⟩ | h1
      · exact .inl (.inl h1)
      · exact .inl (.inr (.inl h1))
      · exact .inl (.inr (.inr (.inl h1)))
      · unfold put8 at h1
        split at h1
        · rcases hub b h1 with e1 | e1
          · exact .inl (.inr (.inr (.inr (.inl ⟨k, hk, e1⟩))))
          · have := own_lt ho h1
            exact .inr ⟨e1, by simp; omega⟩
        · exact .inl (.inr (.inr (.inr (.inl ⟨j, hj, h1⟩))))
      · exact .inl (.inr (.inr (.inr (.inr h1))))
  · rcases hgi with ⟨rfl, rfl, h4⟩ | ⟨rfl, rfl⟩
    · have h1 : Arr w2 g 27 4 v := h.aA.of_block (same2 g hgA hkg.1)
      have := h1.set_ (k := i) h4 (put8 v i u) (fun j => by unfold put8; by_cases e : j = i <;> simp [e])
      have e : put8 v i u i = u := if_pos rfl
      rwa [e] at this
    · have h1 : Arr (w2.setCell ⟨g, i, none⟩ u) gA 27 4 v := h.aA.of_block (same gA hgA hkg.1 h.gs.1)
      obtain ⟨cs, k1, k2, k3⟩ := h1
      exact ⟨cs, k1, k2, fun j hj => by rw [k3 j hj]; unfold put8; rw [if_neg (by omega)]⟩
  · rcases hgi with ⟨rfl, rfl, h4⟩ | ⟨rfl, rfl⟩
    · have h1 : Arr (w2.setCell ⟨g, i, none⟩ u) gG 27 4 (fun k => v (k + 4)) := h.aG.of_block (same gG hgG hkg.2 h.gs.1.symm)
      obtain ⟨cs, k1, k2, k3⟩ := h1
      exact ⟨cs, k1, k2, fun j hj => by rw [k3 j hj]; dsimp only; unfold put8; rw [if_neg (by omega)]⟩
    · have h1 : Arr w2 g 27 4 (fun k => v (k + 4)) := h.aG.of_block (same2 g hgG hkg.2)
      have := h1.set_ (k := i) (by omega) (fun j => put8 v (i + 4) u (j + 4)) (fun j => by unfold put8; by_cases e : j = i <;> simp [e])
      have e : put8 v (i + 4) u (i + 4) = u := if_pos rfl
      rwa [e] at this
  · unfold put8 inc8
    by_cases e : j = k
    · rw [if_pos e, if_pos e, e]
      refine ⟨xs, own_same ho fun b hb1 => Below.heap_setCell w2 ⟨g, i, none⟩ u b ?_⟩
      intro e1
      have := hugne b hb1
      have e1 : b = g := e1
      rcases hgg with e2 | e2
      · exact this.1 (e1.trans e2)
      · exact this.2.1 (e1.trans e2)
    · rw [if_neg e, if_neg e]
      obtain ⟨ys, hy⟩ := h.own j hj
      refine ⟨ys, own_same hy fun b hb1 => same b (hlt j hj b hb1) (fun e1 => h.sep j k hj hk e b hb1 e1) fun e1 => ?_⟩
      have := h.off j hj b hb1
      rcases hgg with e2 | e2
      · exact this.1 (e1.trans e2)
      · exact this.2.1 (e1.trans e2)
  · unfold put8 at hb1 hb2
    split at hb1
    · split at hb2
      · omega
      · rcases hub b hb1 with e1 | e1
        · exact h.sep l k hl hk (by omega) b hb2 e1
        · have := hlt l hl b hb2; omega
    · split at hb2
      · rcases hub b hb2 with e1 | e1
        · exact h.sep j k hj hk (by omega) b hb1 e1
        · have := hlt j hj b hb1; omega
      · exact h.sep j l hj hl hjl b hb1 hb2
  · unfold put8 at hb1
    split at hb1
    · have := hugne b hb1
      refine ⟨this.1, this.2.1, this.2.2, fun e => ?_⟩
      rcases hub b hb1 with e1 | e1
      · exact (h.off k hk b e1).2.2.2 e
      · have := hX b e; omega
    · exact h.off j hj b hb1
  · refine Below.setCell ((h.b.trans (hb.mono h.b.size)).grown hg ?_ (fun b hb1 => (h.off k hk b hb1.symm.symm).2.2.1)) ?_ u
    · exact Nat.le_trans h.b.size hb.size
    · show w.heap.size ≤ g
      rcases hgg with e | e
      · rw [e]; exact h.gs.2.1
      · rw [e]; exact h.gs.2.2.1
theorem nums_A (a g : Int → Nat) {k : Nat} (hk : k < 4) : inc8 (nums a g) k = nums (up1 a (k : Int)) g := by
  funext j
  unfold inc8 nums up1
  by_cases h : j < 4
  · rw [if_pos h, if_pos h]
    by_cases e : j = k
    · rw [if_pos e, if_pos (by rw [e])]
    · rw [if_neg e, if_neg (by omega)]
  · rw [if_neg h, if_neg h, if_neg (by omega)]
theorem nums_G (a g : Int → Nat) {k : Nat} (hk : k < 4) : inc8 (nums a g) (k + 4) = nums a (up1 g (k : Int)) := by
  funext j
  unfold inc8 nums up1
  by_cases h : j < 4
  · rw [if_pos h, if_pos h, if_neg (by omega)]
  · rw [if_neg h, if_neg h]
    by_cases e : j = k + 4
    · rw [if_pos e, if_pos (by omega)]
    · rw [if_neg e, if_neg (by omega)]
theorem E8.start {w w3 : World} {p : Nat} (hn : TQ w3 p (fun k => k < w.heap.size) newK) (hb : Below w.heap.size w w3) :
    E8 w p w3.heap.size (w3.heap.size + 1) (fun _ => False) newK (nums (fun _ => 0) (fun _ => 0)) (fun _ => .slice none 0 0) ((w3.alloc (.cells #[.slice none 0 0, .slice none 0 0, .slice none 0 0, .slice none 0 0] 27)).alloc (.cells #[.slice none 0 0, .slice none 0 0, .slice none 0 0, .slice none 0 0] 27)) := by
  have hz : ∀ k, k < 4 → (#[.slice none 0 0, .slice none 0 0, .slice none 0 0, .slice none 0 0] : Array Value)[k]? = some (.slice none 0 0) := fun k hk => by
    rcases (show k = 0 ∨ k = 1 ∨ k = 2 ∨ k = 3 by omega) with rfl | rfl | rfl | rfl <;> rfl
  have hne : ∀ b, (Value.slice none 0 0).ownBlock ≠ some b := fun b e => by simp [Value.ownBlock] at e
  have e1 : (w3.alloc (.cells #[.slice none 0 0, .slice none 0 0, .slice none 0 0, .slice none 0 0] 27)).heap.size = w3.heap.size + 1 := by simp
  refine ⟨((hn.alloc _).alloc _).mono fun k hk => ?_, ⟨_, (Blk.new w3 _ _).alloc _, rfl, hz⟩, ⟨_, ?_, rfl, hz⟩, fun k hk => ⟨[], by rw [show nums (fun _ => 0) (fun _ => 0) k = 0 by unfold nums; split <;> rfl]; exact own_nil _ _ _ _⟩, fun j k _ _ _ b hb => absurd hb (hne b), fun k _ b hb => absurd hb (hne b), ⟨by omega, hb.size, by have := hb.size; omega, fun h => h, fun h => h⟩, ?_⟩
  · rw [e1]
    rcases hk with h | h | h | ⟨_, _, h⟩ | h
    · exact .inl (.inl h)
    · exact .inl (.inr h)
    · exact .inr h
    · exact absurd h (hne k)
    · exact h.elim
  · have := Blk.new (w3.alloc (.cells #[.slice none 0 0, .slice none 0 0, .slice none 0 0, .slice none 0 0] 27)) 27 #[.slice none 0 0, .slice none 0 0, .slice none 0 0, .slice none 0 0]
    rwa [e1] at this
  · exact (hb.alloc hb.size _).alloc (by simp; have := hb.size; omega) _
end
end Go.Proofs.Ythodggkpkjfggaa.Key
