/- Both locks side by side. -/
import Derived.Test.YtlalehoncclnaaaLatchLets
namespace Go.Proofs.Ytlalehoncclnaaa.LRef
set_option maxRecDepth 100000
open Go.RowKit
open Go.Proofs.Ytlalehoncclnaaa.Mem
open Go.Proofs.Ytlalehoncclnaaa.Latch
/-- A: not the program's; B: not the document's own; X: others' that are kept -/
structure KV (base : World) (p u : Nat) (X A B : Nat → Prop) (L1 L2 : LS) (W : World) : Prop where
  ab : ∀ k, A k ∨ B k
  lo : ∀ k, k < base.heap.size → A k ∧ B k
  tq : TQ W p (fun k => k < W.heap.size ∧ A k) L1
  uq : UQ W u (fun k => k < W.heap.size ∧ B k) L2
  bel : Below base.heap.size base W
  xl : ∀ k, X k → k < W.heap.size ∧ A k ∧ B k
def KX (base : World) (p u : Nat) (X : Nat → Prop) (L1 L2 : LS) (W : World) : Prop := ∃ A B, KV base p u X A B L1 L2 W
section
variable {base W W' : World} {p u : Nat} {X X' A B : Nat → Prop} {L1 L2 L1' L2' : LS}
theorem KX.bel (h : KX base p u X L1 L2 W) : Below base.heap.size base W := by obtain ⟨A, B, h⟩ := h; exact h.bel
theorem KX.ok (h : KX base p u X L1 L2 W) : Ok L1 := by obtain ⟨A, B, h⟩ := h; exact h.tq.ok
theorem KX.mono (h : KX base p u X L1 L2 W) (hx : ∀ k, X' k → X k) : KX base p u X' L1 L2 W := by
  obtain ⟨A, B, h⟩ := h
  exact ⟨A, B, h.ab, h.lo, h.tq, h.uq, h.bel, fun k hk => h.xl k (hx k hk)⟩
/-- the program's locks are turned -/
theorem KV.left (h : KV base p u X A B L1 L2 W) (ht : TQ W' p (fun k => k < W.heap.size ∧ A k) L1') (k : Keep (fun k => k < W.heap.size ∧ A k) W W') : KX base p u X L1' L2 W' ∧ Keep X W W' := by
  have hb : Below base.heap.size W W' := k.below fun k hk => ⟨Nat.lt_of_lt_of_le hk h.bel.size, (h.lo k hk).1⟩
  refine ⟨⟨fun k => k < W.heap.size ∧ A k, fun k => B k ∨ W.heap.size ≤ k, fun k => ?_, fun k hk => ⟨⟨Nat.lt_of_lt_of_le hk h.bel.size, (h.lo k hk).1⟩, .inl (h.lo k hk).2⟩, ht.mono fun k hk => hk.2, ?_, h.bel.trans hb, fun k' hk => ?_⟩, k.mono fun k hk => ⟨(h.xl k hk).1, (h.xl k hk).2.1⟩⟩
  · by_cases hl : k < W.heap.size
    · exact (h.ab k).imp (fun a => ⟨hl, a⟩) .inl
    · exact .inr (.inr (by omega))
  · refine h.uq.step k.size (fun j hj hm => k.block j ⟨hj, (h.ab j).resolve_right fun hb => hm ⟨hj, hb⟩⟩) fun j hj => ?_
    by_cases hl : j < W.heap.size
    · exact .inl ⟨hl, hj.2.resolve_right (by omega)⟩
    · exact .inr ⟨by omega, hj.1⟩
  · obtain ⟨a, b, c⟩ := h.xl k' hk
    exact ⟨Nat.lt_of_lt_of_le a k.size, ⟨a, b⟩, .inl c⟩
/-- the document's own are turned -/
theorem KV.right (h : KV base p u X A B L1 L2 W) (ht : UQ W' u (fun k => k < W.heap.size ∧ B k) L2') (k : Keep (fun k => k < W.heap.size ∧ B k) W W') : KX base p u X L1 L2' W' ∧ Keep X W W' := by
  have hb : Below base.heap.size W W' := k.below fun k hk => ⟨Nat.lt_of_lt_of_le hk h.bel.size, (h.lo k hk).2⟩
  refine ⟨⟨fun k => A k ∨ W.heap.size ≤ k, fun k => k < W.heap.size ∧ B k, fun k => ?_, fun k hk => ⟨.inl (h.lo k hk).1, ⟨Nat.lt_of_lt_of_le hk h.bel.size, (h.lo k hk).2⟩⟩, ?_, ht.step (Nat.le_refl _) (fun _ _ _ => rfl) fun k hk => .inl hk.2, h.bel.trans hb, fun k' hk => ?_⟩, k.mono fun k hk => ⟨(h.xl k hk).1, (h.xl k hk).2.2⟩⟩
  · by_cases hl : k < W.heap.size
    · exact (h.ab k).imp .inl (fun b => ⟨hl, b⟩)
    · exact .inl (.inr (by omega))
  · refine h.tq.step k.size (fun j hj hm => k.block j ⟨hj, (h.ab j).resolve_left fun ha => hm ⟨hj, ha⟩⟩) fun j hj => ?_
    by_cases hl : j < W.heap.size
    · exact .inl ⟨hl, hj.2.resolve_right (by omega)⟩
    · exact .inr ⟨by omega, hj.1⟩
  · obtain ⟨a, b, c⟩ := h.xl k' hk
    exact ⟨Nat.lt_of_lt_of_le a k.size, .inl b, ⟨a, c⟩⟩
/-- all that there was stays -/
theorem KX.below (h : KX base p u X L1 L2 W) (hb : Below W.heap.size W W') : KX base p u X L1 L2 W' := by
  obtain ⟨A, B, h⟩ := h
  exact (h.left (h.tq.below hb) (Keep.of_below hb fun k hk => hk.1)).1
/-- a box is made -/
theorem KX.box (h : KX base p u X L1 L2 W) (o : Obj) : KX base p u (fun k => X k ∨ k = W.heap.size) L1 L2 (W.alloc o) := by
  obtain ⟨A, B, h⟩ := h
  refine ⟨fun k => A k ∨ k = W.heap.size, fun k => B k ∨ k = W.heap.size, fun k => (h.ab k).imp .inl .inl, fun k hk => ⟨.inl (h.lo k hk).1, .inl (h.lo k hk).2⟩, ?_, ?_, h.bel.alloc h.bel.size o, fun k hk => ?_⟩
  · refine (h.tq.alloc o).mono fun k hk => ?_
    have h1 := hk.1
    rcases hk.2 with a | e
    · by_cases e : k = W.heap.size
      · exact .inr e
      · exact .inl ⟨by simp at h1; omega, a⟩
    · exact .inr e
  · refine h.uq.step (by simp) (fun k hk _ => Below.heap_alloc W o k hk) fun k hk => ?_
    have h1 := hk.1
    rcases hk.2 with a | e
    · by_cases e : k = W.heap.size
      · exact .inr ⟨by omega, h1⟩
      · exact .inl ⟨by simp at h1; omega, a⟩
    · exact .inr ⟨by omega, h1⟩
  · rcases hk with hk | rfl
    · obtain ⟨a, b, c⟩ := h.xl k hk
      exact ⟨by simp; omega, .inl b, .inl c⟩
    · exact ⟨by simp, .inr rfl, .inr rfl⟩
theorem KX.l {f : FuncId} {args : Array Value} {r : Value} (h : KX base p u X L1 L2 W) (hc : ∀ M, TQ W p M L1 → Calls Try.prog f args W fun e w' => e = .returned r ∧ TQ w' p M L1' ∧ Keep M W w') :
    Calls Try.prog f args W fun e w' => e = .returned r ∧ KX base p u X L1' L2 w' ∧ Keep X W w' := by
  obtain ⟨A, B, h⟩ := h
  exact (hc _ h.tq).mono fun _ _ ⟨he, ht, k⟩ => ⟨he, h.left ht k⟩
theorem KX.r {f : FuncId} {args : Array Value} {r : Value} (h : KX base p u X L1 L2 W) (hc : ∀ M, UQ W u M L2 → Calls Try.prog f args W fun e w' => e = .returned r ∧ UQ w' u M L2' ∧ Keep M W w') :
    Calls Try.prog f args W fun e w' => e = .returned r ∧ KX base p u X L1 L2' w' ∧ Keep X W w' := by
  obtain ⟨A, B, h⟩ := h
  exact (hc _ h.uq).mono fun _ _ ⟨he, ht, k⟩ => ⟨he, h.right ht k⟩
/-- the program's End: the row that it tells belongs to nobody -/
def LEnd (base : World) (p u : Nat) (X : Nat → Prop) (L1 L2 : LS) (W : World) (e : Ending) (w' : World) : Prop :=
  ∃ v, e = .returned v ∧ w'.ownsRow 0 50 2 v (endO L1).length (letsV (endO L1)) ∧ KX base p u (fun k => X k ∨ v.ownBlock = some k) (endL L1) L2 w' ∧ Keep X W w'
theorem KX.lend (h : KX base p u X L1 L2 W) (hn : L1.length ≤ 1000000) : Calls Try.prog 16 #[.pointer (some ⟨p, 0, none⟩)] W (LEnd base p u X L1 L2 W) := by
  obtain ⟨A, B, h⟩ := h
  refine (Latch.end_any p _ L1 W h.tq hn).mono ?_
  rintro e w' ⟨v, rfl, ho, ht, k⟩
  have hge := Latch.own_ge ho
  obtain ⟨⟨A2, B2, h2⟩, kx⟩ := h.left (ht.mono fun _ hk => .inl hk) k
  refine ⟨v, rfl, own_low ho (Nat.zero_le _), ?_, kx⟩
  have hl := k.size
  have hb : Below base.heap.size W w' := k.below fun k hk => ⟨Nat.lt_of_lt_of_le hk h.bel.size, (h.lo k hk).1⟩
  refine ⟨fun k => (k < W.heap.size ∧ A k) ∨ v.ownBlock = some k, fun k => B k ∨ W.heap.size ≤ k, fun k => ?_, fun k hk => ⟨.inl ⟨Nat.lt_of_lt_of_le hk h.bel.size, (h.lo k hk).1⟩, .inl (h.lo k hk).2⟩, ht.mono fun k hk => hk.2, ?_, h.bel.trans hb, fun k' hk => ?_⟩
  · by_cases hlt : k < W.heap.size
    · exact (h.ab k).imp (fun a => .inl ⟨hlt, a⟩) .inl
    · exact .inr (.inr (by omega))
  · refine h.uq.step k.size (fun j hj hm => k.block j ⟨hj, (h.ab j).resolve_right fun hb => hm ⟨hj, hb⟩⟩) fun j hj => ?_
    by_cases hlt : j < W.heap.size
    · exact .inl ⟨hlt, hj.2.resolve_right (by omega)⟩
    · exact .inr ⟨by omega, hj.1⟩
  · rcases hk with hk | hk
    · obtain ⟨a, b, c⟩ := h.xl k' hk
      exact ⟨by omega, .inl ⟨a, b⟩, .inl c⟩
    · exact ⟨own_lt ho hk, .inr hk, .inr (hge k' hk)⟩
/-- the document's own End -/
def REnd (base : World) (p u : Nat) (X : Nat → Prop) (L1 L2 : LS) (W : World) (e : Ending) (w' : World) : Prop :=
  ∃ v, e = .returned v ∧ w'.ownsRow 0 50 2 v (endO L2).length (letsV (endO L2)) ∧ KX base p u X L1 (endL L2) w' ∧ Keep X W w'
theorem KX.rend (h : KX base p u X L1 L2 W) (hn : L2.length ≤ 1000000) (hO : Ok L2) : Calls Try.prog 17 #[.pointer (some ⟨u, 0, none⟩)] W (REnd base p u X L1 L2 W) := by
  obtain ⟨A, B, h⟩ := h
  refine (LRef.end_any u _ L2 W h.uq hn hO).mono ?_
  rintro e w' ⟨v, rfl, ho, ht, k⟩
  obtain ⟨h2, kx⟩ := h.right ht k
  exact ⟨v, rfl, ho, h2, kx⟩
/-- u.L = nil -/
theorem KX.rnil (h : KX base p u X L1 L2 W) : W.cell? ⟨u, 0, none⟩ ≠ none ∧ W.frozen? ⟨u, 0, none⟩ = false ∧ (∃ a n c, W.cell? ⟨u, 0, none⟩ = some (.slice a n c)) ∧ KX base p u X L1 [] (W.setCell ⟨u, 0, none⟩ (.slice none 0 0)) ∧ Keep X W (W.setCell ⟨u, 0, none⟩ (.slice none 0 0)) := by
  obtain ⟨A, B, h⟩ := h
  obtain ⟨v, hu⟩ := h.uq
  obtain ⟨a, c, rfl⟩ := own_shape hu.own
  have c0 := hu.blk.cell 0
  refine ⟨by rw [c0]; simp, hu.blk.frozen 0, ⟨_, _, _, c0⟩, ?_⟩
  refine h.right ⟨.slice none 0 0, by simpa using hu.blk.set_ 0 (.slice none 0 0), own_nil _ _ _ _, by simp [Value.ownBlock], hu.m0, fun g hg => by simp [Value.ownBlock] at hg, fun k hk => by simpa using hk.1⟩ ((Keep.refl _ W).set_ hu.m0 0 _)
end
end Go.Proofs.Ytlalehoncclnaaa.LRef
