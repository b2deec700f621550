/- Take of the document's own end: a datagram that is taken. -/
import Derived.Test.YtbbikibkijncgaaCordRef3
namespace Go.Proofs.Ytbbikibkijncgaa.Cord
set_option maxRecDepth 100000
open Go.RowKit Go.Sort
open Go.Proofs.Ytbbikibkijncgaa.Mem
/-- the end at work: bx holds the datagram -/
def US (w0 : World) (F : Nat → Prop) (u m : Nat) (g : Gm) (E : List Tx) (e : CE) (w : World) : Prop :=
  ∃ v1 v4, UA w u m v1 v4 E e ∧ (∀ j, UFoot u v1 v4 j → F j ∨ w0.heap.size ≤ j) ∧ (∀ j, UFoot u v1 v4 j → j ≠ w0.heap.size) ∧ Touch F w0 w ∧ Blk w w0.heap.size 29 (gmV g) ∧ F u ∧ ∀ k, F k → k < w0.heap.size
section
variable {w0 w w' w2 : World} {F : Nat → Prop} {u m : Nat} {g : Gm} {E : List Tx} {e : CE}
theorem US.bxne (h : US w0 F u m g E e w) : w0.heap.size ≠ u := by obtain ⟨v1, v4, _, _, _, _, _, hf, hl⟩ := h; have := hl u hf; omega
theorem US.did (h : US w0 F u m g E e w) {n : Nat} (hn : m ≤ n) : UDid F w0 w u n e := by
  obtain ⟨v1, v4, h1, h2, _, h3, _⟩ := h
  exact ⟨⟨fun k => UFoot u v1 v4 k, ⟨v1, v4, E, h1.more hn, fun k hk => hk, h1.lt⟩, h2⟩, h3⟩
theorem US.below (h : US w0 F u m g E e w) (hb : Below w.heap.size w w') : US w0 F u m g E e w' := by
  obtain ⟨v1, v4, h1, h2, h22, h3, h4, h5⟩ := h
  exact ⟨v1, v4, h1.same fun k hk _ => hb.block k hk, h2, h22, h3.trans (Touch.of_below (F := F) hb) (fun k hk => .inl hk), h4.below hb h4.lt, h5⟩
theorem US.due (h : US w0 F u m g E e w) : US w0 F u m g E { e with due := true } (w.setCell ⟨u, 5, none⟩ (.bool true)) := by
  have hne := h.bxne
  obtain ⟨v1, v4, h1, h2, h22, h3, h4, h5⟩ := h
  exact ⟨v1, v4, h1.set5 true, h2, h22, h3.set_ (.inl h5.1) 5 _, (Below.heap_setCell w ⟨u, 5, none⟩ _ w0.heap.size hne).trans h4, h5⟩
theorem US.at_ (h : US w0 F u m g E e w) : ∃ a1 c1 a4 c4, w.cell? ⟨u, 0, none⟩ = some (.int .i64 e.ep) ∧ w.cell? ⟨u, 1, none⟩ = some (.slice a1 e.op.length c1) ∧ w.cell? ⟨u, 2, none⟩ = some (.int .i64 e.given) ∧ w.cell? ⟨u, 3, none⟩ = some (.int .i64 e.got) ∧ w.cell? ⟨u, 4, none⟩ = some (.slice a4 E.length c4) ∧ w.cell? ⟨u, 5, none⟩ = some (.bool e.due) ∧
    w.frozen? ⟨u, 1, none⟩ = false ∧ w.frozen? ⟨u, 4, none⟩ = false ∧ w.frozen? ⟨u, 5, none⟩ = false ∧ Txs w a1 e.op.length (numE e) ∧ Txs w a4 E.length E ∧
    (∀ w', Below w.heap.size w w' → Calls Try.prog 29 #[.slice a1 e.op.length c1, .int .i64 (g.ak.toNat : Int)] w' (fun r w2 => ∃ a5 n5 c5, r = .returned (.slice a5 n5 c5) ∧ w2.cell? ⟨u, 1, none⟩ = some (.slice a1 e.op.length c1) ∧ w2.frozen? ⟨u, 1, none⟩ = false ∧ w2.cell? ⟨w0.heap.size, 4, none⟩ = some (.int .i64 g.ak) ∧ (g.ak.toNat ≤ e.given → US w0 F u m g E (settleE e g.ak.toNat) (w2.setCell ⟨u, 1, none⟩ (.slice a5 n5 c5))))) := by
  have hU := h
  have hne := h.bxne
  obtain ⟨v1, v4, h1, h2, h22, h3, h4, h5⟩ := h
  obtain ⟨a1, c1, rfl⟩ := own_shape h1.r1
  obtain ⟨a4, c4, rfl⟩ := own_shape h1.r4
  obtain ⟨k0, k1, k2, k3, k4, k5⟩ := h1.at_
  obtain ⟨f1, _, _, f4, f5⟩ := h1.fr
  have hol := h1.wf.ol
  refine ⟨a1, c1, a4, c4, k0, k1, k2, k3, k4, k5, f1, f4, f5, txs_of (by rw [num_len]; exact h1.r1) (num_len e).symm, txs_of h1.r4 rfl, fun w' hb => ?_⟩
  have h1' : UA w' u m _ _ E e := h1.same fun k hk _ => hb.block k hk
  refine (above_any a1 e.op.length c1 (numE e) (g.ak.toNat : Int) w' (txs_of (by rw [num_len]; exact h1'.r1) (num_len e).symm) (by omega)).mono ?_
  rintro r w2 ⟨v5, rfl, ho, hb2⟩
  obtain ⟨a5, c5, rfl⟩ := own_shape ho
  have h1'' : UA w2 u m _ _ E e := h1'.same fun k hk _ => hb2.block k hk
  refine ⟨a5, _, c5, rfl, h1''.at_.2.1, h1''.fr.1, (h4.below (hb.trans (hb2.mono hb.size)) h4.lt).cell 4, fun hk => ?_⟩
  obtain ⟨q1, q2⟩ := h1'.lay1 g.ak.toNat hk hb2 ho
  have hB : Below w.heap.size w w2 := hb.trans (hb2.mono hb.size)
  have hsz := h3.size
  have hsz2 := hb.size
  have hbl := h4.lt
  exact ⟨_, _, q1, fun j hj => (q2 j hj).elim (h2 j) (fun x => .inr (by omega)), fun j hj => (q2 j hj).elim (h22 j) (fun x => by omega), (h3.trans (Touch.of_below (F := F) hB) (fun k hk => .inl hk)).set_ (.inl h5.1) 1 _, (Below.heap_setCell w2 ⟨u, 1, none⟩ _ w0.heap.size hne).trans (h4.below hB h4.lt), h5⟩
end
theorem us_start {w : World} {F : Nat → Prop} {u m : Nat} {e : CE} (g : Gm) (h : UQ w u m F e) : ∃ E, US w F u m g E e (w.alloc (.cells (gmV g) 29)) := by
  obtain ⟨v1, v4, E, h1, h2, h3⟩ := h
  have hb := below_box w (.cells (gmV g) 29)
  exact ⟨E, v1, v4, h1.same fun k hk _ => hb.block k hk, fun j hj => .inl (h2 j hj), fun j hj => by have := h3 j (h2 j hj); omega, Touch.of_below hb, Blk.new w _ _, h2 u (.inl rfl), h3⟩
theorem taken {e : CE} {g : Gm} (hx : checkX e g = 0) : g.ep = e.ep ∧ 0 ≤ g.sq ∧ g.sq ≤ (e.got : Int) + 32 ∧ 0 ≤ g.ak ∧ g.ak ≤ (e.given : Int) ∧ (g.sq = 0 → g.bd.size = 0) ∧ g.bd.size ≤ 16384 := by
  rcases check_cases e g with ⟨h, h9⟩ | ⟨h, h1, h9⟩ | ⟨h, h1, h2, h9⟩ | ⟨h, h1, h2, h3, h9⟩ | ⟨h, h1, h2, h3, h4, h9⟩ | ⟨h, h1, h2, h3, h4, h9⟩ | ⟨h, h1, h2, h3, h4, h5, h9⟩ | ⟨h, h1, h2, h3, h4, h9⟩ | ⟨h, h1, h2, h3, h4, h5, h9⟩
  · omega
  · omega
  · omega
  · omega
  · omega
  · omega
  · omega
  · exact ⟨h, by omega, by omega, h2, h3, fun _ => h4, by omega⟩
  · exact ⟨h, by omega, h2, h3, h4, fun x => by omega, h5⟩
end Go.Proofs.Ytbbikibkijncgaa.Cord
