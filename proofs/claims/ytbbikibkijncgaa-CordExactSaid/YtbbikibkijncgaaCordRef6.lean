/- Take of the document's own end: the states of a text that is taken. -/
import Derived.Test.YtbbikibkijncgaaCordRef5
namespace Go.Proofs.Ytbbikibkijncgaa.Cord
set_option maxRecDepth 100000
open Go.RowKit Go.Sort
open Go.Proofs.Ytbbikibkijncgaa.Mem
/-- the end at work, got at gt; o holds the texts L that are to be answered -/
def UW (w0 : World) (F : Nat → Prop) (u : Nat) (g : Gm) (E : List Tx) (e : CE) (gt : Nat) (o : Value) (L : List ByteArray) (w : World) : Prop :=
  ∃ v1 v4, UL w u v1 v4 E e gt ∧ (∀ j, UFoot u v1 v4 j → (F j ∨ w0.heap.size ≤ j) ∧ j ≠ w0.heap.size ∧ o.ownBlock ≠ some j) ∧ Touch F w0 w ∧ Blk w w0.heap.size 29 (gmV g) ∧ (F u ∧ ∀ k, F k → k < w0.heap.size) ∧ w.ownsRow w0.heap.size 9 1 o L.length (strsV L) ∧ o.ownBlock ≠ some w0.heap.size
section
variable {w0 w w' w2 w5 : World} {F : Nat → Prop} {u m gt : Nat} {g : Gm} {E : List Tx} {e : CE} {o o' : Value} {L : List ByteArray}
theorem UW.below (h : UW w0 F u g E e gt o L w) (hb : Below w.heap.size w w') : UW w0 F u g E e gt o L w' := by
  obtain ⟨v1, v4, h1, h2, h3, h4, h5, h6, h7⟩ := h
  exact ⟨v1, v4, h1.below hb, h2, h3.trans (Touch.of_below (F := F) hb) (fun k hk => .inl hk), h4.below hb h4.lt, h5, own_same h6 fun g hg => hb.block g (own_lt h6 hg), h7⟩
theorem UW.size (h : UW w0 F u g E e gt o L w) : w0.heap.size ≤ w.heap.size := by obtain ⟨v1, v4, _, _, h, _⟩ := h; exact h.size
theorem UW.box (h : UW w0 F u g E e gt o L w) : Blk w w0.heap.size 29 (gmV g) := by obtain ⟨v1, v4, _, _, _, h, _⟩ := h; exact h
theorem UW.row (h : UW w0 F u g E e gt o L w) : w.ownsRow w0.heap.size 9 1 o L.length (strsV L) := by obtain ⟨v1, v4, _, _, _, _, _, h, _⟩ := h; exact h
/-- from the end's state behind the acknowledgement -/
theorem uw_start (h : US w0 F u m g E e w) : UW w0 F u g E { e with due := true } e.got (.slice (some ⟨w.heap.size, 0, none⟩) 0 0) [] ((w.alloc (.cells #[] 9)).setCell ⟨u, 5, none⟩ (.bool true)) := by
  have hsz := h.size
  have hne := h.bxne
  have hbb := below_box w (.cells #[] 9)
  obtain ⟨v1, v4, k1, k2, k22, k3, k4, k5, k6⟩ := h
  have hbx := k4.lt
  have hu := k1.lt u (.inl rfl)
  refine ⟨v1, v4, ((k1.same fun k hk _ => hbb.block k hk).set5 true).ul, fun j hj => ⟨k2 j hj, k22 j hj, fun x => ?_⟩, (k3.trans (Touch.of_below (F := F) hbb) (fun k hk => .inl hk)).set_ (.inl k5) 5 _, (Below.heap_setCell _ ⟨u, 5, none⟩ _ w0.heap.size hne).trans (k4.below hbb k4.lt), ⟨k5, k6⟩, own_set (own_low (own_fresh w _ _) hsz) ?_ _ _, ?_⟩
  · have := k1.lt j hj; simp [Value.ownBlock] at x; omega
  · intro x; simp [Value.ownBlock] at x; omega
  · intro x; simp [Value.ownBlock] at x; omega
theorem UW.at_ (h : UW w0 F u g E e gt o L w) : ∃ a4 c4, w.cell? ⟨u, 3, none⟩ = some (.int .i64 gt) ∧ w.cell? ⟨u, 4, none⟩ = some (.slice a4 E.length c4) ∧ w.frozen? ⟨u, 3, none⟩ = false ∧ w.frozen? ⟨u, 4, none⟩ = false ∧ w.ownsRow 0 68 2 (.slice a4 E.length c4) E.length (txsV E) ∧ u < w.heap.size ∧
    (E.length ≤ 29000 → ∀ w', Below w.heap.size w w' → ∀ k : Int, Calls Try.prog 30 #[.slice a4 E.length c4, .int .i64 k] w' fun r w2 => r = .returned (.tuple #[.string ((look E k).getD .empty), .bool (look E k).isSome]) ∧ Below w'.heap.size w' w2) := by
  obtain ⟨v1, v4, h1, _⟩ := h
  obtain ⟨a4, c4, rfl⟩ := own_shape h1.r4
  refine ⟨a4, c4, h1.at_.1, h1.at_.2.1, h1.at_.2.2.1, h1.at_.2.2.2, h1.r4, h1.blk.lt, fun hE w' hb k => ?_⟩
  refine (find_any a4 _ c4 E k w' ((txs_of h1.r4 rfl).below hb) (by omega)).mono ?_
  rintro r w2 ⟨rfl, rfl⟩
  exact ⟨rfl, Below.refl _ _⟩
/-- a text laid ahead -/
theorem UW.app (h : UW w0 F u g E e gt o L w) (x : Nat) (s : ByteArray) (f : Nat → Option ByteArray) (he : gt = e.got) : ∃ a4 c4, w.cell? ⟨u, 4, none⟩ = some (.slice a4 E.length c4) ∧ w.ownsRow 0 68 2 (.slice a4 E.length c4) E.length (txsV E) ∧
    ∀ w2 v5 w5, Below w.heap.size w w2 → w5.ownsRow 0 68 2 v5 (E ++ [((x : Int), s)]).length (txsV (E ++ [((x : Int), s)])) → w2.grownBy w5 (Value.slice a4 E.length c4).ownBlock → (v5.ownBlock = (Value.slice a4 E.length c4).ownBlock ∨ v5.ownBlock = some w2.heap.size) →
      (∃ a n c, v5 = .slice a n c) ∧ w5.cell? ⟨u, 4, none⟩ = some (.slice a4 E.length c4) ∧ w5.frozen? ⟨u, 4, none⟩ = false ∧ Blk w5 w0.heap.size 29 (gmV g) ∧ UW w0 F u g (E ++ [((x : Int), s)]) { e with f := f } gt o L (w5.setCell ⟨u, 4, none⟩ v5) := by
  subst he
  obtain ⟨v1, v4, h1, h2, h3, h4, h5, h6, h7⟩ := h
  obtain ⟨a4, c4, rfl⟩ := own_shape h1.r4
  refine ⟨a4, c4, h1.at_.2.1, h1.r4, fun w2 v5 w5 hb ho hg hv => ?_⟩
  obtain ⟨q1, q2, q3, q4, q5⟩ := h1.app4 hb ho hg hv (f := f)
  obtain ⟨a5, c5, e5⟩ := own_shape ho
  have hsz := h3.size
  have hbx := h4.lt
  have hu := h2 u (.inl rfl)
  have hrow : w5.ownsRow w0.heap.size 9 1 o L.length (strsV L) := own_same h6 fun k hk => (hg.block k (by have := own_lt h6 hk; have := hb.size; omega) (fun x => (h2 k (.inr (.inr x.symm))).2.2 hk)).trans (hb.block k (own_lt h6 hk))
  have hF : ∀ k, UFoot u v1 (.slice a4 E.length c4) k → F k ∨ w0.heap.size ≤ k := fun k hk => (h2 k hk).1
  refine ⟨⟨a5, _, c5, e5⟩, q1, q2, (h4.below hb hbx).grown hg (fun x => (h2 _ (.inr (.inr x.symm))).2.1 rfl), v1, v5, q3, fun j hj => ?_, h3.trans q5 (fun k hk => hF k hk), ?_, h5, own_set hrow hu.2.2 _ _, h7⟩
  · rcases q4 j hj with hj | hj
    · exact h2 j hj
    · exact ⟨.inr (by omega), by omega, fun x => by have := own_lt h6 x; omega⟩
  · exact (q5.block hbx (fun x => (h2 _ x).2.1 rfl)).trans h4
/-- a text told -/
theorem UW.tell (h : UW w0 F u g E e gt o L w) (s : ByteArray) (hb : Below w.heap.size w w2) (ho : w5.ownsRow w0.heap.size 9 1 o' (L ++ [s]).length (strsV (L ++ [s]))) (hg : w2.grownBy w5 o.ownBlock) (hv : o'.ownBlock = o.ownBlock ∨ o'.ownBlock = some w2.heap.size) :
    w5.cell? ⟨u, 3, none⟩ = some (.int .i64 gt) ∧ w5.frozen? ⟨u, 3, none⟩ = false ∧ UW w0 F u g E e (gt + 1) o' (L ++ [s]) (w5.setCell ⟨u, 3, none⟩ (.int .i64 ((gt + 1 : Nat) : Int))) := by
  obtain ⟨v1, v4, h1, h2, h3, h4, h5, h6, h7⟩ := h
  have hs2 := hb.size
  have hsz := h3.size
  have hbx := h4.lt
  have hl := h1.lt
  have h15 : UL w5 u v1 v4 E e gt := h1.same fun k hk hf => (hg.block k (by omega) (fun x => (h2 k hf).2.2 x.symm)).trans (hb.block k hk)
  have hu : o'.ownBlock ≠ some u := by
    rcases hv with e1 | e1 <;> rw [e1]
    · exact (h2 u (.inl rfl)).2.2
    · intro x; injection x with x; have := hl u (.inl rfl); omega
  refine ⟨h15.at_.1, h15.at_.2.2.1, v1, v4, h15.set3 (gt + 1), fun j hj => ⟨(h2 j hj).1, (h2 j hj).2.1, ?_⟩, ?_, ?_, h5, own_set ho hu _ _, ?_⟩
  · rcases hv with e1 | e1 <;> rw [e1]
    · exact (h2 j hj).2.2
    · intro x; injection x with x; have := hl j hj; omega
  · exact ((h3.trans (Touch.of_below (F := F) hb) (fun k hk => .inl hk)).grown hg (fun k hk => .inr (own_ge h6 k hk))).set_ (.inl h5.1) 3 _
  · have hb4 := (h4.below hb hbx).grown hg (fun x => h7 x.symm)
    exact (Below.heap_setCell w5 ⟨u, 3, none⟩ _ w0.heap.size (by have := h5.2 u h5.1; show w0.heap.size ≠ u; omega)).trans hb4
  · rcases hv with e1 | e1 <;> rw [e1]
    · exact h7
    · intro x; injection x with x; omega
end
theorem look_told {E : List Tx} {e : CE} (h : Early E e.f) (hw : e.wf) {j : Nat} (hj : j ≤ (told e).length) : look E ((e.got + j + 1 : Nat) : Int) = (told e)[j]? := by
  have h1 := told_next hw hj
  unfold stepE at h1
  dsimp only at h1
  rw [if_neg (by omega)] at h1
  rw [h, h1]
/-- behind the last text told -/
theorem UW.fin {w0 w : World} {F : Nat → Prop} {u m : Nat} {g : Gm} {E : List Tx} {e : CE} {o : Value} (h : UW w0 F u g E e (e.got + (told e).length) o (told e) w) (hea : Early E e.f) (hw : e.wf) (hE : E.length ≤ m + 1) (hgv : e.given ≤ m) (hgt : e.got ≤ 32 * m) (hm : m ≤ 900) : ∃ a4 c4, w.cell? ⟨u, 3, none⟩ = some (.int .i64 ((e.got + (told e).length : Nat) : Int)) ∧ w.cell? ⟨u, 4, none⟩ = some (.slice a4 E.length c4) ∧
    ∀ w', Below w.heap.size w w' → Calls Try.prog 29 #[.slice a4 E.length c4, .int .i64 ((e.got + (told e).length : Nat) : Int)] w' fun r w2 => ∃ a5 n5 c5, r = .returned (.slice a5 n5 c5) ∧ w2.cell? ⟨u, 4, none⟩ = some (.slice a4 E.length c4) ∧ w2.frozen? ⟨u, 4, none⟩ = false ∧ w2.cell? ⟨u, 3, none⟩ = some (.int .i64 ((e.got + (told e).length : Nat) : Int)) ∧
      (UDid F w0 (w2.setCell ⟨u, 4, none⟩ (.slice a5 n5 c5)) u (m + 1) (tellE e) ∧ (w2.setCell ⟨u, 4, none⟩ (.slice a5 n5 c5)).ownsRow w0.heap.size 9 1 o (told e).length (strsV (told e))) := by
  obtain ⟨v1, v4, h1, h2, h3, h4, h5, h6, h7⟩ := h
  obtain ⟨a4, c4, rfl⟩ := own_shape h1.r4
  refine ⟨a4, c4, h1.at_.1, h1.at_.2.1, fun w' hb => ?_⟩
  have h1' := h1.below hb
  refine (above_any a4 _ c4 E _ w' (txs_of h1'.r4 rfl) (by omega)).mono ?_
  rintro r w2 ⟨v5, rfl, ho, hb2⟩
  obtain ⟨a5, c5, rfl⟩ := own_shape ho
  have h1'' := h1'.below hb2
  obtain ⟨q1, q2⟩ := h1'.lay4 (m := m) hea hw hE hgv hgt hb2 ho
  have hB : Below w.heap.size w w2 := hb.trans (hb2.mono hb.size)
  have hsz := h3.size
  have hsz2 := hb.size
  refine ⟨a5, _, c5, rfl, h1''.at_.2.1, h1''.at_.2.2.2, h1''.at_.1, ⟨⟨fun k => UFoot u v1 (.slice a5 _ c5) k, ⟨v1, _, _, q1, fun k hk => hk, q1.lt⟩, fun k hk => (q2 k hk).elim (fun x => (h2 k x).1) (fun x => .inr (by omega))⟩, (h3.trans (Touch.of_below (F := F) hB) (fun k hk => .inl hk)).set_ (.inl h5.1) 4 _⟩, own_set (own_same h6 fun g hg => hB.block g (own_lt h6 hg)) (h2 u (.inl rfl)).2.2 _ _⟩
end Go.Proofs.Ytbbikibkijncgaa.Cord
