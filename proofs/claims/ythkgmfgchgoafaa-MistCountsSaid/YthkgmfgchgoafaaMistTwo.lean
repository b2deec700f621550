/- Two nets and a row beside one another; append to a row. -/
import Derived.Test.YthkgmfgchgoafaaMistAwake
namespace Go.Proofs.Ythkgmfgchgoafaa.Mist
set_option maxRecDepth 100000
open Go.RowKit
open Go.Proofs.Ythkgmfgchgoafaa.Mem Go.Proofs.Ythkgmfgchgoafaa.CordG
theorem own_ge {w : World} {base n size : Nat} {t : TypeId} {v : Value} {xs : List Value} (h : w.ownsRow base t size v n xs) : ∀ g, v.ownBlock = some g → base ≤ g := by
  intro g hg
  obtain ⟨_, ⟨rfl, _⟩ | ⟨g', c, cur, rfl, hb, _⟩⟩ := h
  · cases hg
  · cases hg; exact hb
theorem own_new (w : World) (t : TypeId) (size : Nat) : (w.alloc (.cells #[] t)).ownsRow w.heap.size t size (.slice (some ⟨w.heap.size, 0, none⟩) 0 0) 0 [] :=
  ⟨by simp, .inr ⟨w.heap.size, 0, #[], rfl, Nat.le_refl _, World.alloc_heap_new _ _, Nat.le_refl _, by decide, by simp, by simp⟩⟩
/-- append of one datagram to an own row -/
theorem wpList_app {w : World} {ops : Array Oper} {rest : List Oper} {o : Oper} {a : Act} {Q : Exit → Act → World → Prop} (hgd : o.guard = none) (s x : Operand)
    (ho : o.op = .call { callee := .builtin .append, args := #[s, x], argTypes := #[67, 67] }) (B : Nat)
    (v : Value) (L : List Gr) (hs : a.eval s = v) (hown : w.ownsRow B 29 6 v L.length (gramsV L)) (vb : Nat) (y : Gr) (hx : a.eval x = .slice (some ⟨vb, 0, none⟩) 1 1)
    (hb : Blk w vb 29 (gv y)) (hn : L.length ≤ 30000) (hB : B ≤ w.heap.size)
    (h : ∀ v' w', w'.ownsRow B 29 6 v' (L ++ [y]).length (gramsV (L ++ [y])) → w.grownBy w' v.ownBlock → (v'.ownBlock = v.ownBlock ∨ v'.ownBlock = some w.heap.size) → wpList Try.prog ops Q rest (a.put o.dst v') w') : wpList Try.prog ops Q (o :: rest) a w := by
  obtain ⟨i0, hi, hz0, hz1, hz2⟩ := info_parts info_gram
  refine wpList_append_own_at w hgd s x 67 ho B 29 i0 (.agg #[.int .i64 0, .bool false, .int .i64 0, .int .i64 0, .int .i64 0, .string .empty]) 6 56 Try.underlying67 hi hz0 hz1 hz2 rfl (by decide) v L.length (gramsV L) hs hown ⟨vb, 0, none⟩ 1 1 (gv y).toList hx rfl (fun j z hj => ?_) (fun z hz => ?_) (by unfold maxLen; omega) (by omega) hB ?_
  · rw [Addr.add_lit, hb.cell, Nat.zero_add, ← Array.getElem?_toList]; exact hj
  · simp [gv] at hz; rcases hz with rfl | rfl | rfl | rfl | rfl | rfl <;> rfl
  · intro v' w' h1 h2 _ h4
    refine h v' w' ?_ h2 h4
    rw [List.length_append, grams_app, grams_one]; exact h1
/-- a net moved into another company -/
theorem PA.move {T : TypeId} {w w' : World} {p : Nat} {v : Value} {M M' : Nat → Prop} {L : List Gr} (h : PA T w p v M L) (hp : w'.heap[p]? = w.heap[p]?) (hv : ∀ g, v.ownBlock = some g → w'.heap[g]? = w.heap[g]?)
    (h0 : ¬ M' p) (h1 : ∀ g, v.ownBlock = some g → ¬ M' g) (hl : ∀ k, M' k → k < w'.heap.size) : PA T w' p v M' L :=
  ⟨hp.trans h.blk, own_same h.own hv, h.n0, h0, h1, hl⟩
/-- the company of a net: what lay ahead, another net, a row -/
def Co (B q : Nat) (v s : Value) (k : Nat) : Prop := k < B ∨ k = q ∨ v.ownBlock = some k ∨ s.ownBlock = some k
structure Two (T U : TypeId) (w0 W : World) (p q : Nat) (vn vm vs : Value) (Ln Lm Ls : List Gr) : Prop where
  n : PA T W p vn (Co w0.heap.size q vm vs) Ln
  m : PA U W q vm (Co w0.heap.size p vn vs) Lm
  s : W.ownsRow w0.heap.size 29 6 vs Ls.length (gramsV Ls)
  bel : Below w0.heap.size w0 W
section
variable {T U : TypeId} {w0 W W' : World} {p q : Nat} {vn vm vs vn' vm' vs' : Value} {Ln Lm Ls Ln' Lm' Ls' : List Gr}
theorem Two.below (h : Two T U w0 W p q vn vm vs Ln Lm Ls) (hb : Below W.heap.size W W') : Two T U w0 W' p q vn vm vs Ln Lm Ls :=
  ⟨h.n.step hb.size (fun k hk _ => hb.block k hk) (fun _ h => .inl h), h.m.step hb.size (fun k hk _ => hb.block k hk) (fun _ h => .inl h), Mem.own_below h.s hb, h.bel.trans (hb.mono h.bel.size)⟩
theorem Two.swap (h : Two T U w0 W p q vn vm vs Ln Lm Ls) : Two U T w0 W q p vm vn vs Lm Ln Ls := ⟨h.m, h.n, h.s, h.bel⟩
/-- a call of the first net -/
theorem Two.call (h : Two T U w0 W p q vn vm vs Ln Lm Ls) (hn : PA T W' p vn' (Co w0.heap.size q vm vs) Ln') (hk : Keep (Co w0.heap.size q vm vs) W W') : Two T U w0 W' p q vn' vm vs Ln' Lm Ls := by
  refine ⟨hn, h.m.move (hk.block q (.inr (.inl rfl))) (fun g hg => hk.block g (.inr (.inr (.inl hg)))) ?_ ?_ ?_, own_same h.s fun g hg => hk.block g (.inr (.inr (.inr hg))), h.bel.trans (hk.below fun _ h => .inl h)⟩
  · rintro (h1 | h1 | h1 | h1)
    · exact h.m.m0 (.inl h1)
    · exact h.m.m0 (.inr (.inl h1))
    · exact hn.m1 q h1 (.inr (.inl rfl))
    · exact h.m.m0 (.inr (.inr (.inr h1)))
  · rintro g hg (h1 | h1 | h1 | h1)
    · exact h.m.m1 g hg (.inl h1)
    · exact h.m.m1 g hg (.inr (.inl h1))
    · exact hn.m1 g h1 (.inr (.inr (.inl hg)))
    · exact h.m.m1 g hg (.inr (.inr (.inr h1)))
  · rintro k (h1 | h1 | h1 | h1)
    · exact hn.lt k (.inl h1)
    · rw [h1]; exact hn.blk.lt
    · exact own_lt hn.own h1
    · exact hn.lt k (.inr (.inr (.inr h1)))
/-- the row grows -/
theorem Two.app (h : Two T U w0 W p q vn vm vs Ln Lm Ls) (hs : W'.ownsRow w0.heap.size 29 6 vs' Ls'.length (gramsV Ls')) (hg : W.grownBy W' vs.ownBlock) (hv : vs'.ownBlock = vs.ownBlock ∨ vs'.ownBlock = some W.heap.size) : Two T U w0 W' p q vn vm vs' Ln Lm Ls' := by
  have hsz := hg.size
  have hne : ∀ (T : TypeId) (p q : Nat) (v v2 : Value) (L : List Gr), PA T W p v (Co w0.heap.size q v2 vs) L → q < W.heap.size → (∀ g, v2.ownBlock = some g → g < W.heap.size) → PA T W' p v (Co w0.heap.size q v2 vs') L := fun T p q v v2 L hn hq hv2 => by
    refine hn.move (hg.block p hn.blk.lt fun e => hn.m0 (.inr (.inr (.inr e.symm)))) (fun g hgv => hg.block g (own_lt hn.own hgv) fun e => hn.m1 g hgv (.inr (.inr (.inr e.symm)))) ?_ ?_ ?_
    · rintro (h1 | h1 | h1 | h1)
      · exact hn.m0 (.inl h1)
      · exact hn.m0 (.inr (.inl h1))
      · exact hn.m0 (.inr (.inr (.inl h1)))
      · rcases hv with e | e <;> rw [e] at h1
        · exact hn.m0 (.inr (.inr (.inr h1)))
        · injection h1 with h1; have := hn.blk.lt; omega
    · rintro g hgv (h1 | h1 | h1 | h1)
      · exact hn.m1 g hgv (.inl h1)
      · exact hn.m1 g hgv (.inr (.inl h1))
      · exact hn.m1 g hgv (.inr (.inr (.inl h1)))
      · rcases hv with e | e <;> rw [e] at h1
        · exact hn.m1 g hgv (.inr (.inr (.inr h1)))
        · injection h1 with h1; have := own_lt hn.own hgv; omega
    · rintro k (h1 | h1 | h1 | h1)
      · have := hn.lt k (.inl h1); omega
      · omega
      · have := hv2 k h1; omega
      · exact own_lt hs h1
  exact ⟨hne T p q vn vm Ln h.n h.m.blk.lt (fun g hg => own_lt h.m.own hg), hne U q p vm vn Lm h.m h.n.blk.lt (fun g hg => own_lt h.n.own hg), hs, h.bel.grown hg h.bel.size (fun k e => own_ge h.s k e)⟩
end
theorem drewN_below (w : World) (q : Nat) : Below w.heap.size w (w.drewN q) := ⟨rfl, rfl, rfl, Nat.le_refl _, fun _ _ => rfl⟩
theorem own_some (b n c k : Nat) : (Value.slice (some ⟨b, 0, none⟩) n c).ownBlock = some k ↔ b = k := by simp [Value.ownBlock]
/-- two new nets, and a row -/
theorem two_mk {T U : TypeId} {w0 W : World} {p q : Nat} {vn vm vs : Value} {Ls : List Gr} (hn : PA T W p vn (fun k => k < p) []) (hm : PA U W q vm (fun k => k < q) []) (h0 : w0.heap.size ≤ p) (hpq : p < q) (hvn : ∀ g, vn.ownBlock = some g → g < q)
    (hs : W.ownsRow w0.heap.size 29 6 vs Ls.length (gramsV Ls)) (hv : ∀ g, vs.ownBlock = some g → g ≠ p ∧ g ≠ q ∧ vn.ownBlock ≠ some g ∧ vm.ownBlock ≠ some g) (hb : Below w0.heap.size w0 W) : Two T U w0 W p q vn vm vs [] [] Ls := by
  refine ⟨hn.move rfl (fun _ _ => rfl) ?_ ?_ ?_, hm.move rfl (fun _ _ => rfl) ?_ ?_ ?_, hs, hb⟩
  · rintro (h | h | h | h)
    · omega
    · omega
    · exact hm.m1 p h hpq
    · exact (hv p h).1 rfl
  · rintro g hg (h | h | h | h)
    · exact hn.m1 g hg (show g < p by omega)
    · have := hvn g hg; omega
    · exact hm.m1 g h (hvn g hg)
    · exact (hv g h).2.2.1 hg
  · rintro k (h | h | h | h)
    · have := hn.blk.lt; omega
    · rw [h]; exact hm.blk.lt
    · exact own_lt hm.own h
    · exact own_lt hs h
  · rintro (h | h | h | h)
    · omega
    · omega
    · exact absurd (hvn _ h) (Nat.lt_irrefl _)
    · exact (hv q h).2.1 rfl
  · rintro g hg (h | h | h | h)
    · exact hm.m1 g hg (show g < q by omega)
    · exact hm.m1 g hg (show g < q by omega)
    · exact hm.m1 g hg (hvn g h)
    · exact (hv g h).2.2.2 hg
  · rintro k (h | h | h | h)
    · have := hn.blk.lt; omega
    · rw [h]; exact hn.blk.lt
    · exact own_lt hn.own h
    · exact own_lt hs h
theorem PA.new {T : TypeId} {w w' : World} {p : Nat} {v : Value} {L : List Gr} (h : PA T w p v (fun k => k < p) L) (hb : Below w.heap.size w w') : PA T w' p v (fun k => k < p) L := h.step hb.size (fun k hk _ => hb.block k hk) (fun _ h => .inl h)
theorem own_base {w : World} {base base' n size : Nat} {t : TypeId} {v : Value} {xs : List Value} (h : w.ownsRow base t size v n xs) (hb : ∀ g, v.ownBlock = some g → base' ≤ g) : w.ownsRow base' t size v n xs := by
  refine ⟨h.1, ?_⟩
  rcases h.2 with h2 | ⟨g, cap, cur, rfl, h2, h3⟩
  · exact .inl h2
  · exact .inr ⟨g, cap, cur, rfl, hb g rfl, h3⟩
/-- MistOrder's second net: the way's first ones are gone -/
def midL (L : List Gr) (c : Int) (u : Bool) (i : Nat) : List Gr := (L.take i).filter (fun x => !(onW c u x)) ++ L.drop i
theorem mid_zero (L : List Gr) (c : Int) (u : Bool) : midL L c u 0 = L := by simp [midL]
theorem mid_len (L : List Gr) (c : Int) (u : Bool) (i : Nat) : (midL L c u i).length ≤ L.length := by
  unfold midL
  have := List.length_filter_le (fun x => !(onW c u x)) (L.take i)
  simp at this ⊢
  omega
theorem drop_cons {L : List Gr} {i : Nat} {x : Gr} (h : L[i]? = some x) : L.drop i = x :: L.drop (i + 1) := by
  obtain ⟨hlt, rfl⟩ := List.getElem?_eq_some_iff.1 h
  exact List.drop_eq_getElem_cons hlt
theorem mid_off {L : List Gr} {c : Int} {u : Bool} {i : Nat} {x : Gr} (h : L[i]? = some x) (ho : onW c u x = false) : midL L c u (i + 1) = midL L c u i := by
  unfold midL
  rw [drop_cons h, List.take_add_one, h, List.filter_append]
  simp [ho]
theorem mid_on {L : List Gr} {c : Int} {u : Bool} {i : Nat} {x : Gr} (h : L[i]? = some x) (ho : onW c u x = true) : pickO (midL L c u i) c u 0 = some x ∧ pickL (midL L c u i) c u 0 = midL L c u (i + 1) := by
  have hA : ∀ y ∈ (L.take i).filter (fun x => !(onW c u x)), onW c u y = false := fun y hy => by
    have := (List.mem_filter.1 hy).2; simpa using this
  have e1 : midL L c u i = (L.take i).filter (fun x => !(onW c u x)) ++ x :: L.drop (i + 1) := by unfold midL; rw [drop_cons h]
  have e2 : midL L c u (i + 1) = (L.take i).filter (fun x => !(onW c u x)) ++ L.drop (i + 1) := by
    unfold midL
    rw [List.take_add_one, h, List.filter_append]
    simp [ho]
  generalize (L.take i).filter (fun x => !(onW c u x)) = A at hA e1 e2
  have hf : findN (A ++ x :: L.drop (i + 1)) c u 0 = some (x, A.length) := by
    unfold findN
    rw [if_neg (by decide)]
    unfold wayL
    rw [List.zipIdx_append, List.filter_append]
    have hz : (A.zipIdx).filter (onX c u) = [] := by
      rw [List.filter_eq_nil_iff]
      rintro ⟨y, j⟩ hy
      have hm : y ∈ A := by
        have := List.mem_zipIdx hy
        rw [this.2.2]
        exact List.getElem_mem _
      simp [onX, hA y hm]
    rw [hz, List.zipIdx_cons, List.filter_cons_of_pos (by simpa [onX] using ho)]
    simp
  rw [e1, e2]
  unfold pickO pickL
  rw [hf]
  refine ⟨rfl, ?_⟩
  simp [cutO, cutL]
theorem mid_end (L : List Gr) (c : Int) (u : Bool) : pickO (midL L c u L.length) c u 0 = none := by
  have hc : countL (midL L c u L.length) c u = 0 := by
    unfold countL midL
    rw [List.take_of_length_le (Nat.le_refl _), List.drop_of_length_le (Nat.le_refl _), List.append_nil, List.length_eq_zero_iff, List.filter_eq_nil_iff]
    intro y hy
    have := (List.mem_filter.1 hy).2
    simpa using this
  unfold pickO
  rw [findN_none.2 (.inr (by omega))]
  rfl
end Go.Proofs.Ythkgmfgchgoafaa.Mist
