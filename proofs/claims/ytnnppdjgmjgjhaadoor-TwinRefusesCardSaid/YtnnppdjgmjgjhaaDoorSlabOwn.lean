/- A row of slots of the call's own; append of nothing. -/
import Derived.Test.YtnnppdjgmjgjhaaDoorSlabPutMath
import Derived.Laws.AppendOwn
import Derived.Laws.OwnMore
import Derived.Tactics
namespace Go.Proofs.YtnnppdjgmjgjhaaDoor.Slab
set_option maxRecDepth 100000
open Go.RowKit Go.Sort

theorem slots_of_own {w : World} {base : Nat} {t : TypeId} {v : Value} {z : List Slot} (h : w.ownsRow base t 2 v z.length (cellsOf z)) (hs : ∀ x ∈ z, x.d.size ≤ 140737488351232) :
    ∃ a c, v = .slice a z.length c ∧ Slots w a z.length z ∧ ∀ b off e, a = some ⟨b, off, e⟩ → base ≤ b := by
  obtain ⟨hl, ⟨rfl, h0⟩ | ⟨g, cap, cur, rfl, hg, hb, hn, hc, hcs, ht⟩⟩ := h
  · have : z = [] := List.eq_nil_of_length_eq_zero h0
    subst this
    exact ⟨none, 0, rfl, Slots.nil _ _, fun _ _ _ e => by cases e⟩
  · refine ⟨_, cap, rfl, ⟨rfl, hs, fun hp => ⟨g, 0, rfl, (Array.getElem?_eq_some_iff.1 hb).1, fun i hi => ?_⟩⟩, fun b off e he => by cases he; exact hg⟩
    have hcell : ∀ j, j < z.length * 2 → w.cell? ⟨g, j, none⟩ = (cellsOf z)[j]? := fun j hj => by
      have : w.cell? ⟨g, j, none⟩ = cur[j]? := by simp [World.cell?, hb]
      rw [this, ← ht, List.getElem?_take_of_lt hj]
      simp
    have hz : z[i]? = some (z.getD i nos) := by simp [List.getD, hi]
    obtain ⟨e1, e2⟩ := cellsOf_get hz
    rw [Nat.zero_add]
    exact ⟨(hcell _ (by omega)).trans e1, (hcell _ (by omega)).trans e2⟩
theorem cells_snoc (z : List Slot) (x : Slot) : cellsOf z ++ [.bool x.u, .string x.d] = cellsOf (z ++ [x]) := by simp [cellsOf, encS]

theorem own_below {w w' : World} {base n size : Nat} {t : TypeId} {v : Value} {xs : List Value} (h : w.ownsRow base t size v n xs) (hb : Below w.heap.size w w') : w'.ownsRow base t size v n xs := by
  obtain ⟨hl, h0 | ⟨g, cap, cur, rfl, hg, hc, h1⟩⟩ := h
  · exact ⟨hl, .inl h0⟩
  · exact ⟨hl, .inr ⟨g, cap, cur, rfl, hg, (hb.block g (Array.getElem?_eq_some_iff.1 hc).1).trans hc, h1⟩⟩
theorem own_far {w : World} {base n size gp : Nat} {t : TypeId} {v : Value} {xs : List Value} (h : w.ownsRow base t size v n xs) (hg : gp < base) (i : Nat) (u : Value) : (w.setCell ⟨gp, i, none⟩ u).ownsRow base t size v n xs := by
  obtain ⟨hl, h0 | ⟨g, cap, cur, rfl, hg', hc, h1⟩⟩ := h
  · exact ⟨hl, .inl h0⟩
  · exact ⟨hl, .inr ⟨g, cap, cur, rfl, hg', (Below.heap_setCell w ⟨gp, i, none⟩ u g (by show g ≠ gp; omega)).trans hc, h1⟩⟩
theorem own_ne {w : World} {base n size g : Nat} {t : TypeId} {v : Value} {xs : List Value} (h : w.ownsRow base t size v n xs) (hg : g < base) : some g ≠ v.ownBlock := by
  obtain ⟨_, ⟨rfl, _⟩ | ⟨g', cap, cur, rfl, hg', _⟩⟩ := h
  · simp [Value.ownBlock]
  · simp [Value.ownBlock]; omega
theorem own_block_ge {w : World} {base n size k : Nat} {t : TypeId} {v : Value} {xs : List Value} (h : w.ownsRow base t size v n xs) (hk : v.ownBlock = some k) : base ≤ k := by
  obtain ⟨_, ⟨rfl, _⟩ | ⟨g', cap, cur, rfl, hg', _⟩⟩ := h
  · cases hk
  · simp [Value.ownBlock] at hk; omega
theorem info_slot2 : (Tryd.prog.info? 81).map (fun i => (i.zero, i.size, i.bytes)) = some (some (.agg #[.bool false, .string ⟨#[]⟩]), 2, 24) := by kernel_rfl
theorem run_append_zero {P : Program} {w : World} (base : Nat) (t ty e : TypeId) (i : TypeInfo) (size : Nat) (ht : P.underlying t = some (.slice e)) (hi : P.info? e = some i)
    (v : Value) (n : Nat) (xs : List Value) (hown : w.ownsRow base e size v n xs) (a : Option Addr) (c : Nat) :
    (Builtin.append_ #[t, t] ty #[v, .slice a 0 c]).run P w = .ok v w := by
  rcases hown.2 with ⟨rfl, rfl⟩ | ⟨g, cap, cur, rfl, _, _, hnc, _⟩
  · cases a <;> simp [Builtin.append_, run_underlying ht, sizeOf, typeInfo, hi, Builtin.lenOf, Builtin.firstCells, loadCells, loadCellsFrom]
  · cases a <;> simp [Builtin.append_, run_underlying ht, sizeOf, typeInfo, hi, Builtin.lenOf, Builtin.firstCells, hnc, storeCells, loadCells, loadCellsFrom]
theorem wpList_append_zero {P : Program} {w : World} {ops : Array Oper} {rest : List Oper} {o : Oper} {a : Act} {Q : Exit → Act → World → Prop} (hgd : o.guard = none) (s x : Operand) (t : TypeId)
    (ho : o.op = .call { callee := .builtin .append, args := #[s, x], argTypes := #[t, t] })
    (base : Nat) (e : TypeId) (i : TypeInfo) (size : Nat) (ht : P.underlying t = some (.slice e)) (hi : P.info? e = some i)
    (v : Value) (n : Nat) (xs : List Value) (hs : a.eval s = v) (hown : w.ownsRow base e size v n xs) (ad : Option Addr) (c : Nat) (hx : a.eval x = .slice ad 0 c)
    (h : wpList P ops Q rest (a.put o.dst v) w) : wpList P ops Q (o :: rest) a w := by
  refine wpList_plain hgd fun K hK => ?_
  have hrun := run_append_zero (P := P) (w := w) base t o.type e i size ht hi v n xs hown ad c
  unfold Oper.wp
  simp [execOp, ho, resolve, invoke, builtin, hs, hx, hrun, Result.andThen]
  exact hK _ _ h
theorem own_new (w : World) (t : TypeId) (size : Nat) : (w.alloc (.cells #[] t)).ownsRow w.heap.size t size (.slice (some ⟨w.heap.size, 0, none⟩) 0 0) 0 [] :=
  ⟨by simp, .inr ⟨w.heap.size, 0, #[], rfl, Nat.le_refl _, World.alloc_heap_new _ _, Nat.le_refl _, by decide, by simp, by simp⟩⟩
/-- slots appended to an own row, whatever their source -/
theorem wpList_append_slots {w : World} {ops : Array Oper} {rest : List Oper} {o : Oper} {a : Act} {Q : Exit → Act → World → Prop} (hgd : o.guard = none) (s x : Operand)
    (ho : o.op = .call { callee := .builtin .append, args := #[s, x], argTypes := #[39, 39] }) (base : Nat)
    (v : Value) (n : Nat) (xs : List Value) (hs : a.eval s = v) (hown : w.ownsRow base 81 2 v n xs) (ad : Option Addr) (m c : Nat) (zs : List Slot) (hx : a.eval x = .slice ad m c)
    (hS : Slots w ad m zs) (hn : n + m ≤ 1000000) (hbase : base ≤ w.heap.size)
    (h : ∀ v' w', w'.ownsRow base 81 2 v' (n + m) (xs ++ cellsOf zs) → Below base w w' → wpList Tryd.prog ops Q rest (a.put o.dst v') w') : wpList Tryd.prog ops Q (o :: rest) a w := by
  obtain ⟨i0, hi, hz0, hz1, hz2⟩ := info_parts info_slot2
  by_cases h0 : m = 0
  · subst h0
    obtain rfl := hS.zero
    refine wpList_append_zero hgd s x 39 ho base 81 i0 2 Tryd.underlying39 hi v n xs hs hown ad c hx ?_
    exact h v w (by simpa [cellsOf] using hown) (Below.refl _ _)
  · obtain ⟨ad', rfl, hc⟩ := slots_src hS (by omega)
    refine wpList_append_own w hgd s x 39 ho base 81 i0 (.agg #[.bool false, .string ⟨#[]⟩]) 2 24 Tryd.underlying39 hi hz0 hz1 hz2 rfl (by decide) v n xs hs hown ad' m c (cellsOf zs) hx (by rw [cellsOf_length, hS.len]) hc (cellsOf_one zs) (by unfold maxLen; omega) (by omega) hbase ?_
    intro v' w' h1 h2 _
    exact h v' w' h1 ((Below.refl base w).grown h2 hbase (fun k hk => own_block_ge hown hk))
theorem Slots.take {w : World} {a : Option Addr} {n j : Nat} {zs : List Slot} (h : Slots w a n zs) (hj : j ≤ n) : Slots w a j (zs.take j) := by
  obtain ⟨h1, h2, h3⟩ := h
  refine ⟨by rw [List.length_take, h1]; omega, fun x hx => h2 x (List.mem_of_mem_take hx), fun hp => ?_⟩
  obtain ⟨b, off, ha, hb, hc⟩ := h3 (by omega)
  refine ⟨b, off, ha, hb, fun i hi => ?_⟩
  have e : (zs.take j).getD i nos = zs.getD i nos := by simp [List.getD, hi]
  rw [e]
  exact hc i (by omega)
theorem padL_snoc {l : List Slot} {m : Nat} (h : l.length ≤ m) : padL l m ++ [nos] = padL l (m + 1) := by
  unfold padL
  rw [List.append_assoc]
  congr 1
  rw [show m + 1 - l.length = (m - l.length) + 1 by omega, List.replicate_succ']
theorem padL_zero (l : List Slot) : padL l l.length = l := by simp [padL]
def lenV : Value → Nat | .slice _ n _ => n | _ => 0
theorem own_cap {w : World} {base g n cap size : Nat} {t : TypeId} {xs : List Value} (h : w.ownsRow base t size (.slice (some ⟨g, 0, none⟩) n cap) n xs) : n ≤ cap ∧ base ≤ g ∧ g < w.heap.size := by
  rcases h.2 with ⟨h', _⟩ | ⟨g', cap', cur, h', hb, hg, hnc, _⟩
  · simp at h'
  · simp only [Value.slice.injEq, Option.some.injEq, Addr.mk.injEq, and_true, true_and] at h'
    obtain ⟨rfl, rfl⟩ := h'
    exact ⟨hnc, hb, (Array.getElem?_eq_some_iff.1 hg).1⟩
theorem own_pos {w : World} {base n size : Nat} {t : TypeId} {v : Value} {xs : List Value} (h : w.ownsRow base t size v n xs) (hn : 0 < n) : ∃ g cap, v = .slice (some ⟨g, 0, none⟩) n cap := by
  rcases h.2 with ⟨rfl, rfl⟩ | ⟨g, cap, cur, rfl, _⟩
  · omega
  · exact ⟨g, cap, rfl⟩
/-- an own row has an address, or is nil -/
theorem own_shape {w : World} {base n size : Nat} {t : TypeId} {v : Value} {xs : List Value} (h : w.ownsRow base t size v n xs) : ∃ a c, v = .slice a n c := by
  rcases h.2 with ⟨rfl, rfl⟩ | ⟨g, cap, cur, rfl, _⟩
  · exact ⟨none, 0, rfl⟩
  · exact ⟨_, cap, rfl⟩
end Go.Proofs.YtnnppdjgmjgjhaaDoor.Slab
