/- A client's locks: letGo, New, Clear, Use, Call. -/
import Derived.Test.YtlalehoncclnaaaLatchCalls
namespace Go.Proofs.Ytlalehoncclnaaa.Latch
set_option maxRecDepth 100000
open Go.RowKit
open Go.Proofs.Ytlalehoncclnaaa.Mem
open Go.Maps
section
variable {w : World} {ops : Array Oper} {rest : List Oper} {o : Oper} {a : Act} {Q : Exit → Act → World → Prop} {b n : Nat} {f : Int → Option Value}
theorem wpList_mdel {t : TypeId} (hg : o.guard = none) (m x : Operand) (hop : o.op = Op.call { callee := Callee.builtin Builtin.delete, args := #[m, x], argTypes := #[t, 3] }) (b : Nat) (hm : a.eval m = .map (some b)) (k : Int) (hx : a.eval x = .int .i64 k)
    (R : World → Prop) (hrun : ∀ ty, ∃ w', (Builtin.delete_ #[t, 3] ty #[.map (some b), .int .i64 k]).run Try.prog w = .ok (.tuple #[]) w' ∧ R w')
    (hK : ∀ w', R w' → wpList Try.prog ops Q rest (a.put o.dst (.tuple #[])) w') : wpList Try.prog ops Q (o :: rest) a w := by
  refine wpList_plain hg fun K' hK' => ?_
  obtain ⟨w', hrun, r1⟩ := hrun o.type
  unfold Oper.wp
  simp [execOp, hop, resolve, invoke, builtin, hm, hx, hrun, Result.andThen]
  exact hK' _ _ (hK w' r1)
end
section
variable {p hb ub : Nat} {M : Nat → Prop} {L L' : LS} {pg : Int} {w : World}
set_option maxRecDepth 100000 in
theorem letGo_all (h : TV w p hb ub M L) (hx : Sm pg) (hok : Ok L') (e1 : ∀ q, hasF L' q = if q = pg then none else hasF L q) (e2 : ∀ q, useF L' q = useF L q) :
    Calls Try.prog 27 #[.pointer (some ⟨p, 0, none⟩), .int .i64 pg, .int .i64 0] w fun e w' => e = .returned (.tuple #[]) ∧ TV w' p hb ub M L' ∧ Keep M w w' := by
  have c0 := h.topc.1
  have HD := Lib.hid (h.delH hx hok e1 e2)
  clear h e1 e2 hok hx
  go_enter Try.func27, Try.ntmps27
  go_wp2_with (at_delete; refine wpList_mdel (t := 53) rfl _ _ rfl hb rfl pg rfl _ HD.out ?_; intro w2 h2)
  refine bodyPost_ret (results_none rfl _ _ _) rfl ?_
  exact ⟨rfl, h2.out⟩
set_option maxRecDepth 100000 in
theorem letGo_x (h : TV w p hb ub M L) (hx : Sm pg) (hn : L.length ≤ 1000000) (hok : Ok L') (e1 : ∀ q, hasF L' q = if q = pg then some (.int .i64 1) else hasF L q) (e2 : ∀ q, useF L' q = useF L q) :
    Calls Try.prog 27 #[.pointer (some ⟨p, 0, none⟩), .int .i64 pg, .int .i64 1] w fun e w' => e = .returned (.tuple #[]) ∧ TV w' p hb ub M L' ∧ Keep M w w' := by
  have c0 := h.topc.1
  obtain ⟨w1, r1, d1, H1⟩ := h.putH hx hok hn e1 e2
  clear h e1 e2 hok hx
  go_enter Try.func27, Try.ntmps27
  go_wp2
  go_end0
  first | exact ⟨⟨_, rfl⟩, H1.out⟩ | exact ⟨rfl, H1.out⟩
end
def newW (w : World) : World := ((w.alloc (.map #[] 0)).alloc (.map #[] 0)).alloc (.cells #[.map (some w.heap.size), .map (some (w.heap.size + 1))] 56)
theorem newW_maps (w : World) : MapN (newW w) w.heap.size 0 (fun _ => none) ∧ MapN (newW w) (w.heap.size + 1) 0 (fun _ => none) ∧ Blk (newW w) (w.heap.size + 2) 56 #[.map (some w.heap.size), .map (some (w.heap.size + 1))] ∧ (newW w).heap.size = w.heap.size + 3 ∧ Below w.heap.size w (newW w) := by
  have m1 := map_made w
  have m2 := map_made (w.alloc (.map #[] 0))
  have s1 : (w.alloc (.map #[] 0)).heap.size = w.heap.size + 1 := by simp
  rw [s1] at m2
  have s2 : ((w.alloc (.map #[] 0)).alloc (.map #[] 0)).heap.size = w.heap.size + 2 := by simp
  have b3 := Blk.new ((w.alloc (.map #[] 0)).alloc (.map #[] 0)) 56 #[.map (some w.heap.size), .map (some (w.heap.size + 1))]
  rw [s2] at b3
  refine ⟨(m1.same (Below.heap_alloc _ _ _ (by omega))).same (Below.heap_alloc _ _ _ (by omega)), m2.same (Below.heap_alloc _ _ _ (by omega)), b3, by unfold newW; simp, ?_⟩
  exact ((((Below.refl w.heap.size w).alloc (Nat.le_refl _) (.map #[] 0)).alloc (by simp) (.map #[] 0)).alloc (by simp; omega) _)
set_option maxRecDepth 100000 in
theorem new_is (w : World) : Calls Try.prog 8 #[] w fun e w' => e = .returned (.pointer (some ⟨w.heap.size + 2, 0, none⟩)) ∧ w' = newW w := by
  have hmm := @run_makeMap Try.prog
  go_enter Try.func8, Try.ntmps8
  go_wp2
  go_ret
  first | exact ⟨rfl, rfl⟩ | (refine ⟨?_, ?_⟩ <;> simp [newW])
theorem fn_nil : (fun _ : Int => (none : Option Value)) = hasF [] ∧ (fun _ : Int => (none : Option Value)) = useF [] := ⟨rfl, rfl⟩
def NewRes (w : World) (e : Ending) (w' : World) : Prop := ∃ p, e = .returned (.pointer (some ⟨p, 0, none⟩)) ∧ w.heap.size ≤ p ∧ TQ w' p (fun k => k < w.heap.size) [] ∧ Below w.heap.size w w'
theorem new_any (w : World) : Calls Try.prog 8 #[] w (NewRes w) := by
  refine (new_is w).mono ?_
  rintro e w' ⟨rfl, rfl⟩
  obtain ⟨a1, a2, a3, a4, a5⟩ := newW_maps w
  refine ⟨_, rfl, by omega, ⟨w.heap.size, w.heap.size + 1, { ok := ok_nil, top := a3, hm := a1, um := a2, nu := by omega, o0 := by omega, o1 := by omega, o2 := by omega, ml := fun k hk => by omega }⟩, a5⟩
set_option maxRecDepth 100000 in
theorem clear_any (p : Nat) (M : Nat → Prop) (L : LS) (w : World) (h : TQ w p M L) :
    Calls Try.prog 18 #[.pointer (some ⟨p, 0, none⟩)] w fun e w' => e = .returned (.tuple #[]) ∧ TQ w' p M [] ∧ Keep M w w' := by
  obtain ⟨hb, ub, h⟩ := h
  have HN := Lib.hid (new_is w)
  obtain ⟨a1, a2, a3, a4, a5⟩ := newW_maps w
  have t1 := (h.below a5).topc
  have g0 := a3.cell 0
  have g1 := a3.cell 1
  have hp := h.top.lt
  have b1 := h.top.below a5 hp
  have FIN : Hid (TQ (((newW w).setCell ⟨p, 0, none⟩ (.map (some w.heap.size))).setCell ⟨p, 1, none⟩ (.map (some (w.heap.size + 1)))) p M [] ∧ Keep M w (((newW w).setCell ⟨p, 0, none⟩ (.map (some w.heap.size))).setCell ⟨p, 1, none⟩ (.map (some (w.heap.size + 1))))) := Lib.hid ⟨⟨w.heap.size, w.heap.size + 1, {
      ok := ok_nil
      top := by simpa using (b1.set_ 0 (.map (some w.heap.size))).set_ 1 (.map (some (w.heap.size + 1)))
      hm := (a1.same (Below.heap_setCell _ ⟨p, 0, none⟩ _ _ (fun e => by have e2 : w.heap.size = p := e; omega))).same (Below.heap_setCell _ ⟨p, 1, none⟩ _ _ (fun e => by have e2 : w.heap.size = p := e; omega))
      um := (a2.same (Below.heap_setCell _ ⟨p, 0, none⟩ _ _ (fun e => by have e2 : w.heap.size + 1 = p := e; omega))).same (Below.heap_setCell _ ⟨p, 1, none⟩ _ _ (fun e => by have e2 : w.heap.size + 1 = p := e; omega))
      nu := by omega
      o0 := h.o0
      o1 := fun e => by have := h.ml _ e; omega
      o2 := fun e => by have := h.ml _ e; omega
      ml := fun k hk => by have := h.ml k hk; simp; omega }⟩, ((Keep.of_below a5 h.ml).set_ h.o0 0 _).set_ h.o0 1 _⟩
  have qn := run_neq' p
  clear h a1 a2 a3 a4 a5 hp b1
  generalize hW : newW w = W at *
  clear hW
  go_enter Try.func18, Try.ntmps18
  go_wp2_with fail
  refine HN.out.mono ?_
  rintro e w' ⟨rfl, rfl⟩
  go_wp2
  go_end0
  first | exact ⟨⟨_, rfl⟩, FIN.out⟩ | exact ⟨rfl, FIN.out⟩
end Go.Proofs.Ytlalehoncclnaaa.Latch
