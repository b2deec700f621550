/- Go's == on slots, and the walk of Same. -/
import Derived.Test.YtnnppdjgmjgjhaaDoorSlabAt
import Derived.Laws.StructEq
namespace Go.Proofs.YtnnppdjgmjgjhaaDoor.Slab
open Go.RowKit Go.Sort

def sameB (x y : Slot) : Bool := (x.u == y.u) && (x.d.toList == y.d.toList)
theorem str_inj {a b : ByteArray} (h : a.data.toList = b.data.toList) : a = b := ByteArray.ext (Array.toList_inj.1 h)
theorem list_inj {a b : ByteArray} (h : a.toList = b.toList) : a = b := by
  rw [ByteArray.toList_eq, ByteArray.toList_eq] at h; exact str_inj h
theorem sameB_iff (x y : Slot) : sameB x y = true ↔ x = y := by
  obtain ⟨u, d⟩ := x
  obtain ⟨v, e⟩ := y
  simp only [sameB, Bool.and_eq_true, beq_iff_eq, Slot.mk.injEq]
  exact ⟨fun ⟨h1, h2⟩ => ⟨h1, list_inj h2⟩, fun ⟨h1, h2⟩ => ⟨h1, by rw [h2]⟩⟩
theorem sameB_not {x y : Slot} (h : ¬ x = y) : sameB x y = false := by
  cases hs : sameB x y with
  | true => exact absurd ((sameB_iff x y).1 hs) h
  | false => rfl
theorem sameB_refl (x : Slot) : sameB x x = true := (sameB_iff x x).2 rfl
theorem run_eq_slot (u v : Bool) (d e : ByteArray) (w : World) : (binOp .eql 81 (.agg #[.bool u, .string d]) (.agg #[.bool v, .string e])).run Tryd.prog w = .ok (.bool (sameB ⟨u, d⟩ ⟨v, e⟩)) w := by
  have u3 := Tryd.underlying4
  have u9 := Tryd.underlying9
  have a3 := Tryd.isAgg4
  have z3 := Tryd.sizeOf4
  have a9 := Tryd.isAgg9
  have z9 := Tryd.sizeOf9
  have hS : Tryd.prog.underlying 81 = some (.struct (Tryd.prog.fieldsOf 81)) := by kernel_rfl
  have hp : Tryd.prog.stoodInHeld 81 = false := by kernel_rfl
  rw [run_eql_struct, show (10000 : Nat) = 9999 + 1 from rfl, run_equalIn_agg w 9999 81 _ _ hS hp]
  simp only [Program.fieldsOf, Tryd.underlying81]
  go_simp
  unfold sameB
  by_cases hde : d.toList = e.toList <;> cases u <;> cases v <;> simp [hde]
theorem run_ne_slot (u v : Bool) (d e : ByteArray) (w : World) : (binOp .neq 81 (.agg #[.bool u, .string d]) (.agg #[.bool v, .string e])).run Tryd.prog w = .ok (.bool (!sameB ⟨u, d⟩ ⟨v, e⟩)) w := by
  have h := run_eq_slot u v d e w
  simp only [binOp] at h ⊢
  simp only [Sem.run_bind] at h ⊢
  generalize (Op.equal 81 (.agg #[.bool u, .string d]) (.agg #[.bool v, .string e])).run Tryd.prog w = r at h ⊢
  cases r with
  | ok b w1 => simp at h ⊢; obtain ⟨rfl, rfl⟩ := h; exact ⟨rfl, rfl⟩
  | halt x w1 => simp at h
theorem run_guard_slot (op : BinOp) (A B : Operand) (xs ys : Array Value) (w : World) : (eqGuard op 81 A B (.agg xs) (.agg ys)).run Tryd.prog w = .ok () w := run_eqGuard_agg w op 81 A B xs ys (by kernel_rfl)

theorem two_cells (w : World) (x y x' y' : Value) (T T' : TypeId) :
    ((w.alloc (.cells #[x, y] T)).alloc (.cells #[x', y'] T')).cell? ⟨w.heap.size, 0, none⟩ = some x ∧ ((w.alloc (.cells #[x, y] T)).alloc (.cells #[x', y'] T')).cell? ⟨w.heap.size, 1, none⟩ = some y ∧
    ((w.alloc (.cells #[x, y] T)).alloc (.cells #[x', y'] T')).cell? ⟨w.heap.size + 1, 0, none⟩ = some x' ∧ ((w.alloc (.cells #[x, y] T)).alloc (.cells #[x', y'] T')).cell? ⟨w.heap.size + 1, 1, none⟩ = some y' := by
  have h1 := page_cells w x y T
  have h2 := page_cells (w.alloc (.cells #[x, y] T)) x' y' T'
  rw [World.size_alloc] at h2
  exact ⟨by rw [World.cell?_alloc_lt _ _ _ (by simp)]; exact h1.1, by rw [World.cell?_alloc_lt _ _ _ (by simp)]; exact h1.2, h2.1, h2.2⟩
set_option maxRecDepth 100000 in
set_option maxHeartbeats 2000000 in
theorem same_any (l1 l2 : Int) (a1 a2 : Option Addr) (n1 n2 c1 c2 : Nat) (z1 z2 : List Slot) (b : Bool) (w : World) (h1 : Slots w a1 n1 z1) (h2 : Slots w a2 n2 z2) (hn : n1 ≤ 1000000) (hb : b = true ↔ l1 = l2 ∧ z1 = z2) :
    Calls Tryd.prog 14 #[.agg #[.int .i64 l1, .slice a1 n1 c1], .agg #[.int .i64 l2, .slice a2 n2 c2]] w fun e w' => e = .returned (.bool b) ∧ Below w.heap.size w w' := by
  have HB := Lib.hid hb
  clear hb
  have hb0 : Below w.heap.size w ((w.alloc (.cells #[.int .i64 l1, .slice a1 n1 c1] 41)).alloc (.cells #[.int .i64 l2, .slice a2 n2 c2] 41)) := ((Below.refl _ _).alloc (Nat.le_refl _) _).alloc (by simp) _
  have HZ1 := Lib.hid h1.len
  have HZ2 := Lib.hid h2.len
  have H1 := Lib.hid (h1.below hb0)
  have H2 := Lib.hid (h2.below hb0)
  clear h1 h2
  obtain ⟨p0, p1, q0, q1⟩ := two_cells w (.int .i64 l1) (.slice a1 n1 c1) (.int .i64 l2) (.slice a2 n2 c2) 41 41
  by_cases hl : l1 = l2
  · subst hl
    by_cases hnn : n1 = n2
    · subst hnn
      go_enter Tryd.func14, Tryd.ntmps14
      go_wp2
      generalize hGen : (w.alloc (.cells #[.int .i64 l1, .slice a1 n1 c1] 41)).alloc (.cells #[.int .i64 l1, .slice a2 n1 c2] 41) = W at p0 p1 q0 q1 hb0 H1 H2 ⊢
      clear hGen
      go_loopw [5] (fun i wr => ∃ k q : Nat, k ≤ n1 ∧ i = .int .i64 k ∧ wr = W.drewN q ∧ Hid (z1.take k = z2.take k)) (fun i _ => n1 - (intOf i).toNat)
      case atStart => exact ⟨0, 0, Nat.zero_le _, rfl, rfl, Lib.hid rfl⟩
      case round =>
        obtain ⟨k, q, hk, rfl, rfl, ht⟩ := hrel
        by_cases hlt : k < n1
        · obtain ⟨b1, off1, u, d, rfl, hb1, hg1, x1, x2, hd1⟩ := H1.out.at_ hlt
          obtain ⟨b2, off2, v, e, rfl, hb2, hg2, y1, y2, hd2⟩ := H2.out.at_ hlt
          have he := run_ne_slot u v d e
          have hgd := run_guard_slot
          have G1 := Lib.hid hg1
          have G2 := Lib.hid hg2
          clear hg1 hg2 hb1 hb2
          have i0 : (0 : Int) ≤ (k : Int) := by omega
          have i1 : (k : Int) < (n1 : Int) := by omega
          cases hs : sameB ⟨u, d⟩ ⟨v, e⟩ with
          | true =>
            have hE := (sameB_iff _ _).1 hs
            have HT : z1.take (k + 1) = z2.take (k + 1) := by rw [take_next G1.out, take_next G2.out, ht.out, hE]
            have HT := Lib.hid HT
            clear hE
            go_wp2
            go_quiet (fail)
            go_wp2
            go_roundw
            case rel => exact ⟨k + 1, _, by omega, by go_num, rfl, HT⟩
            case measure => simp [intOf]; omega
          | false =>
            have hE : ¬ z1 = z2 := fun h => by
              have := G1.out; rw [h, G2.out] at this
              injection this with this
              rw [(sameB_iff _ _).2 this.symm] at hs; cases hs
            have HE := Lib.hid hE
            clear hE
            go_wp2
            go_quiet (fail)
            go_wp2
            go_ret
            exact ⟨ret_bool' (by have := HB.out; cases b <;> simp [HE.out] at this ⊢), below_drewN (below_drewN hb0 _) _⟩
        · obtain rfl : k = n1 := by omega
          go_wp2
          go_ret
          exact ⟨ret_bool' (by have := HB.out; have h2 := ht.out; rw [take_all HZ1.out, take_all HZ2.out] at h2; cases b <;> simp [h2] at this ⊢), below_drewN hb0 _⟩
    · have hE : ¬ z1 = z2 := fun h => hnn (by rw [← HZ1.out, ← HZ2.out, h])
      have hne : ((n1 : Int) != (n2 : Int)) = true := by rw [bne_iff_ne]; omega
      have HE := Lib.hid hE
      clear hE hnn
      go_enter Tryd.func14, Tryd.ntmps14
      go_wp2
      go_ret
      exact ⟨ret_bool' (by have := HB.out; cases b <;> simp [HE.out] at this ⊢), hb0⟩
  · have hne : (l1 != l2) = true := by rw [bne_iff_ne]; exact hl
    have HE := Lib.hid hl
    clear hl
    go_enter Tryd.func14, Tryd.ntmps14
    go_wp2
    go_ret
    exact ⟨ret_bool' (by have := HB.out; cases b <;> simp [HE.out] at this ⊢), hb0⟩
end Go.Proofs.YtnnppdjgmjgjhaaDoor.Slab
