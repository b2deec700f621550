/- A map of texts by number in memory. -/
import Derived.Test.YtbbikibkijncgaaCordMath
import Derived.Test.YtbbikibkijncgaaMem
import Derived.Maps.OwnSet
import Derived.Maps.StringElems
namespace Go.Proofs.Ytbbikibkijncgaa.Cord
set_option maxRecDepth 100000
open Go.RowKit
open Go.Proofs.Ytbbikibkijncgaa.Mem
open Go.Maps
theorem law : Keyed Try.prog 3 := int_keyed Try.underlying3
/-- block b is a map of at most n texts: f -/
def MapS (w : World) (b n : Nat) (f : Nat → Option ByteArray) : Prop :=
  ∃ D : DataW Unit, w.ownsMap Try.prog 3 (plainElem Try.prog 9) b n D ∧ ∀ x : Nat, x < 9223372036854775808 → has D (.int .i64 x) = (f x).isSome ∧ ∀ s, f x = some s → ∀ z, D.atKey (.int .i64 x) z = .lit (.string s.data.toList)
section
variable {w w' : World} {b n : Nat} {f : Nat → Option ByteArray}
theorem MapS.lt (h : MapS w b n f) : b < w.heap.size := by obtain ⟨D, h, _⟩ := h; exact h.lt
theorem MapS.same (h : MapS w b n f) (e : w'.heap[b]? = w.heap[b]?) : MapS w' b n f := by
  obtain ⟨D, ⟨es, clock, hb, r⟩, h2⟩ := h
  exact ⟨D, ⟨es, clock, e.trans hb, r⟩, h2⟩
theorem MapS.mono (h : MapS w b n f) {n' : Nat} (hn : n ≤ n') : MapS w b n' f := by
  obtain ⟨D, h, h2⟩ := h; exact ⟨D, h.mono hn, h2⟩
theorem wf_key (x : Nat) (hx : x < 9223372036854775808) : (Lit.int .i64 (x : Int)).wf = true := by
  unfold Lit.wf; simp [IntKind.min, IntKind.max, IntKind.signed, IntKind.bits]; omega
theorem map_made (w : World) : MapS (w.alloc (.map #[] 0)) w.heap.size 0 (fun _ => none) :=
  ⟨_, World.ownsMap_made _ _ _ _, fun x _ => ⟨rfl, fun s h => by cases h⟩⟩
theorem zero_str (w : World) : (zeroValue 9).run Try.prog w = .ok (.string .empty) w := by kernel_rfl
theorem key_ne {x y : Nat} (h : x ≠ y) : Lit.int .i64 (x : Int) ≠ Lit.int .i64 (y : Int) := fun e => h (by injection e with _ e; omega)
theorem keyLit {x : Nat} (hx : x < 9223372036854775808) : WideAt.IsKeyLit (Lit.int .i64 (x : Int)) := law.key (keyOf_int_mk Try.underlying3 (wf_key x hx))
theorem arr_eq {s t : ByteArray} (h : s.data.toList = t.data.toList) : s = t := by
  cases s; cases t
  congr 1
  exact Array.toList_inj.1 h
theorem MapS.look (h : MapS w b n f) {x : Nat} (hx : x < 9223372036854775808) :
    (Instr.lookup 64 (.map (some b)) (.int .i64 (x : Int)) true).run Try.prog w = .ok (.tuple #[.string ((f x).getD .empty), .bool (f x).isSome]) w := by
  obtain ⟨D, h, h2⟩ := h
  obtain ⟨g1, g2⟩ := h2 x hx
  have hz0 : (ByteArray.empty).size ≤ maxLen := by decide
  obtain ⟨v, ps, hr, hv⟩ := h.look_ok law Try.underlying64 (zero_str w) (plainElem_string (H := Unit) Try.underlying9 hz0) (keyOf_int_mk Try.underlying3 (wf_key x hx))
  obtain ⟨s, rfl, hs, _⟩ := plainElem_string_inv Try.underlying9 hv
  rw [hr, g1]
  cases hf : f x with
  | none =>
    rw [hf] at g1
    rw [atKey_of_not_has g1] at hs
    have : s = ByteArray.empty := arr_eq (by injection hs with e _; injection e with e; injection e with e; exact e.symm)
    rw [this]; rfl
  | some t =>
    rw [g2 t hf] at hs
    have : s = t := arr_eq (by injection hs with e _; injection e with e; injection e with e; exact e.symm)
    rw [this]; rfl
theorem MapS.put (h : MapS w b n f) {x : Nat} (hx : x < 9223372036854775808) {s : ByteArray} (hs : s.size ≤ maxLen) (hn : n < maxLen) :
    ∃ w', (Instr.mapUpdate 64 (.map (some b)) (.int .i64 (x : Int)) (.string s)).run Try.prog w = .ok () w' ∧ MapS w' b (n + 1) (upd f x s) ∧ w.mapTurned w' b := by
  obtain ⟨D, h, h2⟩ := h
  obtain ⟨w', hr, ho, ht⟩ := h.store law Try.underlying64 hn (keyOf_int_mk Try.underlying3 (wf_key x hx)) (plainElem_string (H := Unit) Try.underlying9 hs)
  refine ⟨w', hr, ⟨_, ho, fun y hy => ?_⟩, ht⟩
  by_cases hyx : y = x
  · subst hyx
    refine ⟨?_, fun t ht z => ?_⟩
    · rw [has_put_same h.isMap (keyLit hx)]; simp [upd]
    · simp [upd] at ht; subst ht
      exact atKey_put_same h.isMap (keyLit hx) _ _
  · obtain ⟨g1, g2⟩ := h2 y hy
    have e : upd f x s y = f y := by simp [upd, hyx]
    rw [e, has_put_other (key_ne hyx)]
    refine ⟨g1, fun t ht z => ?_⟩
    rw [atKey_put_other (key_ne hyx)]
    exact g2 t ht z
theorem MapS.del (h : MapS w b n f) {x : Nat} (hx : x < 9223372036854775808) (ty : TypeId) :
    ∃ w', (Builtin.delete_ #[64, 3] ty #[.map (some b), .int .i64 (x : Int)]).run Try.prog w = .ok (.tuple #[]) w' ∧ MapS w' b n (fun y => if y = x then none else f y) ∧ w.mapTurned w' b := by
  obtain ⟨D, h, h2⟩ := h
  obtain ⟨w', hr, ho, ht⟩ := h.drop law Try.underlying64 (keyOf_int_mk Try.underlying3 (wf_key x hx)) ty
  refine ⟨w', hr, ⟨_, ho, fun y hy => ?_⟩, ht⟩
  by_cases hyx : y = x
  · subst hyx
    refine ⟨?_, fun t ht z => ?_⟩
    · rw [has_del_same]; simp
    · simp at ht
  · obtain ⟨g1, g2⟩ := h2 y hy
    have e : (fun y => if y = x then none else f y) y = f y := by simp [hyx]
    rw [e, has_del_other (key_ne hyx)]
    refine ⟨g1, fun t ht z => ?_⟩
    rw [atKey_del_other (key_ne hyx)]
    exact g2 t ht z
end
end Go.Proofs.Ytbbikibkijncgaa.Cord
