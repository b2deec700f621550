/- Maps of numbers in memory, whatever their elements: an element is a value of one cell. -/
import Derived.Test.YthodggkpkjfggaaMem
import Derived.Test.YthodggkpkjfggaaKeyMath
import Derived.Maps.OwnSet
import Derived.Maps.RangeWalk
namespace Go.Proofs.Ythodggkpkjfggaa.Key
set_option maxRecDepth 100000
open Go.RowKit
open Go.Proofs.Ythodggkpkjfggaa.Mem
open Go.Maps
theorem law : Keyed Try.prog 3 := int_keyed Try.underlying3
/-- how an element reads: as itself -/
def RV (v : Value) : Option (DataW Value × List MemPlace) := some (.held v, [])
def Sm (x : Int) : Prop := (Lit.int .i64 x).wf = true
theorem sm_of {x : Int} (h : -9223372036854775808 ≤ x ∧ x ≤ 9223372036854775807) : Sm x := by
  unfold Sm Lit.wf; simp [IntKind.min, IntKind.max, IntKind.signed, IntKind.bits]; omega
theorem of_sm {x : Int} (h : Sm x) : -9223372036854775808 ≤ x ∧ x ≤ 9223372036854775807 := by
  unfold Sm Lit.wf at h; simp [IntKind.min, IntKind.max, IntKind.signed, IntKind.bits] at h; omega
/-- block b is a map: f -/
def MapV (w : World) (b : Nat) (lo : Int) (n : Nat) (f : Int → Option Value) : Prop :=
  ∃ D : DataW Value, w.ownsMap Try.prog 3 RV b n D ∧ (∀ x, Sm x → has D (.int .i64 x) = (f x).isSome ∧ ∀ v, f x = some v → ∀ z, D.atKey (.int .i64 x) z = .held v) ∧
    (∀ x, f x ≠ none → Sm x ∧ lo ≤ x ∧ x < lo + n)
theorem key_ne {x y : Int} (h : x ≠ y) : Lit.int .i64 x ≠ Lit.int .i64 y := fun e => h (by injection e)
theorem keyLit {x : Int} (hx : Sm x) : WideAt.IsKeyLit (Lit.int .i64 x) := law.key (keyOf_int_mk Try.underlying3 hx)
section
variable {w w' : World} {b n : Nat} {lo : Int} {f : Int → Option Value}
theorem MapV.lt (h : MapV w b lo n f) : b < w.heap.size := by obtain ⟨D, h, _⟩ := h; exact h.lt
theorem MapV.dom (h : MapV w b lo n f) : ∀ x, f x ≠ none → Sm x ∧ lo ≤ x ∧ x < lo + n := by obtain ⟨D, _, _, h⟩ := h; exact h
theorem MapV.same (h : MapV w b lo n f) (e : w'.heap[b]? = w.heap[b]?) : MapV w' b lo n f := by
  obtain ⟨D, ⟨es, clock, hb, r⟩, h2⟩ := h
  exact ⟨D, ⟨es, clock, e.trans hb, r⟩, h2⟩
theorem MapV.not_cells (h : MapV w b lo n f) {g : Nat} {t : TypeId} {cs : Array Value} (hg : Blk w g t cs) : b ≠ g := by
  obtain ⟨D, ⟨es, clock, hb, r⟩, h2⟩ := h
  intro e
  subst e
  unfold Blk at hg
  rw [hb] at hg
  cases hg
theorem map_made (w : World) (lo : Int) (n : Nat) : MapV (w.alloc (.map #[] 0)) w.heap.size lo n (fun _ => none) :=
  ⟨_, (World.ownsMap_made _ _ _ _).mono (Nat.zero_le _), fun x _ => ⟨rfl, fun s h => by cases h⟩, fun x h => absurd rfl h⟩
open Go.WideElems Go.MapKept in
/-- as many entries as there are -/
theorem owns_tight {P : Program} {k : TypeId} {R : Value → Option (DataW Value × List MemPlace)} {m : Nat} {D : DataW Value} (h : w.ownsMap P k R b m D) : w.ownsMap P k R b (size D) D := by
  obtain ⟨es, clock, hb, F, _, hD⟩ := h
  refine ⟨es, clock, hb, F, ?_, hD⟩
  rw [hD]
  simp [Maps.size, length_sorted]
open Go.WideElems Go.MapKept Go.WideShapes in
/-- an entry's key is a number that is there -/
theorem owns_keys {m : Nat} {D : DataW Value} (h : w.ownsMap Try.prog 3 RV b m D) : ∃ es, D = .map es ∧ (es.map (·.1)).Nodup ∧ ∀ p ∈ es, ∃ x, Sm x ∧ p.1 = .int .i64 x ∧ has D (.int .i64 x) = true := by
  obtain ⟨es0, hD0, hp, _⟩ := h.entries law
  obtain ⟨es, clock, hb, F, _, hD⟩ := h
  refine ⟨es0, hD0, List.pairwise_map.2 hp, fun p hpm => ?_⟩
  rw [hD0] at hD
  injection hD with hD
  rw [hD] at hpm
  obtain ⟨x, hx, rfl⟩ := List.mem_map.1 (mem_sorted.1 hpm)
  obtain ⟨y, hy⟩ := F.reads x hx
  obtain ⟨z, _, hz, hw⟩ := keyOf_int_inv Try.underlying3 (rd_key hy)
  have e : (rg Try.prog 3 RV x).1 = .int .i64 z := by rw [rg_of hy]; exact hz
  refine ⟨z, hw, e, ?_⟩
  rw [hD0, hD]
  exact List.any_eq_true.2 ⟨rg Try.prog 3 RV x, mem_sorted.2 (List.mem_map.2 ⟨x, hx, rfl⟩), by rw [e]; exact WideAt.sameKey_self (keyLit hw)⟩
def litInt : Lit → Int
  | .int _ x => x
  | _ => 0
theorem size_dom {m n : Nat} {lo : Int} {D : DataW Value} (h : w.ownsMap Try.prog 3 RV b m D) (hd : ∀ x, Sm x → has D (.int .i64 x) = true → lo ≤ x ∧ x < lo + n) : size D ≤ n := by
  obtain ⟨es, rfl, hn, hk⟩ := owns_keys h
  have h1 := nodup_len n lo (es.map fun p => litInt p.1) (by
    have h2 : (es.map fun p => litInt p.1) = (es.map (·.1)).map litInt := by simp
    rw [h2]
    refine List.pairwise_map.2 (hn.imp_of_mem fun {a b} ha hb hne e => hne ?_)
    obtain ⟨p, hp, rfl⟩ := List.mem_map.1 ha
    obtain ⟨q, hq, rfl⟩ := List.mem_map.1 hb
    obtain ⟨x, _, ex, _⟩ := hk p hp
    obtain ⟨y, _, ey, _⟩ := hk q hq
    rw [ex, ey] at e ⊢
    simp only [litInt] at e
    rw [e]) (fun x hx => by
    obtain ⟨p, hp, rfl⟩ := List.mem_map.1 hx
    obtain ⟨y, hy, ey, hh⟩ := hk p hp
    rw [ey]
    exact hd y hy hh)
  simpa [Maps.size] using h1
/-- a look-up -/
theorem MapV.look {t e : TypeId} {z : Value} (h : MapV w b lo n f) (ht : Try.prog.underlying t = some (.map 3 e)) (hz : (zeroValue e).run Try.prog w = .ok z w) {x : Int} (hx : Sm x) :
    (Instr.lookup t (.map (some b)) (.int .i64 x) false).run Try.prog w = .ok ((f x).getD z) w := by
  obtain ⟨D, h, h2, _⟩ := h
  obtain ⟨v, ps, hr, hv⟩ := h.lookup law ht hz (zd := .held z) rfl (keyOf_int_mk Try.underlying3 hx)
  rw [hr]
  obtain ⟨g1, g2⟩ := h2 x hx
  unfold RV at hv
  injection hv with hv
  injection hv with hv _
  cases hf : f x with
  | none =>
    rw [hf] at g1
    rw [atKey_of_not_has g1] at hv
    injection hv with hv
    rw [hv]; rfl
  | some u =>
    rw [g2 u hf] at hv
    injection hv with hv
    rw [hv]; rfl
/-- a store -/
theorem MapV.put {t e : TypeId} (h : MapV w b lo n f) (ht : Try.prog.underlying t = some (.map 3 e)) {x : Int} (hx : Sm x ∧ lo ≤ x ∧ x < lo + n) (hn : n < maxLen) (v : Value) :
    ∃ w', (Instr.mapUpdate t (.map (some b)) (.int .i64 x) v).run Try.prog w = .ok () w' ∧ MapV w' b lo n (fun y => if y = x then some v else f y) ∧ w.mapTurned w' b := by
  obtain ⟨D, h, h2, h3⟩ := h
  obtain ⟨w', hr, ho, ht⟩ := h.store law ht hn (keyOf_int_mk Try.underlying3 hx.1) (d := .held v) (ps := []) rfl
  have hgood : ∀ y, Sm y → has (D.put (.int .i64 x) (.held v)) (.int .i64 y) = (if y = x then some v else f y).isSome ∧ ∀ u, (if y = x then some v else f y) = some u → ∀ z, (D.put (.int .i64 x) (.held v)).atKey (.int .i64 y) z = .held u := by
    intro y hy
    by_cases hyx : y = x
    · subst hyx
      refine ⟨?_, fun t ht z => ?_⟩
      · rw [has_put_same h.isMap (keyLit hy)]; simp
      · simp at ht; subst ht
        exact atKey_put_same h.isMap (keyLit hy) _ _
    · obtain ⟨g1, g2⟩ := h2 y hy
      rw [if_neg hyx, has_put_other (key_ne hyx)]
      refine ⟨g1, fun t ht z => ?_⟩
      rw [atKey_put_other (key_ne hyx)]
      exact g2 t ht z
  have hdom : ∀ y, (if y = x then some v else f y) ≠ none → Sm y ∧ lo ≤ y ∧ y < lo + n := by
    intro y hy
    by_cases hyx : y = x
    · rw [hyx]; exact hx
    · rw [if_neg hyx] at hy; exact h3 y hy
  refine ⟨w', hr, ⟨_, (owns_tight ho).mono (size_dom (lo := lo) ho fun y hy hh => ?_), hgood, hdom⟩, ht⟩
  rw [(hgood y hy).1] at hh
  exact (hdom y (fun e => by rw [e] at hh; cases hh)).2
/-- delete -/
theorem MapV.del {t e : TypeId} (h : MapV w b lo n f) (ht : Try.prog.underlying t = some (.map 3 e)) {x : Int} (hx : Sm x) (ty : TypeId) :
    ∃ w', (Builtin.delete_ #[t, 3] ty #[.map (some b), .int .i64 x]).run Try.prog w = .ok (.tuple #[]) w' ∧ MapV w' b lo n (fun y => if y = x then none else f y) ∧ w.mapTurned w' b := by
  obtain ⟨D, h, h2, h3⟩ := h
  obtain ⟨w', hr, ho, ht⟩ := h.drop law ht (keyOf_int_mk Try.underlying3 hx) ty
  refine ⟨w', hr, ⟨_, ho, fun y hy => ?_, fun y hy => ?_⟩, ht⟩
  · by_cases hyx : y = x
    · subst hyx
      refine ⟨?_, fun t ht z => ?_⟩
      · rw [has_del_same]; simp
      · simp at ht
    · obtain ⟨g1, g2⟩ := h2 y hy
      dsimp only
      rw [if_neg hyx, has_del_other (key_ne hyx)]
      refine ⟨g1, fun t ht z => ?_⟩
      rw [atKey_del_other (key_ne hyx)]
      exact g2 t ht z
  · dsimp only at hy
    by_cases hyx : y = x
    · rw [if_pos hyx] at hy; exact absurd rfl hy
    · rw [if_neg hyx] at hy; exact h3 y hy
/-- how many -/
theorem MapV.len {t e : TypeId} (h : MapV w b lo n f) (ht : Try.prog.underlying t = some (.map 3 e)) (ty : TypeId) : ∃ k : Nat, (Builtin.len_ #[t] ty #[.map (some b)]).run Try.prog w = .ok (.int .i64 k) w ∧ (k = 0 → ∀ x, f x = none) := by
  obtain ⟨D, h, h2, h3⟩ := h
  refine ⟨_, h.len ht ty, fun h0 x => ?_⟩
  obtain ⟨es, rfl, hn, hk⟩ := owns_keys h
  cases hf : f x with
  | none => rfl
  | some v =>
    have hx := (h3 x (by rw [hf]; simp)).1
    have := (h2 x hx).1
    rw [hf] at this
    have he : es = [] := List.eq_nil_of_length_eq_zero h0
    subst he
    cases this
end
end Go.Proofs.Ythodggkpkjfggaa.Key
