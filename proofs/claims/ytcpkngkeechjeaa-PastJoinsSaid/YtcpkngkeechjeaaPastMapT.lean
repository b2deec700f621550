/- Maps by names of transactions, in memory: look-up with ok and without, store; their keys. -/
import Derived.Test.YtcpkngkeechjeaaPastNames
import Derived.Maps.OwnSet
import Derived.Maps.Range
import Derived.DeepKeys4
namespace Go.Proofs.Ytcpkngkeechjeaa.Past
set_option maxRecDepth 100000
open Go.RowKit
open Go.Proofs.Ytcpkngkeechjeaa.Mem
open Go.Maps
theorem laidOut : laidOutB Try.prog = true := by kernel_rfl
theorem wideT : (match Try.prog.underlying 24 with | some (.array _ _) | some (.struct _) => true | _ => false) = true := by rw [Try.underlying24]
theorem lawT : Keyed Try.prog 24 := Keyed.of_law (deep_law_laid laidOut (m := 2) (by omega) (of_decide_eq_true (by kernel_rfl)) (by kernel_rfl) wideT)
/-- a number of the kind -/
def SmI (x : Int) : Prop := (Lit.int .i64 x).wf = true
theorem smI_of {x : Int} (h : -9223372036854775808 ≤ x ∧ x ≤ 9223372036854775807) : SmI x := by
  unfold SmI Lit.wf; simp [IntKind.min, IntKind.max, IntKind.signed, IntKind.bits]; omega
def SmT (t : T3) : Prop := SmI t.cl ∧ SmI t.ep ∧ SmI t.n
def litT (t : T3) : Lit := .string (keyBytes [.int .i64 t.cl, .int .i64 t.ep, .int .i64 t.n])
theorem keyLits_int (d : Nat) (x : Int) : Try.prog.keyLits (d + 1) 3 [.int .i64 x] = if (Lit.int .i64 x).wf = true then some [.int .i64 x] else none := by
  unfold Program.keyLits
  rw [Try.underlying3]
  simp
theorem keyLits_int_inv (d : Nat) (v : Value) (L : List Lit) (h : Try.prog.keyLits (d + 1) 3 [v] = some L) : ∃ x, SmI x ∧ v = .int .i64 x ∧ L = [.int .i64 x] := by
  unfold Program.keyLits at h
  rw [Try.underlying3] at h
  cases v <;> simp at h
  obtain ⟨⟨rfl, h2⟩, rfl⟩ := h
  exact ⟨_, h2, rfl, rfl⟩
theorem cellsT : Try.prog.cellsOf 24 = 3 := by kernel_rfl
theorem cellsI : Try.prog.cellsOf 3 = 1 := by kernel_rfl
theorem keyLits_txn (d : Nat) (v0 v1 v2 : Value) : Try.prog.keyLits (d + 1) 24 [v0, v1, v2] =
    ([Try.prog.keyLits d 3 [v0], Try.prog.keyLits d 3 [v1], Try.prog.keyLits d 3 [v2]].mapM id).map List.flatten := by
  conv => lhs; unfold Program.keyLits
  rw [Try.underlying24]
  simp [cellsT, cellsI]
theorem keyType_txn : Try.prog.keyType 24 = true := by kernel_rfl
theorem formed_txn (v0 v1 v2 : Value) : (Value.agg #[v0, v1, v2]).formed Try.prog 24 = true := by simp [Value.formed, Try.underlying24, cellsT]
theorem types_pos : ∃ d, Try.prog.types.size + 1 = d + 1 + 1 := ⟨Try.prog.types.size - 1, by have : 0 < Try.prog.types.size := of_decide_eq_true (by kernel_rfl); omega⟩
theorem keyT_mk {t : T3} (h : SmT t) : keyOf Try.prog 24 (.agg #[.int .i64 t.cl, .int .i64 t.ep, .int .i64 t.n]) = some (litT t) := by
  obtain ⟨h1, h2, h3⟩ := h
  unfold SmI at h1 h2 h3
  obtain ⟨d, hd⟩ := types_pos
  unfold keyOf
  rw [Try.underlying24]
  rw [show (Value.agg #[.int .i64 t.cl, .int .i64 t.ep, .int .i64 t.n]).cells.toList = [.int .i64 t.cl, .int .i64 t.ep, .int .i64 t.n] from rfl]
  simp only [keyType_txn, formed_txn, Bool.and_self, if_true, hd, keyLits_txn, keyLits_int, h1, h2, h3]
  simp [litT]
theorem keyT_inv {v : Value} {l : Lit} (h : keyOf Try.prog 24 v = some l) : ∃ t : T3, v = .agg #[.int .i64 t.cl, .int .i64 t.ep, .int .i64 t.n] ∧ SmT t ∧ l = litT t := by
  obtain ⟨xs, L, rfl, hL, rfl⟩ := keyOf_top wideT h
  obtain ⟨d, hd⟩ := types_pos
  rw [hd] at hL
  have hlen : xs.toList.length = 3 := by
    unfold Program.keyLits at hL
    rw [Try.underlying24] at hL
    simp only [cellsT] at hL
    split at hL
    · rename_i h3; exact h3.1
    · cases hL
  obtain ⟨ys, rfl⟩ : ∃ ys : List Value, xs = ys.toArray := ⟨xs.toList, by simp⟩
  simp only [] at hL hlen
  match ys, hlen with
  | [v0, v1, v2], _ =>
    rw [keyLits_txn] at hL
    cases e0 : Try.prog.keyLits (d + 1) 3 [v0] with
    | none => rw [e0] at hL; simp at hL
    | some L0 =>
      cases e1 : Try.prog.keyLits (d + 1) 3 [v1] with
      | none => rw [e0, e1] at hL; simp at hL
      | some L1 =>
        cases e2 : Try.prog.keyLits (d + 1) 3 [v2] with
        | none => rw [e0, e1, e2] at hL; simp at hL
        | some L2 =>
          obtain ⟨a, ha, rfl, rfl⟩ := keyLits_int_inv _ _ _ e0
          obtain ⟨b, hb, rfl, rfl⟩ := keyLits_int_inv _ _ _ e1
          obtain ⟨c, hc, rfl, rfl⟩ := keyLits_int_inv _ _ _ e2
          rw [e0, e1, e2] at hL
          simp at hL
          exact ⟨⟨a, b, c⟩, rfl, ⟨ha, hb, hc⟩, by rw [← hL]; rfl⟩
theorem litT_inj {a b : T3} (ha : SmT a) (hb : SmT b) (e : litT a = litT b) : a = b := by
  have h := lawT.inj (keyT_mk ha) (e ▸ keyT_mk hb)
  injection h with h
  simp at h
  exact t3_eq.2 h
/-- how an element reads: as itself -/
def RVT (v : Value) : Option (DataW Value × List MemPlace) := some (.held v, [])
/-- block b is a map: f; at most n entries -/
def MapT (w : World) (b : Nat) (n : Nat) (f : T3 → Option Value) : Prop :=
  ∃ D : DataW Value, w.ownsMap Try.prog 24 RVT b n D ∧ (∀ x, SmT x → has D (litT x) = (f x).isSome ∧ ∀ v, f x = some v → ∀ z, D.atKey (litT x) z = .held v) ∧
    (∀ x, f x ≠ none → SmT x)
theorem keyLitT {x : T3} (hx : SmT x) : WideAt.IsKeyLit (litT x) := lawT.key (keyT_mk hx)
section
variable {w w' : World} {b n : Nat} {f : T3 → Option Value}
theorem MapT.lt (h : MapT w b n f) : b < w.heap.size := by obtain ⟨D, h, _⟩ := h; exact h.lt
theorem MapT.dom (h : MapT w b n f) : ∀ x, f x ≠ none → SmT x := by obtain ⟨D, _, _, h⟩ := h; exact h
theorem MapT.mono (h : MapT w b n f) {m : Nat} (hm : n ≤ m) : MapT w b m f := by
  obtain ⟨D, h, h2⟩ := h
  exact ⟨D, h.mono hm, h2⟩
theorem MapT.same (h : MapT w b n f) (e : w'.heap[b]? = w.heap[b]?) : MapT w' b n f := by
  obtain ⟨D, ⟨es, clock, hb, r⟩, h2⟩ := h
  exact ⟨D, ⟨es, clock, e.trans hb, r⟩, h2⟩
theorem MapT.not_cells (h : MapT w b n f) {g : Nat} {t : TypeId} {cs : Array Value} (hg : Blk w g t cs) : b ≠ g := by
  obtain ⟨D, ⟨es, clock, hb, r⟩, h2⟩ := h
  intro e
  subst e
  unfold Blk at hg
  rw [hb] at hg
  cases hg
theorem mapT_made (w : World) : MapT (w.alloc (.map #[] 0)) w.heap.size 0 (fun _ => none) :=
  ⟨_, World.ownsMap_made _ _ _ _, fun x _ => ⟨rfl, fun s h => by cases h⟩, fun x h => absurd rfl h⟩
theorem MapT.ext (h : MapT w b n f) {g : T3 → Option Value} (e : ∀ x, f x = g x) : MapT w b n g := by
  obtain rfl : f = g := funext e
  exact h
/-- a look-up -/
theorem MapT.look {t e : TypeId} {z : Value} (h : MapT w b n f) (ht : Try.prog.underlying t = some (.map 24 e)) (hz : (zeroValue e).run Try.prog w = .ok z w) {x : T3} (hx : SmT x) :
    (Instr.lookup t (.map (some b)) (.agg #[.int .i64 x.cl, .int .i64 x.ep, .int .i64 x.n]) false).run Try.prog w = .ok ((f x).getD z) w := by
  obtain ⟨D, h, h2, _⟩ := h
  obtain ⟨v, ps, hr, hv⟩ := h.lookup lawT ht hz (zd := .held z) rfl (keyT_mk hx)
  rw [hr]
  obtain ⟨g1, g2⟩ := h2 x hx
  unfold RVT at hv
  injection hv with hv
  injection hv with hv _
  cases hf : f x with
  | none =>
    rw [hf] at g1
    rw [atKey_of_not_has g1] at hv
    injection hv with hv
    rw [hv]; rfl
  | some u =>
    rw [g2 u hf] at hv
    injection hv with hv
    rw [hv]; rfl
/-- .. with ok -/
theorem MapT.look_ok {t e : TypeId} {z : Value} (h : MapT w b n f) (ht : Try.prog.underlying t = some (.map 24 e)) (hz : (zeroValue e).run Try.prog w = .ok z w) {x : T3} (hx : SmT x) :
    (Instr.lookup t (.map (some b)) (.agg #[.int .i64 x.cl, .int .i64 x.ep, .int .i64 x.n]) true).run Try.prog w = .ok (.tuple #[(f x).getD z, .bool (f x).isSome]) w := by
  obtain ⟨D, h, h2, _⟩ := h
  obtain ⟨v, ps, hr, hv⟩ := h.look_ok lawT ht hz (zd := .held z) (zp := []) rfl (keyT_mk hx)
  rw [hr]
  obtain ⟨g1, g2⟩ := h2 x hx
  unfold RVT at hv
  injection hv with hv
  injection hv with hv _
  rw [g1]
  cases hf : f x with
  | none =>
    rw [hf] at g1
    rw [atKey_of_not_has g1] at hv
    injection hv with hv
    rw [hv]; rfl
  | some u =>
    rw [g2 u hf] at hv
    injection hv with hv
    rw [hv]; rfl
/-- a store -/
theorem MapT.put {t e : TypeId} (h : MapT w b n f) (ht : Try.prog.underlying t = some (.map 24 e)) {x : T3} (hx : SmT x) (hn : n < maxLen) (v : Value) :
    ∃ w', (Instr.mapUpdate t (.map (some b)) (.agg #[.int .i64 x.cl, .int .i64 x.ep, .int .i64 x.n]) v).run Try.prog w = .ok () w' ∧ MapT w' b (n + 1) (fun y => if y = x then some v else f y) ∧ w.mapTurned w' b := by
  obtain ⟨D, h, h2, h3⟩ := h
  obtain ⟨w', hr, ho, ht⟩ := h.store lawT ht hn (keyT_mk hx) (d := .held v) (ps := []) rfl
  have hgood : ∀ y, SmT y → has (D.put (litT x) (.held v)) (litT y) = (if y = x then some v else f y).isSome ∧ ∀ u, (if y = x then some v else f y) = some u → ∀ z, (D.put (litT x) (.held v)).atKey (litT y) z = .held u := by
    intro y hy
    by_cases hyx : y = x
    · subst hyx
      refine ⟨?_, fun t ht z => ?_⟩
      · rw [has_put_same h.isMap (keyLitT hy)]; simp
      · simp at ht; subst ht
        exact atKey_put_same h.isMap (keyLitT hy) _ _
    · have hne : litT y ≠ litT x := fun e => hyx (litT_inj hy hx e)
      obtain ⟨g1, g2⟩ := h2 y hy
      rw [if_neg hyx, has_put_other hne]
      refine ⟨g1, fun t ht z => ?_⟩
      rw [atKey_put_other hne]
      exact g2 t ht z
  refine ⟨w', hr, ⟨_, ho, hgood, fun y hy => ?_⟩, ht⟩
  by_cases hyx : y = x
  · rw [hyx]; exact hx
  · dsimp only at hy; rw [if_neg hyx] at hy; exact h3 y hy
end
/-! ### Names that have come out of a range -/
/-- no name twice; a name is on the list just where the map has it and it is no longer to come -/
def Come (D : DataW Value) (left : Lit → Bool) (ss : List T3) : Prop := ss.Nodup ∧ (∀ x ∈ ss, SmT x) ∧ ∀ x, SmT x → (x ∈ ss ↔ (has D (litT x) = true ∧ left (litT x) = false))
theorem come_start (D : DataW Value) : Come D (has D) [] := ⟨List.nodup_nil, ⟨fun x h => (nomatch h), fun x _ => by cases has D (litT x) <;> simp⟩⟩
theorem come_step {D : DataW Value} {left : Lit → Bool} {ss : List T3} (h : Come D left ss) {x : T3} {y : DataW Value} (hx : SmT x) (hlk : left (litT x) = true) (hat : ∀ zd, D.atKey (litT x) zd = y) : Come D (fun z => left z && !z.sameKey (litT x)) (ss ++ [x]) := by
  have hhas : has D (litT x) = true := has_true_of_atKey hat
  have hnew : x ∉ ss := fun h1 => by have := ((h.2.2 x hx).1 h1).2; rw [hlk] at this; cases this
  refine ⟨List.nodup_append.2 ⟨h.1, by simp, fun a ha b hb => by simp at hb; subst hb; exact fun e => hnew (e ▸ ha)⟩, fun z hz => ?_, fun z hz => ?_⟩
  · rcases List.mem_append.1 hz with hz | hz
    · exact h.2.1 z hz
    · rw [List.mem_singleton] at hz; rw [hz]; exact hx
  · by_cases e : z = x
    · subst e
      have h5 : (litT z).sameKey (litT z) = true := by simp [litT, Lit.sameKey]
      dsimp only
      rw [h5]
      simp [hhas]
    · have hne : litT z ≠ litT x := fun e2 => e (litT_inj hz hx e2)
      have h4 := h.2.2 z hz
      have h5 : (litT z).sameKey (litT x) = false := by
        unfold litT at hne ⊢
        simp only [Lit.sameKey]
        simpa using hne
      dsimp only
      rw [List.mem_append, List.mem_singleton, h4, h5]
      simp [e]
end Go.Proofs.Ytcpkngkeechjeaa.Past
