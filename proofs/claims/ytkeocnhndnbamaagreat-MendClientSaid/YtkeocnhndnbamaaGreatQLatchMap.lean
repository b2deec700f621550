/- Maps of numbers in memory, as many entries as there are: look-up, look-up with ok, store, delete; the keys. -/
import Derived.Test.YtkeocnhndnbamaaGreatQBook5
import Derived.Maps.OwnSet
import Derived.Lib.SlKeysI
namespace Go.Proofs.YtkeocnhndnbamaaGreat.Latch
set_option maxRecDepth 100000
open Go.RowKit
open Go.Proofs.YtkeocnhndnbamaaGreat.Mem
open Go.Maps
theorem law : Keyed Tryz.prog 3 := int_keyed Tryz.underlying3
/-- how an element reads: as itself -/
def RV (v : Value) : Option (DataW Value × List MemPlace) := some (.held v, [])
def Sm (x : Int) : Prop := (Lit.int .i64 x).wf = true
theorem sm_of {x : Int} (h : -9223372036854775808 ≤ x ∧ x ≤ 9223372036854775807) : Sm x := by
  unfold Sm Lit.wf; simp [IntKind.min, IntKind.max, IntKind.signed, IntKind.bits]; omega
/-- block b is a map: f; at most n entries -/
def MapN (w : World) (b : Nat) (n : Nat) (f : Int → Option Value) : Prop :=
  ∃ D : DataW Value, w.ownsMap Tryz.prog 3 RV b n D ∧ (∀ x, Sm x → has D (.int .i64 x) = (f x).isSome ∧ ∀ v, f x = some v → ∀ z, D.atKey (.int .i64 x) z = .held v) ∧
    (∀ x, f x ≠ none → Sm x)
theorem key_ne {x y : Int} (h : x ≠ y) : Lit.int .i64 x ≠ Lit.int .i64 y := fun e => h (by injection e)
theorem keyLit {x : Int} (hx : Sm x) : WideAt.IsKeyLit (Lit.int .i64 x) := law.key (keyOf_int_mk Tryz.underlying3 hx)
theorem nodup_sub : ∀ (xs ks : List Int), xs.Nodup → (∀ x ∈ xs, x ∈ ks) → xs.length ≤ ks.length
  | [], ks, _, _ => Nat.zero_le _
  | x :: xs, ks, hn, hb => by
    obtain ⟨h1, h2⟩ := List.nodup_cons.1 hn
    have hx := hb x List.mem_cons_self
    have h := nodup_sub xs (ks.erase x) h2 (fun y hy => by
      have h3 : y ≠ x := fun e => h1 (e ▸ hy)
      exact (List.mem_erase_of_ne h3).2 (hb y (List.mem_cons_of_mem _ hy)))
    rw [List.length_erase, if_pos (by simpa using hx)] at h
    have := List.length_pos_of_mem hx
    simp only [List.length_cons]
    omega
section
variable {w w' : World} {b n : Nat} {f : Int → Option Value}
theorem MapN.lt (h : MapN w b n f) : b < w.heap.size := by obtain ⟨D, h, _⟩ := h; exact h.lt
theorem MapN.dom (h : MapN w b n f) : ∀ x, f x ≠ none → Sm x := by obtain ⟨D, _, _, h⟩ := h; exact h
theorem MapN.mono (h : MapN w b n f) {m : Nat} (hm : n ≤ m) : MapN w b m f := by
  obtain ⟨D, h, h2⟩ := h
  exact ⟨D, h.mono hm, h2⟩
theorem MapN.same (h : MapN w b n f) (e : w'.heap[b]? = w.heap[b]?) : MapN w' b n f := by
  obtain ⟨D, ⟨es, clock, hb, r⟩, h2⟩ := h
  exact ⟨D, ⟨es, clock, e.trans hb, r⟩, h2⟩
theorem MapN.not_cells (h : MapN w b n f) {g : Nat} {t : TypeId} {cs : Array Value} (hg : Blk w g t cs) : b ≠ g := by
  obtain ⟨D, ⟨es, clock, hb, r⟩, h2⟩ := h
  intro e
  subst e
  unfold Blk at hg
  rw [hb] at hg
  cases hg
theorem map_made (w : World) : MapN (w.alloc (.map #[] 0)) w.heap.size 0 (fun _ => none) :=
  ⟨_, World.ownsMap_made _ _ _ _, fun x _ => ⟨rfl, fun s h => by cases h⟩, fun x h => absurd rfl h⟩
open Go.WideElems Go.MapKept in
/-- as many entries as there are -/
theorem owns_tight {H : Type} {P : Program} {k : TypeId} {R : Value → Option (DataW H × List MemPlace)} {m : Nat} {D : DataW H} (h : w.ownsMap P k R b m D) : w.ownsMap P k R b (size D) D := by
  obtain ⟨es, clock, hb, F, _, hD⟩ := h
  refine ⟨es, clock, hb, F, ?_, hD⟩
  rw [hD]
  simp [Maps.size, length_sorted]
open Go.WideElems Go.MapKept Go.WideShapes in
/-- an entry's key is a number that is there -/
theorem owns_keys {m : Nat} {D : DataW Value} (h : w.ownsMap Tryz.prog 3 RV b m D) : ∃ es, D = .map es ∧ (es.map (·.1)).Nodup ∧ ∀ p ∈ es, ∃ x, Sm x ∧ p.1 = .int .i64 x ∧ has D (.int .i64 x) = true := by
  obtain ⟨es0, hD0, hp, _⟩ := h.entries law
  obtain ⟨es, clock, hb, F, _, hD⟩ := h
  refine ⟨es0, hD0, List.pairwise_map.2 hp, fun p hpm => ?_⟩
  rw [hD0] at hD
  injection hD with hD
  rw [hD] at hpm
  obtain ⟨x, hx, rfl⟩ := List.mem_map.1 (mem_sorted.1 hpm)
  obtain ⟨y, hy⟩ := F.reads x hx
  obtain ⟨z, _, hz, hw⟩ := keyOf_int_inv Tryz.underlying3 (rd_key hy)
  have e : (rg Tryz.prog 3 RV x).1 = .int .i64 z := by rw [rg_of hy]; exact hz
  refine ⟨z, hw, e, ?_⟩
  rw [hD0, hD]
  exact List.any_eq_true.2 ⟨rg Tryz.prog 3 RV x, mem_sorted.2 (List.mem_map.2 ⟨x, hx, rfl⟩), by rw [e]; exact WideAt.sameKey_self (keyLit hw)⟩
/-- the keys, each once -/
theorem owns_ints {m : Nat} {D : DataW Value} (h : w.ownsMap Tryz.prog 3 RV b m D) : (intKeys D).Nodup ∧ (∀ x, x ∈ intKeys D ↔ Sm x ∧ has D (.int .i64 x) = true) ∧ size D = (intKeys D).length := by
  obtain ⟨es, rfl, hn, hk⟩ := owns_keys h
  refine ⟨?_, fun x => ?_, by simp [Maps.size, intKeys]⟩
  · have h2 : intKeys (.map es) = (es.map (·.1)).map intOf := by simp [intKeys]
    rw [h2]
    refine List.pairwise_map.2 (hn.imp_of_mem fun {a b} ha hb hne e => hne ?_)
    obtain ⟨p, hp, rfl⟩ := List.mem_map.1 ha
    obtain ⟨q, hq, rfl⟩ := List.mem_map.1 hb
    obtain ⟨x, _, ex, _⟩ := hk p hp
    obtain ⟨y, _, ey, _⟩ := hk q hq
    rw [ex, ey] at e ⊢
    simp only [intOf] at e
    rw [e]
  · constructor
    · intro hx
      obtain ⟨p, hp, rfl⟩ := List.mem_map.1 hx
      obtain ⟨y, hy, ey, hh⟩ := hk p hp
      rw [ey]
      exact ⟨hy, hh⟩
    · rintro ⟨hx, hh⟩
      obtain ⟨p, hp, hs⟩ := List.any_eq_true.1 hh
      obtain ⟨y, hy, ey, _⟩ := hk p hp
      refine List.mem_map.2 ⟨p, hp, ?_⟩
      rw [ey] at hs ⊢
      simpa [Lit.sameKey, intOf, eq_comm] using hs
/-- no more entries than keys -/
theorem MapN.fit (h : MapN w b n f) {ks : List Int} (hk : ∀ x, f x ≠ none → x ∈ ks) : MapN w b ks.length f := by
  obtain ⟨D, h, h2, h3⟩ := h
  obtain ⟨i1, i2, i3⟩ := owns_ints h
  refine ⟨D, (owns_tight h).mono ?_, h2, h3⟩
  rw [i3]
  refine nodup_sub _ _ i1 fun x hx => hk x fun e => ?_
  obtain ⟨s, hh⟩ := (i2 x).1 hx
  rw [(h2 x s).1, e] at hh
  cases hh
theorem MapN.ext (h : MapN w b n f) {g : Int → Option Value} (e : ∀ x, f x = g x) : MapN w b n g := by
  obtain rfl : f = g := funext e
  exact h
/-- a look-up -/
theorem MapN.look {t e : TypeId} {z : Value} (h : MapN w b n f) (ht : Tryz.prog.underlying t = some (.map 3 e)) (hz : (zeroValue e).run Tryz.prog w = .ok z w) {x : Int} (hx : Sm x) :
    (Instr.lookup t (.map (some b)) (.int .i64 x) false).run Tryz.prog w = .ok ((f x).getD z) w := by
  obtain ⟨D, h, h2, _⟩ := h
  obtain ⟨v, ps, hr, hv⟩ := h.lookup law ht hz (zd := .held z) rfl (keyOf_int_mk Tryz.underlying3 hx)
  rw [hr]
  obtain ⟨g1, g2⟩ := h2 x hx
  unfold RV at hv
  injection hv with hv
  injection hv with hv _
  cases hf : f x with
  | none =>
    rw [hf] at g1
    rw [atKey_of_not_has g1] at hv
    injection hv with hv
    rw [hv]; rfl
  | some u =>
    rw [g2 u hf] at hv
    injection hv with hv
    rw [hv]; rfl
/-- .. with ok -/
theorem MapN.look_ok {t e : TypeId} {z : Value} (h : MapN w b n f) (ht : Tryz.prog.underlying t = some (.map 3 e)) (hz : (zeroValue e).run Tryz.prog w = .ok z w) {x : Int} (hx : Sm x) :
    (Instr.lookup t (.map (some b)) (.int .i64 x) true).run Tryz.prog w = .ok (.tuple #[(f x).getD z, .bool (f x).isSome]) w := by
  obtain ⟨D, h, h2, _⟩ := h
  obtain ⟨v, ps, hr, hv⟩ := h.look_ok law ht hz (zd := .held z) (zp := []) rfl (keyOf_int_mk Tryz.underlying3 hx)
  rw [hr]
  obtain ⟨g1, g2⟩ := h2 x hx
  unfold RV at hv
  injection hv with hv
  injection hv with hv _
  rw [g1]
  cases hf : f x with
  | none =>
    rw [hf] at g1
    rw [atKey_of_not_has g1] at hv
    injection hv with hv
    rw [hv]; rfl
  | some u =>
    rw [g2 u hf] at hv
    injection hv with hv
    rw [hv]; rfl
/-- a store -/
theorem MapN.put {t e : TypeId} (h : MapN w b n f) (ht : Tryz.prog.underlying t = some (.map 3 e)) {x : Int} (hx : Sm x) (hn : n < maxLen) (v : Value) :
    ∃ w', (Instr.mapUpdate t (.map (some b)) (.int .i64 x) v).run Tryz.prog w = .ok () w' ∧ MapN w' b (n + 1) (fun y => if y = x then some v else f y) ∧ w.mapTurned w' b := by
  obtain ⟨D, h, h2, h3⟩ := h
  obtain ⟨w', hr, ho, ht⟩ := h.store law ht hn (keyOf_int_mk Tryz.underlying3 hx) (d := .held v) (ps := []) rfl
  have hgood : ∀ y, Sm y → has (D.put (.int .i64 x) (.held v)) (.int .i64 y) = (if y = x then some v else f y).isSome ∧ ∀ u, (if y = x then some v else f y) = some u → ∀ z, (D.put (.int .i64 x) (.held v)).atKey (.int .i64 y) z = .held u := by
    intro y hy
    by_cases hyx : y = x
    · subst hyx
      refine ⟨?_, fun t ht z => ?_⟩
      · rw [has_put_same h.isMap (keyLit hy)]; simp
      · simp at ht; subst ht
        exact atKey_put_same h.isMap (keyLit hy) _ _
    · obtain ⟨g1, g2⟩ := h2 y hy
      rw [if_neg hyx, has_put_other (key_ne hyx)]
      refine ⟨g1, fun t ht z => ?_⟩
      rw [atKey_put_other (key_ne hyx)]
      exact g2 t ht z
  refine ⟨w', hr, ⟨_, ho, hgood, fun y hy => ?_⟩, ht⟩
  by_cases hyx : y = x
  · rw [hyx]; exact hx
  · dsimp only at hy; rw [if_neg hyx] at hy; exact h3 y hy
/-- two rising lists with the same members are one -/
theorem sorted_eq : ∀ (a b : List Int), a.Pairwise (fun x y => x < y) → b.Pairwise (fun x y => x < y) → (∀ x, x ∈ a ↔ x ∈ b) → a = b
  | [], [], _, _, _ => rfl
  | [], y :: b, _, _, h => absurd ((h y).2 List.mem_cons_self) (by simp)
  | x :: a, [], _, _, h => absurd ((h x).1 List.mem_cons_self) (by simp)
  | x :: a, y :: b, ha, hb, h => by
    obtain ⟨ha1, ha2⟩ := List.pairwise_cons.1 ha
    obtain ⟨hb1, hb2⟩ := List.pairwise_cons.1 hb
    have e : x = y := by
      rcases List.mem_cons.1 ((h x).1 List.mem_cons_self) with e | h1
      · exact e
      · rcases List.mem_cons.1 ((h y).2 List.mem_cons_self) with e | h2
        · exact e.symm
        · have := hb1 x h1; have := ha1 y h2; omega
    subst e
    rw [sorted_eq a b ha2 hb2 fun z => ?_]
    constructor
    · intro hz
      rcases List.mem_cons.1 ((h z).1 (List.mem_cons_of_mem _ hz)) with e | h1
      · have := ha1 z hz; omega
      · exact h1
    · intro hz
      rcases List.mem_cons.1 ((h z).2 (List.mem_cons_of_mem _ hz)) with e | h1
      · have := hb1 z hz; omega
      · exact h1
theorem merge_eq {ss ks : List Int} (hn : ss.Nodup) (hk : ks.Pairwise (fun x y => x < y)) (hm : ∀ x, x ∈ ss ↔ x ∈ ks) :
    ss.mergeSort (fun x y => decide (x ≤ y)) = ks := by
  have hp := List.mergeSort_perm ss (fun x y => decide (x ≤ y))
  have hs := List.pairwise_mergeSort (le := fun x y : Int => decide (x ≤ y)) (fun a b c h1 h2 => by simp at *; omega) (fun a b => by simp; omega) ss
  refine sorted_eq _ _ ?_ hk fun x => ?_
  · have hd : (ss.mergeSort fun x y => decide (x ≤ y)).Nodup := (hp.nodup_iff).2 hn
    have := List.Pairwise.and hs hd
    refine this.imp fun {a b} h => ?_
    have h1 := h.1
    have h2 := h.2
    simp at h1
    omega
  · rw [hp.mem_iff, hm]
end
end Go.Proofs.YtkeocnhndnbamaaGreat.Latch
