/- slices.Sorted(maps.Keys(m)) at the two maps: the keys, rising. -/
import Derived.Test.YtlalehoncclnaaaLatchMap
import Derived.Test.YtlalehoncclnaaaShelf4
import Derived.Test.YtlalehoncclnaaaLatchMath
namespace Go.Proofs.Ytlalehoncclnaaa.Latch
set_option maxRecDepth 100000
open Go.RowKit
open Go.Proofs.Ytlalehoncclnaaa.Mem
open Go.Maps Go.Sort Go.Shelf
/-- slices.Sort's two contracts here. -/
theorem sorts (m : Nat) : AnyZI.SortsIn Try.prog Try.sortedI_ren Fence.wide m :=
  ⟨fun blk off cap ss W hH hblk hsz => callsIn_wide.2 (AnyM.slices_Sort_int Try.sortI blk off cap ss W hH hblk hsz),
   fun p cap W => callsIn_wide.2 (AnyM.slices_Sort_int_none Try.sortI p cap W)⟩
/-- maps.Keys: a function value over one new block that holds the map -/
theorem keysU_any (mb : Option Nat) (W : World) : Calls Try.prog 30 #[.map mb] W fun e w' =>
    e = .returned (.func (.func 34) #[] #[.pointer (some ⟨W.heap.size, 0, none⟩)]) ∧ w' = W.alloc (.cells #[.map mb] 54) :=
  (callsIn_wide (n := 5)).1 (AnyZI.keys_in Try.keysU Fence.wide 5 trivial rfl mb W)
theorem keysH_any (mb : Option Nat) (W : World) : Calls Try.prog 31 #[.map mb] W fun e w' =>
    e = .returned (.func (.func 35) #[] #[.pointer (some ⟨W.heap.size, 0, none⟩)]) ∧ w' = W.alloc (.cells #[.map mb] 53) :=
  (callsIn_wide (n := 5)).1 (AnyZI.keys_in Try.keysH Fence.wide 5 trivial rfl mb W)
/-- the keys of a map, as an own row -/
def KeysRes (ks : List Int) (w : World) (e : Ending) (w' : World) : Prop :=
  ∃ v, e = .returned v ∧ w'.ownsRow w.heap.size 3 1 v ks.length (ks.map (Value.int .i64)) ∧ Below w.heap.size w w'
section
variable {w : World} {b n : Nat} {f : Int → Option Value} {ks : List Int}
theorem sortedU_any (h : MapN w b n f) (hn : n ≤ 1000000) (hu : ks.Pairwise (fun x y => x < y)) (hk : ∀ x, x ∈ ks ↔ f x ≠ none) :
    Calls Try.prog 29 #[.func (.func 34) #[] #[.pointer (some ⟨w.heap.size, 0, none⟩)]] (w.alloc (.cells #[.map (some b)] 54)) (KeysRes ks (w.alloc (.cells #[.map (some b)] 54))) := by
  obtain ⟨D0, hown, h2, h3⟩ := h
  have hbl := hown.lt
  have hsz := hown.size_le
  have hmax : Maps.size D0 ≤ maxLen := by unfold maxLen; omega
  have hbytes : Maps.size D0 * 8 ≤ 140737488355328 := by omega
  have hseq : SeqGives Fence.wide 2 Try.prog 34 #[.pointer (some ⟨w.heap.size, 0, none⟩)] encZ (fun ss => ss.Perm (intKeys D0)) (Maps.size D0) (w.alloc (.cells #[.map (some b)] 54)) :=
    AnyZI.keys_gives (ρ := Try.keysU_ren) { Try.keysU with } Fence.wide _ trivial rfl (by omega) w.heap.size b n D0 _ (by simp) (by simp) (by
      obtain ⟨es, clock, hb, Ft, hs, hD⟩ := hown
      exact ⟨es, clock, (Below.heap_alloc _ _ b hbl).trans hb, Ft, hs, hD⟩)
  have cS := AnyZI.sorted_in Try.sortedI Fence.wide 5 trivial trivial trivial trivial rfl (by omega) (sorts _) (enters_of Try.func33 (by kernel_rfl) rfl) 34 #[.pointer (some ⟨w.heap.size, 0, none⟩)] trivial (enters_of Try.func34 (by kernel_rfl) rfl) _ _ hmax hbytes _ hseq
  change CallsIn _ _ Try.prog 29 _ _ _ at cS
  refine ((callsIn_wide (n := 5)).1 cS).mono ?_
  rintro e w' ⟨v, ss, rfl, hS, hrow, _, hb⟩
  obtain ⟨i1, i2, _⟩ := owns_ints hown
  have hm := merge_eq (ss := ss) (ks := ks) (hS.nodup_iff.2 i1) hu fun x => by
    rw [hS.mem_iff, i2, hk]
    constructor
    · rintro ⟨s, hh⟩ e
      rw [(h2 x s).1, e] at hh
      cases hh
    · intro hx
      refine ⟨h3 x hx, ?_⟩
      rw [(h2 x (h3 x hx)).1]
      cases e : f x with
      | none => exact absurd e hx
      | some _ => rfl
  have hl : ss.length = ks.length := by rw [← hm]; simp
  rw [hm, hl] at hrow
  exact ⟨v, rfl, hrow, hb⟩
theorem sortedH_any (h : MapN w b n f) (hn : n ≤ 1000000) (hu : ks.Pairwise (fun x y => x < y)) (hk : ∀ x, x ∈ ks ↔ f x ≠ none) :
    Calls Try.prog 29 #[.func (.func 35) #[] #[.pointer (some ⟨w.heap.size, 0, none⟩)]] (w.alloc (.cells #[.map (some b)] 53)) (KeysRes ks (w.alloc (.cells #[.map (some b)] 53))) := by
  obtain ⟨D0, hown, h2, h3⟩ := h
  have hbl := hown.lt
  have hsz := hown.size_le
  have hmax : Maps.size D0 ≤ maxLen := by unfold maxLen; omega
  have hbytes : Maps.size D0 * 8 ≤ 140737488355328 := by omega
  have hseq : SeqGives Fence.wide 2 Try.prog 35 #[.pointer (some ⟨w.heap.size, 0, none⟩)] encZ (fun ss => ss.Perm (intKeys D0)) (Maps.size D0) (w.alloc (.cells #[.map (some b)] 53)) :=
    AnyZI.keys_gives (ρ := Try.keysH_ren) { Try.keysH with } Fence.wide _ trivial rfl (by omega) w.heap.size b n D0 _ (by simp) (by simp) (by
      obtain ⟨es, clock, hb, Ft, hs, hD⟩ := hown
      exact ⟨es, clock, (Below.heap_alloc _ _ b hbl).trans hb, Ft, hs, hD⟩)
  have cS := AnyZI.sorted_in Try.sortedI Fence.wide 5 trivial trivial trivial trivial rfl (by omega) (sorts _) (enters_of Try.func33 (by kernel_rfl) rfl) 35 #[.pointer (some ⟨w.heap.size, 0, none⟩)] trivial (enters_of Try.func35 (by kernel_rfl) rfl) _ _ hmax hbytes _ hseq
  change CallsIn _ _ Try.prog 29 _ _ _ at cS
  refine ((callsIn_wide (n := 5)).1 cS).mono ?_
  rintro e w' ⟨v, ss, rfl, hS, hrow, _, hb⟩
  obtain ⟨i1, i2, _⟩ := owns_ints hown
  have hm := merge_eq (ss := ss) (ks := ks) (hS.nodup_iff.2 i1) hu fun x => by
    rw [hS.mem_iff, i2, hk]
    constructor
    · rintro ⟨s, hh⟩ e
      rw [(h2 x s).1, e] at hh
      cases hh
    · intro hx
      refine ⟨h3 x hx, ?_⟩
      rw [(h2 x (h3 x hx)).1]
      cases e : f x with
      | none => exact absurd e hx
      | some _ => rfl
  have hl : ss.length = ks.length := by rw [← hm]; simp
  rw [hm, hl] at hrow
  exact ⟨v, rfl, hrow, hb⟩
end
end Go.Proofs.Ytlalehoncclnaaa.Latch
