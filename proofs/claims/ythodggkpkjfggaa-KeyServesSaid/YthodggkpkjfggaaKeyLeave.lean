/- leave, Cancel, Gone, Of. -/
import Derived.Test.YthodggkpkjfggaaKeyAsk2
import Derived.Test.YthodggkpkjfggaaKeyCat
namespace Go.Proofs.Ythodggkpkjfggaa.Key
set_option maxRecDepth 100000
open Go.RowKit
open Go.Proofs.Ythodggkpkjfggaa.Mem
open Go.Maps
/-- a row of numbers that stays with the others -/
theorem row_keep {w w' : World} {M : Nat → Prop} {B n : Nat} {v : Value} {xs : List Value} (h : w.ownsRow B 3 1 v n xs) (hk : Keep M w w') (hm : ∀ g, v.ownBlock = some g → M g) : w'.ownsRow B 3 1 v n xs :=
  own_same h fun g hg => hk.block g (hm g hg)
theorem row_at {w : World} {B j : Nat} {v : Value} {L : List Int} {x : Int} (h : w.ownsRow B 3 1 v L.length (L.map (Value.int .i64))) (hj : L[j]? = some x) : ∃ g cap, v = .slice (some ⟨g, 0, none⟩) L.length cap ∧ w.cell? ⟨g, j, none⟩ = some (.int .i64 x) := by
  have hlt := (List.getElem?_eq_some_iff.1 hj).1
  obtain ⟨g, cap, e, _, _, hc⟩ := own_pos h (by omega)
  exact ⟨g, cap, e, by rw [hc j (by omega)]; simp [hj]⟩
/-- slices.Sort of a row of the call's own -/
def SortRes (B : Nat) (v : Value) (L : List Int) (w : World) (e : Ending) (w' : World) : Prop := e = .returned (.tuple #[]) ∧ w'.ownsRow B 3 1 v (L.mergeSort fun x y => decide (x ≤ y)).length ((L.mergeSort fun x y => decide (x ≤ y)).map (Value.int .i64)) ∧ Below B w w'
theorem sort_any (B : Nat) (v : Value) (L : List Int) (w : World) (h : w.ownsRow B 3 1 v L.length (L.map (Value.int .i64))) (hl : L.length ≤ 100000) :
    Calls Try.prog 55 #[v] w (SortRes B v L w) := by
  rcases h.2 with ⟨rfl, h0⟩ | ⟨g, cap, cur, rfl, hbase, hb, h1, h2, h3, h4⟩
  · obtain rfl := List.eq_nil_of_length_eq_zero h0
    refine (Try.slices_Sort_int_none none 0 w).mono ?_
    rintro e w' ⟨rfl, rfl⟩
    exact ⟨rfl, by simpa using own_nil _ _ _ _, Below.refl _ _⟩
  · have hH : Go.Sort.Holds (Value.int .i64) w g 0 L.toArray := holds_of_blockI hb (by simpa using h4)
    refine (Try.slices_Sort_int g 0 cap L w hH (Array.getElem?_eq_some_iff.1 hb).1 (by omega)).mono ?_
    rintro e w' ⟨rfl, nn, os, rfl⟩
    have ho := ownsRow_sortedI (n := nn) (os := os) (ts := L.mergeSort fun x y => decide (x ≤ y)) (by simp) hbase hb h1 h2 h3
    have hg := grownBy_sortedI (w := w) (n := nn) (g := g) (os := os) (L.mergeSort fun x y => decide (x ≤ y)).toArray
    exact ⟨rfl, by simpa using ho, ⟨hg.os, hg.tape, hg.output, hg.size, fun k hk => by
      by_cases hkw : k < w.heap.size
      · exact hg.block k hkw (fun e => by injection e with e; omega)
      · have : g < w.heap.size := (Array.getElem?_eq_some_iff.1 hb).1
        omega⟩⟩
theorem waits_page {S : KS} {c x : Int} (h : x ∈ waitsP S c) : Sm x ∧ 0 ≤ x ∧ x < 1024 := by
  have := (mem_upFrom 1024 0 x).1 (List.mem_filter.1 h).1
  exact ⟨sm_of (by omega), by omega, by omega⟩
theorem held_page {S : KS} {c k x : Int} (h : x ∈ heldP S c k) : (Sm x ∧ 0 ≤ x ∧ x < 1024) ∧ S.L x c ≠ none := by
  obtain ⟨h1, h2⟩ := List.mem_filter.1 h
  have := (mem_upFrom 1024 0 x).1 h1
  exact ⟨⟨sm_of (by omega), by omega, by omega⟩, fun e => by rw [heldB_none e] at h2; cases h2⟩
def unqs (S : KS) (c : Int) (L : List Int) : KS := L.foldl (fun S p => unqK S c p) S
def unls (S : KS) (c : Int) (L : List Int) : KS := L.foldl (fun S p => setK S p c none) S
def stls (S : KS) (L : List Int) : KS := L.foldl settleK S
theorem unqs_said (c : Int) : ∀ (L : List Int) (S : KS), (unqs S c L).said = S.said
  | [], _ => rfl
  | _ :: L, S => (unqs_said c L (unqK S c _)).trans rfl
theorem unls_said (c : Int) : ∀ (L : List Int) (S : KS), (unls S c L).said = S.said
  | [], _ => rfl
  | _ :: L, S => (unls_said c L (setK S _ c none)).trans rfl
theorem unls_other {c x d : Int} : ∀ (L : List Int) (S : KS), x ∉ L → (unls S c L).L x d = S.L x d
  | [], _, _ => rfl
  | y :: L, S, h => by
    have h1 : x ≠ y := fun e => h (by rw [e]; exact List.mem_cons_self)
    have := unls_other (c := c) (x := x) (d := d) L (setK S y c none) (fun hx => h (List.mem_cons_of_mem _ hx))
    unfold unls at this ⊢
    rw [List.foldl_cons, this]
    simp [setK, h1]
theorem stls_said {S : KS} (h : S.wf) (L : List Int) : (stls S L).said.length ≤ S.said.length + 16 * L.length :=
  fold_said (k := 16) (fun _ _ h => ⟨h.settle _, settle_said h _⟩) L h
theorem fold_take {α β : Type} {f : β → α → β} {L : List α} {j : Nat} {x : α} (hj : L[j]? = some x) (b : β) : (L.take (j + 1)).foldl f b = f ((L.take j).foldl f b) x := by
  rw [List.take_add_one, hj, List.foldl_append]; rfl
end Go.Proofs.Ythodggkpkjfggaa.Key
