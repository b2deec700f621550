/- entry.fields for both kinds of entries; an entry's cells as one array. -/
import Derived.Test.YtjffjmffoffblaaQEntRead
import Derived.Test.YtjffjmffoffblaaQEntA
namespace Go.Proofs.Ytjffjmffoffblaa.Ent
set_option maxRecDepth 100000
open Go.RowKit
open Go.Proofs.Ytjffjmffoffblaa.Slab (Blk)
open Go.Proofs.Ytjffjmffoffblaa.Nib (below_next below_drew)

/-- where the k-th number lies -/
def offs (k : Nat) : Nat := if k = 8 then 12 else k
def numsL (m : Nat) : List Nat := (List.range m).map fun k => offs (k + 1)
theorem numsL5 : numsL 5 = [1, 2, 3, 4, 5] := by decide
theorem numsL8 : numsL 8 = [1, 2, 3, 4, 5, 6, 7, 12] := by decide
theorem numsL_get {m k : Nat} (h : k < m) (g : Nat) : (ptrs g (numsL m))[k]? = some (.pointer (some ⟨g, offs (k + 1), none⟩)) := by
  unfold ptrs numsL; simp [h]
theorem prow_far {W : World} {q g i : Nat} {vs : List Value} {v : Value} (h : PRow W q vs) (hn : q ≠ g) : PRow (W.setCell ⟨g, i, none⟩ v) q vs := h.same (Below.heap_setCell W ⟨g, i, none⟩ v q hn)

def mN (lg : Bool) : Nat := if lg then 8 else 5
def nN (lg : Bool) : Nat := if lg then 2 else 0
theorem mN_le (lg : Bool) : mN lg ≤ 8 := by cases lg <;> decide
theorem nN_le (lg : Bool) : nN lg ≤ 2 := by cases lg <;> decide
/-- the pointers to slots -/
def P2 (lg : Bool) (so : Option Addr) (N g : Nat) (W : World) : Prop := lg = true → ∃ b2, so = some ⟨b2, 0, none⟩ ∧ N ≤ b2 ∧ PRow W b2 (ptrs g [8, 10])
theorem P2.next {lg : Bool} {so : Option Addr} {N g b : Nat} {W W' : World} (h : P2 lg so N g W) (o : Only b W W') (hb : b < N) : P2 lg so N g W' := fun hl => by
  obtain ⟨b2, h1, h2, h3⟩ := h hl
  exact ⟨b2, h1, h2, o.prow h3 (by omega)⟩
theorem P2.far {lg : Bool} {so : Option Addr} {N g : Nat} {W : World} (h : P2 lg so N g W) {i : Nat} {v : Value} (hg : g < N) : P2 lg so N g (W.setCell ⟨g, i, none⟩ v) := fun hl => by
  obtain ⟨b2, h1, h2, h3⟩ := h hl
  exact ⟨b2, h1, h2, prow_far h3 (by omega)⟩
def FRes (lg : Bool) (g : Nat) (w : World) (e : Ending) (w' : World) : Prop :=
  ∃ b cap so cap', e = .returned (.tuple #[.slice (some ⟨b, 0, none⟩) (mN lg) cap, .slice so (nN lg) cap']) ∧ w.heap.size ≤ b ∧ PRow w' b (ptrs g (numsL (mN lg))) ∧ P2 lg so w.heap.size g w' ∧ Below w.heap.size w w'
theorem fields_any (lg : Bool) (g : Nat) (k : Int) (w : World) (hc : w.cell? ⟨g, 0, none⟩ = some (.int .i64 k)) (hk : longB k = lg) :
    Calls Try.prog 75 #[.pointer (some ⟨g, 0, none⟩)] w (FRes lg g w) := by
  cases lg with
  | true =>
    have h := of_decide_eq_true hk
    refine (fields_long g k w hc ?_).mono ?_
    · by_cases h1 : k = 1
      · right; rw [h1]; rfl
      · left; refine ⟨bne_iff_ne.2 h1, ?_⟩; rcases h with h | h; exact absurd h h1; rw [h]; rfl
    · rintro e w' ⟨b, cap, b', cap', rfl, h1, h2, h3, h4, h5⟩
      exact ⟨b, cap, _, cap', rfl, h1, by rw [show mN true = 8 from rfl, numsL8]; exact h3, fun _ => ⟨b', rfl, h2, h4⟩, h5⟩
  | false =>
    have h := of_decide_eq_false hk
    refine (fields_short g k w hc (bne_iff_ne.2 fun e => h (.inl e)) (bne_iff_ne.2 fun e => h (.inr e))).mono ?_
    rintro e w' ⟨b, cap, rfl, h1, h2, h3⟩
    exact ⟨b, cap, none, 0, rfl, h1, by rw [show mN false = 5 from rfl, numsL5]; exact h2, fun h => absurd h (by simp), h3⟩
end Go.Proofs.Ytjffjmffoffblaa.Ent
