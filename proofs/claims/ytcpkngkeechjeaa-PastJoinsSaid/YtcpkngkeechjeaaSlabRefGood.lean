/- The walks of the document's own Good and of both Sizes. -/
import Derived.Test.YtcpkngkeechjeaaSlabRef
namespace Go.Proofs.Ytcpkngkeechjeaa.Slab
set_option maxRecDepth 100000
open Go.RowKit Go.Sort

theorem usedN_le_of {l : List Slot} {k : Nat} (h : ∀ y ∈ l.drop k, y.u = false) : usedN l ≤ k := by
  induction l generalizing k with
  | nil => simp [usedN]
  | cons x r ih =>
    cases k with
    | zero => rw [usedN_none (by simpa using h)]; exact Nat.le_refl _
    | succ k =>
      have := ih (k := k) (by simpa using h)
      rw [usedN]; split <;> (try split) <;> omega
theorem used_at_end {l : List Slot} {m : Nat} {x : Slot} (hl : l.length = m + 1) (h : l[m]? = some x) : (l.length = usedN l) ↔ x.u = true := by
  have hd : l.drop m = [x] := by
    obtain ⟨hm, rfl⟩ := List.getElem?_eq_some_iff.1 h
    rw [List.drop_eq_getElem_cons hm, List.drop_of_length_le (by omega)]
  cases hu : x.u with
  | true =>
    rw [usedN_last h hu (by rw [List.drop_of_length_le (by omega)]; simp)]
    simp [hl]
  | false =>
    have := usedN_le_of (l := l) (k := m) (by rw [hd]; simpa using hu)
    simp; omega
theorem good_big {lsn : Int} {l : List Slot} (h : 240 < 9 + rsz l) : goodB lsn l = false := by
  cases hw : l.any wrongB with
  | true => simp [goodB, hw]
  | false =>
    rw [rsz_eq hw] at h
    have : ¬ (9 + sz l ≤ 240) := by omega
    simp [goodB, this]
theorem good_wrong {lsn : Int} {l : List Slot} (h : l.any wrongB = true) : goodB lsn l = false := by simp [goodB, h]
theorem good_rest {lsn : Int} {l : List Slot} (h0 : 0 ≤ lsn) (h1 : lsn ≤ 1099511627776) (h2 : l.length ≤ 32) (h3 : 9 + rsz l ≤ 240) (h4 : l.any wrongB = false) : goodB lsn l = decide (l.length = usedN l) := by
  rw [rsz_eq h4] at h3
  simp [goodB, h0, h1, h2, h3, h4]

end Go.Proofs.Ytcpkngkeechjeaa.Slab
