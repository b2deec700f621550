/- What LatchKeeps' two arrays say of the locks. -/
import Derived.Test.YtlalehoncclnaaaLatchLaw0
namespace Go.Proofs.Ytlalehoncclnaaa.Latch
set_option maxRecDepth 100000
open Go.RowKit
open Go.Proofs.Ytlalehoncclnaaa.Mem
/-- the pages are six -/
def Six (L : LS) : Prop := ∀ k ∈ L, 0 ≤ k.pg ∧ k.pg < 6
section
variable {L : LS}
theorem six_fm {g : Lk → Option Lk} (hg : ∀ k k', g k = some k' → k'.pg = k.pg) (h : Six L) : Six (L.filterMap g) := fun k hk => by
  obtain ⟨j, hj, e⟩ := mem_fm hk
  rw [hg j k e]
  exact h j hj
theorem six_grant (h : Six L) {p : Int} (hp : 0 ≤ p ∧ p < 6) (x : Bool) : Six (grantL p x L) := by
  unfold grantL
  split
  · exact six_fm (upd_pg fun k k' h => by cases h; rfl) h
  · intro k hk
    rcases mem_ins hk with rfl | hk
    · exact hp
    · exact h k hk
theorem six_use (h : Six L) (p : Int) (x : Bool) : Six (useL p x L) := by
  unfold useL
  split
  · exact six_fm (upd_pg fun k k' h => by cases h; rfl) h
  · exact h
theorem six_call (h : Six L) (p : Int) (all : Bool) : Six (callL p all L) := six_fm (upd_pg (callF_pg all)) h
theorem six_end (h : Six L) : Six (endL L) := six_fm endF_pg h
theorem uw_grant (hU : Up L) (p : Int) (x : Bool) (q : Int) : usedL q (grantL p x L) = usedL q L ∧ waitL q (grantL p x L) = waitL q L := by
  unfold usedL waitL
  rw [at_grant hU]
  by_cases e : q = p
  · rw [if_pos e, e]
    cases atL p L <;> exact ⟨rfl, rfl⟩
  · rw [if_neg e]; exact ⟨rfl, rfl⟩
theorem uw_use (hU : Up L) (p : Int) (x : Bool) (hh : hasL p x L = true) (q : Int) :
    usedL q (useL p x L) = (if q = p then (if x = true then 2 else max (usedL p L) 1) else usedL q L) ∧ waitL q (useL p x L) = waitL q L := by
  unfold usedL waitL
  rw [at_use hU]
  by_cases e : q = p
  · rw [if_pos e, if_pos e, e]
    have h2 := hh
    unfold hasL at hh
    cases ha : atL p L with
    | none => rw [ha] at hh; cases hh
    | some k =>
      simp only [Option.map_some, h2, if_true]
      refine ⟨?_, trivial⟩
      cases x with
      | true => rfl
      | false =>
        simp only [Bool.false_eq_true, if_false]
        split <;> omega
  · rw [if_neg e, if_neg e]; exact ⟨rfl, rfl⟩
/-- what a call answers, and what stays -/
theorem uw_call (h : Ok L) (p : Int) (all : Bool) (q : Int) :
    usedL q (callL p all L) = usedL q L ∧ (0 < waitL q (callL p all L) ↔ (q = p ∧ callE p all L = 3) ∨ 0 < waitL q L) := by
  unfold usedL waitL callE
  rw [at_call h.1]
  by_cases e : q = p
  · rw [if_pos e, e]
    cases ha : atL p L with
    | none => simp
    | some k =>
      obtain ⟨o1, o2, o3, o4⟩ := h.2 k (at_mem ha)
      obtain ⟨pg, x, us, wt⟩ := k
      dsimp only at o1 o2 o3 o4
      simp only [Option.bind_some]
      unfold callF callK
      dsimp only
      cases all with
      | true =>
        simp only [if_true]
        by_cases hu : 0 < us
        · simp [hu]
        · simp only [if_neg hu]
          refine ⟨by omega, ?_⟩
          simp
          omega
      | false =>
        cases x with
        | false => simp
        | true =>
          simp only [Bool.false_eq_true, if_false, if_true]
          by_cases hu : us = 2
          · simp only [if_pos hu]
            refine ⟨trivial, ?_⟩
            split <;> simp <;> omega
          · simp [hu]
  · rw [if_neg e]; simp [e]
theorem call_says (p : Int) (all : Bool) :
    callE p all L = 0 ∨ (callE p all L = 1 ∧ usedL p L = 0) ∨ (callE p all L = 2 ∧ usedL p L ≠ 2) ∨ (callE p all L = 3 ∧ usedL p L ≠ 0) := by
  unfold callE usedL
  cases ha : atL p L with
  | none => exact .inl rfl
  | some k =>
    dsimp only [callK]
    cases all with
    | true =>
      simp only [if_true]
      by_cases hu : 0 < k.us
      · rw [if_pos hu]; exact .inr (.inr (.inr ⟨rfl, by omega⟩))
      · rw [if_neg hu]; exact .inr (.inl ⟨rfl, by omega⟩)
    | false =>
      simp only [Bool.false_eq_true, if_false]
      cases k.x with
      | false => exact .inl rfl
      | true =>
        simp only [if_true]
        by_cases hu : k.us = 2
        · rw [if_pos hu]; exact .inr (.inr (.inr ⟨rfl, by omega⟩))
        · rw [if_neg hu]; exact .inr (.inr (.inl ⟨rfl, hu⟩))
theorem used_le (h : Ok L) (p : Int) : usedL p L ≤ 2 := by
  unfold usedL
  cases ha : atL p L with
  | none => exact Nat.zero_le _
  | some k => exact (h.2 k (at_mem ha)).1
theorem waits_snoc (L : LS) : ∀ (n : Nat) (lo : Int), waits L (n + 1) lo = waits L n lo + (if 0 < waitL (lo + n) L then 1 else 0)
  | 0, lo => by simp [waits]
  | n + 1, lo => by
    rw [show waits L (n + 1 + 1) lo = (if 0 < waitL lo L then 1 else 0) + waits L (n + 1) (lo + 1) from rfl, waits_snoc L n (lo + 1), show waits L (n + 1) lo = (if 0 < waitL lo L then 1 else 0) + waits L n (lo + 1) from rfl]
    rw [show lo + 1 + (n : Int) = lo + ((n + 1 : Nat) : Int) by omega]
    omega
theorem waits_le (L : LS) : ∀ (n : Nat) (lo : Int), waits L n lo ≤ n
  | 0, _ => Nat.le_refl _
  | n + 1, lo => by
    have := waits_le L n (lo + 1)
    unfold waits
    split <;> omega
theorem end_waits (hU : Up L) (h : Six L) : (endO L).length = waits L 6 0 := endO_length hU 6 0 fun k hk => by have := h k hk; omega
end
def nF (L : LS) (k : Nat) : Value := .int .i64 (usedL (k : Int) L : Int)
def oF (L : LS) (k : Nat) : Value := .bool (decide (0 < waitL (k : Int) L))
end Go.Proofs.Ytlalehoncclnaaa.Latch
