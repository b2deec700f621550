/- What slab.Decode gives, on lists; a text of zero bytes as runes. -/
import Derived.Test.YtnnppdjgmjgjhaaDoorSlabDec
import Derived.Test.YtnnppdjgmjgjhaaDoorShelf
namespace Go.Proofs.YtnnppdjgmjgjhaaDoor.Slab
set_option maxRecDepth 100000
open Go.RowKit Go.Sort

def takesL : Nat → List UInt8 → Option (List Slot × List UInt8)
  | 0, s => some ([], s)
  | k + 1, s => match takesL k s with
    | none => none
    | some (z, r) => match takeL r with
      | none => none
      | some (x, r') => some (z ++ [x], r')
theorem takesL_next {k : Nat} {s r r' : List UInt8} {z : List Slot} {x : Slot} (h : takesL k s = some (z, r)) (h2 : takeL r = some (x, r')) : takesL (k + 1) s = some (z ++ [x], r') := by
  rw [takesL, h]; simp only; rw [h2]
theorem takesL_stop {k : Nat} {s r : List UInt8} {z : List Slot} (h : takesL k s = some (z, r)) (h2 : takeL r = none) : ∀ j, takesL (k + 1 + j) s = none
  | 0 => by rw [Nat.add_zero, takesL, h]; simp only; rw [h2]
  | j + 1 => by
    show takesL (k + 1 + j + 1) s = none
    rw [takesL, takesL_stop h h2 j]
theorem takeL_len {r r' : List UInt8} {x : Slot} (h : takeL r = some (x, r')) : r'.length < r.length ∧ x.d.size ≤ 255 := by
  cases r with
  | nil => cases h
  | cons b r =>
    rw [takeL_cons] at h
    split at h
    · simp only [Option.some.injEq, Prod.mk.injEq] at h
      obtain ⟨rfl, rfl⟩ := h
      exact ⟨by simp, by decide⟩
    · split at h
      · simp only [Option.some.injEq, Prod.mk.injEq] at h
        obtain ⟨rfl, rfl⟩ := h
        refine ⟨by simp; omega, ?_⟩
        have := b.toNat_lt
        show (List.toArray _).size ≤ _
        simp; omega
      · cases h
theorem takesL_len {s : List UInt8} : ∀ {k : Nat} {z : List Slot} {r : List UInt8}, takesL k s = some (z, r) → z.length = k ∧ r.length ≤ s.length ∧ ∀ x ∈ z, x.d.size ≤ 255
  | 0, z, r, h => by
    simp only [takesL, Option.some.injEq, Prod.mk.injEq] at h
    obtain ⟨rfl, rfl⟩ := h
    exact ⟨rfl, Nat.le_refl _, by simp⟩
  | k + 1, z, r, h => by
    rw [takesL] at h
    cases h1 : takesL k s with
    | none => rw [h1] at h; cases h
    | some p =>
      obtain ⟨z0, r0⟩ := p
      rw [h1] at h
      simp only at h
      cases h2 : takeL r0 with
      | none => rw [h2] at h; cases h
      | some q =>
        obtain ⟨x, r1⟩ := q
        rw [h2] at h
        simp only [Option.some.injEq, Prod.mk.injEq] at h
        obtain ⟨rfl, rfl⟩ := h
        obtain ⟨e1, e2, e3⟩ := takesL_len h1
        obtain ⟨e4, e5⟩ := takeL_len h2
        refine ⟨by simp [e1], by omega, fun y hy => ?_⟩
        rcases List.mem_append.1 hy with hy | hy
        · exact e3 y hy
        · simp at hy; subst hy; exact e5
def nzB (b : UInt8) : Bool := b.toNat != 0
def decOf (L : Int) : Option (List Slot × List UInt8) → Int × List Slot × Int
  | none => (0, [], 4)
  | some (z, r) => if goodB L z = true ∧ r.any nzB = false then (L, z, 0) else (0, [], 4)
theorem decOf_some (L : Int) (z : List Slot) (r : List UInt8) : decOf L (some (z, r)) = if goodB L z = true ∧ r.any nzB = false then (L, z, 0) else (0, [], 4) := rfl
def decR (t : List UInt8) : Int × List Slot × Int :=
  if t.length = 240 then decOf (sgn (beN (t.take 8))) (takesL (t.getD 8 0).toNat (t.drop 9)) else (0, [], 4)

/-! runes of a text: a byte 0 is the rune 0, and no other gives it -/
def pNZ (x : Nat) : Bool := x != 0
theorem dec_zero {s : ByteArray} {i : Nat} (h : (s.get! i).toNat = 0) : Utf8.decode s i = (0, 1) := by
  unfold Utf8.decode
  simp only [Nat.add_zero, h]
  rfl
theorem dec_not {s : ByteArray} {i : Nat} (h : (s.get! i).toNat ≠ 0) : (Utf8.decode s i).1 ≠ 0 := by
  unfold Utf8.decode
  simp only [Nat.add_zero]
  have hr : Utf8.runeError ≠ 0 := by decide
  split
  · exact h
  · split
    · split
      · simp only; omega
      · exact hr
    · split
      · split
        · rename_i hc
          simp only [Bool.and_eq_true, decide_eq_true_eq] at hc
          simp only; omega
        · exact hr
      · split
        · split
          · rename_i hc
            simp only [Bool.and_eq_true, decide_eq_true_eq] at hc
            simp only; omega
          · exact hr
        · exact hr
theorem idx_nz (s : ByteArray) : ∀ f pos, s.size ≤ pos + f → (0 ≤ Lib.idxFuncFrom pNZ true s f pos ↔ ∃ i, pos ≤ i ∧ i < s.size ∧ (s.get! i).toNat ≠ 0)
  | 0, pos, h => by
    rw [Lib.idxFuncFrom_end _ _ _ _ _ (by omega)]
    exact ⟨fun h => by omega, fun ⟨i, h1, h2, _⟩ => by omega⟩
  | f + 1, pos, h => by
    rw [Lib.idxFuncFrom]
    by_cases hp : pos < s.size
    · rw [if_pos hp]
      by_cases h0 : (s.get! pos).toNat = 0
      · rw [dec_zero h0]
        rw [if_neg (by simp [pNZ]), idx_nz s f (pos + 1) (by omega)]
        constructor
        · rintro ⟨i, h1, h2, h3⟩; exact ⟨i, by omega, h2, h3⟩
        · rintro ⟨i, h1, h2, h3⟩
          have : i ≠ pos := fun e => by subst e; exact h3 h0
          exact ⟨i, by omega, h2, h3⟩
      · rw [if_pos (by have := dec_not h0; simpa [pNZ] using this)]
        exact ⟨fun _ => ⟨pos, Nat.le_refl _, hp, h0⟩, fun _ => by omega⟩
    · rw [if_neg hp]
      exact ⟨fun h => by omega, fun ⟨i, h1, h2, _⟩ => by omega⟩
theorem idx_any (r : List UInt8) : decide (0 ≤ Lib.idxFunc pNZ true ⟨r.toArray⟩) = r.any nzB := by
  have h := idx_nz ⟨r.toArray⟩ (ByteArray.size ⟨r.toArray⟩) 0 (by omega)
  rw [Bool.eq_iff_iff, decide_eq_true_eq]
  unfold Lib.idxFunc
  rw [h, List.any_eq_true]
  have hs : ByteArray.size ⟨r.toArray⟩ = r.length := by simp [ByteArray.size]
  have hg : ∀ i (hi : i < r.length), ByteArray.get! ⟨r.toArray⟩ i = r[i] := fun i hi => by
    simp [ByteArray.get!, hi]
  constructor
  · rintro ⟨i, _, h2, h3⟩
    rw [hs] at h2
    rw [hg i h2] at h3
    exact ⟨r[i], List.getElem_mem h2, by simpa [nzB] using h3⟩
  · rintro ⟨b, hb, hn⟩
    obtain ⟨i, hi, rfl⟩ := List.getElem_of_mem hb
    exact ⟨i, Nat.zero_le _, by rw [hs]; exact hi, by rw [hg i hi]; simpa [nzB] using hn⟩

set_option maxRecDepth 100000 in
theorem notZero_at (w : World) : PredAt Tryd.prog 90 #[] encR pNZ w := fun W x _ => by
  unfold FnGives
  by_cases h : x = 0
  · subst h
    go_enter Tryd.func90, Tryd.ntmps90
    go_wp2
    go_ret
    exact ⟨rfl, 0, rfl⟩
  · have hx : ((x : Int) != 0) = true := by simp; omega
    go_enter Tryd.func90, Tryd.ntmps90
    go_wp2
    go_ret
    exact ⟨ret_bool' (by simp [pNZ, h]), 0, rfl⟩
theorem some_nz (r : List UInt8) (w : World) :
    Calls Tryd.prog 89 #[.string ⟨r.toArray⟩, .func (.func 90) #[] #[]] w fun e w' => e = .returned (.bool (r.any nzB)) ∧ Below w.heap.size w w' := by
  rw [← idx_any]
  first
  | exact Tryd.strings_ContainsFunc 90 #[] (enters_of Tryd.func90 (by kernel_rfl) rfl) pNZ ⟨r.toArray⟩ w (notZero_at w)
  | exact Tryd.strings_ContainsFunc_runes 90 #[] (enters_of Tryd.func90 (by kernel_rfl) rfl) pNZ ⟨r.toArray⟩ w (notZero_at w).runes
end Go.Proofs.YtnnppdjgmjgjhaaDoor.Slab
