/- What the first vacant slot is, on lists. -/
import Derived.Test.YtmmeemffiibndaaSlabFitsMath
namespace Go.Proofs.Ytmmeemffiibndaa.Slab
open Go.RowKit Go.Sort

theorem run_used (u : Bool) (d : ByteArray) (w : World) : (Instr.field 26 (.agg #[.bool u, .string d]) 0).run Try.prog w = .ok (.bool u) w := by kernel_rfl
theorem oth_all {l : List Slot} {k : Nat} (h : (l.getD k nos).d.size = 0) : ∀ i, oth l k i = tot l i
  | 0 => rfl
  | i + 1 => by
    rw [oth, tot, oth_all h i]
    by_cases h1 : i = k
    · subst h1; rw [if_pos rfl, h]
    · rw [if_neg h1]
theorem unused_sz {lsn : Int} {l : List Slot} {k : Nat} {x : Slot} (hg : goodB lsn l = true) (hu : (l.getD k nos).u = false) (hx : x.u = true) : sz (putL l k x) = sz l + x.d.size + (max l.length (k + 1) - l.length) := by
  have h0 := getD_clean (clean_of_good hg) k hu
  have h1 : (l.getD k nos).d.size = 0 := by rw [h0]; rfl
  rw [fits_size (clean_of_good hg) (good_parts hg).2.2.2.1 hx, oth_all h1, sz_is l]
  omega
theorem room_code {lsn : Int} {l : List Slot} {k m : Nat} (hg : goodB lsn l = true) (hk : k < 32) (hm : m ≤ 200) (hu : (l.getD k nos).u = false) :
    putCode lsn l (k : Int) ⟨true, zstr m⟩ = if 240 < 9 + sz l + m + (max l.length (k + 1) - l.length) then 22 else 0 := by
  have hx := put_true (slot := (k : Int)) (d := zstr m) hg (by omega) (by omega)
  have hy : ¬ 200 < (⟨true, zstr m⟩ : Slot).d.size := by show ¬ 200 < (zstr m).size; rw [zstr_size]; omega
  have hT : sz (putL l k ⟨true, zstr m⟩) = sz l + m + (max l.length (k + 1) - l.length) := by
    have := unused_sz (k := k) (x := ⟨true, zstr m⟩) hg hu rfl
    rwa [show (⟨true, zstr m⟩ : Slot).d.size = m from zstr_size m] at this
  by_cases hb : 240 < 9 + sz l + m + (max l.length (k + 1) - l.length)
  · rw [if_pos hb]
    exact put_full hx hy (by rw [Int.toNat_natCast, hT]; omega)
  · rw [if_neg hb]
    exact put_ok hx hy (by rw [Int.toNat_natCast, hT]; omega)
theorem all_used {l : List Slot} (h : l.any (fun x => !x.u) = false) {i : Nat} (hi : i < l.length) : (l.getD i nos).u = true := by
  have := List.any_eq_false.1 h (l.getD i nos) (getD_mem hi)
  simpa using this
theorem vac_at {l : List Slot} (h : vacS l < l.length) : (l.getD (vacS l) nos).u = false := by
  have := List.findIdx_getElem (p := fun x : Slot => !x.u) (xs := l) (w := h)
  have h2 : l.getD (vacS l) nos = l[vacS l] := by simp [List.getD, h]
  rw [h2]
  unfold vacS firstN at *
  simpa using this
theorem vac_before {l : List Slot} {j : Nat} (h : j < vacS l) : (l.getD j nos).u = true := by
  have hl : j < l.length := Nat.lt_of_lt_of_le h (vacS_le l)
  have := List.not_of_lt_findIdx (p := fun x : Slot => !x.u) (xs := l) (i := j) h
  have h2 : l.getD j nos = l[j] := by simp [List.getD, hl]
  rw [h2]
  simpa using this
theorem vac_code {lsn : Int} {l : List Slot} {m : Nat} (hg : goodB lsn l = true) (hm : m ≤ 200) : vacCode lsn l (m : Int) = if vacS l = 32 ∨ 240 < ((9 + sz l : Nat) : Int) + vacNeed l (m : Int) then 22 else 0 := by
  unfold vacCode
  rw [if_neg (by rw [hg]; simp), if_neg (by omega)]
theorem vac_full {lsn : Int} {l : List Slot} {m : Nat} (hg : goodB lsn l = true) (hm : m ≤ 200) (hc : vacCode lsn l (m : Int) ≠ 0) :
    vacCode lsn l (m : Int) = 22 ∧ ∀ i : Nat, i < 32 → (atL lsn l (i : Int)).u = false → putCode lsn l (i : Int) ⟨true, zstr m⟩ = 22 := by
  rw [vac_code hg hm] at hc ⊢
  have hb : vacS l = 32 ∨ 240 < ((9 + sz l : Nat) : Int) + vacNeed l (m : Int) := by
    rcases Classical.em (vacS l = 32 ∨ 240 < ((9 + sz l : Nat) : Int) + vacNeed l (m : Int)) with h | h
    · exact h
    · rw [if_neg h] at hc; exact absurd rfl hc
  refine ⟨if_pos hb, fun i hi hu => ?_⟩
  rw [atL_getD hg] at hu
  rw [room_code hg hi hm hu]
  have hl := (good_parts hg).2.2.1
  have hle := vacS_le l
  refine if_pos ?_
  cases ha : l.any (fun x => !x.u) with
  | true =>
    have h1 := vacS_some ha
    unfold vacNeed at hb
    rw [if_pos ha] at hb
    omega
  | false =>
    have h1 := vacS_all ha
    unfold vacNeed at hb
    rw [if_neg (by rw [ha]; simp)] at hb
    have h2 : ¬ i < l.length := fun h => by rw [all_used ha h] at hu; cases hu
    omega
theorem vac_room {lsn : Int} {l : List Slot} {m : Nat} (hg : goodB lsn l = true) (hm : m ≤ 200) (hc : vacCode lsn l (m : Int) = 0) :
    vacV lsn l (m : Int) = (vacS l : Int) ∧ vacS l < 32 ∧ (atL lsn l (vacS l : Int)).u = false ∧ (∀ j : Nat, j < vacS l → (atL lsn l (j : Int)).u = true) ∧ putCode lsn l (vacS l : Int) ⟨true, zstr m⟩ = 0 := by
  have hv : vacV lsn l (m : Int) = (vacS l : Int) := by unfold vacV; rw [if_pos hc]
  rw [vac_code hg hm] at hc
  have hb : ¬ (vacS l = 32 ∨ 240 < ((9 + sz l : Nat) : Int) + vacNeed l (m : Int)) := fun h => by rw [if_pos h] at hc; cases hc
  rw [not_or] at hb
  have hl := (good_parts hg).2.2.1
  have hle := vacS_le l
  have hu : (l.getD (vacS l) nos).u = false := by
    by_cases h : vacS l < l.length
    · exact vac_at h
    · rw [getD_out (by omega)]; rfl
  refine ⟨hv, by omega, by rw [atL_getD hg]; exact hu, fun j hj => by rw [atL_getD hg]; exact vac_before hj, ?_⟩
  rw [room_code hg (by omega) hm hu]
  refine if_neg ?_
  cases ha : l.any (fun x => !x.u) with
  | true =>
    have h1 := vacS_some ha
    have h2 := hb.2
    unfold vacNeed at h2
    rw [if_pos ha] at h2
    omega
  | false =>
    have h1 := vacS_all ha
    have h2 := hb.2
    unfold vacNeed at h2
    rw [if_neg (by rw [ha]; simp)] at h2
    omega
end Go.Proofs.Ytmmeemffiibndaa.Slab
