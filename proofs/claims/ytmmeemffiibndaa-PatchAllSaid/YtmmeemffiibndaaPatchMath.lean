/- What entries do to pages, on lists. -/
import Derived.Test.YtmmeemffiibndaaSlabLaws
import Derived.Test.YtmmeemffiibndaaEntRef
namespace Go.Proofs.Ytmmeemffiibndaa.Patch
open Go.Proofs.Ytmmeemffiibndaa.Slab (Slot nos atL putN putZ putL putCode sameB)
open Go.Proofs.Ytmmeemffiibndaa.Ent (Ent noE longB)

def redoCode (lsn : Int) (l : List Slot) (x : Ent) : Int :=
  if Slab.goodB lsn l = false ∨ longB x.kind = false ∨ Ent.goodB x = false then 1
  else if x.lsn ≤ lsn then 0
  else if sameB (atL lsn l x.slot) ⟨x.wu, x.wd⟩ = false then 21
  else putCode lsn l x.slot ⟨x.iu, x.id⟩
def redoD (lsn : Int) (l : List Slot) (x : Ent) : Bool := decide (redoCode lsn l x = 0) && decide (lsn < x.lsn)
def redoN (lsn : Int) (l : List Slot) (x : Ent) : Int := if redoCode lsn l x = 0 then (if x.lsn ≤ lsn then lsn else x.lsn) else 0
def redoZ (lsn : Int) (l : List Slot) (x : Ent) : List Slot := if redoCode lsn l x = 0 then (if x.lsn ≤ lsn then l else putL l x.slot.toNat ⟨x.iu, x.id⟩) else []

theorem redo_arg {lsn : Int} {l : List Slot} {x : Ent} (h : Slab.goodB lsn l = false ∨ longB x.kind = false ∨ Ent.goodB x = false) : redoCode lsn l x = 1 := by unfold redoCode; rw [if_pos h]
theorem redo_parts {lsn : Int} {l : List Slot} {x : Ent} (h1 : Slab.goodB lsn l = true) (h2 : longB x.kind = true) (h3 : Ent.goodB x = true) : ¬ (Slab.goodB lsn l = false ∨ longB x.kind = false ∨ Ent.goodB x = false) := by
  rw [h1, h2, h3]; simp
theorem redo_old {lsn : Int} {l : List Slot} {x : Ent} (h1 : Slab.goodB lsn l = true) (h2 : longB x.kind = true) (h3 : Ent.goodB x = true) (h4 : x.lsn ≤ lsn) :
    redoCode lsn l x = 0 ∧ redoD lsn l x = false ∧ redoN lsn l x = lsn ∧ redoZ lsn l x = l := by
  have h : redoCode lsn l x = 0 := by unfold redoCode; rw [if_neg (redo_parts h1 h2 h3), if_pos h4]
  refine ⟨h, ?_, ?_, ?_⟩
  · unfold redoD; rw [decide_eq_false (p := lsn < x.lsn) (by omega), Bool.and_false]
  · unfold redoN; rw [if_pos h, if_pos h4]
  · unfold redoZ; rw [if_pos h, if_pos h4]
theorem redo_slot {lsn : Int} {l : List Slot} {x : Ent} (h1 : Slab.goodB lsn l = true) (h2 : longB x.kind = true) (h3 : Ent.goodB x = true) (h4 : ¬ x.lsn ≤ lsn) (h5 : sameB (atL lsn l x.slot) ⟨x.wu, x.wd⟩ = false) : redoCode lsn l x = 21 := by
  unfold redoCode; rw [if_neg (redo_parts h1 h2 h3), if_neg h4, if_pos h5]
theorem redo_put {lsn : Int} {l : List Slot} {x : Ent} (h1 : Slab.goodB lsn l = true) (h2 : longB x.kind = true) (h3 : Ent.goodB x = true) (h4 : ¬ x.lsn ≤ lsn) (h5 : sameB (atL lsn l x.slot) ⟨x.wu, x.wd⟩ = true) : redoCode lsn l x = putCode lsn l x.slot ⟨x.iu, x.id⟩ := by
  unfold redoCode; rw [if_neg (redo_parts h1 h2 h3), if_neg h4, if_neg (by rw [h5]; simp)]
theorem redo_err {lsn : Int} {l : List Slot} {x : Ent} (h : redoCode lsn l x ≠ 0) : redoD lsn l x = false ∧ redoN lsn l x = 0 ∧ redoZ lsn l x = [] := by
  refine ⟨?_, ?_, ?_⟩
  · unfold redoD; rw [decide_eq_false (p := redoCode lsn l x = 0) h, Bool.false_and]
  · unfold redoN; rw [if_neg h]
  · unfold redoZ; rw [if_neg h]
theorem redo_new {lsn : Int} {l : List Slot} {x : Ent} (h4 : ¬ x.lsn ≤ lsn) (h : redoCode lsn l x = 0) : redoD lsn l x = true ∧ redoN lsn l x = x.lsn ∧ redoZ lsn l x = putL l x.slot.toNat ⟨x.iu, x.id⟩ := by
  refine ⟨?_, ?_, ?_⟩
  · unfold redoD; rw [decide_eq_true (p := redoCode lsn l x = 0) h, decide_eq_true (by omega)]; rfl
  · unfold redoN; rw [if_pos h, if_neg h4]
  · unfold redoZ; rw [if_pos h, if_neg h4]
/-- what is known of an entry that was no error -/
theorem redo_zero {lsn : Int} {l : List Slot} {x : Ent} (h : redoCode lsn l x = 0) : Slab.goodB lsn l = true ∧ longB x.kind = true ∧ Ent.goodB x = true ∧ (x.lsn ≤ lsn ∨ (¬ x.lsn ≤ lsn ∧ sameB (atL lsn l x.slot) ⟨x.wu, x.wd⟩ = true ∧ putCode lsn l x.slot ⟨x.iu, x.id⟩ = 0)) := by
  by_cases hp : Slab.goodB lsn l = false ∨ longB x.kind = false ∨ Ent.goodB x = false
  · rw [redo_arg hp] at h; cases h
  · rw [not_or, not_or] at hp
    have h1 : Slab.goodB lsn l = true := by simpa using hp.1
    have h2 : longB x.kind = true := by simpa using hp.2.1
    have h3 : Ent.goodB x = true := by simpa using hp.2.2
    refine ⟨h1, h2, h3, ?_⟩
    by_cases h4 : x.lsn ≤ lsn
    · exact .inl h4
    · right
      cases h5 : sameB (atL lsn l x.slot) ⟨x.wu, x.wd⟩ with
      | false => rw [redo_slot h1 h2 h3 h4 h5] at h; cases h
      | true => rw [redo_put h1 h2 h3 h4 h5] at h; exact ⟨h4, rfl, h⟩
theorem good_lsn {lsn L : Int} {l : List Slot} (h : Slab.goodB lsn l = true) (h0 : 0 ≤ L) (h1 : L ≤ 1099511627776) : Slab.goodB L l = true := by
  obtain ⟨_, _, p3, p4, p5, p6⟩ := Slab.good_parts h
  exact Slab.good_of h0 h1 p3 p4 p5 p6
theorem ent_lsn {x : Ent} (h : Ent.goodB x = true) : 1 ≤ x.lsn ∧ x.lsn ≤ 1099511627776 ∧ 0 ≤ x.prev ∧ x.prev < x.lsn := by
  have hh : Ent.headB x = true := by unfold Ent.goodB at h; simp only [Bool.and_eq_true] at h; exact h.1
  have := Ent.head_parts hh
  omega
/-- behind an entry a page is good, and its number is no smaller -/
theorem redo_good {lsn : Int} {l : List Slot} {x : Ent} (h : redoCode lsn l x = 0) : Slab.goodB (redoN lsn l x) (redoZ lsn l x) = true ∧ lsn ≤ redoN lsn l x ∧ x.lsn ≤ redoN lsn l x := by
  obtain ⟨h1, h2, h3, h4 | ⟨h4, h5, h6⟩⟩ := redo_zero h
  · obtain ⟨_, _, e1, e2⟩ := redo_old h1 h2 h3 h4
    rw [e1, e2]; exact ⟨h1, Int.le_refl _, h4⟩
  · obtain ⟨_, e1, e2⟩ := redo_new h4 h
    rw [e1, e2]
    have := ent_lsn h3
    exact ⟨good_lsn (Slab.put_good h6) (by omega) (by omega), by omega, Int.le_refl _⟩
theorem redo_len {lsn : Int} {l : List Slot} (x : Ent) : (redoZ lsn l x).length ≤ 32 := by
  by_cases h : redoCode lsn l x = 0
  · exact (Slab.good_parts (redo_good h).1).2.2.1
  · rw [(redo_err h).2.2]; simp

/-- what undoes an entry -/
def turnY (x : Ent) (lsn prev : Int) : Ent := ⟨2, x.cl, x.ep, x.n, lsn, prev, x.page, x.slot, x.iu, x.id, x.wu, x.wd, x.prev⟩
def turnB (x : Ent) (lsn prev : Int) : Bool := decide (x.kind = 1) && Ent.goodB x && Ent.goodB (turnY x lsn prev)
def turnX (x : Ent) (lsn prev : Int) : Ent := if turnB x lsn prev then turnY x lsn prev else noE
def turnC (x : Ent) (lsn prev : Int) : Int := if turnB x lsn prev then 0 else 1

/-- all entries of a page, one behind the other: the error, the number, the slots -/
def allF (page : Int) : List Ent → Int → List Slot → Int × Int × List Slot
  | [], lsn, l => (0, lsn, l)
  | x :: r, lsn, l =>
    if longB x.kind = true ∧ x.page = page then
      (if redoCode lsn l x = 0 then allF page r (redoN lsn l x) (redoZ lsn l x) else (redoCode lsn l x, 0, []))
    else allF page r lsn l
def allR (page lsn : Int) (l : List Slot) (xs : List Ent) : Int × Int × List Slot := if Slab.goodB lsn l then allF page xs lsn l else (1, 0, [])
theorem allF_append {page : Int} : ∀ {xs ys : List Ent} {lsn L : Int} {l Z : List Slot}, allF page xs lsn l = (0, L, Z) → allF page (xs ++ ys) lsn l = allF page ys L Z
  | [], ys, lsn, L, l, Z, h => by
    simp only [allF, Prod.mk.injEq] at h
    obtain ⟨_, rfl, rfl⟩ := h; rfl
  | x :: r, ys, lsn, L, l, Z, h => by
    rw [List.cons_append, allF]
    rw [allF] at h
    by_cases hp : longB x.kind = true ∧ x.page = page
    · rw [if_pos hp] at h ⊢
      by_cases hc : redoCode lsn l x = 0
      · rw [if_pos hc] at h ⊢; exact allF_append h
      · rw [if_neg hc] at h; simp only [Prod.mk.injEq] at h; exact absurd h.1 hc
    · rw [if_neg hp] at h ⊢; exact allF_append h
theorem allF_stop {page : Int} : ∀ {xs ys : List Ent} {lsn : Int} {l : List Slot}, (allF page xs lsn l).1 ≠ 0 → allF page (xs ++ ys) lsn l = allF page xs lsn l
  | [], ys, lsn, l, h => absurd rfl h
  | x :: r, ys, lsn, l, h => by
    rw [List.cons_append, allF, allF]
    rw [allF] at h
    by_cases hp : longB x.kind = true ∧ x.page = page
    · rw [if_pos hp] at h
      rw [if_pos hp, if_pos hp]
      by_cases hc : redoCode lsn l x = 0
      · rw [if_pos hc] at h
        rw [if_pos hc, if_pos hc]; exact allF_stop h
      · rw [if_neg hc, if_neg hc]
    · rw [if_neg hp] at h
      rw [if_neg hp, if_neg hp]; exact allF_stop h
theorem allF_good {page : Int} : ∀ {xs : List Ent} {lsn L : Int} {l Z : List Slot}, Slab.goodB lsn l = true → allF page xs lsn l = (0, L, Z) → Slab.goodB L Z = true ∧ lsn ≤ L ∧ ∀ x ∈ xs, longB x.kind = true → x.page = page → x.lsn ≤ L ∧ Ent.goodB x = true
  | [], lsn, L, l, Z, hg, h => by
    simp only [allF, Prod.mk.injEq] at h
    obtain ⟨_, rfl, rfl⟩ := h
    exact ⟨hg, Int.le_refl _, by simp⟩
  | x :: r, lsn, L, l, Z, hg, h => by
    rw [allF] at h
    by_cases hp : longB x.kind = true ∧ x.page = page
    · rw [if_pos hp] at h
      by_cases hc : redoCode lsn l x = 0
      · rw [if_pos hc] at h
        obtain ⟨g1, g2, g3⟩ := redo_good hc
        obtain ⟨r1, r2, r3⟩ := allF_good g1 h
        refine ⟨r1, by omega, fun y hy hk hq => ?_⟩
        rcases List.mem_cons.1 hy with rfl | hy
        · exact ⟨by omega, (redo_zero hc).2.2.1⟩
        · exact r3 y hy hk hq
      · rw [if_neg hc] at h; simp only [Prod.mk.injEq] at h; exact absurd h.1 hc
    · rw [if_neg hp] at h
      obtain ⟨r1, r2, r3⟩ := allF_good hg h
      refine ⟨r1, r2, fun y hy hk hq => ?_⟩
      rcases List.mem_cons.1 hy with rfl | hy
      · exact absurd ⟨hk, hq⟩ hp
      · exact r3 y hy hk hq
/-- what is done already changes nothing -/
theorem allF_old {page : Int} : ∀ {xs : List Ent} {L : Int} {Z : List Slot}, Slab.goodB L Z = true → (∀ x ∈ xs, longB x.kind = true → x.page = page → x.lsn ≤ L ∧ Ent.goodB x = true) → allF page xs L Z = (0, L, Z)
  | [], L, Z, _, _ => rfl
  | x :: r, L, Z, hg, h => by
    rw [allF]
    by_cases hp : longB x.kind = true ∧ x.page = page
    · obtain ⟨h1, h2⟩ := h x List.mem_cons_self hp.1 hp.2
      obtain ⟨e0, _, e1, e2⟩ := redo_old hg hp.1 h2 h1
      rw [if_pos hp, if_pos e0, e1, e2]
      exact allF_old hg fun y hy => h y (List.mem_cons_of_mem _ hy)
    · rw [if_neg hp]
      exact allF_old hg fun y hy => h y (List.mem_cons_of_mem _ hy)
theorem allF_err {page : Int} : ∀ {xs : List Ent} {lsn : Int} {l : List Slot}, (allF page xs lsn l).1 ≠ 0 → (allF page xs lsn l).2 = (0, [])
  | [], lsn, l, h => absurd rfl h
  | x :: r, lsn, l, h => by
    rw [allF] at h ⊢
    by_cases hp : longB x.kind = true ∧ x.page = page
    · rw [if_pos hp] at h ⊢
      by_cases hc : redoCode lsn l x = 0
      · rw [if_pos hc] at h ⊢; exact allF_err h
      · rw [if_neg hc]
    · rw [if_neg hp] at h ⊢; exact allF_err h
theorem allR_err {page lsn : Int} {l : List Slot} {xs : List Ent} (h : (allR page lsn l xs).1 ≠ 0) : (allR page lsn l xs).2 = (0, []) := by
  unfold allR at h ⊢
  split
  · rename_i hg; rw [if_pos hg] at h; exact allF_err h
  · rfl
theorem allR_zero {page lsn : Int} {l : List Slot} {xs : List Ent} (h : (allR page lsn l xs).1 = 0) : Slab.goodB lsn l = true ∧ allF page xs lsn l = (0, (allR page lsn l xs).2.1, (allR page lsn l xs).2.2) := by
  unfold allR at h ⊢
  split
  · rename_i hg
    rw [if_pos hg] at h
    exact ⟨hg, by rw [← h]⟩
  · rename_i hg; rw [if_neg hg] at h; cases h
theorem allR_len (page lsn : Int) (l : List Slot) (xs : List Ent) : (allR page lsn l xs).2.2.length ≤ 32 := by
  by_cases h : (allR page lsn l xs).1 = 0
  · obtain ⟨hg, h2⟩ := allR_zero h
    exact (Slab.good_parts (allF_good hg h2).1).2.2.1
  · rw [allR_err h]; simp
/-- done again -/
theorem allR_once {page lsn : Int} {l : List Slot} {xs : List Ent} (h : (allR page lsn l xs).1 = 0) (k : Nat) : allR page (allR page lsn l xs).2.1 (allR page lsn l xs).2.2 (xs.drop k) = (0, (allR page lsn l xs).2.1, (allR page lsn l xs).2.2) ∧ lsn ≤ (allR page lsn l xs).2.1 := by
  obtain ⟨hg, h2⟩ := allR_zero h
  obtain ⟨g1, g2, g3⟩ := allF_good hg h2
  refine ⟨?_, g2⟩
  rw [allR, if_pos g1]
  exact allF_old g1 fun x hx => g3 x (List.mem_of_mem_drop hx)
/-- in pieces -/
theorem allR_parts {page lsn : Int} {l : List Slot} {xs : List Ent} (k : Nat) (h : (allR page lsn l (xs.take k)).1 = 0) : allR page (allR page lsn l (xs.take k)).2.1 (allR page lsn l (xs.take k)).2.2 (xs.drop k) = allR page lsn l xs := by
  obtain ⟨hg, h2⟩ := allR_zero h
  obtain ⟨g1, g2, g3⟩ := allF_good hg h2
  have h3 := allF_append (ys := xs.drop k) h2
  rw [List.take_append_drop] at h3
  rw [allR, if_pos g1, ← h3, allR, if_pos hg]
theorem allR_cut {page lsn : Int} {l : List Slot} {xs : List Ent} (k : Nat) (h : (allR page lsn l (xs.take k)).1 ≠ 0) : (allR page lsn l xs).1 = (allR page lsn l (xs.take k)).1 := by
  unfold allR at h ⊢
  split
  · rename_i hg
    rw [if_pos hg] at h
    have h3 := allF_stop (ys := xs.drop k) h
    rw [List.take_append_drop] at h3
    rw [h3]
  · rfl
end Go.Proofs.Ytmmeemffiibndaa.Patch
