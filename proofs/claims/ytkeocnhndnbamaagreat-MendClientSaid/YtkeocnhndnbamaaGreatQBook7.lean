/- What entries do to pages, on lists. Layer 17 (past) as plain data: names in one order, rows that rise, what a list of entries tells. No program is named here. Recovery as plain data (layer 18): logs in which each change was made on the page as it was then, each page by one transaction at a time; what redoing and undoing leaves. Images, slots and names of transactions are any types. No program is named here. -/
import Derived.Test.YtkeocnhndnbamaaGreatQBook3
import Derived.Test.YtkeocnhndnbamaaGreatQBook6
import Derived.Test.YtkeocnhndnbamaaGreatQBook4
namespace Go.Proofs.YtkeocnhndnbamaaGreat.Patch
set_option maxRecDepth 100000
open Go.Proofs.YtkeocnhndnbamaaGreat.Slab (Slot nos atL putN putZ putL putCode sameB)
open Go.Proofs.YtkeocnhndnbamaaGreat.Ent (Ent noE longB)

def redoCode (lsn : Int) (l : List Slot) (x : Ent) : Int :=
  if Slab.goodB lsn l = false ∨ longB x.kind = false ∨ Ent.goodB x = false then 1
  else if x.lsn ≤ lsn then 0
  else if sameB (atL lsn l x.slot) ⟨x.wu, x.wd⟩ = false then 21
  else putCode lsn l x.slot ⟨x.iu, x.id⟩
def redoD (lsn : Int) (l : List Slot) (x : Ent) : Bool := decide (redoCode lsn l x = 0) && decide (lsn < x.lsn)
def redoN (lsn : Int) (l : List Slot) (x : Ent) : Int := if redoCode lsn l x = 0 then (if x.lsn ≤ lsn then lsn else x.lsn) else 0
def redoZ (lsn : Int) (l : List Slot) (x : Ent) : List Slot := if redoCode lsn l x = 0 then (if x.lsn ≤ lsn then l else putL l x.slot.toNat ⟨x.iu, x.id⟩) else []

theorem redo_arg {lsn : Int} {l : List Slot} {x : Ent} (h : Slab.goodB lsn l = false ∨ longB x.kind = false ∨ Ent.goodB x = false) : redoCode lsn l x = 1 := by unfold redoCode; rw [if_pos h]
theorem redo_parts {lsn : Int} {l : List Slot} {x : Ent} (h1 : Slab.goodB lsn l = true) (h2 : longB x.kind = true) (h3 : Ent.goodB x = true) : ¬ (Slab.goodB lsn l = false ∨ longB x.kind = false ∨ Ent.goodB x = false) := by
  rw [h1, h2, h3]; simp
theorem redo_old {lsn : Int} {l : List Slot} {x : Ent} (h1 : Slab.goodB lsn l = true) (h2 : longB x.kind = true) (h3 : Ent.goodB x = true) (h4 : x.lsn ≤ lsn) :
    redoCode lsn l x = 0 ∧ redoD lsn l x = false ∧ redoN lsn l x = lsn ∧ redoZ lsn l x = l := by
  have h : redoCode lsn l x = 0 := by unfold redoCode; rw [if_neg (redo_parts h1 h2 h3), if_pos h4]
  refine ⟨h, ?_, ?_, ?_⟩
  · unfold redoD; rw [decide_eq_false (p := lsn < x.lsn) (by omega), Bool.and_false]
  · unfold redoN; rw [if_pos h, if_pos h4]
  · unfold redoZ; rw [if_pos h, if_pos h4]
theorem redo_slot {lsn : Int} {l : List Slot} {x : Ent} (h1 : Slab.goodB lsn l = true) (h2 : longB x.kind = true) (h3 : Ent.goodB x = true) (h4 : ¬ x.lsn ≤ lsn) (h5 : sameB (atL lsn l x.slot) ⟨x.wu, x.wd⟩ = false) : redoCode lsn l x = 21 := by
  unfold redoCode; rw [if_neg (redo_parts h1 h2 h3), if_neg h4, if_pos h5]
theorem redo_put {lsn : Int} {l : List Slot} {x : Ent} (h1 : Slab.goodB lsn l = true) (h2 : longB x.kind = true) (h3 : Ent.goodB x = true) (h4 : ¬ x.lsn ≤ lsn) (h5 : sameB (atL lsn l x.slot) ⟨x.wu, x.wd⟩ = true) : redoCode lsn l x = putCode lsn l x.slot ⟨x.iu, x.id⟩ := by
  unfold redoCode; rw [if_neg (redo_parts h1 h2 h3), if_neg h4, if_neg (by rw [h5]; simp)]
theorem redo_err {lsn : Int} {l : List Slot} {x : Ent} (h : redoCode lsn l x ≠ 0) : redoD lsn l x = false ∧ redoN lsn l x = 0 ∧ redoZ lsn l x = [] := by
  refine ⟨?_, ?_, ?_⟩
  · unfold redoD; rw [decide_eq_false (p := redoCode lsn l x = 0) h, Bool.false_and]
  · unfold redoN; rw [if_neg h]
  · unfold redoZ; rw [if_neg h]
theorem redo_new {lsn : Int} {l : List Slot} {x : Ent} (h4 : ¬ x.lsn ≤ lsn) (h : redoCode lsn l x = 0) : redoD lsn l x = true ∧ redoN lsn l x = x.lsn ∧ redoZ lsn l x = putL l x.slot.toNat ⟨x.iu, x.id⟩ := by
  refine ⟨?_, ?_, ?_⟩
  · unfold redoD; rw [decide_eq_true (p := redoCode lsn l x = 0) h, decide_eq_true (by omega)]; rfl
  · unfold redoN; rw [if_pos h, if_neg h4]
  · unfold redoZ; rw [if_pos h, if_neg h4]
/-- what is known of an entry that was no error -/
theorem redo_zero {lsn : Int} {l : List Slot} {x : Ent} (h : redoCode lsn l x = 0) : Slab.goodB lsn l = true ∧ longB x.kind = true ∧ Ent.goodB x = true ∧ (x.lsn ≤ lsn ∨ (¬ x.lsn ≤ lsn ∧ sameB (atL lsn l x.slot) ⟨x.wu, x.wd⟩ = true ∧ putCode lsn l x.slot ⟨x.iu, x.id⟩ = 0)) := by
  by_cases hp : Slab.goodB lsn l = false ∨ longB x.kind = false ∨ Ent.goodB x = false
  · rw [redo_arg hp] at h; cases h
  · rw [not_or, not_or] at hp
    have h1 : Slab.goodB lsn l = true := by simpa using hp.1
    have h2 : longB x.kind = true := by simpa using hp.2.1
    have h3 : Ent.goodB x = true := by simpa using hp.2.2
    refine ⟨h1, h2, h3, ?_⟩
    by_cases h4 : x.lsn ≤ lsn
    · exact .inl h4
    · right
      cases h5 : sameB (atL lsn l x.slot) ⟨x.wu, x.wd⟩ with
      | false => rw [redo_slot h1 h2 h3 h4 h5] at h; cases h
      | true => rw [redo_put h1 h2 h3 h4 h5] at h; exact ⟨h4, rfl, h⟩
theorem good_lsn {lsn L : Int} {l : List Slot} (h : Slab.goodB lsn l = true) (h0 : 0 ≤ L) (h1 : L ≤ 1099511627776) : Slab.goodB L l = true := by
  obtain ⟨_, _, p3, p4, p5, p6⟩ := Slab.good_parts h
  exact Slab.good_of h0 h1 p3 p4 p5 p6
theorem ent_lsn {x : Ent} (h : Ent.goodB x = true) : 1 ≤ x.lsn ∧ x.lsn ≤ 1099511627776 ∧ 0 ≤ x.prev ∧ x.prev < x.lsn := by
  have hh : Ent.headB x = true := by unfold Ent.goodB at h; simp only [Bool.and_eq_true] at h; exact h.1
  have := Ent.head_parts hh
  omega
/-- behind an entry a page is good, and its number is no smaller -/
theorem redo_good {lsn : Int} {l : List Slot} {x : Ent} (h : redoCode lsn l x = 0) : Slab.goodB (redoN lsn l x) (redoZ lsn l x) = true ∧ lsn ≤ redoN lsn l x ∧ x.lsn ≤ redoN lsn l x := by
  obtain ⟨h1, h2, h3, h4 | ⟨h4, h5, h6⟩⟩ := redo_zero h
  · obtain ⟨_, _, e1, e2⟩ := redo_old h1 h2 h3 h4
    rw [e1, e2]; exact ⟨h1, Int.le_refl _, h4⟩
  · obtain ⟨_, e1, e2⟩ := redo_new h4 h
    rw [e1, e2]
    have := ent_lsn h3
    exact ⟨good_lsn (Slab.put_good h6) (by omega) (by omega), by omega, Int.le_refl _⟩
/-- what undoes an entry -/
def turnY (x : Ent) (lsn prev : Int) : Ent := ⟨2, x.cl, x.ep, x.n, lsn, prev, x.page, x.slot, x.iu, x.id, x.wu, x.wd, x.prev⟩
def turnB (x : Ent) (lsn prev : Int) : Bool := decide (x.kind = 1) && Ent.goodB x && Ent.goodB (turnY x lsn prev)
def turnX (x : Ent) (lsn prev : Int) : Ent := if turnB x lsn prev then turnY x lsn prev else noE
def turnC (x : Ent) (lsn prev : Int) : Int := if turnB x lsn prev then 0 else 1

/-- all entries of a page, one behind the other: the error, the number, the slots -/
def allF (page : Int) : List Ent → Int → List Slot → Int × Int × List Slot
  | [], lsn, l => (0, lsn, l)
  | x :: r, lsn, l =>
    if longB x.kind = true ∧ x.page = page then
      (if redoCode lsn l x = 0 then allF page r (redoN lsn l x) (redoZ lsn l x) else (redoCode lsn l x, 0, []))
    else allF page r lsn l
def allR (page lsn : Int) (l : List Slot) (xs : List Ent) : Int × Int × List Slot := if Slab.goodB lsn l then allF page xs lsn l else (1, 0, [])
theorem allF_append {page : Int} : ∀ {xs ys : List Ent} {lsn L : Int} {l Z : List Slot}, allF page xs lsn l = (0, L, Z) → allF page (xs ++ ys) lsn l = allF page ys L Z
  | [], ys, lsn, L, l, Z, h => by
    simp only [allF, Prod.mk.injEq] at h
    obtain ⟨_, rfl, rfl⟩ := h; rfl
  | x :: r, ys, lsn, L, l, Z, h => by
    rw [List.cons_append, allF]
    rw [allF] at h
    by_cases hp : longB x.kind = true ∧ x.page = page
    · rw [if_pos hp] at h ⊢
      by_cases hc : redoCode lsn l x = 0
      · rw [if_pos hc] at h ⊢; exact allF_append h
      · rw [if_neg hc] at h; simp only [Prod.mk.injEq] at h; exact absurd h.1 hc
    · rw [if_neg hp] at h ⊢; exact allF_append h
theorem allF_good {page : Int} : ∀ {xs : List Ent} {lsn L : Int} {l Z : List Slot}, Slab.goodB lsn l = true → allF page xs lsn l = (0, L, Z) → Slab.goodB L Z = true ∧ lsn ≤ L ∧ ∀ x ∈ xs, longB x.kind = true → x.page = page → x.lsn ≤ L ∧ Ent.goodB x = true
  | [], lsn, L, l, Z, hg, h => by
    simp only [allF, Prod.mk.injEq] at h
    obtain ⟨_, rfl, rfl⟩ := h
    exact ⟨hg, Int.le_refl _, by simp⟩
  | x :: r, lsn, L, l, Z, hg, h => by
    rw [allF] at h
    by_cases hp : longB x.kind = true ∧ x.page = page
    · rw [if_pos hp] at h
      by_cases hc : redoCode lsn l x = 0
      · rw [if_pos hc] at h
        obtain ⟨g1, g2, g3⟩ := redo_good hc
        obtain ⟨r1, r2, r3⟩ := allF_good g1 h
        refine ⟨r1, by omega, fun y hy hk hq => ?_⟩
        rcases List.mem_cons.1 hy with rfl | hy
        · exact ⟨by omega, (redo_zero hc).2.2.1⟩
        · exact r3 y hy hk hq
      · rw [if_neg hc] at h; simp only [Prod.mk.injEq] at h; exact absurd h.1 hc
    · rw [if_neg hp] at h
      obtain ⟨r1, r2, r3⟩ := allF_good hg h
      refine ⟨r1, r2, fun y hy hk hq => ?_⟩
      rcases List.mem_cons.1 hy with rfl | hy
      · exact absurd ⟨hk, hq⟩ hp
      · exact r3 y hy hk hq
theorem allF_err {page : Int} : ∀ {xs : List Ent} {lsn : Int} {l : List Slot}, (allF page xs lsn l).1 ≠ 0 → (allF page xs lsn l).2 = (0, [])
  | [], lsn, l, h => absurd rfl h
  | x :: r, lsn, l, h => by
    rw [allF] at h ⊢
    by_cases hp : longB x.kind = true ∧ x.page = page
    · rw [if_pos hp] at h ⊢
      by_cases hc : redoCode lsn l x = 0
      · rw [if_pos hc] at h ⊢; exact allF_err h
      · rw [if_neg hc]
    · rw [if_neg hp] at h ⊢; exact allF_err h
theorem allR_err {page lsn : Int} {l : List Slot} {xs : List Ent} (h : (allR page lsn l xs).1 ≠ 0) : (allR page lsn l xs).2 = (0, []) := by
  unfold allR at h ⊢
  split
  · rename_i hg; rw [if_pos hg] at h; exact allF_err h
  · rfl
theorem allR_zero {page lsn : Int} {l : List Slot} {xs : List Ent} (h : (allR page lsn l xs).1 = 0) : Slab.goodB lsn l = true ∧ allF page xs lsn l = (0, (allR page lsn l xs).2.1, (allR page lsn l xs).2.2) := by
  unfold allR at h ⊢
  split
  · rename_i hg
    rw [if_pos hg] at h
    exact ⟨hg, by rw [← h]⟩
  · rename_i hg; rw [if_neg hg] at h; cases h
theorem allR_len (page lsn : Int) (l : List Slot) (xs : List Ent) : (allR page lsn l xs).2.2.length ≤ 32 := by
  by_cases h : (allR page lsn l xs).1 = 0
  · obtain ⟨hg, h2⟩ := allR_zero h
    exact (Slab.good_parts (allF_good hg h2).1).2.2.1
  · rw [allR_err h]; simp
end Go.Proofs.YtkeocnhndnbamaaGreat.Patch
namespace Go.Proofs.YtkeocnhndnbamaaGreat.Past
set_option maxRecDepth 100000
open Go.Proofs.YtkeocnhndnbamaaGreat.Ent
/-! ### Names -/
structure T3 where
  cl : Int
  ep : Int
  n : Int
deriving DecidableEq
def txE (x : Ent) : T3 := ⟨x.cl, x.ep, x.n⟩
def lessT (a b : T3) : Bool := if a.cl ≠ b.cl then decide (a.cl < b.cl) else if a.ep ≠ b.ep then decide (a.ep < b.ep) else decide (a.n < b.n)
theorem less_iff (a b : T3) : lessT a b = true ↔ a.cl < b.cl ∨ (a.cl = b.cl ∧ (a.ep < b.ep ∨ (a.ep = b.ep ∧ a.n < b.n))) := by
  unfold lessT
  by_cases h1 : a.cl = b.cl
  · rw [if_neg (by simpa using h1)]
    by_cases h2 : a.ep = b.ep
    · rw [if_neg (by simpa using h2)]
      simp; omega
    · rw [if_pos h2]
      simp; omega
  · rw [if_pos h1]
    simp; omega
theorem t3_eq {a b : T3} : a = b ↔ a.cl = b.cl ∧ a.ep = b.ep ∧ a.n = b.n := by
  obtain ⟨a1, a2, a3⟩ := a
  obtain ⟨b1, b2, b3⟩ := b
  simp
/-! ### Rows that rise by a key -/
structure Order {K : Type} (lt : K → K → Bool) : Prop where
  irr : ∀ a, lt a a = false
  tra : ∀ a b c, lt a b = true → lt b c = true → lt a c = true
  tri : ∀ a b, lt a b = true ∨ a = b ∨ lt b a = true
theorem order_less : Order lessT where
  irr a := by cases h : lessT a a with
    | false => rfl
    | true => rw [less_iff] at h; omega
  tra a b c h1 h2 := by rw [less_iff] at *; omega
  tri a b := by rw [less_iff, less_iff, t3_eq]; omega
def ltI (a b : Int) : Bool := decide (a < b)
theorem order_int : Order ltI where
  irr a := by simp [ltI]
  tra a b c h1 h2 := by simp [ltI] at *; omega
  tri a b := by simp [ltI]; omega
theorem Order.ne {K : Type} {lt : K → K → Bool} (o : Order lt) {a b : K} (h : lt a b = true) : a ≠ b := fun e => by rw [e, o.irr] at h; cases h
section
variable {K V : Type} [DecidableEq K] {lt : K → K → Bool}
def Rise (lt : K → K → Bool) (L : List (K × V)) : Prop := L.Pairwise fun a b => lt a.1 b.1 = true
def getK (k : K) (L : List (K × V)) : Option V := (L.find? fun y => decide (y.1 = k)).map (·.2)
/-- laid under a key; over: in the place of what is there -/
def putK (lt : K → K → Bool) (over : Bool) (k : K) (v : V) : List (K × V) → List (K × V)
  | [] => [(k, v)]
  | y :: r => if lt k y.1 = true then (k, v) :: y :: r else if y.1 = k then (if over = true then (k, v) else y) :: r else y :: putK lt over k v r
theorem get_cons (k : K) (y : K × V) (L : List (K × V)) : getK k (y :: L) = if y.1 = k then some y.2 else getK k L := by
  unfold getK
  rw [List.find?_cons]
  by_cases h : y.1 = k
  · simp [h]
  · rw [if_neg h, show decide (y.1 = k) = false by simpa using h]
theorem get_none_of {k : K} {L : List (K × V)} (h : ∀ y ∈ L, y.1 ≠ k) : getK k L = none := by
  induction L with
  | nil => rfl
  | cons y r ih =>
    rw [get_cons, if_neg (h y List.mem_cons_self)]
    exact ih fun z hz => h z (List.mem_cons_of_mem _ hz)
theorem get_mem {k : K} {v : V} {L : List (K × V)} (h : getK k L = some v) : (k, v) ∈ L := by
  induction L with
  | nil => cases h
  | cons y r ih =>
    rw [get_cons] at h
    by_cases e : y.1 = k
    · rw [if_pos e] at h
      cases h
      rw [← e]
      exact List.mem_cons_self
    · rw [if_neg e] at h
      exact List.mem_cons_of_mem _ (ih h)
theorem get_of_mem (o : Order lt) {L : List (K × V)} (hr : Rise lt L) {y : K × V} (h : y ∈ L) : getK y.1 L = some y.2 := by
  induction L with
  | nil => cases h
  | cons z r ih =>
    rw [get_cons]
    rcases List.mem_cons.1 h with rfl | h'
    · rw [if_pos rfl]
    · have := List.rel_of_pairwise_cons hr h'
      rw [if_neg (o.ne this)]
      exact ih (List.Pairwise.of_cons hr) h'
theorem mem_put {k : K} {v : V} {over : Bool} {z : K × V} : ∀ {L : List (K × V)}, z ∈ putK lt over k v L → z.1 = k ∨ z ∈ L
  | [], h => by simp [putK] at h; exact .inl (by rw [h])
  | y :: r, h => by
    unfold putK at h
    split at h
    · rcases List.mem_cons.1 h with rfl | h
      · exact .inl rfl
      · exact .inr h
    · split at h
      · rename_i e
        rcases List.mem_cons.1 h with h | h
        · cases over with
          | true => simp at h; exact .inl (by rw [h])
          | false => simp at h; exact .inr (by rw [h]; exact List.mem_cons_self)
        · exact .inr (List.mem_cons_of_mem _ h)
      · rcases List.mem_cons.1 h with rfl | h
        · exact .inr List.mem_cons_self
        · exact (mem_put h).imp id (List.mem_cons_of_mem _)
theorem rise_put (o : Order lt) {k : K} {v : V} {over : Bool} : ∀ {L : List (K × V)}, Rise lt L → Rise lt (putK lt over k v L)
  | [], _ => List.pairwise_singleton _ _
  | y :: r, hr => by
    have h1 : ∀ z ∈ r, lt y.1 z.1 = true := fun z hz => List.rel_of_pairwise_cons hr hz
    unfold putK
    split
    · rename_i h
      refine List.Pairwise.cons (fun z hz => ?_) hr
      rcases List.mem_cons.1 hz with rfl | hz
      · exact h
      · exact o.tra _ _ _ h (h1 z hz)
    · rename_i h
      split
      · rename_i e
        refine List.Pairwise.cons (fun z hz => ?_) (List.Pairwise.of_cons hr)
        cases over with
        | true => have := h1 z hz; rw [e] at this; exact this
        | false => exact h1 z hz
      · rename_i e
        refine List.Pairwise.cons (fun z hz => ?_) (rise_put o (List.Pairwise.of_cons hr))
        rcases mem_put hz with e2 | hz
        · rw [e2]
          rcases o.tri y.1 k with h2 | h2 | h2
          · exact h2
          · exact absurd h2 e
          · exact absurd h2 h
        · exact h1 z hz
theorem get_put (o : Order lt) {k : K} {v : V} {over : Bool} (j : K) : ∀ {L : List (K × V)}, Rise lt L →
    getK j (putK lt over k v L) = if j = k then (if over = true then some v else some ((getK k L).getD v)) else getK j L
  | [], _ => by
    unfold putK
    rw [get_cons]
    by_cases e : j = k
    · rw [if_pos e, if_pos e.symm]; cases over <;> rfl
    · rw [if_neg e, if_neg (fun h => e h.symm)]
  | y :: r, hr => by
    have h1 : ∀ z ∈ r, lt y.1 z.1 = true := fun z hz => List.rel_of_pairwise_cons hr hz
    unfold putK
    split
    · rename_i h
      have hn : getK k (y :: r) = none := get_none_of fun z hz => by
        rcases List.mem_cons.1 hz with rfl | hz
        · exact (o.ne h).symm
        · exact (o.ne (o.tra _ _ _ h (h1 z hz))).symm
      rw [get_cons]
      by_cases e : j = k
      · rw [if_pos e, if_pos e.symm, hn]; cases over <;> rfl
      · rw [if_neg e, if_neg (fun h => e h.symm)]
    · rename_i h
      split
      · rename_i e
        rw [get_cons, get_cons, get_cons]
        by_cases e2 : j = k
        · cases over with
          | true => rw [if_pos e2]; simp [e2]
          | false => rw [if_pos e2]; simp [e2, e]
        · cases over with
          | true => rw [if_neg e2]; simp; rw [if_neg (fun h => e2 h.symm), if_neg (fun h => e2 (h.symm.trans e))]
          | false => rw [if_neg e2]; simp
      · rename_i e
        rw [get_cons, get_put o j (List.Pairwise.of_cons hr), get_cons, get_cons, if_neg e]
        by_cases e2 : j = k
        · rw [if_pos e2, if_pos e2, if_neg (fun h => e (h.trans e2))]
        · rw [if_neg e2, if_neg e2]
theorem rise_ext (o : Order lt) : ∀ {A B : List (K × V)}, Rise lt A → Rise lt B → (∀ k, getK k A = getK k B) → A = B
  | [], [], _, _, _ => rfl
  | [], y :: b, _, _, h => by have := h y.1; rw [get_cons, if_pos rfl] at this; cases this
  | x :: a, [], _, _, h => by have := h x.1; rw [get_cons, if_pos rfl] at this; cases this
  | x :: a, y :: b, ha, hb, h => by
    have ha1 : ∀ z ∈ a, lt x.1 z.1 = true := fun z hz => List.rel_of_pairwise_cons ha hz
    have hb1 : ∀ z ∈ b, lt y.1 z.1 = true := fun z hz => List.rel_of_pairwise_cons hb hz
    have na : getK x.1 a = none := get_none_of fun z hz => (o.ne (ha1 z hz)).symm
    have nb : getK y.1 b = none := get_none_of fun z hz => (o.ne (hb1 z hz)).symm
    have e : x.1 = y.1 := by
      rcases o.tri x.1 y.1 with h1 | h1 | h1
      · have h2 := h x.1
        rw [get_cons, if_pos rfl, get_cons, if_neg (o.ne h1).symm, get_none_of fun z hz => (o.ne (o.tra _ _ _ h1 (hb1 z hz))).symm] at h2
        cases h2
      · exact h1
      · have h2 := h y.1
        rw [get_cons, if_neg (o.ne h1).symm, get_none_of (fun z hz => (o.ne (o.tra _ _ _ h1 (ha1 z hz))).symm), get_cons, if_pos rfl] at h2
        cases h2
    have e2 : x = y := by
      have h2 := h x.1
      rw [get_cons, if_pos rfl, get_cons, if_pos e.symm] at h2
      injection h2 with h2
      exact Prod.ext e h2
    subst e2
    rw [rise_ext o (List.Pairwise.of_cons ha) (List.Pairwise.of_cons hb) fun k => ?_]
    by_cases e3 : x.1 = k
    · rw [← e3, na, nb]
    · have h2 := h k
      rwa [get_cons, if_neg e3, get_cons, if_neg e3] at h2
end
end Go.Proofs.YtkeocnhndnbamaaGreat.Past
namespace Go.Proofs.YtkeocnhndnbamaaGreat.MLog
set_option maxRecDepth 100000
/-- images: what stands at a slot; a put, which may find no room -/
structure Img (I S : Type) where
  at_ : I → Int → S
  put : I → Int → S → Option I
  at_put : ∀ i k x j i', put i k x = some i' → at_ i' j = if j = k then x else at_ i j
  back : ∀ i k x i', put i k x = some i' → put i' k (at_ i k) = some i
/-- an entry: its kind (1 Change, 2 Undo, 3 Commit, 4 End) -/
structure En (T S : Type) where
  kind : Nat
  t : T
  lsn : Int
  prev : Int
  page : Int
  slot : Int
  was : S
  is : S
  next : Int
section
variable {T S I : Type} [DecidableEq T]
/-- where a log stands: its pages, and of each transaction its last Lsn, the changes that count (newest first), those behind each of its Lsns, whether it is at its end; whose each page is -/
structure St (T S I : Type) where
  pg : Int → Int × I
  last : T → Int
  stk : T → List (En T S)
  hist : T → Int → List (En T S)
  ended : T → Bool
  own : Int → Option T
def st0 (i0 : I) : St T S I := ⟨fun _ => (0, i0), fun _ => 0, fun _ => [], fun _ _ => [], fun _ => false, fun _ => none⟩
def upd {A B : Type} [DecidableEq A] (f : A → B) (a : A) (b : B) : A → B := fun x => if x = a then b else f x
theorem upd_same {A B : Type} [DecidableEq A] (f : A → B) (a : A) (b : B) : upd f a b a = b := if_pos rfl
theorem upd_ne {A B : Type} [DecidableEq A] (f : A → B) {a x : A} (b : B) (h : x ≠ a) : upd f a b x = f x := if_neg h
variable (G : Img I S)
/-- one entry more -/
inductive Step : St T S I → En T S → St T S I → Prop
  | change {s : St T S I} {e : En T S} {i' : I} (hk : e.kind = 1) (he : s.ended e.t = false) (hp : e.prev = s.last e.t) (h1 : s.last e.t < e.lsn) (h2 : (s.pg e.page).1 < e.lsn)
      (ho : s.own e.page = none ∨ s.own e.page = some e.t) (hw : G.at_ (s.pg e.page).2 e.slot = e.was) (hi : G.put (s.pg e.page).2 e.slot e.is = some i') :
      Step s e ⟨upd s.pg e.page (e.lsn, i'), upd s.last e.t e.lsn, upd s.stk e.t (e :: s.stk e.t), upd s.hist e.t (upd (s.hist e.t) e.lsn (e :: s.stk e.t)), s.ended, upd s.own e.page (some e.t)⟩
  | undo {s : St T S I} {e x : En T S} {r : List (En T S)} {i' : I} (hk : e.kind = 2) (he : s.ended e.t = false) (hp : e.prev = s.last e.t) (h1 : s.last e.t < e.lsn) (h2 : (s.pg e.page).1 < e.lsn)
      (hs : s.stk e.t = x :: r) (hpg : e.page = x.page) (hsl : e.slot = x.slot) (hw : e.was = x.is) (his : e.is = x.was) (hn : e.next = x.prev) (hi : G.put (s.pg e.page).2 e.slot e.is = some i') :
      Step s e ⟨upd s.pg e.page (e.lsn, i'), upd s.last e.t e.lsn, upd s.stk e.t r, upd s.hist e.t (upd (s.hist e.t) e.lsn r), s.ended, s.own⟩
  | end_ {s : St T S I} {e : En T S} (hk : e.kind = 3 ∨ (e.kind = 4 ∧ s.stk e.t = [])) (he : s.ended e.t = false) (hl : 0 < s.last e.t) (hp : e.prev = s.last e.t) (h1 : s.last e.t < e.lsn) :
      Step s e ⟨s.pg, upd s.last e.t e.lsn, upd s.stk e.t [], upd s.hist e.t (upd (s.hist e.t) e.lsn []), upd s.ended e.t true, fun n => if s.own n = some e.t then none else s.own n⟩
/-- a log, and where it stands -/
inductive Log (i0 : I) : List (En T S) → St T S I → Prop
  | nil : Log i0 [] (st0 i0)
  | snoc {L : List (En T S)} {s s' : St T S I} {e : En T S} (h : Log i0 L s) (hs : Step G s e s') : Log i0 (L ++ [e]) s'
/-! ### What holds of every log -/
/-- undone one by one -/
def Undoes : I → List (En T S) → Prop
  | _, [] => True
  | i, x :: r => G.at_ i x.slot = x.is ∧ ∃ i', G.put i x.slot x.was = some i' ∧ Undoes i' r
variable {G}
structure Inv (s : St T S I) : Prop where
  /-- a change that counts is its transaction's own, and its page is that one's -/
  mem : ∀ t x, x ∈ s.stk t → x.t = t ∧ x.kind = 1 ∧ s.own x.page = some t
  /-- on each page what counts can be undone -/
  und : ∀ n t, s.own n = some t → Undoes G (s.pg n).2 ((s.stk t).filter fun x => decide (x.page = n))
  /-- who owns a page isn't at its end -/
  live : ∀ n t, s.own n = some t → s.ended t = false ∧ 0 < s.last t
  /-- the changes that count, by their Prevs -/
  hst : ∀ t, s.hist t (s.last t) = s.stk t
  hst0 : ∀ t, s.hist t 0 = []
  lst : ∀ t, 0 ≤ s.last t
  chain : ∀ t l x r, s.hist t l = x :: r → s.hist t x.prev = r ∧ x.lsn ≤ s.last t ∧ 0 ≤ x.prev ∧ x.prev < x.lsn ∧ x.t = t
  pgs : ∀ n, 0 ≤ (s.pg n).1
end
theorem inv0 {T S I : Type} {G : Img I S} (i0 : I) : Inv (G := G) (st0 (T := T) i0) where
  mem := fun t x h => by cases h
  und := fun n t h => by cases h
  live := fun n t h => by cases h
  hst := fun t => rfl
  hst0 := fun t => rfl
  lst := fun t => Int.le_refl _
  chain := fun t l x r h => by cases h
  pgs := fun n => Int.le_refl _
theorem undoes_ne {T S : Type} {n : Int} : ∀ {L : List (En T S)} (_ : ∀ x ∈ L, x.page ≠ n), L.filter (fun x => decide (x.page = n)) = []
  | [], _ => rfl
  | x :: r, h => by
    rw [List.filter_cons, if_neg (by simpa using h x List.mem_cons_self)]
    exact undoes_ne fun y hy => h y (List.mem_cons_of_mem _ hy)
section
variable {T S I : Type} [DecidableEq T] {G : Img I S}
theorem inv_step {s s' : St T S I} {e : En T S} (hI : Inv (G := G) s) (h : Step G s e s') : Inv (G := G) s' := by
  cases h with
  | @change i' hk he hp h1 h2 ho hw hi =>
    have hlt := hI.lst e.t
    have hone : ∀ t, s.own e.page = some t → t = e.t := fun t ht => by
      rcases ho with h | h
      · rw [h] at ht; cases ht
      · rw [h] at ht; injection ht with ht; exact ht.symm
    refine ⟨fun t x hx => ?_, fun n t hn => ?_, fun n t hn => ?_, fun t => ?_, fun t => ?_, fun t => ?_, fun t l x r hx => ?_, fun n => ?_⟩
    · dsimp only at hx ⊢
      by_cases ht : t = e.t
      · subst ht
        rw [upd_same] at hx
        rcases List.mem_cons.1 hx with rfl | hx
        · exact ⟨rfl, hk, upd_same _ _ _⟩
        · obtain ⟨a, b, c⟩ := hI.mem _ x hx
          refine ⟨a, b, ?_⟩
          by_cases hp2 : x.page = e.page
          · rw [hp2, upd_same]
          · rw [upd_ne _ _ hp2]; exact c
      · rw [upd_ne _ _ ht] at hx
        obtain ⟨a, b, c⟩ := hI.mem _ x hx
        refine ⟨a, b, ?_⟩
        by_cases hp2 : x.page = e.page
        · rw [hp2] at c; exact absurd (hone _ c) ht
        · rw [upd_ne _ _ hp2]; exact c
    · dsimp only at hn ⊢
      by_cases hp2 : n = e.page
      · subst hp2
        rw [upd_same] at hn
        injection hn with hn
        subst hn
        rw [upd_same, upd_same, List.filter_cons, if_pos (by simp)]
        refine ⟨by rw [G.at_put _ _ _ _ _ hi, if_pos rfl], (s.pg e.page).2, by rw [← hw]; exact G.back _ _ _ _ hi, ?_⟩
        rcases ho with h | h
        · rw [undoes_ne (fun x hx hxp => by have := (hI.mem _ x hx).2.2; rw [hxp, h] at this; cases this)]
          trivial
        · exact hI.und _ _ h
      · rw [upd_ne _ _ hp2] at hn
        rw [upd_ne _ _ hp2]
        have := hI.und n t hn
        by_cases ht : t = e.t
        · subst ht
          rw [upd_same, List.filter_cons, if_neg (by simpa using fun h => hp2 h.symm)]
          exact this
        · rw [upd_ne _ _ ht]; exact this
    · dsimp only at hn ⊢
      by_cases hp2 : n = e.page
      · subst hp2
        rw [upd_same] at hn
        injection hn with hn
        subst hn
        exact ⟨he, by rw [upd_same]; omega⟩
      · rw [upd_ne _ _ hp2] at hn
        obtain ⟨a, b⟩ := hI.live n t hn
        refine ⟨a, ?_⟩
        by_cases ht : t = e.t
        · subst ht; rw [upd_same]; omega
        · rw [upd_ne _ _ ht]; exact b
    · dsimp only
      by_cases ht : t = e.t
      · subst ht; rw [upd_same, upd_same, upd_same, upd_same]
      · rw [upd_ne _ _ ht, upd_ne _ _ ht, upd_ne _ _ ht]; exact hI.hst t
    · dsimp only
      by_cases ht : t = e.t
      · subst ht; rw [upd_same, upd_ne _ _ (by omega)]; exact hI.hst0 _
      · rw [upd_ne _ _ ht]; exact hI.hst0 t
    · dsimp only
      by_cases ht : t = e.t
      · subst ht; rw [upd_same]; omega
      · rw [upd_ne _ _ ht]; exact hI.lst t
    · dsimp only at hx ⊢
      by_cases ht : t = e.t
      · subst ht
        rw [upd_same] at hx ⊢
        rw [upd_same]
        by_cases hl : l = e.lsn
        · subst hl
          rw [upd_same] at hx
          injection hx with hx1 hx2
          subst hx1 hx2
          refine ⟨by rw [upd_ne _ _ (by omega), hp]; exact hI.hst _, Int.le_refl _, by omega, by omega, rfl⟩
        · rw [upd_ne _ _ hl] at hx
          obtain ⟨a, b, c, d, f⟩ := hI.chain _ l x r hx
          exact ⟨by rw [upd_ne _ _ (by omega)]; exact a, by omega, c, d, f⟩
      · rw [upd_ne _ _ ht] at hx ⊢
        rw [upd_ne _ _ ht]
        exact hI.chain t l x r hx
    · dsimp only
      by_cases hp2 : n = e.page
      · subst hp2; rw [upd_same]; dsimp only; omega
      · rw [upd_ne _ _ hp2]; exact hI.pgs n
  | @undo x r i' hk he hp h1 h2 hs hpg hsl hw his hn hi =>
    have hlt := hI.lst e.t
    obtain ⟨mx1, mx2, mx3⟩ := hI.mem e.t x (by rw [hs]; exact List.mem_cons_self)
    have hch := hI.chain e.t (s.last e.t) x r (by rw [hI.hst]; exact hs)
    refine ⟨fun t y hy => ?_, fun n t hn2 => ?_, fun n t hn2 => ?_, fun t => ?_, fun t => ?_, fun t => ?_, fun t l y q hy => ?_, fun n => ?_⟩
    · dsimp only at hy ⊢
      by_cases ht : t = e.t
      · subst ht
        rw [upd_same] at hy
        exact hI.mem _ y (by rw [hs]; exact List.mem_cons_of_mem _ hy)
      · rw [upd_ne _ _ ht] at hy; exact hI.mem _ y hy
    · dsimp only at hn2 ⊢
      have hu := hI.und n t hn2
      by_cases hp2 : n = e.page
      · subst hp2
        rw [hpg, mx3] at hn2
        injection hn2 with hn2
        subst hn2
        rw [upd_same, upd_same]
        rw [hs, List.filter_cons, if_pos (by simp [hpg])] at hu
        obtain ⟨_, i2, hi2, hu2⟩ := hu
        rw [hsl, his] at hi
        rw [hi] at hi2
        injection hi2 with hi2
        subst hi2
        exact hu2
      · rw [upd_ne _ _ hp2]
        by_cases ht : t = e.t
        · subst ht
          rw [upd_same]
          rw [hs, List.filter_cons, if_neg (by simpa [← hpg] using fun h => hp2 h.symm)] at hu
          exact hu
        · rw [upd_ne _ _ ht]; exact hu
    · dsimp only at hn2 ⊢
      obtain ⟨a, b⟩ := hI.live n t hn2
      refine ⟨a, ?_⟩
      by_cases ht : t = e.t
      · subst ht; rw [upd_same]; omega
      · rw [upd_ne _ _ ht]; exact b
    · dsimp only
      by_cases ht : t = e.t
      · subst ht; rw [upd_same, upd_same, upd_same, upd_same]
      · rw [upd_ne _ _ ht, upd_ne _ _ ht, upd_ne _ _ ht]; exact hI.hst t
    · dsimp only
      by_cases ht : t = e.t
      · subst ht; rw [upd_same, upd_ne _ _ (by omega)]; exact hI.hst0 _
      · rw [upd_ne _ _ ht]; exact hI.hst0 t
    · dsimp only
      by_cases ht : t = e.t
      · subst ht; rw [upd_same]; omega
      · rw [upd_ne _ _ ht]; exact hI.lst t
    · dsimp only at hy ⊢
      by_cases ht : t = e.t
      · subst ht
        rw [upd_same] at hy ⊢
        rw [upd_same]
        by_cases hl : l = e.lsn
        · subst hl
          rw [upd_same] at hy
          obtain ⟨a, b, c, d, f⟩ := hI.chain _ x.prev y q (by rw [hch.1]; exact hy)
          exact ⟨by rw [upd_ne _ _ (by omega)]; exact a, by omega, c, d, f⟩
        · rw [upd_ne _ _ hl] at hy
          obtain ⟨a, b, c, d, f⟩ := hI.chain _ l y q hy
          exact ⟨by rw [upd_ne _ _ (by omega)]; exact a, by omega, c, d, f⟩
      · rw [upd_ne _ _ ht] at hy ⊢
        rw [upd_ne _ _ ht]
        exact hI.chain t l y q hy
    · dsimp only
      by_cases hp2 : n = e.page
      · subst hp2; rw [upd_same]; dsimp only; have := hI.pgs e.page; omega
      · rw [upd_ne _ _ hp2]; exact hI.pgs n
  | end_ hk he hl hp h1 =>
    refine ⟨fun t x hx => ?_, fun n t hn => ?_, fun n t hn => ?_, fun t => ?_, fun t => ?_, fun t => ?_, fun t l x r hx => ?_, hI.pgs⟩
    · dsimp only at hx ⊢
      by_cases ht : t = e.t
      · subst ht; rw [upd_same] at hx; cases hx
      · rw [upd_ne _ _ ht] at hx
        obtain ⟨a, b, c⟩ := hI.mem _ x hx
        exact ⟨a, b, by rw [if_neg (by rw [c]; exact fun h => ht (by injection h))]; exact c⟩
    · dsimp only at hn ⊢
      by_cases ho : s.own n = some e.t
      · rw [if_pos ho] at hn; cases hn
      · rw [if_neg ho] at hn
        have ht : t ≠ e.t := fun h => ho (by rw [hn, h])
        rw [upd_ne _ _ ht]
        exact hI.und n t hn
    · dsimp only at hn ⊢
      by_cases ho : s.own n = some e.t
      · rw [if_pos ho] at hn; cases hn
      · rw [if_neg ho] at hn
        have ht : t ≠ e.t := fun h => ho (by rw [hn, h])
        rw [upd_ne _ _ ht, upd_ne _ _ ht]
        exact hI.live n t hn
    · dsimp only
      by_cases ht : t = e.t
      · subst ht; rw [upd_same, upd_same, upd_same, upd_same]
      · rw [upd_ne _ _ ht, upd_ne _ _ ht, upd_ne _ _ ht]; exact hI.hst t
    · dsimp only
      by_cases ht : t = e.t
      · subst ht; rw [upd_same, upd_ne _ _ (by omega)]; exact hI.hst0 _
      · rw [upd_ne _ _ ht]; exact hI.hst0 t
    · dsimp only
      by_cases ht : t = e.t
      · subst ht; rw [upd_same]; omega
      · rw [upd_ne _ _ ht]; exact hI.lst t
    · dsimp only at hx ⊢
      by_cases ht : t = e.t
      · subst ht
        rw [upd_same] at hx ⊢
        rw [upd_same]
        by_cases hl2 : l = e.lsn
        · subst hl2; rw [upd_same] at hx; cases hx
        · rw [upd_ne _ _ hl2] at hx
          obtain ⟨a, b, c, d, f⟩ := hI.chain _ l x r hx
          exact ⟨by rw [upd_ne _ _ (by omega)]; exact a, by omega, c, d, f⟩
      · rw [upd_ne _ _ ht] at hx ⊢
        rw [upd_ne _ _ ht]
        exact hI.chain t l x r hx
theorem inv_log {i0 : I} {L : List (En T S)} {s : St T S I} (h : Log G i0 L s) : Inv (G := G) s := by
  induction h with
  | nil => exact inv0 i0
  | snoc _ hs ih => exact inv_step ih hs
end
end Go.Proofs.YtkeocnhndnbamaaGreat.MLog
