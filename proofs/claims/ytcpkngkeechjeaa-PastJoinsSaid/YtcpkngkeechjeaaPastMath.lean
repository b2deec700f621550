/- Layer 17 (past) as plain data: names in one order, rows that rise, what a list of entries tells. No program is named here. -/
import Derived.Test.YtcpkngkeechjeaaEntMath
namespace Go.Proofs.Ytcpkngkeechjeaa.Past
set_option maxRecDepth 100000
open Go.Proofs.Ytcpkngkeechjeaa.Ent
/-! ### Names -/
structure T3 where
  cl : Int
  ep : Int
  n : Int
deriving DecidableEq
def txE (x : Ent) : T3 := ⟨x.cl, x.ep, x.n⟩
def lessT (a b : T3) : Bool := if a.cl ≠ b.cl then decide (a.cl < b.cl) else if a.ep ≠ b.ep then decide (a.ep < b.ep) else decide (a.n < b.n)
theorem less_iff (a b : T3) : lessT a b = true ↔ a.cl < b.cl ∨ (a.cl = b.cl ∧ (a.ep < b.ep ∨ (a.ep = b.ep ∧ a.n < b.n))) := by
  unfold lessT
  by_cases h1 : a.cl = b.cl
  · rw [if_neg (by simpa using h1)]
    by_cases h2 : a.ep = b.ep
    · rw [if_neg (by simpa using h2)]
      simp; omega
    · rw [if_pos h2]
      simp; omega
  · rw [if_pos h1]
    simp; omega
theorem t3_eq {a b : T3} : a = b ↔ a.cl = b.cl ∧ a.ep = b.ep ∧ a.n = b.n := by
  obtain ⟨a1, a2, a3⟩ := a
  obtain ⟨b1, b2, b3⟩ := b
  simp
/-! ### Rows that rise by a key -/
structure Order {K : Type} (lt : K → K → Bool) : Prop where
  irr : ∀ a, lt a a = false
  tra : ∀ a b c, lt a b = true → lt b c = true → lt a c = true
  tri : ∀ a b, lt a b = true ∨ a = b ∨ lt b a = true
theorem order_less : Order lessT where
  irr a := by cases h : lessT a a with
    | false => rfl
    | true => rw [less_iff] at h; omega
  tra a b c h1 h2 := by rw [less_iff] at *; omega
  tri a b := by rw [less_iff, less_iff, t3_eq]; omega
def ltI (a b : Int) : Bool := decide (a < b)
theorem order_int : Order ltI where
  irr a := by simp [ltI]
  tra a b c h1 h2 := by simp [ltI] at *; omega
  tri a b := by simp [ltI]; omega
theorem Order.asym {K : Type} {lt : K → K → Bool} (o : Order lt) {a b : K} (h : lt a b = true) : lt b a = false := by
  cases h2 : lt b a with
  | false => rfl
  | true => have := o.tra a b a h h2; rw [o.irr] at this; cases this
theorem Order.ne {K : Type} {lt : K → K → Bool} (o : Order lt) {a b : K} (h : lt a b = true) : a ≠ b := fun e => by rw [e, o.irr] at h; cases h
section
variable {K V : Type} [DecidableEq K] {lt : K → K → Bool}
def Rise (lt : K → K → Bool) (L : List (K × V)) : Prop := L.Pairwise fun a b => lt a.1 b.1 = true
def getK (k : K) (L : List (K × V)) : Option V := (L.find? fun y => decide (y.1 = k)).map (·.2)
/-- laid under a key; over: in the place of what is there -/
def putK (lt : K → K → Bool) (over : Bool) (k : K) (v : V) : List (K × V) → List (K × V)
  | [] => [(k, v)]
  | y :: r => if lt k y.1 = true then (k, v) :: y :: r else if y.1 = k then (if over = true then (k, v) else y) :: r else y :: putK lt over k v r
theorem get_cons (k : K) (y : K × V) (L : List (K × V)) : getK k (y :: L) = if y.1 = k then some y.2 else getK k L := by
  unfold getK
  rw [List.find?_cons]
  by_cases h : y.1 = k
  · simp [h]
  · rw [if_neg h, show decide (y.1 = k) = false by simpa using h]
theorem get_none_of {k : K} {L : List (K × V)} (h : ∀ y ∈ L, y.1 ≠ k) : getK k L = none := by
  induction L with
  | nil => rfl
  | cons y r ih =>
    rw [get_cons, if_neg (h y List.mem_cons_self)]
    exact ih fun z hz => h z (List.mem_cons_of_mem _ hz)
theorem get_mem {k : K} {v : V} {L : List (K × V)} (h : getK k L = some v) : (k, v) ∈ L := by
  induction L with
  | nil => cases h
  | cons y r ih =>
    rw [get_cons] at h
    by_cases e : y.1 = k
    · rw [if_pos e] at h
      cases h
      rw [← e]
      exact List.mem_cons_self
    · rw [if_neg e] at h
      exact List.mem_cons_of_mem _ (ih h)
theorem get_of_mem (o : Order lt) {L : List (K × V)} (hr : Rise lt L) {y : K × V} (h : y ∈ L) : getK y.1 L = some y.2 := by
  induction L with
  | nil => cases h
  | cons z r ih =>
    rw [get_cons]
    rcases List.mem_cons.1 h with rfl | h'
    · rw [if_pos rfl]
    · have := List.rel_of_pairwise_cons hr h'
      rw [if_neg (o.ne this)]
      exact ih (List.Pairwise.of_cons hr) h'
theorem mem_put {k : K} {v : V} {over : Bool} {z : K × V} : ∀ {L : List (K × V)}, z ∈ putK lt over k v L → z.1 = k ∨ z ∈ L
  | [], h => by simp [putK] at h; exact .inl (by rw [h])
  | y :: r, h => by
    unfold putK at h
    split at h
    · rcases List.mem_cons.1 h with rfl | h
      · exact .inl rfl
      · exact .inr h
    · split at h
      · rename_i e
        rcases List.mem_cons.1 h with h | h
        · cases over with
          | true => simp at h; exact .inl (by rw [h])
          | false => simp at h; exact .inr (by rw [h]; exact List.mem_cons_self)
        · exact .inr (List.mem_cons_of_mem _ h)
      · rcases List.mem_cons.1 h with rfl | h
        · exact .inr List.mem_cons_self
        · exact (mem_put h).imp id (List.mem_cons_of_mem _)
theorem rise_put (o : Order lt) {k : K} {v : V} {over : Bool} : ∀ {L : List (K × V)}, Rise lt L → Rise lt (putK lt over k v L)
  | [], _ => List.pairwise_singleton _ _
  | y :: r, hr => by
    have h1 : ∀ z ∈ r, lt y.1 z.1 = true := fun z hz => List.rel_of_pairwise_cons hr hz
    unfold putK
    split
    · rename_i h
      refine List.Pairwise.cons (fun z hz => ?_) hr
      rcases List.mem_cons.1 hz with rfl | hz
      · exact h
      · exact o.tra _ _ _ h (h1 z hz)
    · rename_i h
      split
      · rename_i e
        refine List.Pairwise.cons (fun z hz => ?_) (List.Pairwise.of_cons hr)
        cases over with
        | true => have := h1 z hz; rw [e] at this; exact this
        | false => exact h1 z hz
      · rename_i e
        refine List.Pairwise.cons (fun z hz => ?_) (rise_put o (List.Pairwise.of_cons hr))
        rcases mem_put hz with e2 | hz
        · rw [e2]
          rcases o.tri y.1 k with h2 | h2 | h2
          · exact h2
          · exact absurd h2 e
          · exact absurd h2 h
        · exact h1 z hz
theorem get_put (o : Order lt) {k : K} {v : V} {over : Bool} (j : K) : ∀ {L : List (K × V)}, Rise lt L →
    getK j (putK lt over k v L) = if j = k then (if over = true then some v else some ((getK k L).getD v)) else getK j L
  | [], _ => by
    unfold putK
    rw [get_cons]
    by_cases e : j = k
    · rw [if_pos e, if_pos e.symm]; cases over <;> rfl
    · rw [if_neg e, if_neg (fun h => e h.symm)]
  | y :: r, hr => by
    have h1 : ∀ z ∈ r, lt y.1 z.1 = true := fun z hz => List.rel_of_pairwise_cons hr hz
    unfold putK
    split
    · rename_i h
      have hn : getK k (y :: r) = none := get_none_of fun z hz => by
        rcases List.mem_cons.1 hz with rfl | hz
        · exact (o.ne h).symm
        · exact (o.ne (o.tra _ _ _ h (h1 z hz))).symm
      rw [get_cons]
      by_cases e : j = k
      · rw [if_pos e, if_pos e.symm, hn]; cases over <;> rfl
      · rw [if_neg e, if_neg (fun h => e h.symm)]
    · rename_i h
      split
      · rename_i e
        rw [get_cons, get_cons, get_cons]
        by_cases e2 : j = k
        · cases over with
          | true => rw [if_pos e2]; simp [e2]
          | false => rw [if_pos e2]; simp [e2, e]
        · cases over with
          | true => rw [if_neg e2]; simp; rw [if_neg (fun h => e2 h.symm), if_neg (fun h => e2 (h.symm.trans e))]
          | false => rw [if_neg e2]; simp
      · rename_i e
        rw [get_cons, get_put o j (List.Pairwise.of_cons hr), get_cons, get_cons, if_neg e]
        by_cases e2 : j = k
        · rw [if_pos e2, if_pos e2, if_neg (fun h => e (h.trans e2))]
        · rw [if_neg e2, if_neg e2]
theorem rise_ext (o : Order lt) : ∀ {A B : List (K × V)}, Rise lt A → Rise lt B → (∀ k, getK k A = getK k B) → A = B
  | [], [], _, _, _ => rfl
  | [], y :: b, _, _, h => by have := h y.1; rw [get_cons, if_pos rfl] at this; cases this
  | x :: a, [], _, _, h => by have := h x.1; rw [get_cons, if_pos rfl] at this; cases this
  | x :: a, y :: b, ha, hb, h => by
    have ha1 : ∀ z ∈ a, lt x.1 z.1 = true := fun z hz => List.rel_of_pairwise_cons ha hz
    have hb1 : ∀ z ∈ b, lt y.1 z.1 = true := fun z hz => List.rel_of_pairwise_cons hb hz
    have na : getK x.1 a = none := get_none_of fun z hz => (o.ne (ha1 z hz)).symm
    have nb : getK y.1 b = none := get_none_of fun z hz => (o.ne (hb1 z hz)).symm
    have e : x.1 = y.1 := by
      rcases o.tri x.1 y.1 with h1 | h1 | h1
      · have h2 := h x.1
        rw [get_cons, if_pos rfl, get_cons, if_neg (o.ne h1).symm, get_none_of fun z hz => (o.ne (o.tra _ _ _ h1 (hb1 z hz))).symm] at h2
        cases h2
      · exact h1
      · have h2 := h y.1
        rw [get_cons, if_neg (o.ne h1).symm, get_none_of (fun z hz => (o.ne (o.tra _ _ _ h1 (ha1 z hz))).symm), get_cons, if_pos rfl] at h2
        cases h2
    have e2 : x = y := by
      have h2 := h x.1
      rw [get_cons, if_pos rfl, get_cons, if_pos e.symm] at h2
      injection h2 with h2
      exact Prod.ext e h2
    subst e2
    rw [rise_ext o (List.Pairwise.of_cons ha) (List.Pairwise.of_cons hb) fun k => ?_]
    by_cases e3 : x.1 = k
    · rw [← e3, na, nb]
    · have h2 := h k
      rwa [get_cons, if_neg e3, get_cons, if_neg e3] at h2
end
end Go.Proofs.Ytcpkngkeechjeaa.Past
