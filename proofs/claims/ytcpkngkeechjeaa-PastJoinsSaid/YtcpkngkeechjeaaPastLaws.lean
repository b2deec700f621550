/- What PastParts, PastNeeds, PastJoins, PastLess ask, on plain data. -/
import Derived.Test.YtcpkngkeechjeaaPastRead
namespace Go.Proofs.Ytcpkngkeechjeaa.Past
set_option maxRecDepth 100000
open Go.Proofs.Ytcpkngkeechjeaa.Ent
/-! ### PastLess -/
theorem less_law (a b c : T3) : lessT a a = false ∧ (decide (a = b) = (!lessT a b && !lessT b a)) ∧ (lessT a b && lessT b a) = false ∧ (lessT a b = true → lessT b c = true → lessT a c = true) := by
  refine ⟨order_less.irr a, ?_, ?_, order_less.tra a b c⟩
  · rcases order_less.tri a b with h | h | h
    · rw [h, order_less.asym h]; simpa using order_less.ne h
    · subst h; simp [order_less.irr]
    · rw [h, order_less.asym h]; simpa using (order_less.ne h).symm
  · cases h : lessT a b with
    | false => rfl
    | true => rw [order_less.asym h]; rfl
section
variable {L : List Ent} {first : Int}
theorem mem_of {x : Ent} {t : T3} : x ∈ ofL L t ↔ x ∈ L ∧ goodB x = true ∧ txE x = t := by
  unfold ofL isT
  rw [List.mem_filter]
  simp
theorem ended_iff (t : T3) : endedB L t = true ↔ ∃ x ∈ L, goodB x = true ∧ txE x = t ∧ 2 < x.kind := by
  unfold endedB
  rw [List.any_eq_true]
  constructor
  · rintro ⟨x, hx, h⟩
    obtain ⟨h1, h2, h3⟩ := mem_of.1 hx
    exact ⟨x, h1, h2, h3, by simpa [endB] using h⟩
  · rintro ⟨x, h1, h2, h3, h4⟩
    exact ⟨x, mem_of.2 ⟨h1, h2, h3⟩, by simpa [endB] using h4⟩
theorem kind_of {x : Ent} (h : goodB x = true) : x.kind = 1 ∨ x.kind = 2 ∨ x.kind = 3 ∨ x.kind = 4 := by
  unfold goodB at h
  simp only [Bool.and_eq_true] at h
  have h := h.2
  by_cases h1 : x.kind = 1
  · exact .inl h1
  · rw [if_neg h1] at h
    by_cases h2 : x.kind = 2
    · exact .inr (.inl h2)
    · rw [if_neg h2] at h
      by_cases h3 : x.kind = 3 ∨ x.kind = 4
      · exact .inr (.inr h3)
      · rw [if_neg h3] at h; cases h
/-! ### PastParts: of each entry that can be -/
theorem parts (hf : okFirst first = true) {x : Ent} (hx : x ∈ L) (hg : goodB x = true) :
    ofL L (txE x) ≠ [] ∧ ((readV L first).los.any fun y => decide (y.1 = txE x ∧ some y.2 = lastOf L (txE x))) = !endedB L (txE x) ∧
      ((readV L first).dn.filter fun t => decide (t = txE x)).length ≤ 1 ∧ (0 < ((readV L first).dn.filter fun t => decide (t = txE x)).length → endedB L (txE x) = true) := by
  have h1 : ofL L (txE x) ≠ [] := List.ne_nil_of_mem (mem_of.2 ⟨hx, hg, rfl⟩)
  unfold readV
  rw [if_pos hf]
  have hl := los_get (L := L) (first := first) L.length (Nat.le_refl _) (txE x)
  rw [List.take_length] at hl
  have hd := dn_get (L := L) (first := first) L.length (Nat.le_refl _)
  rw [List.take_length] at hd
  refine ⟨h1, ?_, ?_, ?_⟩
  · cases he : endedB L (txE x) with
    | true =>
      rw [if_pos he] at hl
      rw [Bool.not_true, List.any_eq_false]
      intro y hy h
      have h2 := of_decide_eq_true h
      have := get_of_mem order_less (read_rise L.length).1 hy
      rw [h2.1, hl] at this
      cases this
    | false =>
      rw [if_neg (by rw [he]; simp)] at hl
      rw [Bool.not_false, List.any_eq_true]
      cases hL : lastOf L (txE x) with
      | none =>
        unfold lastOf at hL
        cases h2 : (ofL L (txE x)).getLast? with
        | none => exact absurd (List.getLast?_eq_none_iff.1 h2) h1
        | some z => rw [h2] at hL; cases hL
      | some v =>
        rw [hL] at hl
        exact ⟨(txE x, v), get_mem hl, by simp⟩
  · rw [hd]
    have hn := dn_nodup L [] List.nodup_nil
    have h3 : ((dnOf L []).filter fun t => decide (t = txE x)).Nodup := hn.sublist List.filter_sublist
    cases h4 : (dnOf L []).filter fun t => decide (t = txE x) with
    | nil => simp
    | cons a r =>
      cases r with
      | nil => simp
      | cons b r =>
        exfalso
        rw [h4] at h3
        have ha : a = txE x := by
          have : a ∈ (dnOf L []).filter fun t => decide (t = txE x) := by rw [h4]; exact List.mem_cons_self
          simpa using (List.mem_filter.1 this).2
        have hb : b = txE x := by
          have : b ∈ (dnOf L []).filter fun t => decide (t = txE x) := by rw [h4]; exact List.mem_cons_of_mem _ List.mem_cons_self
          simpa using (List.mem_filter.1 this).2
        rw [List.nodup_cons] at h3
        exact h3.1 (by rw [ha, hb]; exact List.mem_cons_self)
  · intro h
    rw [hd] at h
    obtain ⟨t, ht⟩ := List.exists_mem_of_length_pos h
    obtain ⟨h5, h6⟩ := List.mem_filter.1 ht
    have h6 : t = txE x := by simpa using h6
    subst h6
    rcases (dn_mem (txE x) L []).1 h5 with h | ⟨y, hy, g1, g2, g3⟩
    · cases h
    · exact (ended_iff _).2 ⟨y, hy, g1, g3, by omega⟩
/-! ### PastNeeds -/
theorem need_none (h : needI L = none) : (readN L first L.length).los = [] := by
  refine rise_ext order_less (read_rise _).1 List.Pairwise.nil fun t => ?_
  rw [los_get L.length (Nat.le_refl _) t, List.take_length]
  show _ = none
  split
  · rfl
  · rename_i he
    unfold lastOf
    cases h2 : (ofL L t).getLast? with
    | none => rfl
    | some z =>
      exfalso
      obtain ⟨h3, h4, h5⟩ := mem_of.1 (List.mem_of_getLast? h2)
      unfold needI at h
      rw [List.findIdx?_eq_none_iff] at h
      have := h z h3
      rw [h4, h5] at this
      simp at this
      exact he this
theorem drop_ended {i : Nat} {t : T3} (h : endedB (L.drop i) t = true) : endedB L t = true := by
  obtain ⟨x, h1, h2⟩ := (ended_iff t).1 h
  exact (ended_iff t).2 ⟨x, List.mem_of_mem_drop h1, h2⟩
/-- ahead of the first that is needed there is nothing of a loser -/
theorem need_of {i : Nat} (h : needI L = some i) {t : T3} (ht : endedB L t = false) : ofL L t = ofL (L.drop i) t := by
  have h1 : ofL (L.take i) t = [] := by
    unfold ofL
    rw [List.filter_eq_nil_iff]
    intro x hx hi
    unfold needI at h
    rw [List.findIdx?_eq_some_iff_getElem] at h
    obtain ⟨hl, _, hb⟩ := h
    obtain ⟨j, hj, e⟩ := List.getElem_of_mem hx
    rw [List.length_take] at hj
    have := hb j (by omega)
    rw [List.getElem_take] at e
    rw [e] at this
    unfold isT at hi
    simp only [Bool.and_eq_true, decide_eq_true_eq] at hi
    rw [hi.1, hi.2, ht] at this
    simp at this
  conv => lhs; rw [← List.take_append_drop i L]
  unfold ofL at h1 ⊢
  rw [List.filter_append, h1, List.nil_append]
theorem need_los {i : Nat} (h : needI L = some i) {first2 : Int} {t : T3} {v : Int} (hg : getK t (readN L first L.length).los = some v) : getK t (readN (L.drop i) first2 (L.drop i).length).los = some v := by
  rw [los_get _ (Nat.le_refl _), List.take_length] at hg ⊢
  cases he : endedB L t with
  | true => rw [if_pos he] at hg; cases hg
  | false =>
    rw [if_neg (by rw [he]; simp)] at hg
    have h2 : endedB (L.drop i) t = false := by
      cases h3 : endedB (L.drop i) t with
      | false => rfl
      | true => rw [drop_ended h3] at he; cases he
    rw [if_neg (by rw [h2]; simp), ← hg]
    unfold lastOf
    rw [need_of h he]
theorem need_some {i : Nat} (h : needI L = some i) : i < L.length ∧ (readN L first L.length).los ≠ [] := by
  unfold needI at h
  rw [List.findIdx?_eq_some_iff_getElem] at h
  obtain ⟨hl, hp, _⟩ := h
  refine ⟨hl, fun e => ?_⟩
  simp only [Bool.and_eq_true, Bool.not_eq_true'] at hp
  have hg := los_get (L := L) (first := first) L.length (Nat.le_refl _) (txE L[i])
  rw [List.take_length, e, if_neg (by rw [hp.2]; simp)] at hg
  unfold lastOf at hg
  cases h2 : (ofL L (txE L[i])).getLast? with
  | none =>
    have : L[i] ∈ ofL L (txE L[i]) := mem_of.2 ⟨List.getElem_mem hl, hp.1, rfl⟩
    rw [List.getLast?_eq_none_iff.1 h2] at this
    cases this
  | some z => rw [h2] at hg; cases hg
end
/-- what rises, and is held whole in what rises, stands in it in its order -/
theorem rise_sub {K V : Type} [DecidableEq K] {lt : K → K → Bool} (o : Order lt) : ∀ {A B : List (K × V)}, Rise lt A → Rise lt B → (∀ k v, getK k A = some v → getK k B = some v) → A.Sublist B
  | [], B, _, _, _ => List.nil_sublist _
  | x :: a, [], _, _, h => by have := h x.1 x.2 (by rw [get_cons, if_pos rfl]); cases this
  | x :: a, y :: b, ha, hb, h => by
    have ha1 : ∀ z ∈ a, lt x.1 z.1 = true := fun z hz => List.rel_of_pairwise_cons ha hz
    have hb1 : ∀ z ∈ b, lt y.1 z.1 = true := fun z hz => List.rel_of_pairwise_cons hb hz
    by_cases e : y.1 = x.1
    · have h2 := h x.1 x.2 (by rw [get_cons, if_pos rfl])
      rw [get_cons, if_pos e] at h2
      injection h2 with h2
      have e2 : y = x := Prod.ext e h2
      subst e2
      refine List.Sublist.cons_cons _ (rise_sub o (List.Pairwise.of_cons ha) (List.Pairwise.of_cons hb) fun k v hk => ?_)
      have hne : y.1 ≠ k := fun e3 => o.ne (ha1 _ (get_mem hk)) e3
      have h3 := h k v (by rw [get_cons, if_neg hne]; exact hk)
      rwa [get_cons, if_neg hne] at h3
    · refine List.Sublist.cons _ (rise_sub o ha (List.Pairwise.of_cons hb) fun k v hk => ?_)
      have h3 := h k v hk
      rw [get_cons] at h3
      by_cases e3 : y.1 = k
      · exfalso
        have h2 := h x.1 x.2 (by rw [get_cons, if_pos rfl])
        rw [get_cons, if_neg e] at h2
        have hyx := hb1 _ (get_mem h2)
        have hm := get_mem hk
        rcases List.mem_cons.1 hm with h4 | h4
        · exact e (e3.trans (congrArg Prod.fst h4))
        · have := ha1 _ h4
          rw [← e3] at this
          have := o.tra _ _ _ hyx this
          rw [o.irr] at this
          cases this
      · rwa [if_neg e3] at h3
/-- the greedy count -/
def greedy {α : Type} [DecidableEq α] : List α → List α → Nat
  | _, [] => 0
  | [], _ :: _ => 0
  | w :: W, v :: V => if w = v then 1 + greedy W V else greedy W (v :: V)
theorem greedy_all {α : Type} [DecidableEq α] : ∀ {W V : List α}, V.Sublist W → greedy W V = V.length
  | _, [], _ => by simp [greedy]
  | [], v :: V, h => by cases h
  | w :: W, v :: V, h => by
    unfold greedy
    by_cases e : w = v
    · rw [if_pos e]
      have h2 : V.Sublist W := by
        cases h with
        | cons _ h => exact (List.sublist_of_cons_sublist h)
        | cons_cons _ h => exact h
      rw [greedy_all h2, List.length_cons]; omega
    · rw [if_neg e]
      cases h with
      | cons _ h => exact greedy_all h
      | cons_cons _ h => exact absurd rfl e
theorem needs_sub {L : List Ent} {first first2 : Int} {i : Nat} (h : needI L = some i) : (readN L first L.length).los.Sublist (readN (L.drop i) first2 (L.drop i).length).los :=
  rise_sub order_less (read_rise _).1 (read_rise _).1 fun _ _ hg => need_los h hg
/-! ### PastJoins -/
theorem join_pg (A B : List Ent) (p : Int) (first : Int) : firstOf (A ++ B) first p = match firstOf A first p with | some n => some n | none => firstOf B (first + A.length) p := by
  unfold firstOf
  rw [List.findIdx?_append]
  cases A.findIdx? (pgP p) with
  | some i => rfl
  | none =>
    cases B.findIdx? (pgP p) with
    | none => rfl
    | some j => simp; omega
theorem join_len {K V : Type} [DecidableEq K] {lt : K → K → Bool} (o : Order lt) : ∀ {A B : List (K × V)}, Rise lt A → Rise lt B → (∀ k, getK k A ≠ none → getK k B ≠ none) → A.length ≤ B.length
  | [], B, _, _, _ => Nat.zero_le _
  | x :: a, [], _, _, h => absurd rfl (h x.1 (by rw [get_cons, if_pos rfl]; simp))
  | x :: a, y :: b, ha, hb, h => by
    have ha1 : ∀ z ∈ a, lt x.1 z.1 = true := fun z hz => List.rel_of_pairwise_cons ha hz
    have hb1 : ∀ z ∈ b, lt y.1 z.1 = true := fun z hz => List.rel_of_pairwise_cons hb hz
    have hyx : y.1 = x.1 ∨ lt y.1 x.1 = true := by
      by_cases e : y.1 = x.1
      · exact .inl e
      · have h2 := h x.1 (by rw [get_cons, if_pos rfl]; simp)
        rw [get_cons, if_neg e] at h2
        cases h3 : getK x.1 b with
        | none => exact absurd h3 h2
        | some v => have h4 := hb1 (x.1, v) (get_mem h3); exact .inr h4
    have := join_len o (List.Pairwise.of_cons ha) (List.Pairwise.of_cons hb) fun k hk => by
      cases h3 : getK k a with
      | none => exact absurd h3 hk
      | some v =>
        have h4 := ha1 _ (get_mem h3)
        have h5 : y.1 ≠ k := fun e => by
          rcases hyx with h6 | h6
          · rw [← e, h6, o.irr] at h4; cases h4
          · have := o.tra _ _ _ h6 h4
            rw [e, o.irr] at this; cases this
        have h7 := h k (by rw [get_cons, if_neg (o.ne h4), h3]; simp)
        rwa [get_cons, if_neg h5] at h7
    simp only [List.length_cons]; omega
end Go.Proofs.Ytcpkngkeechjeaa.Past
