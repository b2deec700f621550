/- What the program keeps of a list as it goes over it, on plain data; what it makes of it. -/
import Derived.Test.YtcpkngkeechjeaaPastLaws
namespace Go.Proofs.Ytcpkngkeechjeaa.Past
set_option maxRecDepth 100000
open Go.Proofs.Ytcpkngkeechjeaa.Ent
structure Crs where
  beg : Int
  last : Int
  com : Bool
  fin : Bool
structure Tl where
  tx : T3 → Option Crs
  pg : Int → Option Int
  dn : List T3
def crs0 : Crs := ⟨0, 0, false, false⟩
def stepC (at_ : Int) (x : Ent) (o : Option Crs) : Crs :=
  ⟨if o.isSome = true then (o.getD crs0).beg else at_, x.lsn, (o.getD crs0).com || decide (x.kind = 3), (o.getD crs0).fin || decide (2 < x.kind)⟩
def takeT (T : Tl) (at_ : Int) (x : Ent) : Tl :=
  ⟨fun t => if t = txE x then some (stepC at_ x (T.tx (txE x))) else T.tx t,
    fun p => if x.kind < 3 ∧ (T.pg x.page).isSome = false ∧ p = x.page then some at_ else T.pg p,
    if x.kind = 3 ∧ ((T.tx (txE x)).getD crs0).com = false then T.dn ++ [txE x] else T.dn⟩
/-- the tale is that of these entries -/
structure Tells (A : List Ent) (T : Tl) : Prop where
  dn : T.dn = dnOf A []
  pg : ∀ p, T.pg p = (A.findIdx? (pgP p)).map Int.ofNat
  no : ∀ t, T.tx t = none → ofL A t = []
  yes : ∀ t c, T.tx t = some c → (A.findIdx? (isT t)).map Int.ofNat = some c.beg ∧ lastOf A t = some c.last ∧ endedB A t = c.fin ∧ c.com = decide (t ∈ T.dn)
def tl0 : Tl := ⟨fun _ => none, fun _ => none, []⟩
theorem tells_nil : Tells [] tl0 := ⟨rfl, fun _ => rfl, fun _ _ => rfl, fun _ _ h => nomatch h⟩
theorem ended_snoc (A : List Ent) (x : Ent) (t : T3) : endedB (A ++ [x]) t = (endedB A t || (isT t x && endB x)) := by
  unfold endedB
  rw [of_snoc]
  by_cases h : isT t x = true
  · rw [if_pos h, h, List.any_append]; simp
  · rw [if_neg h]; simp [h]
theorem no_com {A : List Ent} {t : T3} (h : ofL A t = []) : t ∉ dnOf A [] := fun hm => by
  rcases (dn_mem t A []).1 hm with h1 | ⟨y, hy, g1, g2, g3⟩
  · cases h1
  · have : y ∈ ofL A t := mem_of.2 ⟨hy, g1, g3⟩
    rw [h] at this; cases this
theorem dn_snoc (A : List Ent) (x : Ent) : dnOf (A ++ [x]) [] = if goodB x = true ∧ x.kind = 3 ∧ txE x ∉ dnOf A [] then dnOf A [] ++ [txE x] else dnOf A [] := by
  rw [dn_app]; rfl
theorem tells_bad {A : List Ent} {T : Tl} {x : Ent} (h : Tells A T) (hg : goodB x = false) : Tells (A ++ [x]) T := by
  have hn : ∀ t, isT t x = false := fun t => by unfold isT; rw [hg]; rfl
  have ho : ∀ t, ofL (A ++ [x]) t = ofL A t := fun t => by rw [of_snoc, hn t]; rfl
  refine ⟨?_, fun p => ?_, fun t ht => ?_, fun t c hc => ?_⟩
  · rw [dn_snoc, if_neg (by rw [hg]; simp)]; exact h.dn
  · rw [h.pg, findIdx_snoc]
    have : pgP p x = false := by unfold pgP; rw [hg]; rfl
    rw [this]
    cases A.findIdx? (pgP p) <;> rfl
  · rw [ho]; exact h.no t ht
  · obtain ⟨h1, h2, h3, h4⟩ := h.yes t c hc
    refine ⟨?_, ?_, ?_, h4⟩
    · rw [findIdx_snoc, hn t]
      cases e : A.findIdx? (isT t) with
      | none => rw [e] at h1; cases h1
      | some i => rw [e] at h1; exact h1
    · rw [last_snoc, hn t]; exact h2
    · rw [ended_snoc, hn t, h3]; simp
theorem find_none {A : List Ent} {t : T3} (h : ofL A t = []) : A.findIdx? (isT t) = none := by
  rw [List.findIdx?_eq_none_iff]
  intro x hx
  unfold ofL at h
  rw [List.filter_eq_nil_iff] at h
  simpa using h x hx
theorem tells_good {A : List Ent} {T : Tl} {x : Ent} (h : Tells A T) (hg : goodB x = true) : Tells (A ++ [x]) (takeT T (A.length : Int) x) := by
  have hcom : ((T.tx (txE x)).getD crs0).com = decide (txE x ∈ T.dn) := by
    cases e : T.tx (txE x) with
    | none =>
      have := no_com (h.no _ e)
      rw [← h.dn] at this
      simp [crs0, this]
    | some c => simpa using (h.yes _ c e).2.2.2
  have hdn : (takeT T (A.length : Int) x).dn = dnOf (A ++ [x]) [] := by
    rw [dn_snoc, ← h.dn]
    show (if x.kind = 3 ∧ ((T.tx (txE x)).getD crs0).com = false then T.dn ++ [txE x] else T.dn) = _
    rw [hcom]
    by_cases h1 : x.kind = 3 <;> by_cases h2 : txE x ∈ T.dn <;> simp [h1, h2, hg]
  have hmem : ∀ t, t ∈ (takeT T (A.length : Int) x).dn ↔ t ∈ T.dn ∨ (x.kind = 3 ∧ t = txE x) := fun t => by
    show t ∈ (if x.kind = 3 ∧ ((T.tx (txE x)).getD crs0).com = false then T.dn ++ [txE x] else T.dn) ↔ _
    rw [hcom]
    by_cases h1 : x.kind = 3
    · by_cases h2 : txE x ∈ T.dn
      · rw [if_neg (by simp [h2])]
        constructor
        · exact .inl
        · rintro (h3 | ⟨_, h3⟩)
          · exact h3
          · rw [h3]; exact h2
      · rw [if_pos (by simp [h1, h2])]; simp [h1]
    · rw [if_neg (fun h => h1 h.1)]; simp [h1]
  refine ⟨hdn, fun p => ?_, fun t ht => ?_, fun t c hc => ?_⟩
  · show (if x.kind < 3 ∧ (T.pg x.page).isSome = false ∧ p = x.page then some (A.length : Int) else T.pg p) = _
    rw [findIdx_snoc, h.pg p, h.pg x.page]
    unfold pgP
    rw [hg]
    by_cases hp : p = x.page
    · subst hp
      cases e : A.findIdx? (fun y => goodB y && (decide (y.kind < 3) && decide (y.page = x.page))) with
      | none => by_cases hk : x.kind < 3 <;> simp [hk]
      | some i => simp
    · have hp2 : ¬ x.page = p := fun e => hp e.symm
      rw [if_neg (fun h => hp h.2.2)]
      simp only [hp2, decide_false, Bool.and_false, Bool.false_eq_true, if_false]
      cases A.findIdx? (fun y => goodB y && (decide (y.kind < 3) && decide (y.page = p))) <;> rfl
  · have ht : (if t = txE x then some (stepC (A.length : Int) x (T.tx (txE x))) else T.tx t) = none := ht
    by_cases e : t = txE x
    · rw [if_pos e] at ht; cases ht
    · rw [if_neg e] at ht
      have hn : isT t x = false := by unfold isT; simp [hg]; exact fun e2 => e e2.symm
      rw [of_snoc, hn]
      exact h.no t ht
  · have hc : (if t = txE x then some (stepC (A.length : Int) x (T.tx (txE x))) else T.tx t) = some c := hc
    by_cases e : t = txE x
    · rw [if_pos e] at hc
      injection hc with hc2
      clear hc
      subst e
      have hi : isT (txE x) x = true := by unfold isT; simp [hg]
      rw [findIdx_snoc, last_snoc, ended_snoc, hi, if_pos rfl, if_pos rfl]
      subst hc2
      have hm2 : decide (txE x ∈ (takeT T (A.length : Int) x).dn) = (decide (txE x ∈ T.dn) || decide (x.kind = 3)) := by
        rw [Bool.eq_iff_iff]
        simp [hmem]
      rw [hm2]
      cases e2 : T.tx (txE x) with
      | none =>
        have h0 := h.no _ e2
        rw [find_none h0]
        have he : endedB A (txE x) = false := by unfold endedB; rw [h0]; rfl
        have hd := no_com h0
        rw [← h.dn] at hd
        refine ⟨rfl, rfl, ?_, ?_⟩
        · rw [he]; simp [stepC, crs0, endB]
        · simp [stepC, crs0, hd]
      | some c =>
        obtain ⟨h1, h2, h3, h4⟩ := h.yes _ c e2
        refine ⟨?_, rfl, ?_, ?_⟩
        · cases e3 : A.findIdx? (isT (txE x)) with
          | none => rw [e3] at h1; cases h1
          | some i => rw [e3] at h1; exact h1
        · rw [h3]; simp [stepC, endB]
        · simp [stepC, h4]
    · rw [if_neg e] at hc
      obtain ⟨h1, h2, h3, h4⟩ := h.yes t c hc
      have hn : isT t x = false := by unfold isT; simp [hg]; exact fun e2 => e e2.symm
      refine ⟨?_, ?_, ?_, ?_⟩
      · rw [findIdx_snoc, hn]
        cases e3 : A.findIdx? (isT t) with
        | none => rw [e3] at h1; cases h1
        | some i => rw [e3] at h1; exact h1
      · rw [last_snoc, hn]; exact h2
      · rw [ended_snoc, hn, h3]; simp
      · rw [h4]
        have := hmem t
        rw [Bool.eq_iff_iff]
        simp [this, e]
theorem dn_len : ∀ (A : List Ent) (D : List T3), (dnOf A D).length ≤ D.length + A.length
  | [], D => by simp [dnOf]
  | x :: r, D => by
    rw [dnOf]
    refine Nat.le_trans (dn_len r _) ?_
    split
    · rw [List.length_append, List.length_singleton, List.length_cons]; omega
    · rw [List.length_cons]; omega
theorem Tells.len {A : List Ent} {T : Tl} (h : Tells A T) : T.dn.length ≤ A.length := by rw [h.dn]; have := dn_len A []; simpa using this
/-! ### What is made of it -/
section
variable {L : List Ent} {T : Tl} {first : Int}
/-- a loser, of a name -/
def loseO (T : Tl) (t : T3) : Option (T3 × Int) := match T.tx t with
  | some c => if c.fin = true then none else some (t, c.last)
  | none => none
theorem lose_key {t : T3} {y : T3 × Int} (h : loseO T t = some y) : y.1 = t := by
  unfold loseO at h
  split at h
  · split at h
    · cases h
    · injection h with h; rw [← h]
  · cases h
theorem lose_get (h : Tells L T) (t : T3) : (loseO T t).map (·.2) = getK t (readN L first L.length).los := by
  rw [los_get L.length (Nat.le_refl _) t, List.take_length]
  unfold loseO
  cases e : T.tx t with
  | none =>
    have h0 := h.no t e
    have : lastOf L t = none := by unfold lastOf; rw [h0]; rfl
    rw [this]; simp
  | some c =>
    obtain ⟨_, h2, h3, _⟩ := h.yes t c e
    rw [h2, h3]
    dsimp only
    by_cases hf : c.fin = true
    · rw [if_pos hf, if_pos hf]; rfl
    · rw [if_neg hf, if_neg hf]; rfl
theorem losers_are (h : Tells L T) {ss : List T3} (hs : ss.Pairwise fun a b => lessT a b = true) (hm : ∀ t, t ∈ ss ↔ T.tx t ≠ none) : ss.filterMap (loseO T) = (readN L first L.length).los := by
  have hr : Rise lessT (ss.filterMap (loseO T)) := by
    unfold Rise
    rw [List.pairwise_filterMap]
    exact hs.imp fun {a b} hab y hy z hz => by rw [lose_key hy, lose_key hz]; exact hab
  refine rise_ext order_less hr (read_rise _).1 fun t => ?_
  rw [← lose_get h t]
  by_cases ht : t ∈ ss
  · cases e : loseO T t with
    | none =>
      refine get_none_of fun y hy e2 => ?_
      obtain ⟨a, _, ha⟩ := List.mem_filterMap.1 hy
      have := lose_key ha
      rw [e2] at this
      subst this
      rw [e] at ha; cases ha
    | some y =>
      have hy : y ∈ ss.filterMap (loseO T) := List.mem_filterMap.2 ⟨t, ht, e⟩
      have := get_of_mem order_less hr hy
      rw [lose_key e] at this
      rw [this]; rfl
  · have hn : T.tx t = none := Decidable.byContradiction fun h2 => ht ((hm t).2 h2)
    have : loseO T t = none := by unfold loseO; rw [hn]
    rw [this]
    refine get_none_of fun y hy e2 => ?_
    obtain ⟨a, ha, hb⟩ := List.mem_filterMap.1 hy
    have := lose_key hb
    rw [e2] at this
    exact ht (this ▸ ha)
theorem page_get (h : Tells L T) (p : Int) : getK p (readN L first L.length).pg = (T.pg p).map fun k => first + k := by
  rw [pg_get L.length (Nat.le_refl _) p, List.take_length, h.pg p]
  unfold firstOf
  cases L.findIdx? (pgP p) <;> rfl
theorem page_mem (h : Tells L T) (p : Int) : p ∈ (readN L first L.length).pg.map (·.1) ↔ T.pg p ≠ none := by
  have h1 := page_get (first := first) h p
  constructor
  · intro hp e
    obtain ⟨y, hy, rfl⟩ := List.mem_map.1 hp
    have := get_of_mem order_int (read_rise (L := L) (first := first) L.length).2 hy
    rw [h1, e] at this; cases this
  · intro hp
    cases e : T.pg p with
    | none => exact absurd e hp
    | some k =>
      rw [e] at h1
      exact List.mem_map.2 ⟨_, get_mem h1, rfl⟩
theorem page_rise : ((readN L first L.length).pg.map (·.1)).Pairwise fun x y => x < y := by
  rw [List.pairwise_map]
  exact (read_rise (L := L) (first := first) L.length).2.imp fun h => of_decide_eq_true h
theorem page_val (h : Tells L T) {y : Int × Int} (hy : y ∈ (readN L first L.length).pg) : ∃ k : Int, T.pg y.1 = some k ∧ y.2 = first + k := by
  have h1 := get_of_mem order_int (read_rise (L := L) (first := first) L.length).2 hy
  rw [page_get h] at h1
  cases e : T.pg y.1 with
  | none => rw [e] at h1; cases h1
  | some k => rw [e] at h1; injection h1 with h1; exact ⟨k, rfl, h1.symm⟩
theorem done_are (h : Tells L T) : T.dn = (readN L first L.length).dn := by rw [h.dn, dn_get L.length (Nat.le_refl _), List.take_length]
end
end Go.Proofs.Ytcpkngkeechjeaa.Past
