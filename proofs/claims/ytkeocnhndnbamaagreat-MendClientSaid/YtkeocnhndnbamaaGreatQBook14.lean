/- What PastParts, PastNeeds, PastJoins, PastLess ask, on plain data. What the program keeps of a list as it goes over it, on plain data; what it makes of it. What the program keeps of a list, in memory. -/
import Derived.Test.YtkeocnhndnbamaaGreatQBook9
import Derived.Test.YtkeocnhndnbamaaGreatQBook13
namespace Go.Proofs.YtkeocnhndnbamaaGreat.Past
set_option maxRecDepth 100000
open Go.Proofs.YtkeocnhndnbamaaGreat.Ent
/-! ### PastLess -/
section
variable {L : List Ent} {first : Int}
theorem mem_of {x : Ent} {t : T3} : x ∈ ofL L t ↔ x ∈ L ∧ goodB x = true ∧ txE x = t := by
  unfold ofL isT
  rw [List.mem_filter]
  simp
theorem ended_iff (t : T3) : endedB L t = true ↔ ∃ x ∈ L, goodB x = true ∧ txE x = t ∧ 2 < x.kind := by
  unfold endedB
  rw [List.any_eq_true]
  constructor
  · rintro ⟨x, hx, h⟩
    obtain ⟨h1, h2, h3⟩ := mem_of.1 hx
    exact ⟨x, h1, h2, h3, by simpa [endB] using h⟩
  · rintro ⟨x, h1, h2, h3, h4⟩
    exact ⟨x, mem_of.2 ⟨h1, h2, h3⟩, by simpa [endB] using h4⟩
theorem kind_of {x : Ent} (h : goodB x = true) : x.kind = 1 ∨ x.kind = 2 ∨ x.kind = 3 ∨ x.kind = 4 := by
  unfold goodB at h
  simp only [Bool.and_eq_true] at h
  have h := h.2
  by_cases h1 : x.kind = 1
  · exact .inl h1
  · rw [if_neg h1] at h
    by_cases h2 : x.kind = 2
    · exact .inr (.inl h2)
    · rw [if_neg h2] at h
      by_cases h3 : x.kind = 3 ∨ x.kind = 4
      · exact .inr (.inr h3)
      · rw [if_neg h3] at h; cases h
/-! ### PastParts: of each entry that can be -/
theorem parts (hf : okFirst first = true) {x : Ent} (hx : x ∈ L) (hg : goodB x = true) :
    ofL L (txE x) ≠ [] ∧ ((readV L first).los.any fun y => decide (y.1 = txE x ∧ some y.2 = lastOf L (txE x))) = !endedB L (txE x) ∧
      ((readV L first).dn.filter fun t => decide (t = txE x)).length ≤ 1 ∧ (0 < ((readV L first).dn.filter fun t => decide (t = txE x)).length → endedB L (txE x) = true) := by
  have h1 : ofL L (txE x) ≠ [] := List.ne_nil_of_mem (mem_of.2 ⟨hx, hg, rfl⟩)
  unfold readV
  rw [if_pos hf]
  have hl := los_get (L := L) (first := first) L.length (Nat.le_refl _) (txE x)
  rw [List.take_length] at hl
  have hd := dn_get (L := L) (first := first) L.length (Nat.le_refl _)
  rw [List.take_length] at hd
  refine ⟨h1, ?_, ?_, ?_⟩
  · cases he : endedB L (txE x) with
    | true =>
      rw [if_pos he] at hl
      rw [Bool.not_true, List.any_eq_false]
      intro y hy h
      have h2 := of_decide_eq_true h
      have := get_of_mem order_less (read_rise L.length).1 hy
      rw [h2.1, hl] at this
      cases this
    | false =>
      rw [if_neg (by rw [he]; simp)] at hl
      rw [Bool.not_false, List.any_eq_true]
      cases hL : lastOf L (txE x) with
      | none =>
        unfold lastOf at hL
        cases h2 : (ofL L (txE x)).getLast? with
        | none => exact absurd (List.getLast?_eq_none_iff.1 h2) h1
        | some z => rw [h2] at hL; cases hL
      | some v =>
        rw [hL] at hl
        exact ⟨(txE x, v), get_mem hl, by simp⟩
  · rw [hd]
    have hn := dn_nodup L [] List.nodup_nil
    have h3 : ((dnOf L []).filter fun t => decide (t = txE x)).Nodup := hn.sublist List.filter_sublist
    cases h4 : (dnOf L []).filter fun t => decide (t = txE x) with
    | nil => simp
    | cons a r =>
      cases r with
      | nil => simp
      | cons b r =>
        exfalso
        rw [h4] at h3
        have ha : a = txE x := by
          have : a ∈ (dnOf L []).filter fun t => decide (t = txE x) := by rw [h4]; exact List.mem_cons_self
          simpa using (List.mem_filter.1 this).2
        have hb : b = txE x := by
          have : b ∈ (dnOf L []).filter fun t => decide (t = txE x) := by rw [h4]; exact List.mem_cons_of_mem _ List.mem_cons_self
          simpa using (List.mem_filter.1 this).2
        rw [List.nodup_cons] at h3
        exact h3.1 (by rw [ha, hb]; exact List.mem_cons_self)
  · intro h
    rw [hd] at h
    obtain ⟨t, ht⟩ := List.exists_mem_of_length_pos h
    obtain ⟨h5, h6⟩ := List.mem_filter.1 ht
    have h6 : t = txE x := by simpa using h6
    subst h6
    rcases (dn_mem (txE x) L []).1 h5 with h | ⟨y, hy, g1, g2, g3⟩
    · cases h
    · exact (ended_iff _).2 ⟨y, hy, g1, g3, by omega⟩
/-! ### PastNeeds -/
end
/-! ### PastJoins -/
end Go.Proofs.YtkeocnhndnbamaaGreat.Past
namespace Go.Proofs.YtkeocnhndnbamaaGreat.Past
set_option maxRecDepth 100000
open Go.Proofs.YtkeocnhndnbamaaGreat.Ent
structure Crs where
  beg : Int
  last : Int
  com : Bool
  fin : Bool
structure Tl where
  tx : T3 → Option Crs
  pg : Int → Option Int
  dn : List T3
def crs0 : Crs := ⟨0, 0, false, false⟩
def stepC (at_ : Int) (x : Ent) (o : Option Crs) : Crs :=
  ⟨if o.isSome = true then (o.getD crs0).beg else at_, x.lsn, (o.getD crs0).com || decide (x.kind = 3), (o.getD crs0).fin || decide (2 < x.kind)⟩
def takeT (T : Tl) (at_ : Int) (x : Ent) : Tl :=
  ⟨fun t => if t = txE x then some (stepC at_ x (T.tx (txE x))) else T.tx t,
    fun p => if x.kind < 3 ∧ (T.pg x.page).isSome = false ∧ p = x.page then some at_ else T.pg p,
    if x.kind = 3 ∧ ((T.tx (txE x)).getD crs0).com = false then T.dn ++ [txE x] else T.dn⟩
/-- the tale is that of these entries -/
structure Tells (A : List Ent) (T : Tl) : Prop where
  dn : T.dn = dnOf A []
  pg : ∀ p, T.pg p = (A.findIdx? (pgP p)).map Int.ofNat
  no : ∀ t, T.tx t = none → ofL A t = []
  yes : ∀ t c, T.tx t = some c → (A.findIdx? (isT t)).map Int.ofNat = some c.beg ∧ lastOf A t = some c.last ∧ endedB A t = c.fin ∧ c.com = decide (t ∈ T.dn)
def tl0 : Tl := ⟨fun _ => none, fun _ => none, []⟩
theorem tells_nil : Tells [] tl0 := ⟨rfl, fun _ => rfl, fun _ _ => rfl, fun _ _ h => nomatch h⟩
theorem ended_snoc (A : List Ent) (x : Ent) (t : T3) : endedB (A ++ [x]) t = (endedB A t || (isT t x && endB x)) := by
  unfold endedB
  rw [of_snoc]
  by_cases h : isT t x = true
  · rw [if_pos h, h, List.any_append]; simp
  · rw [if_neg h]; simp [h]
theorem no_com {A : List Ent} {t : T3} (h : ofL A t = []) : t ∉ dnOf A [] := fun hm => by
  rcases (dn_mem t A []).1 hm with h1 | ⟨y, hy, g1, g2, g3⟩
  · cases h1
  · have : y ∈ ofL A t := mem_of.2 ⟨hy, g1, g3⟩
    rw [h] at this; cases this
theorem dn_snoc (A : List Ent) (x : Ent) : dnOf (A ++ [x]) [] = if goodB x = true ∧ x.kind = 3 ∧ txE x ∉ dnOf A [] then dnOf A [] ++ [txE x] else dnOf A [] := by
  rw [dn_app]; rfl
theorem tells_bad {A : List Ent} {T : Tl} {x : Ent} (h : Tells A T) (hg : goodB x = false) : Tells (A ++ [x]) T := by
  have hn : ∀ t, isT t x = false := fun t => by unfold isT; rw [hg]; rfl
  have ho : ∀ t, ofL (A ++ [x]) t = ofL A t := fun t => by rw [of_snoc, hn t]; rfl
  refine ⟨?_, fun p => ?_, fun t ht => ?_, fun t c hc => ?_⟩
  · rw [dn_snoc, if_neg (by rw [hg]; simp)]; exact h.dn
  · rw [h.pg, findIdx_snoc]
    have : pgP p x = false := by unfold pgP; rw [hg]; rfl
    rw [this]
    cases A.findIdx? (pgP p) <;> rfl
  · rw [ho]; exact h.no t ht
  · obtain ⟨h1, h2, h3, h4⟩ := h.yes t c hc
    refine ⟨?_, ?_, ?_, h4⟩
    · rw [findIdx_snoc, hn t]
      cases e : A.findIdx? (isT t) with
      | none => rw [e] at h1; cases h1
      | some i => rw [e] at h1; exact h1
    · rw [last_snoc, hn t]; exact h2
    · rw [ended_snoc, hn t, h3]; simp
theorem find_none {A : List Ent} {t : T3} (h : ofL A t = []) : A.findIdx? (isT t) = none := by
  rw [List.findIdx?_eq_none_iff]
  intro x hx
  unfold ofL at h
  rw [List.filter_eq_nil_iff] at h
  simpa using h x hx
theorem tells_good {A : List Ent} {T : Tl} {x : Ent} (h : Tells A T) (hg : goodB x = true) : Tells (A ++ [x]) (takeT T (A.length : Int) x) := by
  have hcom : ((T.tx (txE x)).getD crs0).com = decide (txE x ∈ T.dn) := by
    cases e : T.tx (txE x) with
    | none =>
      have := no_com (h.no _ e)
      rw [← h.dn] at this
      simp [crs0, this]
    | some c => simpa using (h.yes _ c e).2.2.2
  have hdn : (takeT T (A.length : Int) x).dn = dnOf (A ++ [x]) [] := by
    rw [dn_snoc, ← h.dn]
    show (if x.kind = 3 ∧ ((T.tx (txE x)).getD crs0).com = false then T.dn ++ [txE x] else T.dn) = _
    rw [hcom]
    by_cases h1 : x.kind = 3 <;> by_cases h2 : txE x ∈ T.dn <;> simp [h1, h2, hg]
  have hmem : ∀ t, t ∈ (takeT T (A.length : Int) x).dn ↔ t ∈ T.dn ∨ (x.kind = 3 ∧ t = txE x) := fun t => by
    show t ∈ (if x.kind = 3 ∧ ((T.tx (txE x)).getD crs0).com = false then T.dn ++ [txE x] else T.dn) ↔ _
    rw [hcom]
    by_cases h1 : x.kind = 3
    · by_cases h2 : txE x ∈ T.dn
      · rw [if_neg (by simp [h2])]
        constructor
        · exact .inl
        · rintro (h3 | ⟨_, h3⟩)
          · exact h3
          · rw [h3]; exact h2
      · rw [if_pos (by simp [h1, h2])]; simp [h1]
    · rw [if_neg (fun h => h1 h.1)]; simp [h1]
  refine ⟨hdn, fun p => ?_, fun t ht => ?_, fun t c hc => ?_⟩
  · show (if x.kind < 3 ∧ (T.pg x.page).isSome = false ∧ p = x.page then some (A.length : Int) else T.pg p) = _
    rw [findIdx_snoc, h.pg p, h.pg x.page]
    unfold pgP
    rw [hg]
    by_cases hp : p = x.page
    · subst hp
      cases e : A.findIdx? (fun y => goodB y && (decide (y.kind < 3) && decide (y.page = x.page))) with
      | none => by_cases hk : x.kind < 3 <;> simp [hk]
      | some i => simp
    · have hp2 : ¬ x.page = p := fun e => hp e.symm
      rw [if_neg (fun h => hp h.2.2)]
      simp only [hp2, decide_false, Bool.and_false, Bool.false_eq_true, if_false]
      cases A.findIdx? (fun y => goodB y && (decide (y.kind < 3) && decide (y.page = p))) <;> rfl
  · have ht : (if t = txE x then some (stepC (A.length : Int) x (T.tx (txE x))) else T.tx t) = none := ht
    by_cases e : t = txE x
    · rw [if_pos e] at ht; cases ht
    · rw [if_neg e] at ht
      have hn : isT t x = false := by unfold isT; simp [hg]; exact fun e2 => e e2.symm
      rw [of_snoc, hn]
      exact h.no t ht
  · have hc : (if t = txE x then some (stepC (A.length : Int) x (T.tx (txE x))) else T.tx t) = some c := hc
    by_cases e : t = txE x
    · rw [if_pos e] at hc
      injection hc with hc2
      clear hc
      subst e
      have hi : isT (txE x) x = true := by unfold isT; simp [hg]
      rw [findIdx_snoc, last_snoc, ended_snoc, hi, if_pos rfl, if_pos rfl]
      subst hc2
      have hm2 : decide (txE x ∈ (takeT T (A.length : Int) x).dn) = (decide (txE x ∈ T.dn) || decide (x.kind = 3)) := by
        rw [Bool.eq_iff_iff]
        simp [hmem]
      rw [hm2]
      cases e2 : T.tx (txE x) with
      | none =>
        have h0 := h.no _ e2
        rw [find_none h0]
        have he : endedB A (txE x) = false := by unfold endedB; rw [h0]; rfl
        have hd := no_com h0
        rw [← h.dn] at hd
        refine ⟨rfl, rfl, ?_, ?_⟩
        · rw [he]; simp [stepC, crs0, endB]
        · simp [stepC, crs0, hd]
      | some c =>
        obtain ⟨h1, h2, h3, h4⟩ := h.yes _ c e2
        refine ⟨?_, rfl, ?_, ?_⟩
        · cases e3 : A.findIdx? (isT (txE x)) with
          | none => rw [e3] at h1; cases h1
          | some i => rw [e3] at h1; exact h1
        · rw [h3]; simp [stepC, endB]
        · simp [stepC, h4]
    · rw [if_neg e] at hc
      obtain ⟨h1, h2, h3, h4⟩ := h.yes t c hc
      have hn : isT t x = false := by unfold isT; simp [hg]; exact fun e2 => e e2.symm
      refine ⟨?_, ?_, ?_, ?_⟩
      · rw [findIdx_snoc, hn]
        cases e3 : A.findIdx? (isT t) with
        | none => rw [e3] at h1; cases h1
        | some i => rw [e3] at h1; exact h1
      · rw [last_snoc, hn]; exact h2
      · rw [ended_snoc, hn, h3]; simp
      · rw [h4]
        have := hmem t
        rw [Bool.eq_iff_iff]
        simp [this, e]
theorem dn_len : ∀ (A : List Ent) (D : List T3), (dnOf A D).length ≤ D.length + A.length
  | [], D => by simp [dnOf]
  | x :: r, D => by
    rw [dnOf]
    refine Nat.le_trans (dn_len r _) ?_
    split
    · rw [List.length_append, List.length_singleton, List.length_cons]; omega
    · rw [List.length_cons]; omega
theorem Tells.len {A : List Ent} {T : Tl} (h : Tells A T) : T.dn.length ≤ A.length := by rw [h.dn]; have := dn_len A []; simpa using this
/-! ### What is made of it -/
section
variable {L : List Ent} {T : Tl} {first : Int}
/-- a loser, of a name -/
def loseO (T : Tl) (t : T3) : Option (T3 × Int) := match T.tx t with
  | some c => if c.fin = true then none else some (t, c.last)
  | none => none
theorem lose_key {t : T3} {y : T3 × Int} (h : loseO T t = some y) : y.1 = t := by
  unfold loseO at h
  split at h
  · split at h
    · cases h
    · injection h with h; rw [← h]
  · cases h
theorem lose_get (h : Tells L T) (t : T3) : (loseO T t).map (·.2) = getK t (readN L first L.length).los := by
  rw [los_get L.length (Nat.le_refl _) t, List.take_length]
  unfold loseO
  cases e : T.tx t with
  | none =>
    have h0 := h.no t e
    have : lastOf L t = none := by unfold lastOf; rw [h0]; rfl
    rw [this]; simp
  | some c =>
    obtain ⟨_, h2, h3, _⟩ := h.yes t c e
    rw [h2, h3]
    dsimp only
    by_cases hf : c.fin = true
    · rw [if_pos hf, if_pos hf]; rfl
    · rw [if_neg hf, if_neg hf]; rfl
theorem losers_are (h : Tells L T) {ss : List T3} (hs : ss.Pairwise fun a b => lessT a b = true) (hm : ∀ t, t ∈ ss ↔ T.tx t ≠ none) : ss.filterMap (loseO T) = (readN L first L.length).los := by
  have hr : Rise lessT (ss.filterMap (loseO T)) := by
    unfold Rise
    rw [List.pairwise_filterMap]
    exact hs.imp fun {a b} hab y hy z hz => by rw [lose_key hy, lose_key hz]; exact hab
  refine rise_ext order_less hr (read_rise _).1 fun t => ?_
  rw [← lose_get h t]
  by_cases ht : t ∈ ss
  · cases e : loseO T t with
    | none =>
      refine get_none_of fun y hy e2 => ?_
      obtain ⟨a, _, ha⟩ := List.mem_filterMap.1 hy
      have := lose_key ha
      rw [e2] at this
      subst this
      rw [e] at ha; cases ha
    | some y =>
      have hy : y ∈ ss.filterMap (loseO T) := List.mem_filterMap.2 ⟨t, ht, e⟩
      have := get_of_mem order_less hr hy
      rw [lose_key e] at this
      rw [this]; rfl
  · have hn : T.tx t = none := Decidable.byContradiction fun h2 => ht ((hm t).2 h2)
    have : loseO T t = none := by unfold loseO; rw [hn]
    rw [this]
    refine get_none_of fun y hy e2 => ?_
    obtain ⟨a, ha, hb⟩ := List.mem_filterMap.1 hy
    have := lose_key hb
    rw [e2] at this
    exact ht (this ▸ ha)
theorem page_get (h : Tells L T) (p : Int) : getK p (readN L first L.length).pg = (T.pg p).map fun k => first + k := by
  rw [pg_get L.length (Nat.le_refl _) p, List.take_length, h.pg p]
  unfold firstOf
  cases L.findIdx? (pgP p) <;> rfl
theorem page_mem (h : Tells L T) (p : Int) : p ∈ (readN L first L.length).pg.map (·.1) ↔ T.pg p ≠ none := by
  have h1 := page_get (first := first) h p
  constructor
  · intro hp e
    obtain ⟨y, hy, rfl⟩ := List.mem_map.1 hp
    have := get_of_mem order_int (read_rise (L := L) (first := first) L.length).2 hy
    rw [h1, e] at this; cases this
  · intro hp
    cases e : T.pg p with
    | none => exact absurd e hp
    | some k =>
      rw [e] at h1
      exact List.mem_map.2 ⟨_, get_mem h1, rfl⟩
theorem page_rise : ((readN L first L.length).pg.map (·.1)).Pairwise fun x y => x < y := by
  rw [List.pairwise_map]
  exact (read_rise (L := L) (first := first) L.length).2.imp fun h => of_decide_eq_true h
theorem page_val (h : Tells L T) {y : Int × Int} (hy : y ∈ (readN L first L.length).pg) : ∃ k : Int, T.pg y.1 = some k ∧ y.2 = first + k := by
  have h1 := get_of_mem order_int (read_rise (L := L) (first := first) L.length).2 hy
  rw [page_get h] at h1
  cases e : T.pg y.1 with
  | none => rw [e] at h1; cases h1
  | some k => rw [e] at h1; injection h1 with h1; exact ⟨k, rfl, h1.symm⟩
theorem done_are (h : Tells L T) : T.dn = (readN L first L.length).dn := by rw [h.dn, dn_get L.length (Nat.le_refl _), List.take_length]
end
end Go.Proofs.YtkeocnhndnbamaaGreat.Past
namespace Go.Proofs.YtkeocnhndnbamaaGreat.Past
set_option maxRecDepth 100000
open Go.RowKit
open Go.Proofs.YtkeocnhndnbamaaGreat.Mem
open Go.Maps
open Go.Proofs.YtkeocnhndnbamaaGreat.Ent (Ent goodB Ents EntAt SmallE noE entA cellsE)
open Go.Proofs.YtkeocnhndnbamaaGreat.Latch (MapN)
def crsV (c : Crs) : Value := .agg #[.int .i64 c.beg, .int .i64 c.last, .bool c.com, .bool c.fin]
structure TA (w : World) (B g m1 m2 : Nat) (dv : Value) (n : Nat) (T : Tl) : Prop where
  blk : Blk w g 146 #[.map (some m1), .map (some m2), dv]
  mt : MapT w m1 n (fun t => (T.tx t).map crsV)
  mp : MapN w m2 n (fun p => (T.pg p).map (Value.int .i64))
  row : w.ownsRow B 56 3 dv T.dn.length (cellsG txV T.dn)
  hg : B ≤ g
  h1 : B ≤ m1
  h2 : B ≤ m2
  ne : m1 ≠ m2
theorem zero_crs (w : World) : (zeroValue 153).run Tryz.prog w = .ok (.agg #[.int .i64 0, .int .i64 0, .bool false, .bool false]) w := by kernel_rfl
theorem zero_int (w : World) : (zeroValue 3).run Tryz.prog w = .ok (.int .i64 0) w := by kernel_rfl
theorem good_tx {x : Ent} (h : goodB x = true) : SmT (txE x) := by
  have h1 : Ent.headB x = true := by unfold goodB at h; rw [Bool.and_eq_true] at h; exact h.1
  unfold Ent.headB Ent.knownB Ent.withinB at h1
  simp only [Bool.and_eq_true, decide_eq_true_eq] at h1
  obtain ⟨⟨⟨⟨a, b⟩, c⟩, d⟩, e⟩ := h1
  exact ⟨smI_of (by show _ ≤ x.cl ∧ x.cl ≤ _; omega), smI_of (by show _ ≤ x.ep ∧ x.ep ≤ _; omega), smI_of (by show _ ≤ x.n ∧ x.n ≤ _; omega)⟩
theorem good_page {x : Ent} (h : goodB x = true) (hk : x.kind < 3) : Latch.Sm x.page := by
  unfold goodB at h
  rw [Bool.and_eq_true] at h
  have h2 := h.2
  have hc : Ent.chB x = true := by
    by_cases k1 : x.kind = 1
    · rw [if_pos k1, Bool.and_eq_true] at h2; exact h2.2
    · rw [if_neg k1] at h2
      by_cases k2 : x.kind = 2
      · rw [if_pos k2, Bool.and_eq_true] at h2; exact h2.2
      · rw [if_neg k2, if_neg (by omega)] at h2; cases h2
  unfold Ent.chB Ent.withinB at hc
  simp only [Bool.and_eq_true, decide_eq_true_eq] at hc
  exact Latch.sm_of (by omega)
section
variable {w w' : World} {B g m1 m2 n : Nat} {dv : Value} {T : Tl}
theorem TA.same (h : TA w B g m1 m2 dv n T) (hb : ∀ k, k < w.heap.size → w'.heap[k]? = w.heap[k]?) : TA w' B g m1 m2 dv n T :=
  { blk := (hb g h.blk.lt).trans h.blk, mt := h.mt.same (hb _ h.mt.lt), mp := h.mp.same (hb _ h.mp.lt), row := own_same h.row fun k e => hb k (own_lt h.row e), hg := h.hg, h1 := h.h1, h2 := h.h2, ne := h.ne }
theorem TA.below (h : TA w B g m1 m2 dv n T) (hb : Below w.heap.size w w') : TA w' B g m1 m2 dv n T := h.same hb.block
theorem TA.drewN (h : TA w B g m1 m2 dv n T) (q : Nat) : TA (w.drewN q) B g m1 m2 dv n T := h.same fun _ _ => rfl
theorem TA.row_ne (h : TA w B g m1 m2 dv n T) : dv.ownBlock ≠ some g ∧ dv.ownBlock ≠ some m1 ∧ dv.ownBlock ≠ some m2 := by
  have key : ∀ k (o : Obj), w.heap[k]? = some o → (∀ cs t fr, o = .cells cs t fr → t ≠ 56) → dv.ownBlock ≠ some k := fun k o hk ho e => by
    obtain ⟨_, ⟨rfl, _⟩ | ⟨gg, cap, cur, rfl, _, hb, _⟩⟩ := h.row
    · cases e
    · simp [Value.ownBlock] at e
      subst e
      rw [hb] at hk
      cases hk
      exact ho _ _ _ rfl rfl
  refine ⟨key g _ h.blk fun cs t fr e => by cases e; decide, ?_, ?_⟩
  · obtain ⟨D, ⟨es, clock, hb, r⟩, h2⟩ := h.mt
    exact key m1 _ hb fun cs t fr e => by cases e
  · obtain ⟨D, ⟨es, clock, hb, r⟩, h2⟩ := h.mp
    exact key m2 _ hb fun cs t fr e => by cases e
theorem TA.gne (h : TA w B g m1 m2 dv n T) : m1 ≠ g ∧ m2 ≠ g := ⟨h.mt.not_cells h.blk, h.mp.not_cells h.blk⟩
theorem TA.cells (h : TA w B g m1 m2 dv n T) : w.cell? ⟨g, 0, none⟩ = some (.map (some m1)) ∧ w.cell? ⟨g, 1, none⟩ = some (.map (some m2)) ∧ w.cell? ⟨g, 2, none⟩ = some dv ∧ w.frozen? ⟨g, 0, none⟩ = false ∧ w.frozen? ⟨g, 1, none⟩ = false ∧ w.frozen? ⟨g, 2, none⟩ = false :=
  ⟨h.blk.cell 0, h.blk.cell 1, h.blk.cell 2, h.blk.frozen 0, h.blk.frozen 1, h.blk.frozen 2⟩
theorem TA.lookO (h : TA w B g m1 m2 dv n T) {t : T3} (ht : SmT t) : (Instr.lookup 144 (.map (some m1)) (.agg #[.int .i64 t.cl, .int .i64 t.ep, .int .i64 t.n]) true).run Tryz.prog w =
    .ok (.tuple #[.agg #[.int .i64 ((T.tx t).getD crs0).beg, .int .i64 ((T.tx t).getD crs0).last, .bool ((T.tx t).getD crs0).com, .bool ((T.tx t).getD crs0).fin], .bool (T.tx t).isSome]) w := by
  rw [h.mt.look_ok Tryz.underlying144 (zero_crs w) ht]
  cases T.tx t <;> rfl
theorem TA.look (h : TA w B g m1 m2 dv n T) {t : T3} (ht : SmT t) : (Instr.lookup 144 (.map (some m1)) (.agg #[.int .i64 t.cl, .int .i64 t.ep, .int .i64 t.n]) false).run Tryz.prog w =
    .ok (.agg #[.int .i64 ((T.tx t).getD crs0).beg, .int .i64 ((T.tx t).getD crs0).last, .bool ((T.tx t).getD crs0).com, .bool ((T.tx t).getD crs0).fin]) w := by
  rw [h.mt.look Tryz.underlying144 (zero_crs w) ht]
  cases T.tx t <;> rfl
theorem TA.lookPO (h : TA w B g m1 m2 dv n T) {p : Int} (hp : Latch.Sm p) : (Instr.lookup 88 (.map (some m2)) (.int .i64 p) true).run Tryz.prog w = .ok (.tuple #[.int .i64 ((T.pg p).getD 0), .bool (T.pg p).isSome]) w := by
  rw [h.mp.look_ok Tryz.underlying88 (zero_int w) hp]
  cases T.pg p <;> rfl
theorem TA.lookP (h : TA w B g m1 m2 dv n T) {p : Int} (hp : Latch.Sm p) : (Instr.lookup 88 (.map (some m2)) (.int .i64 p) false).run Tryz.prog w = .ok (.int .i64 ((T.pg p).getD 0)) w := by
  rw [h.mp.look Tryz.underlying88 (zero_int w) hp]
  cases T.pg p <;> rfl
/-- a store of a course -/
theorem TA.putT (h : TA w B g m1 m2 dv n T) {t : T3} (ht : SmT t) (hn : n ≤ 1000000) (c : Crs) :
    ∃ w', (Instr.mapUpdate 144 (.map (some m1)) (.agg #[.int .i64 t.cl, .int .i64 t.ep, .int .i64 t.n]) (.agg #[.int .i64 c.beg, .int .i64 c.last, .bool c.com, .bool c.fin])).run Tryz.prog w = .ok () w' ∧
      TA w' B g m1 m2 dv (n + 1) ⟨fun u => if u = t then some c else T.tx u, T.pg, T.dn⟩ ∧ w.grownBy w' (some m1) := by
  obtain ⟨w', hr, hm, ht2⟩ := h.mt.put Tryz.underlying144 ht (by unfold maxLen; omega) (.agg #[.int .i64 c.beg, .int .i64 c.last, .bool c.com, .bool c.fin])
  have hgr := ht2.grown
  refine ⟨w', hr, { blk := h.blk.grown hgr (fun e => by injection e with e; exact h.gne.1 e.symm), mt := hm.ext fun u => ?_, mp := (h.mp.same (hgr.block _ h.mp.lt (fun e => by injection e with e; exact h.ne e.symm))).mono (Nat.le_succ _), row := own_same h.row fun k e => hgr.block k (own_lt h.row e) (fun e2 => by injection e2 with e2; exact h.row_ne.2.1 (by rw [e, e2])), hg := h.hg, h1 := h.h1, h2 := h.h2, ne := h.ne }, hgr⟩
  dsimp only
  by_cases e : u = t
  · rw [if_pos e, if_pos e]; rfl
  · rw [if_neg e, if_neg e]
/-- .. of a page's place -/
theorem TA.putP (h : TA w B g m1 m2 dv n T) {p : Int} (hp : Latch.Sm p) (hn : n ≤ 1000000) (at_ : Int) :
    ∃ w', (Instr.mapUpdate 88 (.map (some m2)) (.int .i64 p) (.int .i64 at_)).run Tryz.prog w = .ok () w' ∧
      TA w' B g m1 m2 dv (n + 1) ⟨T.tx, fun q => if q = p then some at_ else T.pg q, T.dn⟩ ∧ w.grownBy w' (some m2) := by
  obtain ⟨w', hr, hm, ht2⟩ := h.mp.put Tryz.underlying88 hp (by unfold maxLen; omega) (.int .i64 at_)
  have hgr := ht2.grown
  refine ⟨w', hr, { blk := h.blk.grown hgr (fun e => by injection e with e; exact h.gne.2 e.symm), mp := hm.ext fun u => ?_, mt := (h.mt.same (hgr.block _ h.mt.lt (fun e => by injection e with e; exact h.ne e))).mono (Nat.le_succ _), row := own_same h.row fun k e => hgr.block k (own_lt h.row e) (fun e2 => by injection e2 with e2; exact h.row_ne.2.2 (by rw [e, e2])), hg := h.hg, h1 := h.h1, h2 := h.h2, ne := h.ne }, hgr⟩
  dsimp only
  by_cases e : u = p
  · rw [if_pos e, if_pos e]; rfl
  · rw [if_neg e, if_neg e]
/-- one more is done -/
theorem TA.addDn (h : TA w B g m1 m2 dv n T) {dv' : Value} {y : T3} (ha : AppRes w w' B 56 3 dv dv' (T.dn ++ [y]).length (cellsG txV (T.dn ++ [y]))) :
    TA (w'.setCell ⟨g, 2, none⟩ dv') B g m1 m2 dv' n ⟨T.tx, T.pg, T.dn ++ [y]⟩ := by
  obtain ⟨ho, hgr, hu⟩ := ha
  have hr := h.row_ne
  have hb : Blk w' g 146 #[.map (some m1), .map (some m2), dv] := h.blk.grown hgr (fun e => hr.1 e.symm)
  have hset : ∀ k, k ≠ g → (w'.setCell ⟨g, 2, none⟩ dv').heap[k]? = w'.heap[k]? := fun k hk => Below.heap_setCell w' _ _ k hk
  have hb2 := hb.set_ 2 dv'
  have hdv : dv'.ownBlock ≠ some g := fun e => by
    obtain ⟨_, ⟨rfl, _⟩ | ⟨gg, cap, cur, rfl, _, hb3, _⟩⟩ := ho
    · cases e
    · simp [Value.ownBlock] at e
      subst e
      unfold Blk at hb
      rw [hb3] at hb
      cases hb
  exact {
    blk := by simpa using hb2
    mt := h.mt.same ((hset m1 h.gne.1).trans (hgr.block _ h.mt.lt (fun e => hr.2.1 e.symm)))
    mp := h.mp.same ((hset m2 h.gne.2).trans (hgr.block _ h.mp.lt (fun e => hr.2.2 e.symm)))
    row := own_set ho hdv _ _
    hg := h.hg, h1 := h.h1, h2 := h.h2, ne := h.ne }
theorem TA.mono (h : TA w B g m1 m2 dv n T) {k : Nat} (hk : n ≤ k) : TA w B g m1 m2 dv k T := { h with mt := h.mt.mono hk, mp := h.mp.mono hk }
theorem TA.size (h : TA w B g m1 m2 dv n T) : B ≤ w.heap.size := by have := h.hg; have := h.blk.lt; omega
theorem TA.ext (h : TA w B g m1 m2 dv n T) {U : Tl} (e1 : ∀ t, T.tx t = U.tx t) (e2 : ∀ p, T.pg p = U.pg p) (e3 : T.dn = U.dn) : TA w B g m1 m2 dv n U := by
  obtain ⟨a, b, c⟩ := T
  obtain ⟨a', b', c'⟩ := U
  obtain rfl : a = a' := funext e1
  obtain rfl : b = b' := funext e2
  obtain rfl : c = c' := e3
  exact h
end
end Go.Proofs.YtkeocnhndnbamaaGreat.Past
