/- What a list of entries tells, as the document's own answer goes over it; what the statements ask of it. -/
import Derived.Test.YtcpkngkeechjeaaPastMath
namespace Go.Proofs.Ytcpkngkeechjeaa.Past
set_option maxRecDepth 100000
open Go.Proofs.Ytcpkngkeechjeaa.Ent
def isT (t : T3) (x : Ent) : Bool := goodB x && decide (txE x = t)
def ofL (L : List Ent) (t : T3) : List Ent := L.filter (isT t)
/-- Commit or End -/
def endB (x : Ent) : Bool := decide (2 < x.kind)
def endedB (L : List Ent) (t : T3) : Bool := (ofL L t).any endB
structure Vw where
  los : List (T3 × Int)
  dn : List T3
  pg : List (Int × Int)
def v0 : Vw := ⟨[], [], []⟩
def stepV (L : List Ent) (m : Int) (V : Vw) (x : Ent) : Vw :=
  if goodB x = false then V else
    ⟨if endedB L (txE x) = true then V.los else putK lessT true (txE x) x.lsn V.los,
      if x.kind = 3 ∧ txE x ∉ V.dn then V.dn ++ [txE x] else V.dn,
      if x.kind < 3 then putK ltI false x.page m V.pg else V.pg⟩
/-- behind the first i -/
def readN (L : List Ent) (first : Int) : Nat → Vw
  | 0 => v0
  | i + 1 => match L[i]? with
    | none => readN L first i
    | some x => stepV L (first + i) (readN L first i) x
def okFirst (first : Int) : Bool := decide (1 ≤ first ∧ first ≤ 1099511627776)
def readV (L : List Ent) (first : Int) : Vw := if okFirst first = true then readN L first L.length else v0
/-- the first that is needed -/
def needI (L : List Ent) : Option Nat := L.findIdx? fun x => goodB x && !endedB L (txE x)
def needV (L : List Ent) (first : Int) : Int := if okFirst first = true then (match needI L with | some i => first + i | none => 0) else 0
section
variable {L : List Ent} {first : Int}
theorem read_next {i : Nat} {x : Ent} (h : L[i]? = some x) : readN L first (i + 1) = stepV L (first + i) (readN L first i) x := by
  show (match L[i]? with | none => _ | some x => _) = _
  rw [h]
theorem take_next {i : Nat} {x : Ent} (h : L[i]? = some x) : L.take (i + 1) = L.take i ++ [x] := by rw [List.take_add_one, h]; rfl
theorem read_rise (i : Nat) : Rise lessT (readN L first i).los ∧ Rise ltI (readN L first i).pg := by
  induction i with
  | zero => exact ⟨List.Pairwise.nil, List.Pairwise.nil⟩
  | succ i ih =>
    cases h : L[i]? with
    | none => simp only [readN, h]; exact ih
    | some x =>
      rw [read_next h]
      unfold stepV
      split
      · exact ih
      · refine ⟨?_, ?_⟩
        · dsimp only; split
          · exact ih.1
          · exact rise_put order_less ih.1
        · dsimp only; split
          · exact rise_put order_int ih.2
          · exact ih.2
/-- what is told of a loser: its last entry -/
def lastOf (L : List Ent) (t : T3) : Option Int := (ofL L t).getLast?.map (·.lsn)
theorem of_snoc (A : List Ent) (x : Ent) (t : T3) : ofL (A ++ [x]) t = if isT t x = true then ofL A t ++ [x] else ofL A t := by
  unfold ofL
  rw [List.filter_append]
  by_cases h : isT t x = true <;> simp [h]
theorem last_snoc (A : List Ent) (x : Ent) (t : T3) : lastOf (A ++ [x]) t = if isT t x = true then some x.lsn else lastOf A t := by
  unfold lastOf
  rw [of_snoc]
  split
  · simp
  · rfl
theorem los_get (i : Nat) (hi : i ≤ L.length) (t : T3) : getK t (readN L first i).los = if endedB L t = true then none else lastOf (L.take i) t := by
  induction i with
  | zero =>
    rw [List.take_zero]
    show none = _
    split <;> rfl
  | succ i ih =>
    have hx : L[i]? = some (L[i]'(by omega)) := List.getElem?_eq_getElem _
    generalize L[i]'(by omega) = x at hx
    have ih2 := ih (by omega)
    rw [read_next hx, take_next hx, last_snoc]
    unfold stepV isT
    by_cases hg : goodB x = true
    · rw [if_neg (by rw [hg]; simp), hg]
      dsimp only
      by_cases ht : txE x = t
      · rw [ht]
        by_cases he : endedB L t = true
        · rw [if_pos he, ih2, if_pos he, if_pos he]
        · rw [if_neg he, if_neg he, get_put order_less t (read_rise i).1, if_pos rfl]
          simp
      · by_cases he : endedB L (txE x) = true
        · rw [if_pos he, ih2]; simp [ht]
        · rw [if_neg he, get_put order_less t (read_rise i).1, if_neg (fun h => ht h.symm), ih2]; simp [ht]
    · rw [if_pos (by simpa using hg), ih2]
      simp [hg]
/-- the entries Commit's transactions, each once -/
def dnOf : List Ent → List T3 → List T3
  | [], D => D
  | x :: r, D => dnOf r (if goodB x = true ∧ x.kind = 3 ∧ txE x ∉ D then D ++ [txE x] else D)
theorem dn_app (A B : List Ent) (D : List T3) : dnOf (A ++ B) D = dnOf B (dnOf A D) := by
  induction A generalizing D with
  | nil => rfl
  | cons a A ih => exact ih _
theorem dn_get (i : Nat) (hi : i ≤ L.length) : (readN L first i).dn = dnOf (L.take i) [] := by
  induction i with
  | zero => rw [List.take_zero]; rfl
  | succ i ih =>
    have hx : L[i]? = some (L[i]'(by omega)) := List.getElem?_eq_getElem _
    generalize L[i]'(by omega) = x at hx
    rw [read_next hx, take_next hx, dn_app, ← ih (by omega)]
    show (stepV L _ _ x).dn = if _ then _ else _
    unfold stepV
    by_cases hg : goodB x = true
    · rw [if_neg (by rw [hg]; simp)]
      simp [hg]
    · rw [if_pos (by simpa using hg), if_neg (by simp [hg])]
theorem dn_mem (t : T3) : ∀ (A : List Ent) (D : List T3), t ∈ dnOf A D ↔ t ∈ D ∨ ∃ x ∈ A, goodB x = true ∧ x.kind = 3 ∧ txE x = t
  | [], D => by simp [dnOf]
  | x :: r, D => by
    rw [dnOf, dn_mem t r]
    by_cases h : goodB x = true ∧ x.kind = 3 ∧ txE x ∉ D
    · rw [if_pos h, List.mem_append, List.mem_singleton]
      constructor
      · rintro ((h1 | h1) | ⟨y, hy, h2⟩)
        · exact .inl h1
        · exact .inr ⟨x, List.mem_cons_self, h.1, h.2.1, h1.symm⟩
        · exact .inr ⟨y, List.mem_cons_of_mem _ hy, h2⟩
      · rintro (h1 | ⟨y, hy, h2⟩)
        · exact .inl (.inl h1)
        · rcases List.mem_cons.1 hy with rfl | hy
          · exact .inl (.inr h2.2.2.symm)
          · exact .inr ⟨y, hy, h2⟩
    · rw [if_neg h]
      constructor
      · rintro (h1 | ⟨y, hy, h2⟩)
        · exact .inl h1
        · exact .inr ⟨y, List.mem_cons_of_mem _ hy, h2⟩
      · rintro (h1 | ⟨y, hy, h2⟩)
        · exact .inl h1
        · rcases List.mem_cons.1 hy with rfl | hy
          · refine .inl ?_
            rw [← h2.2.2]
            exact Decidable.byContradiction fun hn => h ⟨h2.1, h2.2.1, hn⟩
          · exact .inr ⟨y, hy, h2⟩
theorem dn_nodup : ∀ (A : List Ent) (D : List T3), D.Nodup → (dnOf A D).Nodup
  | [], D, h => h
  | x :: r, D, h => by
    rw [dnOf]
    refine dn_nodup r _ ?_
    split
    · rename_i h2
      rw [List.nodup_append]
      exact ⟨h, by simp, fun a ha b hb e => by simp at hb; rw [e, hb] at ha; exact h2.2.2 ha⟩
    · exact h
/-- who is done in the second alone comes behind -/
theorem dn_join (B : List Ent) : ∀ (D E : List T3), (∀ t, t ∈ E → t ∉ D) → dnOf B (D ++ E) = D ++ (dnOf B (D ++ E)).drop D.length := by
  intro D E _
  have : ∀ (B : List Ent) (D : List T3), ∃ F, dnOf B D = D ++ F := by
    intro B
    induction B with
    | nil => intro D; exact ⟨[], by simp [dnOf]⟩
    | cons x r ih =>
      intro D
      rw [dnOf]
      split
      · obtain ⟨F, hF⟩ := ih (D ++ [txE x])
        exact ⟨[txE x] ++ F, by rw [hF, List.append_assoc]⟩
      · exact ih D
  obtain ⟨F, hF⟩ := this B (D ++ E)
  rw [hF, List.append_assoc, List.drop_left]
theorem dn_two : ∀ (B : List Ent) (D E : List T3), dnOf B (D ++ E.filter fun t => decide (t ∉ D)) = D ++ (dnOf B E).filter fun t => decide (t ∉ D)
  | [], D, E => rfl
  | x :: r, D, E => by
    rw [dnOf, dnOf]
    by_cases hg : goodB x = true ∧ x.kind = 3
    · by_cases h1 : txE x ∈ D
      · rw [if_neg (by rintro ⟨_, _, h⟩; exact h (List.mem_append_left _ h1))]
        by_cases h2 : txE x ∈ E
        · rw [if_neg (by rintro ⟨_, _, h⟩; exact h h2)]
          exact dn_two r D E
        · rw [if_pos ⟨hg.1, hg.2, h2⟩]
          have := dn_two r D (E ++ [txE x])
          rw [List.filter_append] at this
          simp only [List.filter_cons, List.filter_nil] at this
          rw [if_neg (by simpa using h1), List.append_nil] at this
          exact this
      · by_cases h2 : txE x ∈ E
        · rw [if_neg (by rintro ⟨_, _, h⟩; exact h (List.mem_append_right _ (by rw [List.mem_filter]; exact ⟨h2, by simpa using h1⟩))), if_neg (by rintro ⟨_, _, h⟩; exact h h2)]
          exact dn_two r D E
        · rw [if_pos ⟨hg.1, hg.2, fun h => by
            rcases List.mem_append.1 h with h | h
            · exact h1 h
            · exact h2 (List.mem_filter.1 h).1⟩, if_pos ⟨hg.1, hg.2, h2⟩]
          have := dn_two r D (E ++ [txE x])
          rw [List.filter_append] at this
          simp only [List.filter_cons, List.filter_nil] at this
          rw [if_pos (by simpa using h1), ← List.append_assoc] at this
          exact this
    · rw [if_neg (fun h => hg ⟨h.1, h.2.1⟩), if_neg (fun h => hg ⟨h.1, h.2.1⟩)]
      exact dn_two r D E
theorem dn_joins (A B : List Ent) : dnOf (A ++ B) [] = dnOf A [] ++ (dnOf B []).filter fun t => decide (t ∉ dnOf A []) := by
  have := dn_two B (dnOf A []) []
  simp only [List.filter_nil, List.append_nil] at this
  rw [dn_app, this]
/-- a page's first entry -/
def pgP (p : Int) (x : Ent) : Bool := goodB x && (decide (x.kind < 3) && decide (x.page = p))
def firstOf (L : List Ent) (first : Int) (p : Int) : Option Int := (L.findIdx? (pgP p)).map fun i => first + i
theorem findIdx_snoc (q : Ent → Bool) (A : List Ent) (x : Ent) : (A ++ [x]).findIdx? q = match A.findIdx? q with | some i => some i | none => if q x = true then some A.length else none := by
  rw [List.findIdx?_append]
  cases A.findIdx? q with
  | some i => rfl
  | none =>
    simp only [Option.none_or, List.findIdx?_cons, List.findIdx?_nil]
    by_cases h : q x = true <;> simp [h]
theorem pg_get (i : Nat) (hi : i ≤ L.length) (p : Int) : getK p (readN L first i).pg = firstOf (L.take i) first p := by
  induction i with
  | zero => rw [List.take_zero]; rfl
  | succ i ih =>
    have hx : L[i]? = some (L[i]'(by omega)) := List.getElem?_eq_getElem _
    generalize L[i]'(by omega) = x at hx
    have ih2 := ih (by omega)
    have hl : (L.take i).length = i := by rw [List.length_take]; omega
    rw [read_next hx, take_next hx]
    unfold firstOf at ih2 ⊢
    rw [findIdx_snoc, hl]
    unfold stepV
    by_cases hg : goodB x = true
    · rw [if_neg (by rw [hg]; simp)]
      dsimp only
      by_cases hk : x.kind < 3
      · rw [if_pos hk, get_put order_int p (read_rise i).2]
        by_cases hp : p = x.page
        · subst hp
          rw [if_pos rfl, ih2]
          have : pgP x.page x = true := by unfold pgP; simp [hg, hk]
          rw [this]
          cases (L.take i).findIdx? (pgP x.page) <;> simp
        · rw [if_neg hp, ih2]
          have : pgP p x = false := by unfold pgP; simp [hg, hk]; exact fun h => hp h.symm
          rw [this]
          cases (L.take i).findIdx? (pgP p) <;> simp
      · rw [if_neg hk, ih2]
        have : pgP p x = false := by unfold pgP; simp [hk]
        rw [this]
        cases (L.take i).findIdx? (pgP p) <;> simp
    · rw [if_pos (by simpa using hg), ih2]
      have : pgP p x = false := by unfold pgP; simp [hg]
      rw [this]
      cases (L.take i).findIdx? (pgP p) <;> simp
end
end Go.Proofs.Ytcpkngkeechjeaa.Past
