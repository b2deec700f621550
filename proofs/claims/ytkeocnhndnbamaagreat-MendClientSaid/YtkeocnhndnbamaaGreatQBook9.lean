/- Recovery as plain data: undone down to one of a transaction's entries, its pages are as they were behind that. What a list of entries tells, as the document's own answer goes over it; what the statements ask of it. Slabs as images of recovery's plain data, entries as its entries: what redoing does is what that says. The next one of a transaction to be undone: in a log it is the newest change that counts. -/
import Derived.Test.YtkeocnhndnbamaaGreatQBook8
import Derived.Test.YtkeocnhndnbamaaGreatQBook7
namespace Go.Proofs.YtkeocnhndnbamaaGreat.MLog
set_option maxRecDepth 100000
section
variable {T S I : Type} [DecidableEq T] {G : Img I S}
/-- what counts of a transaction has Lsns up to its last one -/
theorem stk_lsn {i0 : I} {L : List (En T S)} {s : St T S I} (h : Log G i0 L s) (t : T) : ∀ x ∈ s.stk t, x.lsn ≤ s.last t ∧ x.prev < x.lsn := fun x hx => by
  have hI := inv_log h
  have hm := (own_log h).mem t (s.last t) x (by rw [hI.hst]; exact hx)
  have hl := (own_log h).lsn x hm.1
  rw [hm.2] at hl
  have hc := (own_log h).chg x hm.1 (hI.mem t x hx).2.1
  rw [hm.2] at hc
  have := hI.chain t x.lsn x _ hc
  exact ⟨hl.2, this.2.2.2.1⟩
theorem step_ended {s s' : St T S I} {e : En T S} (h : Step G s e s') {t : T} (ht : s'.ended t = false) : s.ended t = false := by
  cases h with
  | @change i' => exact ht
  | @undo x r i' => exact ht
  | end_ =>
    dsimp only at ht
    by_cases h : t = e.t
    · rw [h, upd_same] at ht; cases ht
    · rwa [upd_ne _ _ h] at ht
theorem back_is {i0 : I} {A : List (En T S)} {sA : St T S I} (hA : Log G i0 A sA) (t : T) (B : List (En T S)) :
    ∀ {s : St T S I}, Log G i0 (A ++ B) s → s.ended t = false → (∀ y ∈ B, y.t = t → y.kind = 2 → sA.last t ≤ y.next) →
      ∃ P, s.stk t = P ++ sA.stk t ∧ (∀ x ∈ P, sA.last t < x.lsn ∧ sA.last t ≤ x.prev) ∧ sA.last t ≤ s.last t ∧ ∀ n, sA.own n = some t → s.own n = some t ∧ ∀ k, undo P n k (G.at_ (s.pg n).2 k) = G.at_ (sA.pg n).2 k := by
  refine snoc_ind (P := fun B => ∀ {s : St T S I}, Log G i0 (A ++ B) s → s.ended t = false → (∀ y ∈ B, y.t = t → y.kind = 2 → sA.last t ≤ y.next) →
      ∃ P, s.stk t = P ++ sA.stk t ∧ (∀ x ∈ P, sA.last t < x.lsn ∧ sA.last t ≤ x.prev) ∧ sA.last t ≤ s.last t ∧ ∀ n, sA.own n = some t → s.own n = some t ∧ ∀ k, undo P n k (G.at_ (s.pg n).2 k) = G.at_ (sA.pg n).2 k) ?_ ?_ B
  · intro s h _ _
    rw [List.append_nil] at h
    rw [log_det h hA]
    exact ⟨[], rfl, fun x hx => (by cases hx), Int.le_refl _, fun n hn => ⟨hn, fun k => rfl⟩⟩
  · intro B e ih s' h he hc
    rw [← List.append_assoc] at h
    obtain ⟨s, h0, hs⟩ := log_snoc h
    have hI := inv_log h0
    obtain ⟨P, p1, p2, p3, p4⟩ := ih h0 (step_ended hs he) fun y hy => hc y (List.mem_append_left _ hy)
    have hcl := hc e (by simp)
    cases hs with
    | @change i' hk he2 hp h1 h2 ho hw hi =>
      dsimp only at he ⊢
      by_cases ht : t = e.t
      · subst ht
        refine ⟨e :: P, by rw [upd_same, p1]; rfl, fun x hx => ?_, by rw [upd_same]; omega, fun n hn => ?_⟩
        · rcases List.mem_cons.1 hx with rfl | hx
          · omega
          · exact p2 x hx
        · obtain ⟨o1, o2⟩ := p4 n hn
          by_cases hn2 : n = e.page
          · subst hn2
            refine ⟨upd_same _ _ _, fun k => ?_⟩
            rw [upd_same, undo, G.at_put _ _ _ _ _ hi, ← o2 k]
            congr 1
            by_cases hs2 : e.slot = k
            · rw [if_pos ⟨rfl, hs2⟩, ← hs2, hw]
            · rw [if_neg fun h => hs2 h.2, if_neg fun h => hs2 h.symm]
          · refine ⟨by rw [upd_ne _ _ hn2]; exact o1, fun k => ?_⟩
            rw [upd_ne _ _ hn2, undo, if_neg fun h => hn2 h.1.symm]
            exact o2 k
      · refine ⟨P, by rw [upd_ne _ _ ht]; exact p1, p2, by rw [upd_ne _ _ ht]; exact p3, fun n hn => ?_⟩
        obtain ⟨o1, o2⟩ := p4 n hn
        have hn2 : n ≠ e.page := fun hn2 => by
          rw [hn2] at o1
          rcases ho with h | h
          · rw [h] at o1; cases o1
          · rw [h] at o1; injection o1 with o1; exact ht o1.symm
        exact ⟨by rw [upd_ne _ _ hn2]; exact o1, fun k => by rw [upd_ne _ _ hn2]; exact o2 k⟩
    | @undo x r i' hk he2 hp h1 h2 hs hpg hsl hw his hn2 hi =>
      dsimp only at he ⊢
      have hm := (hI.mem e.t x (by rw [hs]; exact List.mem_cons_self)).2.2
      by_cases ht : t = e.t
      · subst ht
        have hcl2 := hcl rfl hk
        rw [hs] at p1
        cases P with
        | nil =>
          exfalso
          have hx := stk_lsn hA e.t x (by rw [List.nil_append] at p1; rw [← p1]; exact List.mem_cons_self)
          omega
        | cons y P' =>
          rw [List.cons_append] at p1
          injection p1 with q1 q2
          subst q1
          refine ⟨P', by rw [upd_same]; exact q2, fun z hz => p2 z (List.mem_cons_of_mem _ hz), by rw [upd_same]; omega, fun n hn => ?_⟩
          obtain ⟨o1, o2⟩ := p4 n hn
          refine ⟨o1, fun k => ?_⟩
          have o3 := o2 k
          rw [undo] at o3
          by_cases hn3 : n = e.page
          · subst hn3
            rw [upd_same, G.at_put _ _ _ _ _ hi, ← o3]
            congr 1
            by_cases hk2 : k = e.slot
            · rw [if_pos hk2, if_pos ⟨hpg.symm, by rw [hk2, hsl]⟩, his]
            · rw [if_neg hk2, if_neg fun h => hk2 (by rw [hsl]; exact h.2.symm)]
          · rw [upd_ne _ _ hn3, ← o3, if_neg fun h => hn3 (by rw [hpg]; exact h.1.symm)]
      · refine ⟨P, by rw [upd_ne _ _ ht]; exact p1, p2, by rw [upd_ne _ _ ht]; exact p3, fun n hn => ?_⟩
        obtain ⟨o1, o2⟩ := p4 n hn
        have hn3 : n ≠ e.page := fun hn3 => by
          rw [hn3, hpg, hm] at o1
          injection o1 with o1
          exact ht o1.symm
        exact ⟨o1, fun k => by rw [upd_ne _ _ hn3]; exact o2 k⟩
    | end_ hk he2 hl hp h1 =>
      dsimp only at he ⊢
      have ht : t ≠ e.t := fun h => by rw [h, upd_same] at he; cases he
      refine ⟨P, by rw [upd_ne _ _ ht]; exact p1, p2, by rw [upd_ne _ _ ht]; exact p3, fun n hn => ?_⟩
      obtain ⟨o1, o2⟩ := p4 n hn
      exact ⟨by rw [if_neg fun h => ht (by rw [o1] at h; injection h)]; exact o1, o2⟩
end
end Go.Proofs.YtkeocnhndnbamaaGreat.MLog
namespace Go.Proofs.YtkeocnhndnbamaaGreat.Past
set_option maxRecDepth 100000
open Go.Proofs.YtkeocnhndnbamaaGreat.Ent
def isT (t : T3) (x : Ent) : Bool := goodB x && decide (txE x = t)
def ofL (L : List Ent) (t : T3) : List Ent := L.filter (isT t)
/-- Commit or End -/
def endB (x : Ent) : Bool := decide (2 < x.kind)
def endedB (L : List Ent) (t : T3) : Bool := (ofL L t).any endB
structure Vw where
  los : List (T3 × Int)
  dn : List T3
  pg : List (Int × Int)
def v0 : Vw := ⟨[], [], []⟩
def stepV (L : List Ent) (m : Int) (V : Vw) (x : Ent) : Vw :=
  if goodB x = false then V else
    ⟨if endedB L (txE x) = true then V.los else putK lessT true (txE x) x.lsn V.los,
      if x.kind = 3 ∧ txE x ∉ V.dn then V.dn ++ [txE x] else V.dn,
      if x.kind < 3 then putK ltI false x.page m V.pg else V.pg⟩
/-- behind the first i -/
def readN (L : List Ent) (first : Int) : Nat → Vw
  | 0 => v0
  | i + 1 => match L[i]? with
    | none => readN L first i
    | some x => stepV L (first + i) (readN L first i) x
def okFirst (first : Int) : Bool := decide (1 ≤ first ∧ first ≤ 1099511627776)
def readV (L : List Ent) (first : Int) : Vw := if okFirst first = true then readN L first L.length else v0
section
variable {L : List Ent} {first : Int}
theorem read_next {i : Nat} {x : Ent} (h : L[i]? = some x) : readN L first (i + 1) = stepV L (first + i) (readN L first i) x := by
  show (match L[i]? with | none => _ | some x => _) = _
  rw [h]
theorem take_next {i : Nat} {x : Ent} (h : L[i]? = some x) : L.take (i + 1) = L.take i ++ [x] := by rw [List.take_add_one, h]; rfl
theorem read_rise (i : Nat) : Rise lessT (readN L first i).los ∧ Rise ltI (readN L first i).pg := by
  induction i with
  | zero => exact ⟨List.Pairwise.nil, List.Pairwise.nil⟩
  | succ i ih =>
    cases h : L[i]? with
    | none => simp only [readN, h]; exact ih
    | some x =>
      rw [read_next h]
      unfold stepV
      split
      · exact ih
      · refine ⟨?_, ?_⟩
        · dsimp only; split
          · exact ih.1
          · exact rise_put order_less ih.1
        · dsimp only; split
          · exact rise_put order_int ih.2
          · exact ih.2
/-- what is told of a loser: its last entry -/
def lastOf (L : List Ent) (t : T3) : Option Int := (ofL L t).getLast?.map (·.lsn)
theorem of_snoc (A : List Ent) (x : Ent) (t : T3) : ofL (A ++ [x]) t = if isT t x = true then ofL A t ++ [x] else ofL A t := by
  unfold ofL
  rw [List.filter_append]
  by_cases h : isT t x = true <;> simp [h]
theorem last_snoc (A : List Ent) (x : Ent) (t : T3) : lastOf (A ++ [x]) t = if isT t x = true then some x.lsn else lastOf A t := by
  unfold lastOf
  rw [of_snoc]
  split
  · simp
  · rfl
theorem los_get (i : Nat) (hi : i ≤ L.length) (t : T3) : getK t (readN L first i).los = if endedB L t = true then none else lastOf (L.take i) t := by
  induction i with
  | zero =>
    rw [List.take_zero]
    show none = _
    split <;> rfl
  | succ i ih =>
    have hx : L[i]? = some (L[i]'(by omega)) := List.getElem?_eq_getElem _
    generalize L[i]'(by omega) = x at hx
    have ih2 := ih (by omega)
    rw [read_next hx, take_next hx, last_snoc]
    unfold stepV isT
    by_cases hg : goodB x = true
    · rw [if_neg (by rw [hg]; simp), hg]
      dsimp only
      by_cases ht : txE x = t
      · rw [ht]
        by_cases he : endedB L t = true
        · rw [if_pos he, ih2, if_pos he, if_pos he]
        · rw [if_neg he, if_neg he, get_put order_less t (read_rise i).1, if_pos rfl]
          simp
      · by_cases he : endedB L (txE x) = true
        · rw [if_pos he, ih2]; simp [ht]
        · rw [if_neg he, get_put order_less t (read_rise i).1, if_neg (fun h => ht h.symm), ih2]; simp [ht]
    · rw [if_pos (by simpa using hg), ih2]
      simp [hg]
/-- the entries Commit's transactions, each once -/
def dnOf : List Ent → List T3 → List T3
  | [], D => D
  | x :: r, D => dnOf r (if goodB x = true ∧ x.kind = 3 ∧ txE x ∉ D then D ++ [txE x] else D)
theorem dn_app (A B : List Ent) (D : List T3) : dnOf (A ++ B) D = dnOf B (dnOf A D) := by
  induction A generalizing D with
  | nil => rfl
  | cons a A ih => exact ih _
theorem dn_get (i : Nat) (hi : i ≤ L.length) : (readN L first i).dn = dnOf (L.take i) [] := by
  induction i with
  | zero => rw [List.take_zero]; rfl
  | succ i ih =>
    have hx : L[i]? = some (L[i]'(by omega)) := List.getElem?_eq_getElem _
    generalize L[i]'(by omega) = x at hx
    rw [read_next hx, take_next hx, dn_app, ← ih (by omega)]
    show (stepV L _ _ x).dn = if _ then _ else _
    unfold stepV
    by_cases hg : goodB x = true
    · rw [if_neg (by rw [hg]; simp)]
      simp [hg]
    · rw [if_pos (by simpa using hg), if_neg (by simp [hg])]
theorem dn_mem (t : T3) : ∀ (A : List Ent) (D : List T3), t ∈ dnOf A D ↔ t ∈ D ∨ ∃ x ∈ A, goodB x = true ∧ x.kind = 3 ∧ txE x = t
  | [], D => by simp [dnOf]
  | x :: r, D => by
    rw [dnOf, dn_mem t r]
    by_cases h : goodB x = true ∧ x.kind = 3 ∧ txE x ∉ D
    · rw [if_pos h, List.mem_append, List.mem_singleton]
      constructor
      · rintro ((h1 | h1) | ⟨y, hy, h2⟩)
        · exact .inl h1
        · exact .inr ⟨x, List.mem_cons_self, h.1, h.2.1, h1.symm⟩
        · exact .inr ⟨y, List.mem_cons_of_mem _ hy, h2⟩
      · rintro (h1 | ⟨y, hy, h2⟩)
        · exact .inl (.inl h1)
        · rcases List.mem_cons.1 hy with rfl | hy
          · exact .inl (.inr h2.2.2.symm)
          · exact .inr ⟨y, hy, h2⟩
    · rw [if_neg h]
      constructor
      · rintro (h1 | ⟨y, hy, h2⟩)
        · exact .inl h1
        · exact .inr ⟨y, List.mem_cons_of_mem _ hy, h2⟩
      · rintro (h1 | ⟨y, hy, h2⟩)
        · exact .inl h1
        · rcases List.mem_cons.1 hy with rfl | hy
          · refine .inl ?_
            rw [← h2.2.2]
            exact Decidable.byContradiction fun hn => h ⟨h2.1, h2.2.1, hn⟩
          · exact .inr ⟨y, hy, h2⟩
theorem dn_nodup : ∀ (A : List Ent) (D : List T3), D.Nodup → (dnOf A D).Nodup
  | [], D, h => h
  | x :: r, D, h => by
    rw [dnOf]
    refine dn_nodup r _ ?_
    split
    · rename_i h2
      rw [List.nodup_append]
      exact ⟨h, by simp, fun a ha b hb e => by simp at hb; rw [e, hb] at ha; exact h2.2.2 ha⟩
    · exact h
/-- a page's first entry -/
def pgP (p : Int) (x : Ent) : Bool := goodB x && (decide (x.kind < 3) && decide (x.page = p))
def firstOf (L : List Ent) (first : Int) (p : Int) : Option Int := (L.findIdx? (pgP p)).map fun i => first + i
theorem findIdx_snoc (q : Ent → Bool) (A : List Ent) (x : Ent) : (A ++ [x]).findIdx? q = match A.findIdx? q with | some i => some i | none => if q x = true then some A.length else none := by
  rw [List.findIdx?_append]
  cases A.findIdx? q with
  | some i => rfl
  | none =>
    simp only [Option.none_or, List.findIdx?_cons, List.findIdx?_nil]
    by_cases h : q x = true <;> simp [h]
theorem pg_get (i : Nat) (hi : i ≤ L.length) (p : Int) : getK p (readN L first i).pg = firstOf (L.take i) first p := by
  induction i with
  | zero => rw [List.take_zero]; rfl
  | succ i ih =>
    have hx : L[i]? = some (L[i]'(by omega)) := List.getElem?_eq_getElem _
    generalize L[i]'(by omega) = x at hx
    have ih2 := ih (by omega)
    have hl : (L.take i).length = i := by rw [List.length_take]; omega
    rw [read_next hx, take_next hx]
    unfold firstOf at ih2 ⊢
    rw [findIdx_snoc, hl]
    unfold stepV
    by_cases hg : goodB x = true
    · rw [if_neg (by rw [hg]; simp)]
      dsimp only
      by_cases hk : x.kind < 3
      · rw [if_pos hk, get_put order_int p (read_rise i).2]
        by_cases hp : p = x.page
        · subst hp
          rw [if_pos rfl, ih2]
          have : pgP x.page x = true := by unfold pgP; simp [hg, hk]
          rw [this]
          cases (L.take i).findIdx? (pgP x.page) <;> simp
        · rw [if_neg hp, ih2]
          have : pgP p x = false := by unfold pgP; simp [hg, hk]; exact fun h => hp h.symm
          rw [this]
          cases (L.take i).findIdx? (pgP p) <;> simp
      · rw [if_neg hk, ih2]
        have : pgP p x = false := by unfold pgP; simp [hk]
        rw [this]
        cases (L.take i).findIdx? (pgP p) <;> simp
    · rw [if_pos (by simpa using hg), ih2]
      have : pgP p x = false := by unfold pgP; simp [hg]
      rw [this]
      cases (L.take i).findIdx? (pgP p) <;> simp
end
end Go.Proofs.YtkeocnhndnbamaaGreat.Past
namespace Go.Proofs.YtkeocnhndnbamaaGreat.Mend
set_option maxRecDepth 100000
open Go.Proofs.YtkeocnhndnbamaaGreat.Slab (Slot nos atL putL putCode sameB sameB_iff)
open Go.Proofs.YtkeocnhndnbamaaGreat.Ent (Ent longB)
open Go.Proofs.YtkeocnhndnbamaaGreat.Patch
open Go.Proofs.YtkeocnhndnbamaaGreat.Past (T3 txE)
open Go.Proofs.YtkeocnhndnbamaaGreat.MLog
instance slotEq : DecidableEq Slot := fun x y => decidable_of_iff (sameB x y = true) (sameB_iff x y)
abbrev Im := {l : List Slot // Slab.goodB 0 l = true}
theorem at_neg {l : List Slot} {j : Int} (h : j < 0) : atL 0 l j = nos := by
  unfold atL
  rw [if_neg fun h2 : 0 ≤ j ∧ j < l.length => by omega]
  split <;> rfl
def G : Img Im Slot where
  at_ i k := atL 0 i.1 k
  put i k x := if h : putCode 0 i.1 k x = 0 then some ⟨putL i.1 k.toNat x, Slab.put_good h⟩ else none
  at_put i k x j i' h := by
    split at h
    · rename_i hc
      injection h with h
      subst h
      show atL 0 (putL i.1 k.toNat x) j = if j = k then x else atL 0 i.1 j
      by_cases hj : j < 0
      · have := (Slab.code_zero hc).2.1
        rw [at_neg hj, at_neg hj, if_neg (by omega)]
      · obtain ⟨m, rfl⟩ := Int.eq_ofNat_of_zero_le (show 0 ≤ j by omega)
        exact Slab.at_put hc m
    · cases h
  back i k x i' h := by
    split at h
    · rename_i hc
      injection h with h
      subst h
      obtain ⟨b1, b2⟩ := Slab.put_back_is hc
      show (if h : putCode 0 (putL i.1 k.toNat x) k (atL 0 i.1 k) = 0 then some _ else none) = some i
      rw [dif_pos b2]
      exact congrArg some (Subtype.ext b1)
    · cases h
theorem put_is {i i' : Im} {k : Int} {x : Slot} : G.put i k x = some i' ↔ putCode 0 i.1 k x = 0 ∧ i'.1 = putL i.1 k.toNat x := by
  show (if h : putCode 0 i.1 k x = 0 then some (⟨putL i.1 k.toNat x, Slab.put_good h⟩ : Im) else none) = some i' ↔ _
  split
  · rename_i h
    constructor
    · intro e
      injection e with e
      exact ⟨h, by rw [← e]⟩
    · rintro ⟨-, e⟩
      exact congrArg some (Subtype.ext e.symm)
  · rename_i h
    exact ⟨fun e => (by cases e), fun e => absurd e.1 h⟩
def enE (x : Ent) : En T3 Slot := ⟨x.kind.toNat, txE x, x.lsn, x.prev, x.page, x.slot, ⟨x.wu, x.wd⟩, ⟨x.iu, x.id⟩, x.next⟩
theorem good_at {i : Im} {lsn : Int} (h0 : 0 ≤ lsn) (h1 : lsn ≤ 1099511627776) : Slab.goodB lsn i.1 = true := good_lsn i.2 h0 h1
theorem code_lsn0 {i : Im} {lsn : Int} (h : Slab.goodB lsn i.1 = true) (k : Int) (x : Slot) : putCode lsn i.1 k x = putCode 0 i.1 k x := by
  unfold putCode; rw [h, i.2]
theorem at_lsn0 {i : Im} {lsn : Int} (h : Slab.goodB lsn i.1 = true) (k : Int) : atL lsn i.1 k = atL 0 i.1 k := by
  unfold atL; rw [h, i.2]
/-- what can be done is done -/
theorem redo_yes {i i' : Im} {lsn : Int} {x : Ent} (h0 : 0 ≤ lsn) (h1 : lsn ≤ 1099511627776) (hk : longB x.kind = true) (hg : Ent.goodB x = true) (hlt : lsn < x.lsn)
    (hat : G.at_ i x.slot = ⟨x.wu, x.wd⟩) (hp : G.put i x.slot ⟨x.iu, x.id⟩ = some i') :
    redoCode lsn i.1 x = 0 ∧ redoD lsn i.1 x = true ∧ redoN lsn i.1 x = x.lsn ∧ redoZ lsn i.1 x = i'.1 := by
  have hgl := good_at (i := i) h0 h1
  obtain ⟨p1, p2⟩ := put_is.1 hp
  have hs : sameB (atL lsn i.1 x.slot) ⟨x.wu, x.wd⟩ = true := (sameB_iff _ _).2 ((at_lsn0 hgl _).trans hat)
  have hc : redoCode lsn i.1 x = 0 := by rw [redo_put hgl hk hg (by omega) hs, code_lsn0 hgl]; exact p1
  obtain ⟨d1, d2, d3⟩ := redo_new (by omega) hc
  exact ⟨hc, d1, d2, by rw [d3, p2]⟩
/-- what was done could be done -/
theorem redo_of {i : Im} {lsn : Int} {x : Ent} (h : redoCode lsn i.1 x = 0) (hd : redoD lsn i.1 x = true) :
    longB x.kind = true ∧ Ent.goodB x = true ∧ lsn < x.lsn ∧ G.at_ i x.slot = ⟨x.wu, x.wd⟩ ∧ redoN lsn i.1 x = x.lsn ∧ ∃ i' : Im, G.put i x.slot ⟨x.iu, x.id⟩ = some i' ∧ redoZ lsn i.1 x = i'.1 := by
  obtain ⟨h1, h2, h3, h4 | ⟨h4, h5, h6⟩⟩ := redo_zero h
  · rw [(redo_old h1 h2 h3 h4).2.1] at hd; cases hd
  · obtain ⟨d1, d2, d3⟩ := redo_new h4 h
    rw [code_lsn0 h1] at h6
    refine ⟨h2, h3, by omega, ?_, d2, ⟨putL i.1 x.slot.toNat ⟨x.iu, x.id⟩, Slab.put_good h6⟩, put_is.2 ⟨h6, rfl⟩, d3⟩
    show atL 0 i.1 x.slot = _
    rw [← at_lsn0 h1]
    exact (sameB_iff _ _).1 h5
theorem kind_long {x : Ent} (hg : Ent.goodB x = true) : (longB x.kind = true ↔ (enE x).kind = 1 ∨ (enE x).kind = 2) := by
  have hk : x.kind = 1 ∨ x.kind = 2 ∨ x.kind = 3 ∨ x.kind = 4 := by
    unfold Ent.goodB at hg
    by_cases a : x.kind = 1
    · exact .inl a
    · by_cases b : x.kind = 2
      · exact .inr (.inl b)
      · by_cases c : x.kind = 3 ∨ x.kind = 4
        · exact .inr (.inr c)
        · rw [if_neg a, if_neg b, if_neg c] at hg; simp at hg
  show decide (x.kind = 1 ∨ x.kind = 2) = true ↔ x.kind.toNat = 1 ∨ x.kind.toNat = 2
  rw [decide_eq_true_iff]
  omega
/-- a log told again to a page -/
theorem all_is (n : Int) : ∀ {L : List Ent} {lsn N : Int} {i j : Im}, (∀ x ∈ L, Ent.goodB x = true) → 0 ≤ lsn → lsn ≤ 1099511627776 → allA G n (L.map enE) (lsn, i) = some (N, j) → allF n L lsn i.1 = (0, N, j.1)
  | [], lsn, N, i, j, _, _, _, h => by
    rw [List.map_nil, allA] at h
    injection h with h
    injection h with h1 h2
    subst h1 h2
    rfl
  | x :: r, lsn, N, i, j, hg, h0, h1, h => by
    have hx := hg x List.mem_cons_self
    have hr : ∀ y ∈ r, Ent.goodB y = true := fun y hy => hg y (List.mem_cons_of_mem _ hy)
    rw [List.map_cons, allA] at h
    rw [allF]
    by_cases hk : longB x.kind = true ∧ x.page = n
    · rw [if_pos ⟨(kind_long hx).1 hk.1, hk.2⟩] at h
      rw [if_pos hk]
      by_cases hl : x.lsn ≤ lsn
      · rw [if_pos (show (enE x).lsn ≤ lsn from hl)] at h
        obtain ⟨c1, -, c3, c4⟩ := redo_old (good_at (i := i) h0 h1) hk.1 hx hl
        rw [if_pos c1, c3, c4]
        exact all_is n hr h0 h1 h
      · rw [if_neg (show ¬ (enE x).lsn ≤ lsn from hl)] at h
        by_cases hat : G.at_ i x.slot = ⟨x.wu, x.wd⟩
        · rw [if_pos (show G.at_ i (enE x).slot = (enE x).was from hat)] at h
          cases hp : G.put i x.slot ⟨x.iu, x.id⟩ with
          | none => rw [show G.put i (enE x).slot (enE x).is = none from hp] at h; cases h
          | some i' =>
            rw [show G.put i (enE x).slot (enE x).is = some i' from hp] at h
            obtain ⟨c1, -, c3, c4⟩ := redo_yes h0 h1 hk.1 hx (by omega) hat hp
            rw [if_pos c1, c3, c4]
            have hb := ent_lsn hx
            exact all_is n hr (by omega) hb.2.1 h
        · rw [if_neg (show ¬ G.at_ i (enE x).slot = (enE x).was from hat)] at h; cases h
    · rw [if_neg fun h2 => hk ⟨(kind_long hx).2 h2.1, h2.2⟩] at h
      rw [if_neg hk]
      exact all_is n hr h0 h1 h
end Go.Proofs.YtkeocnhndnbamaaGreat.Mend
namespace Go.Proofs.YtkeocnhndnbamaaGreat.Mend
set_option maxRecDepth 100000
open Go.Proofs.YtkeocnhndnbamaaGreat.Slab (Slot nos)
open Go.Proofs.YtkeocnhndnbamaaGreat.Ent (Ent longB goodB)
open Go.Proofs.YtkeocnhndnbamaaGreat.Past (T3 txE ofL isT lastOf last_snoc)
open Go.Proofs.YtkeocnhndnbamaaGreat.MLog
/-- what a Next leads to; none: astray -/
def followL (O : List Ent) : Nat → Int → Option (Option Ent)
  | 0, _ => none
  | f + 1, lsn => if lsn = 0 then some none else match O.find? (fun y => decide (y.lsn = lsn)) with
    | none => none
    | some y => if y.kind = 1 then some (some y) else if y.kind = 2 then followL O f y.next else none
def nextL (L : List Ent) (t : T3) : Option (Option Ent) :=
  match (ofL L t).getLast? with
  | none => some none
  | some e => if e.kind = 1 then some (some e) else if e.kind = 2 then followL (ofL L t) (e.next.toNat + 1) e.next else some none
section
variable {i0 : Im} {L : List Ent} {s : St T3 Slot Im}
theorem step_last {T S I : Type} [DecidableEq T] {G : Img I S} {s s' : St T S I} {e : En T S} (h : Step G s e s') : s'.last = upd s.last e.t e.lsn ∧ s.last e.t < e.lsn ∧ s.ended e.t = false ∧ e.prev = s.last e.t := by
  cases h with
  | @change i' hk he hp h1 => exact ⟨rfl, h1, he, hp⟩
  | @undo x r i' hk he hp h1 => exact ⟨rfl, h1, he, hp⟩
  | end_ hk he hl hp h1 => exact ⟨rfl, h1, he, hp⟩
/-- an end is its transaction's last entry -/
theorem fin_last {T S I : Type} [DecidableEq T] {G : Img I S} {i0 : I} {L : List (En T S)} {s : St T S I} (h : Log G i0 L s) : ∀ e ∈ L, e.kind ≠ 1 → e.kind ≠ 2 → e.lsn = s.last e.t := by
  induction h with
  | nil => intro e h; cases h
  | @snoc L s s' e hL hs ih =>
    obtain ⟨h1, -, h3, -⟩ := step_last hs
    intro y hy k1 k2
    rw [h1]
    rcases List.mem_append.1 hy with hy | hy
    · have hf := ((own_log hL).fin y hy k1 k2).2
      rw [upd_ne _ _ fun h => by rw [h, h3] at hf; cases hf]
      exact ih y hy k1 k2
    · have : y = e := by simpa using hy
      rw [this, upd_same]
theorem isT_good {x : Ent} (h : goodB x = true) (t : T3) : isT t x = true ↔ txE x = t := by
  unfold isT; rw [h]; simp
theorem of_mem {t : T3} {y : Ent} : y ∈ ofL L t ↔ y ∈ L ∧ goodB y = true ∧ txE y = t := by
  unfold ofL isT; rw [List.mem_filter]; simp
theorem last_is : ∀ (L : List Ent) {s : St T3 Slot Im}, (∀ x ∈ L, goodB x = true) → Log G i0 (L.map enE) s → ∀ t, lastOf L t = if 0 < s.last t then some (s.last t) else none := fun L => by
  refine snoc_ind (P := fun L => ∀ {s : St T3 Slot Im}, (∀ x ∈ L, goodB x = true) → Log G i0 (L.map enE) s → ∀ t, lastOf L t = if 0 < s.last t then some (s.last t) else none) ?_ ?_ L
  · intro s _ h t
    rw [log_det h Log.nil]
    rfl
  · intro L x ih s' hg h t
    rw [List.map_append] at h
    obtain ⟨s, h0, hs⟩ := log_snoc h
    obtain ⟨h1, h2, -, -⟩ := step_last hs
    have hl0 := (inv_log h0).lst (enE x).t
    rw [last_snoc, h1, ih (fun y hy => hg y (List.mem_append_left _ hy)) h0 t]
    by_cases ht : txE x = t
    · rw [if_pos ((isT_good (hg x (by simp)) t).2 ht), ← ht, show txE x = (enE x).t from rfl, upd_same, if_pos (by omega)]
      rfl
    · rw [if_neg fun h => ht ((isT_good (hg x (by simp)) t).1 h), upd_ne _ _ (show t ≠ (enE x).t from fun h => ht h.symm)]
theorem mem_map {x : En T3 Slot} (h : x ∈ L.map enE) : ∃ y ∈ L, enE y = x := List.mem_map.1 h
theorem kind_nat {y : Ent} (_ : goodB y = true) : ((enE y).kind = 1 ↔ y.kind = 1) ∧ ((enE y).kind = 2 ↔ y.kind = 2) := by
  have : (enE y).kind = y.kind.toNat := rfl
  rw [this]
  omega
theorem follow_is (hg : ∀ x ∈ L, goodB x = true) (h : Log G i0 (L.map enE) s) (t : T3) : ∀ (f : Nat) (lsn : Int), 0 ≤ lsn → lsn.toNat < f →
    (lsn = 0 ∨ ∃ y ∈ L, txE y = t ∧ y.lsn = lsn ∧ (y.kind = 1 ∨ y.kind = 2)) →
    (s.hist t lsn = [] ∧ followL (ofL L t) f lsn = some none) ∨ ∃ y ∈ L, ∃ r, s.hist t lsn = enE y :: r ∧ followL (ofL L t) f lsn = some (some y)
  | 0, lsn, _, hf, _ => absurd hf (Nat.not_lt_zero _)
  | f + 1, lsn, h0, hf, hn => by
    rw [followL]
    rcases hn with rfl | ⟨y, hy, ht, hl, hk⟩
    · exact .inl ⟨(inv_log h).hst0 t, if_pos rfl⟩
    · have hO := own_log h
      have hpos := (hO.lsn (enE y) (List.mem_map_of_mem hy)).1
      have hpos : 0 < y.lsn := hpos
      rw [if_neg (by omega)]
      have hyO : y ∈ ofL L t := of_mem.2 ⟨hy, hg y hy, ht⟩
      cases hfd : (ofL L t).find? (fun y => decide (y.lsn = lsn)) with
      | none =>
        have := List.find?_eq_none.1 hfd y hyO
        simp [hl] at this
      | some z =>
        have hz := List.mem_of_find?_eq_some hfd
        have hzl := List.find?_some hfd
        have hzl : z.lsn = lsn := of_decide_eq_true hzl
        obtain ⟨hzL, hzg, hzt⟩ := of_mem.1 hz
        have e : enE z = enE y := hO.inj _ (List.mem_map_of_mem hzL) _ (List.mem_map_of_mem hy) (show txE z = txE y by rw [hzt, ht]) (show z.lsn = y.lsn by rw [hzl, hl])
        have ek : (enE z).kind = (enE y).kind := by rw [e]
        have k1 := kind_nat hzg
        have k2 := kind_nat (hg y hy)
        dsimp only
        by_cases hz1 : z.kind = 1
        · rw [if_pos hz1]
          have hc := hO.chg (enE z) (List.mem_map_of_mem hzL) (k1.1.2 hz1)
          have hc : s.hist (txE z) z.lsn = enE z :: s.hist (txE z) z.prev := hc
          rw [hzt, hzl] at hc
          exact .inr ⟨z, hzL, _, hc, rfl⟩
        · have hz2 : z.kind = 2 := by
            rcases hk with hk | hk
            · exact absurd (k1.1.1 (by rw [ek]; exact k2.1.2 hk)) hz1
            · exact k1.2.1 (by rw [ek]; exact k2.2.2 hk)
          rw [if_neg hz1, if_pos hz2]
          obtain ⟨u1, u2, u3⟩ := hO.und (enE z) (List.mem_map_of_mem hzL) (k1.2.2 hz2)
          have u1 : s.hist (txE z) z.lsn = s.hist (txE z) z.next := u1
          have u2 : 0 ≤ z.next := u2
          have u3 : z.next < z.lsn := u3
          rw [hzt, hzl] at u1
          rw [u1]
          refine follow_is hg h t f z.next u2 (by omega) ?_
          rcases (names h (enE z) (List.mem_map_of_mem hzL)).2 (k1.2.2 hz2) with hq | ⟨q, hq, q1, q2⟩
          · exact .inl hq
          · obtain ⟨v, hv, rfl⟩ := mem_map hq
            have q1 : txE v = txE z := q1
            have q2 : v.lsn = z.next := q2
            refine .inr ⟨v, hv, by rw [q1, hzt], q2, ?_⟩
            have kv := kind_nat (hg v hv)
            by_cases c1 : v.kind = 1
            · exact .inl c1
            · by_cases c2 : v.kind = 2
              · exact .inr c2
              · exfalso
                have hfl := fin_last h (enE v) hq (fun h => c1 (kv.1.1 h)) (fun h => c2 (kv.2.1 h))
                have hfl : v.lsn = s.last (txE v) := hfl
                have hzb := (hO.lsn (enE z) (List.mem_map_of_mem hzL)).2
                have hzb : z.lsn ≤ s.last (txE z) := hzb
                rw [q1] at hfl
                omega
/-- the next one to be undone is the newest change that counts -/
theorem next_is (hg : ∀ x ∈ L, goodB x = true) (h : Log G i0 (L.map enE) s) (t : T3) :
    (s.stk t = [] ∧ nextL L t = some none) ∨ ∃ y ∈ L, ∃ r, s.stk t = enE y :: r ∧ nextL L t = some (some y) := by
  have hI := inv_log h
  have hO := own_log h
  have hl := last_is L hg h t
  unfold nextL
  unfold lastOf at hl
  cases he : (ofL L t).getLast? with
  | none =>
    rw [he] at hl
    refine .inl ⟨?_, rfl⟩
    by_cases h0 : 0 < s.last t
    · rw [if_pos h0] at hl; cases hl
    · have := hI.lst t
      rw [← hI.hst t, show s.last t = 0 by omega]
      exact hI.hst0 t
  | some e =>
    rw [he] at hl
    have heO := List.mem_of_getLast? he
    obtain ⟨heL, heg, het⟩ := of_mem.1 heO
    have hpos : 0 < e.lsn := (hO.lsn (enE e) (List.mem_map_of_mem heL)).1
    have hle : e.lsn = s.last t := by
      by_cases h0 : 0 < s.last t
      · rw [if_pos h0] at hl; injection hl
      · rw [if_neg h0] at hl; cases hl
    have k1 := kind_nat heg
    dsimp only
    by_cases c1 : e.kind = 1
    · rw [if_pos c1]
      have hc := hO.chg (enE e) (List.mem_map_of_mem heL) (k1.1.2 c1)
      have hc : s.hist (txE e) e.lsn = enE e :: s.hist (txE e) e.prev := hc
      rw [het, hle, hI.hst] at hc
      exact .inr ⟨e, heL, _, hc, rfl⟩
    · rw [if_neg c1]
      by_cases c2 : e.kind = 2
      · rw [if_pos c2]
        obtain ⟨u1, u2, u3⟩ := hO.und (enE e) (List.mem_map_of_mem heL) (k1.2.2 c2)
        have u1 : s.hist (txE e) e.lsn = s.hist (txE e) e.next := u1
        have u2 : 0 ≤ e.next := u2
        have u3 : e.next < e.lsn := u3
        rw [het, hle, hI.hst] at u1
        rw [u1]
        refine follow_is hg h t _ e.next u2 (by omega) ?_
        rcases (names h (enE e) (List.mem_map_of_mem heL)).2 (k1.2.2 c2) with hq | ⟨q, hq, q1, q2⟩
        · exact .inl hq
        · obtain ⟨v, hv, rfl⟩ := mem_map hq
          have q1 : txE v = txE e := q1
          have q2 : v.lsn = e.next := q2
          refine .inr ⟨v, hv, by rw [q1, het], q2, ?_⟩
          have kv := kind_nat (hg v hv)
          by_cases c3 : v.kind = 1
          · exact .inl c3
          · by_cases c4 : v.kind = 2
            · exact .inr c4
            · exfalso
              have hfl := fin_last h (enE v) hq (fun h => c3 (kv.1.1 h)) (fun h => c4 (kv.2.1 h))
              have hfl : v.lsn = s.last (txE v) := hfl
              rw [q1, het] at hfl
              omega
      · rw [if_neg c2]
        refine .inl ⟨?_, rfl⟩
        have hf := (hO.fin (enE e) (List.mem_map_of_mem heL) (fun h => c1 (k1.1.1 h)) (fun h => c2 (k1.2.1 h))).1
        have hf : s.hist (txE e) e.lsn = [] := hf
        rwa [het, hle, hI.hst] at hf
end
end Go.Proofs.YtkeocnhndnbamaaGreat.Mend
