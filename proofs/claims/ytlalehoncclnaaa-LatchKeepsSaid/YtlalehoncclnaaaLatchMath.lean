/- Layer 16 (latch) as plain data: the locks of a client as a row that rises by page; what each call makes of it. -/
import Derived.Test.YtlalehoncclnaaaMem
namespace Go.Proofs.Ytlalehoncclnaaa.Latch
set_option maxRecDepth 100000

/-- a page's lock: x: as an X; us: how it is needed (0 to 2); wt: which call waits (0 none, 1 of the X, 2 of all) -/
structure Lk where
  pg : Int
  x : Bool
  us : Nat
  wt : Nat
deriving DecidableEq

abbrev LS := List Lk

/-- rising by page -/
def Up (L : LS) : Prop := L.Pairwise fun a b => a.pg < b.pg

def atL (p : Int) (L : LS) : Option Lk := L.find? fun k => k.pg == p

/-- the lock of p turned by f (or taken away) -/
def updL (p : Int) (f : Lk → Option Lk) (L : LS) : LS := L.filterMap fun k => if k.pg = p then f k else some k

def insL (n : Lk) : LS → LS
  | [] => [n]
  | k :: L => if n.pg < k.pg then n :: k :: L else k :: insL n L

def grantL (p : Int) (x : Bool) (L : LS) : LS := if (atL p L).isSome then updL p (fun k => some { k with x := x }) L else insL ⟨p, x, 0, 0⟩ L
def hasL (p : Int) (x : Bool) (L : LS) : Bool := match atL p L with | some k => k.x || !x | none => false
def usedL (p : Int) (L : LS) : Nat := match atL p L with | some k => k.us | none => 0
def waitL (p : Int) (L : LS) : Nat := match atL p L with | some k => k.wt | none => 0
def useE (p : Int) (x : Bool) (L : LS) : Int := if hasL p x L then 0 else 12
def useL (p : Int) (x : Bool) (L : LS) : LS := if hasL p x L then updL p (fun k => some { k with us := if x then 2 else if k.us = 0 then 1 else k.us }) L else L
/-- what a call answers of a lock that is there -/
def callK (all : Bool) (k : Lk) : Int :=
  if all then (if 0 < k.us then 3 else 1) else if k.x then (if k.us = 2 then 3 else 2) else 0
/-- what a call makes of it -/
def callF (all : Bool) (k : Lk) : Option Lk :=
  if all then (if 0 < k.us then some { k with wt := 2 } else none)
  else if k.x then (if k.us = 2 then some { k with wt := if k.wt = 0 then 1 else k.wt } else some { k with x := false }) else some k
def callE (p : Int) (all : Bool) (L : LS) : Int := match atL p L with | some k => callK all k | none => 0
def callL (p : Int) (all : Bool) (L : LS) : LS := updL p (callF all) L
def letF (k : Lk) : Option (Int × Bool) := if k.wt = 0 then none else some (k.pg, k.wt == 1)
def endO (L : LS) : List (Int × Bool) := L.filterMap letF
def endF (k : Lk) : Option Lk := if k.wt = 2 then none else some ⟨k.pg, k.x && k.wt == 0, 0, 0⟩
def endL (L : LS) : LS := L.filterMap endF
def pagesL (L : LS) : List Int := L.map (·.pg)

/-- what is needed and what waits are told as the document tells them -/
def LkOk (k : Lk) : Prop := k.us ≤ 2 ∧ k.wt ≤ 2 ∧ (k.wt = 1 → k.us = 2) ∧ (k.wt = 2 → 0 < k.us)
def Ok (L : LS) : Prop := Up L ∧ ∀ k ∈ L, LkOk k

theorem at_nil (p : Int) : atL p [] = none := rfl
theorem at_pg {p : Int} {L : LS} {k : Lk} (h : atL p L = some k) : k.pg = p := by
  have := List.find?_some h
  simpa using this
theorem at_mem {p : Int} {L : LS} {k : Lk} (h : atL p L = some k) : k ∈ L := List.mem_of_find?_eq_some h
theorem at_cons (p : Int) (k : Lk) (L : LS) : atL p (k :: L) = if k.pg = p then some k else atL p L := by
  unfold atL
  rw [List.find?_cons]
  by_cases h : k.pg = p
  · simp [h]
  · rw [show (k.pg == p) = false by simpa using h, if_neg h]
theorem at_none {p : Int} {L : LS} (h : ∀ k ∈ L, k.pg ≠ p) : atL p L = none := by
  unfold atL
  rw [List.find?_eq_none]
  intro k hk
  simpa using h k hk
theorem at_of_mem {L : LS} (hU : Up L) {k : Lk} (hk : k ∈ L) : atL k.pg L = some k := by
  induction L with
  | nil => cases hk
  | cons a L ih =>
    rw [at_cons]
    rcases List.mem_cons.1 hk with rfl | hk'
    · simp
    · have h := List.rel_of_pairwise_cons hU hk'
      rw [if_neg (by omega)]
      exact ih (List.Pairwise.of_cons hU) hk'

theorem mem_fm {g : Lk → Option Lk} {L : LS} {k : Lk} (h : k ∈ L.filterMap g) : ∃ j ∈ L, g j = some k := by
  simpa [List.mem_filterMap] using h
theorem at_fm {g : Lk → Option Lk} (hg : ∀ k k', g k = some k' → k'.pg = k.pg) {L : LS} (hU : Up L) (q : Int) : atL q (L.filterMap g) = (atL q L).bind g := by
  induction L with
  | nil => rfl
  | cons a L ih =>
    have hU' : Up L := List.Pairwise.of_cons hU
    have hr : ∀ k ∈ L, a.pg < k.pg := fun k hk => List.rel_of_pairwise_cons hU hk
    rw [at_cons, List.filterMap_cons]
    cases hga : g a with
    | none =>
      by_cases h : a.pg = q
      · rw [if_pos h]
        simp only [Option.bind_some, hga]
        refine at_none fun k hk => ?_
        obtain ⟨j, hj, hgj⟩ := mem_fm hk
        have := hr j hj
        have := hg j k hgj
        omega
      · rw [if_neg h]
        exact ih hU'
    | some a' =>
      have hp := hg a a' hga
      simp only []
      rw [at_cons, hp]
      by_cases h : a.pg = q
      · rw [if_pos h, if_pos h]
        simp [hga]
      · rw [if_neg h, if_neg h]
        exact ih hU'
theorem up_fm {g : Lk → Option Lk} (hg : ∀ k k', g k = some k' → k'.pg = k.pg) {L : LS} (hU : Up L) : Up (L.filterMap g) := by
  induction L with
  | nil => exact List.Pairwise.nil
  | cons a L ih =>
    have hU' : Up L := List.Pairwise.of_cons hU
    have hr : ∀ k ∈ L, a.pg < k.pg := fun k hk => List.rel_of_pairwise_cons hU hk
    rw [List.filterMap_cons]
    cases hga : g a with
    | none => exact ih hU'
    | some a' =>
      refine List.Pairwise.cons (fun k hk => ?_) (ih hU')
      obtain ⟨j, hj, hgj⟩ := mem_fm hk
      have := hr j hj
      have := hg j k hgj
      have := hg a a' hga
      omega

theorem upd_pg {p : Int} {f : Lk → Option Lk} (hf : ∀ k k', f k = some k' → k'.pg = k.pg) : ∀ k k', (if k.pg = p then f k else some k) = some k' → k'.pg = k.pg := by
  intro k k' h
  by_cases hp : k.pg = p
  · rw [if_pos hp] at h
    exact hf k k' h
  · rw [if_neg hp] at h
    cases h
    rfl
theorem at_upd {p : Int} {f : Lk → Option Lk} (hf : ∀ k k', f k = some k' → k'.pg = k.pg) {L : LS} (hU : Up L) (q : Int) : atL q (updL p f L) = if q = p then (atL p L).bind f else atL q L := by
  unfold updL
  rw [at_fm (upd_pg hf) hU]
  by_cases h : q = p
  · subst h
    rw [if_pos rfl]
    cases e : atL q L with
    | none => rfl
    | some k => simp [at_pg e]
  · rw [if_neg h]
    cases e : atL q L with
    | none => rfl
    | some k => simp [at_pg e, h]
theorem up_upd {p : Int} {f : Lk → Option Lk} (hf : ∀ k k', f k = some k' → k'.pg = k.pg) {L : LS} (hU : Up L) : Up (updL p f L) := up_fm (upd_pg hf) hU

theorem mem_ins {n k : Lk} {L : LS} (h : k ∈ insL n L) : k = n ∨ k ∈ L := by
  induction L with
  | nil => simpa [insL] using h
  | cons a L ih =>
    unfold insL at h
    split at h
    · simpa using h
    · rcases List.mem_cons.1 h with rfl | h
      · exact .inr List.mem_cons_self
      · rcases ih h with h | h
        · exact .inl h
        · exact .inr (List.mem_cons_of_mem _ h)
theorem at_ins {n : Lk} {L : LS} (hn : atL n.pg L = none) (q : Int) : atL q (insL n L) = if q = n.pg then some n else atL q L := by
  induction L with
  | nil =>
    show atL q [n] = _
    rw [at_cons]
    by_cases h : n.pg = q
    · rw [if_pos h, if_pos h.symm]
    · rw [if_neg h, if_neg (fun e => h e.symm)]
  | cons a L ih =>
    rw [at_cons] at hn
    have ha : a.pg ≠ n.pg := fun e => by rw [if_pos e] at hn; cases hn
    rw [if_neg ha] at hn
    unfold insL
    split
    · rw [at_cons]
      by_cases h : n.pg = q
      · rw [if_pos h, if_pos h.symm]
      · rw [if_neg h, if_neg (fun e => h e.symm)]
    · rw [at_cons, at_cons, ih hn]
      by_cases h : a.pg = q
      · rw [if_pos h, if_pos h, if_neg (by omega)]
      · rw [if_neg h, if_neg h]
theorem up_ins {n : Lk} {L : LS} (hn : atL n.pg L = none) (hU : Up L) : Up (insL n L) := by
  induction L with
  | nil => exact List.pairwise_singleton _ _
  | cons a L ih =>
    rw [at_cons] at hn
    have ha : a.pg ≠ n.pg := fun e => by rw [if_pos e] at hn; cases hn
    rw [if_neg ha] at hn
    have hr : ∀ k ∈ L, a.pg < k.pg := fun k hk => List.rel_of_pairwise_cons hU hk
    unfold insL
    split
    · rename_i h
      refine List.Pairwise.cons (fun k hk => ?_) hU
      rcases List.mem_cons.1 hk with rfl | hk
      · exact h
      · have := hr k hk
        omega
    · refine List.Pairwise.cons (fun k hk => ?_) (ih hn (List.Pairwise.of_cons hU))
      rcases mem_ins hk with rfl | hk
      · omega
      · exact hr k hk

theorem callF_pg (all : Bool) : ∀ k k', callF all k = some k' → k'.pg = k.pg := by
  intro k k' h
  unfold callF at h
  split at h
  · split at h
    · cases h; rfl
    · cases h
  · split at h
    · split at h <;> (cases h; rfl)
    · cases h; rfl
theorem endF_pg : ∀ k k', endF k = some k' → k'.pg = k.pg := by
  intro k k' h
  unfold endF at h
  split at h
  · cases h
  · cases h; rfl

theorem at_grant {L : LS} (hU : Up L) (p : Int) (x : Bool) (q : Int) : atL q (grantL p x L) = if q = p then some (match atL p L with | some k => { k with x := x } | none => ⟨p, x, 0, 0⟩) else atL q L := by
  unfold grantL
  cases e : atL p L with
  | none =>
    rw [if_neg (by simp), at_ins (n := ⟨p, x, 0, 0⟩) e]
  | some k =>
    rw [if_pos (by simp), at_upd (fun k k' h => by cases h; rfl) hU, e]
    rfl
theorem at_use {L : LS} (hU : Up L) (p : Int) (x : Bool) (q : Int) :
    atL q (useL p x L) = if q = p then (atL p L).map (fun k => if hasL p x L then { k with us := if x then 2 else if k.us = 0 then 1 else k.us } else k) else atL q L := by
  unfold useL
  by_cases h : hasL p x L = true
  · rw [if_pos h, at_upd (fun k k' h => by cases h; rfl) hU]
    by_cases hq : q = p
    · rw [if_pos hq, if_pos hq]
      cases atL p L with
      | none => rfl
      | some k => simp [h]
    · rw [if_neg hq, if_neg hq]
  · rw [if_neg h]
    by_cases hq : q = p
    · rw [if_pos hq, hq]
      cases atL p L with
      | none => rfl
      | some k => simp [h]
    · rw [if_neg hq]
theorem at_call {L : LS} (hU : Up L) (p : Int) (all : Bool) (q : Int) : atL q (callL p all L) = if q = p then (atL p L).bind (callF all) else atL q L := at_upd (callF_pg all) hU q
theorem at_end {L : LS} (hU : Up L) (q : Int) : atL q (endL L) = (atL q L).bind endF := at_fm endF_pg hU q

theorem ok_nil : Ok [] := ⟨List.Pairwise.nil, fun _ h => by cases h⟩
theorem ok_fm {g : Lk → Option Lk} (hg : ∀ k k', g k = some k' → k'.pg = k.pg) (hk : ∀ k k', LkOk k → g k = some k' → LkOk k') {L : LS} (h : Ok L) : Ok (L.filterMap g) :=
  ⟨up_fm hg h.1, fun k hm => by
    obtain ⟨j, hj, e⟩ := mem_fm hm
    exact hk j k (h.2 j hj) e⟩
theorem ok_upd {p : Int} {f : Lk → Option Lk} (hf : ∀ k k', f k = some k' → k'.pg = k.pg) (hk : ∀ k k', LkOk k → f k = some k' → LkOk k') {L : LS} (h : Ok L) : Ok (updL p f L) :=
  ok_fm (upd_pg hf) (fun k k' h1 h2 => by
    by_cases hp : k.pg = p
    · rw [if_pos hp] at h2
      exact hk k k' h1 h2
    · rw [if_neg hp] at h2
      cases h2
      exact h1) h
theorem ok_grant {L : LS} (h : Ok L) (p : Int) (x : Bool) : Ok (grantL p x L) := by
  unfold grantL
  cases e : atL p L with
  | none =>
    rw [if_neg (by simp)]
    refine ⟨up_ins e h.1, fun k hk => ?_⟩
    rcases mem_ins hk with rfl | hk
    · exact ⟨Nat.zero_le _, Nat.zero_le _, fun h => by simp at h, fun h => by simp at h⟩
    · exact h.2 k hk
  | some k =>
    rw [if_pos (by simp)]
    exact ok_upd (fun k k' h => by cases h; rfl) (fun k k' h1 h2 => by cases h2; exact h1) h
theorem ok_use {L : LS} (h : Ok L) (p : Int) (x : Bool) : Ok (useL p x L) := by
  unfold useL
  split
  · refine ok_upd (fun k k' h => by cases h; rfl) (fun k k' h1 h2 => ?_) h
    cases h2
    obtain ⟨h1, h3, h4, h5⟩ := h1
    refine ⟨?_, h3, fun e => ?_, fun e => ?_⟩
    · dsimp only
      split
      · omega
      · split <;> omega
    · have := h4 e
      dsimp only
      split
      · rfl
      · rw [if_neg (by omega)]; exact this
    · dsimp only
      split
      · omega
      · split <;> omega
  · exact h
theorem ok_call {L : LS} (h : Ok L) (p : Int) (all : Bool) : Ok (callL p all L) := by
  refine ok_upd (callF_pg all) (fun k k' h1 h2 => ?_) h
  obtain ⟨h1, h3, h4, h5⟩ := h1
  unfold callF at h2
  split at h2
  · split at h2
    · cases h2
      exact ⟨h1, Nat.le_refl _, fun e => by simp at e, fun _ => by assumption⟩
    · cases h2
  · split at h2
    · split at h2
      · rename_i hu
        cases h2
        refine ⟨h1, ?_, fun _ => hu, fun _ => by dsimp only; omega⟩
        dsimp only
        split <;> omega
      · cases h2
        exact ⟨h1, h3, h4, h5⟩
    · cases h2
      exact ⟨h1, h3, h4, h5⟩
theorem ok_end {L : LS} (h : Ok L) : Ok (endL L) := by
  refine ok_fm endF_pg (fun k k' h1 h2 => ?_) h
  unfold endF at h2
  split at h2
  · cases h2
  · cases h2
    exact ⟨Nat.zero_le _, Nat.zero_le _, fun e => by simp at e, fun e => by simp at e⟩

/-! ### What LatchKeeps asks -/
/-- what the transaction needs is had as strongly as it needs it -/
def Held (L : LS) : Prop := ∀ k ∈ L, k.us = 2 → k.x = true
theorem held_nil : Held [] := fun _ h => by cases h
theorem held_upd {p : Int} {f : Lk → Option Lk} (hf : ∀ k k', (k.us = 2 → k.x = true) → f k = some k' → k'.us = 2 → k'.x = true) {L : LS} (h : Held L) : Held (updL p f L) := fun k hk => by
  obtain ⟨j, hj, e⟩ := mem_fm hk
  by_cases hp : j.pg = p
  · rw [if_pos hp] at e
    exact hf j k (h j hj) e
  · rw [if_neg hp] at e
    cases e
    exact h _ hj
theorem held_call {L : LS} (h : Held L) (p : Int) (all : Bool) : Held (callL p all L) := held_upd (fun k k' hk h2 => by
  unfold callF at h2
  split at h2
  · split at h2
    · cases h2; exact hk
    · cases h2
  · split at h2
    · split at h2
      · cases h2; exact hk
      · rename_i hu
        cases h2
        exact fun e => absurd e hu
    · cases h2; exact hk) h
theorem held_end {L : LS} : Held (endL L) := fun k hk e => by
  obtain ⟨j, _, h⟩ := mem_fm hk
  unfold endF at h
  split at h
  · cases h
  · cases h
    simp at e
theorem held_grant {L : LS} (hU : Up L) (h : Held L) (p : Int) (x : Bool) (hx : usedL p L = 2 → x = true) : Held (grantL p x L) := by
  unfold grantL
  cases e : atL p L with
  | none =>
    rw [if_neg (by simp)]
    intro k hk h2
    rcases mem_ins hk with rfl | hk
    · simp at h2
    · exact h k hk h2
  | some k0 =>
    rw [if_pos (by simp)]
    intro k hk h2
    obtain ⟨j, hj, e2⟩ := mem_fm hk
    by_cases hp : j.pg = p
    · rw [if_pos hp] at e2
      cases e2
      have h3 := at_of_mem hU hj
      rw [hp, e] at h3
      cases h3
      refine hx ?_
      unfold usedL
      rw [e]
      exact h2
    · rw [if_neg hp] at e2
      cases e2
      exact h _ hj h2
theorem held_use {L : LS} (hU : Up L) (h : Held L) (p : Int) (x : Bool) : Held (useL p x L) := by
  unfold useL
  by_cases hh : hasL p x L = true
  · rw [if_pos hh]
    intro k hk h2
    obtain ⟨j, hj, e2⟩ := mem_fm hk
    by_cases hp : j.pg = p
    · rw [if_pos hp] at e2
      cases e2
      have h3 := at_of_mem hU hj
      rw [hp] at h3
      unfold hasL at hh
      rw [h3] at hh
      dsimp only at hh h2 ⊢
      cases x with
      | true => simpa using hh
      | false =>
        have h4 : j.us = 2 := by
          simp at h2
          split at h2
          · omega
          · exact h2
        exact h j hj h4
    · rw [if_neg hp] at e2
      cases e2
      exact h _ hj h2
  · rw [if_neg hh]
    exact h
theorem has_of_need {L : LS} (h : Held L) (p : Int) (hu : 0 < usedL p L) : hasL p (usedL p L == 2) L = true := by
  unfold usedL hasL at *
  cases e : atL p L with
  | none => rw [e] at hu; simp at hu
  | some k =>
    rw [e] at hu
    dsimp only at hu ⊢
    by_cases h2 : k.us = 2
    · simp [h k (at_mem e) h2]
    · simp [h2]

/-- what End answers, lock for lock -/
theorem mem_endO {L : LS} (hO : Ok L) {p : Int} {kp : Bool} (h : (p, kp) ∈ endO L) : hasL p true (endL L) = false ∧ hasL p false (endL L) = kp := by
  obtain ⟨k, hk, e⟩ := List.mem_filterMap.1 h
  unfold letF at e
  split at e
  · cases e
  · rename_i hw
    have e1 : k.pg = p := by injection e with e; injection e
    have e2 : (k.wt == 1) = kp := by injection e with e; injection e
    have h1 := at_of_mem hO.1 hk
    rw [e1] at h1
    unfold hasL
    rw [at_end hO.1, h1]
    subst e2
    unfold endF
    dsimp only [Option.bind_some]
    by_cases h2 : k.wt = 2
    · rw [if_pos h2]
      simp [h2]
    · rw [if_neg h2]
      have h3 : (k.wt == 0) = false := by simpa using hw
      have h4 : k.wt = 1 := by have := (hO.2 k hk).2.1; omega
      simp [h4]
theorem end_used (L : LS) (hU : Up L) (q : Int) : usedL q (endL L) = 0 ∧ waitL q (endL L) = 0 := by
  unfold usedL waitL
  rw [at_end hU]
  cases atL q L with
  | none => exact ⟨rfl, rfl⟩
  | some k =>
    by_cases h : k.wt = 2 <;> simp [endF, h]

/-- how many of the pages lo, lo + 1 .. (n of them) have a call that waits -/
def waits (L : LS) : Nat → Int → Nat
  | 0, _ => 0
  | n + 1, lo => (if 0 < waitL lo L then 1 else 0) + waits L n (lo + 1)
theorem waits_zero {L : LS} (n : Nat) (lo : Int) (h : ∀ k ∈ L, lo + n ≤ k.pg ∨ k.pg < lo) : waits L n lo = 0 := by
  induction n generalizing lo with
  | zero => rfl
  | succ n ih =>
    have h1 : atL lo L = none := at_none fun k hk => by have := h k hk; omega
    have h2 : waitL lo L = 0 := by unfold waitL; rw [h1]
    unfold waits
    rw [h2, ih (lo + 1) (fun k hk => by have := h k hk; omega)]
    rfl
theorem waits_cons {k : Lk} {L : LS} (n : Nat) (lo : Int) (h : k.pg < lo) : waits (k :: L) n lo = waits L n lo := by
  induction n generalizing lo with
  | zero => rfl
  | succ n ih =>
    unfold waits
    rw [ih (lo + 1) (by omega)]
    have h1 : waitL lo (k :: L) = waitL lo L := by unfold waitL; rw [at_cons, if_neg (by omega)]
    rw [h1]
theorem endO_length {L : LS} (hU : Up L) (n : Nat) (lo : Int) (h : ∀ k ∈ L, lo ≤ k.pg ∧ k.pg < lo + n) : (endO L).length = waits L n lo := by
  induction n generalizing lo L with
  | zero =>
    cases L with
    | nil => rfl
    | cons k L => have := h k List.mem_cons_self; omega
  | succ n ih =>
    cases L with
    | nil => exact (waits_zero _ _ (fun _ h => by cases h)).symm
    | cons k L =>
      have hU' : Up L := List.Pairwise.of_cons hU
      have hr : ∀ j ∈ L, k.pg < j.pg := fun j hj => List.rel_of_pairwise_cons hU hj
      by_cases hk : k.pg = lo
      · unfold waits
        rw [waits_cons n (lo + 1) (by omega), ← ih hU' (lo + 1) (fun j hj => by have := hr j hj; have := h j (List.mem_cons_of_mem _ hj); omega)]
        have h1 : waitL lo (k :: L) = k.wt := by unfold waitL; rw [at_cons, if_pos hk]
        rw [h1]
        unfold endO
        rw [List.filterMap_cons]
        unfold letF
        by_cases hw : k.wt = 0
        · simp [hw]
        · simp [hw, Nat.pos_of_ne_zero hw]; omega
      · have hl : ∀ j ∈ k :: L, lo + 1 ≤ j.pg ∧ j.pg < lo + 1 + n := fun j hj => by
          have h0 := h k List.mem_cons_self
          have h1 := h j hj
          rcases List.mem_cons.1 hj with rfl | hj
          · omega
          · have := hr j hj; omega
        rw [ih hU (lo + 1) hl]
        have h1 : atL lo (k :: L) = none := at_none fun j hj => by have := hl j hj; omega
        have h2 : waitL lo (k :: L) = 0 := by unfold waitL; rw [h1]
        show _ = waits (k :: L) (n + 1) lo
        unfold waits
        rw [h2]
        cases n <;> simp [waits]

/-! ### What LatchIdle asks: nothing is needed -/
def Idle (L : LS) : Prop := ∀ k ∈ L, k.us = 0 ∧ k.wt = 0
theorem idle_nil : Idle [] := fun _ h => by cases h
theorem idle_grant {L : LS} (h : Idle L) (p : Int) (x : Bool) : Idle (grantL p x L) := by
  unfold grantL
  split
  · intro k hk
    obtain ⟨j, hj, e⟩ := mem_fm hk
    by_cases hp : j.pg = p
    · rw [if_pos hp] at e
      cases e
      exact h j hj
    · rw [if_neg hp] at e
      cases e
      exact h _ hj
  · intro k hk
    rcases mem_ins hk with rfl | hk
    · exact ⟨rfl, rfl⟩
    · exact h k hk
theorem idle_call {L : LS} (h : Idle L) (p : Int) (all : Bool) : Idle (callL p all L) := by
  intro k hk
  obtain ⟨j, hj, e⟩ := mem_fm hk
  have h0 := h j hj
  by_cases hp : j.pg = p
  · rw [if_pos hp] at e
    unfold callF at e
    rw [if_neg (show ¬ 0 < j.us by omega), if_neg (show ¬ j.us = 2 by omega)] at e
    split at e
    · cases e
    · split at e <;> (cases e; exact h0)
  · rw [if_neg hp] at e
    cases e
    exact h0
theorem idle_end {L : LS} (h : Idle L) : endO L = [] := by
  unfold endO
  rw [List.filterMap_eq_nil_iff]
  intro k hk
  unfold letF
  rw [if_pos (h k hk).2]
/-- each call is followed at once -/
theorem idle_says {L : LS} (hU : Up L) (h : Idle L) (p : Int) (all : Bool) :
    callE p all L = (if hasL p true L = true ∧ all = false then 2 else if hasL p false L = true ∧ all = true then 1 else 0) ∧
      (all = true → hasL p false (callL p all L) = false) ∧ hasL p true (callL p all L) = false ∧ (all = false → hasL p false (callL p all L) = hasL p false L) := by
  unfold callE hasL
  rw [at_call hU, if_pos rfl]
  cases e : atL p L with
  | none => simp
  | some k =>
    have h0 := h k (at_mem e)
    obtain ⟨pg, x, us, wt⟩ := k
    dsimp only at h0
    obtain ⟨rfl, rfl⟩ := h0
    cases all <;> cases x <;> simp [callK, callF]

/-! ### What LatchStrong asks: one page, needed as an X -/
theorem strong_call (p : Int) (wt : Nat) (all : Bool) :
    callE p all [⟨p, true, 2, wt⟩] = 3 ∧ callL p all [⟨p, true, 2, wt⟩] = [⟨p, true, 2, if all then 2 else if wt = 0 then 1 else wt⟩] := by
  unfold callE callL updL
  rw [at_cons, if_pos rfl]
  cases all <;> simp [callK, callF]
theorem strong_end (p : Int) (wt : Nat) (h1 : wt = 1 ∨ wt = 2) : endO [⟨p, true, 2, wt⟩] = [(p, wt == 1)] ∧ hasL p false (endL [⟨p, true, 2, wt⟩]) = (wt == 1) ∧ hasL p true (endL [⟨p, true, 2, wt⟩]) = false := by
  rcases h1 with rfl | rfl <;> simp [endO, endL, endF, letF, hasL, at_cons, at_nil]
theorem strong_none (p : Int) : endO [⟨p, true, 2, 0⟩] = [] ∧ hasL p true (endL [⟨p, true, 2, 0⟩]) = true := by
  simp [endO, endL, endF, letF, hasL, at_cons]
theorem strong_start (p : Int) : grantL p true [] = [⟨p, true, 0, 0⟩] ∧ useE p true [⟨p, true, 0, 0⟩] = 0 ∧ useL p true [⟨p, true, 0, 0⟩] = [⟨p, true, 2, 0⟩] := by
  refine ⟨rfl, ?_, ?_⟩
  · simp [useE, hasL, at_cons]
  · simp [useL, hasL, at_cons, updL]
end Go.Proofs.Ytlalehoncclnaaa.Latch
