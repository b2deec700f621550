/- A ring, as plain data. -/
import Derived.Test.YtdpaeffhddehaaaMem
namespace Go.Proofs.Ytdpaeffhddehaaa.Ring
set_option maxRecDepth 100000
open Go.RowKit
open Go.Proofs.Ytdpaeffhddehaaa.Mem
structure Th (α : Type) where
  key : Int
  val : α
  pins : Nat
  fresh : Bool
structure RS (α : Type) where
  N : Nat
  f : Nat → Option (Th α)
  hand : Nat
/-- what left -/
structure Ou (α : Type) where
  key : Int
  val : α
  gone : Bool
variable {α : Type}
def upF (f : Nat → Option (Th α)) (i : Nat) (x : Option (Th α)) : Nat → Option (Th α) := fun j => if j = i then x else f j
theorem upF_self (f : Nat → Option (Th α)) (i : Nat) (x : Option (Th α)) : upF f i x i = x := by simp [upF]
theorem upF_other (f : Nat → Option (Th α)) {i j : Nat} (x : Option (Th α)) (h : j ≠ i) : upF f i x j = f j := by simp [upF, h]
/-- the first below n -/
def fst (p : Nat → Bool) : Nat → Option Nat
  | 0 => none
  | n + 1 => match fst p n with
    | some i => some i
    | none => if p n then some n else none
theorem fst_none {p : Nat → Bool} : ∀ {n : Nat}, (∀ j, j < n → p j = false) → fst p n = none
  | 0, _ => rfl
  | n + 1, h => by
    rw [fst, fst_none (fun j hj => h j (by omega)), h n (by omega)]
    rfl
theorem fst_some {p : Nat → Bool} {i : Nat} (hi : p i = true) (h : ∀ j, j < i → p j = false) : ∀ {n : Nat}, i < n → fst p n = some i
  | n + 1, hn => by
    by_cases e : i = n
    · subst e; rw [fst, fst_none h, hi]; rfl
    · rw [fst, fst_some hi h (by omega)]
theorem fst_is {p : Nat → Bool} {i : Nat} : ∀ {n : Nat}, fst p n = some i → i < n ∧ p i = true ∧ ∀ j, j < i → p j = false
  | n + 1, h => by
    rw [fst] at h
    cases hp : fst p n with
    | some k =>
      rw [hp] at h
      simp only [Option.some.injEq] at h
      subst h
      have := fst_is hp
      exact ⟨by omega, this.2⟩
    | none =>
      rw [hp] at h
      simp only at h
      split at h
      · rename_i hpn
        simp only [Option.some.injEq] at h
        subst h
        refine ⟨by omega, hpn, fun j hj => ?_⟩
        cases hj2 : p j with
        | false => rfl
        | true =>
          exfalso
          exact fst_not hp j hj hj2
      · cases h
where
  fst_not {p : Nat → Bool} : ∀ {n : Nat}, fst p n = none → ∀ j, j < n → ¬ p j = true
  | n + 1, h, j, hj => by
    rw [fst] at h
    cases hp : fst p n with
    | some k => rw [hp] at h; cases h
    | none =>
      rw [hp] at h
      simp only at h
      split at h
      · cases h
      · rename_i hpn
        by_cases e : j = n
        · subst e; exact hpn
        · exact fst_not hp j (by omega)
theorem fst_no {p : Nat → Bool} {n : Nat} (h : fst p n = none) : ∀ j, j < n → p j = false := fun j hj => by
  have := fst_is.fst_not h j hj
  simpa using this
theorem fst_congr {p q : Nat → Bool} : ∀ {n : Nat}, (∀ j, j < n → p j = q j) → fst p n = fst q n
  | 0, _ => rfl
  | n + 1, h => by rw [fst, fst, fst_congr (fun j hj => h j (by omega)), h n (by omega)]
/-- as a number -/
def idx : Option Nat → Int
  | none => -1
  | some i => (i : Int)
def keyP (f : Nat → Option (Th α)) (k : Int) (i : Nat) : Bool := match f i with
  | some t => decide (t.key = k)
  | none => false
def vacP (f : Nat → Option (Th α)) (i : Nat) : Bool := (f i).isNone
def leaveP (f : Nat → Option (Th α)) (i : Nat) : Bool := match f i with
  | some t => decide (t.pins = 0)
  | none => false
def findS (S : RS α) (k : Int) : Option Nat := fst (keyP S.f k) S.N
def vacS (S : RS α) : Option Nat := fst (vacP S.f) S.N
def leaveS (S : RS α) : Option Nat := fst (leaveP S.f) S.N
/-- the thing of a key, and its frame -/
def atS (S : RS α) (k : Int) : Option (Nat × Th α) := match findS S k with
  | some i => (S.f i).map fun t => (i, t)
  | none => none
theorem atS_is {S : RS α} {k : Int} {i : Nat} {t : Th α} (h : atS S k = some (i, t)) : findS S k = some i ∧ i < S.N ∧ S.f i = some t ∧ t.key = k ∧ ∀ j, j < i → keyP S.f k j = false := by
  unfold atS at h
  cases hf : findS S k with
  | none => rw [hf] at h; cases h
  | some j =>
    rw [hf] at h
    simp only at h
    cases ht : S.f j with
    | none => rw [ht] at h; cases h
    | some t' =>
      rw [ht] at h
      simp only [Option.map_some, Option.some.injEq, Prod.mk.injEq] at h
      obtain ⟨rfl, rfl⟩ := h
      obtain ⟨h1, h2, h3⟩ := fst_is hf
      refine ⟨rfl, h1, ht, ?_, h3⟩
      unfold keyP at h2
      rw [ht] at h2
      simpa using h2
theorem atS_no {S : RS α} {k : Int} (h : atS S k = none) : findS S k = none := by
  unfold atS at h
  cases hf : findS S k with
  | none => rfl
  | some j =>
    rw [hf] at h
    simp only at h
    obtain ⟨h1, h2, h3⟩ := fst_is hf
    unfold keyP at h2
    cases ht : S.f j with
    | none => rw [ht] at h2; cases h2
    | some t' => rw [ht] at h; cases h
def putAt (S : RS α) (i : Nat) (x : Option (Th α)) : RS α := { S with f := upF S.f i x }
def nx (S : RS α) : Nat := (S.hand + 1) % S.N
/-- a frame to which the hand pointed and that was not made free -/
def tire (S : RS α) (t : Th α) : RS α := { S with f := if t.pins = 0 then upF S.f S.hand (some { t with fresh := false }) else S.f, hand := nx S }
def turnF : Nat → RS α → Nat × RS α
  | 0, S => (0, S)
  | n + 1, S => match S.f S.hand with
    | none => (0, S)
    | some t => if t.pins = 0 ∧ t.fresh = false then (S.hand, { S with hand := nx S }) else turnF n (tire S t)
/-- the hand comes to a frame that is made free -/
inductive Turns : Nat → RS α → Nat × RS α → Prop
  | stop (S : RS α) (t : Th α) (h : S.f S.hand = some t) (hp : t.pins = 0) (hf : t.fresh = false) : Turns 0 S (S.hand, { S with hand := nx S })
  | on (S : RS α) (t : Th α) (n : Nat) (R : Nat × RS α) (h : S.f S.hand = some t) (hp : ¬ (t.pins = 0 ∧ t.fresh = false)) (hr : Turns n (tire S t) R) : Turns (n + 1) S R
theorem turnF_of {n : Nat} {S : RS α} {R : Nat × RS α} (h : Turns n S R) : ∀ m, n < m → turnF m S = R := by
  induction h with
  | stop S t h hp hf =>
    intro m hm
    obtain ⟨m', rfl⟩ : ∃ m', m = m' + 1 := ⟨m - 1, by omega⟩
    rw [turnF, h]
    simp [hp, hf]
  | on S t n R h hp hr ih =>
    intro m hm
    obtain ⟨m', rfl⟩ : ∃ m', m = m' + 1 := ⟨m - 1, by omega⟩
    rw [turnF, h]
    simp only [if_neg hp]
    exact ih m' (by omega)
def turnS (S : RS α) : Nat × RS α := turnF (2 * S.N + 2) S
structure RS.wf (S : RS α) : Prop where
  n1 : 1 ≤ S.N
  n2 : S.N ≤ 64
  hh : S.hand < S.N
theorem nx_lt {S : RS α} (h : S.wf) : nx S < S.N := Nat.mod_lt _ h.n1
theorem tire_wf {S : RS α} (h : S.wf) (t : Th α) : (tire S t).wf := ⟨h.n1, h.n2, nx_lt h⟩
/-- all frames are taken -/
def Taken (S : RS α) : Prop := ∀ i, i < S.N → ∃ t, S.f i = some t
theorem tire_at {S : RS α} {t : Th α} (_h : S.f S.hand = some t) (i : Nat) : (tire S t).f i = S.f i ∨ (i = S.hand ∧ t.pins = 0 ∧ (tire S t).f i = some { t with fresh := false }) := by
  unfold tire
  simp only
  split
  · by_cases e : i = S.hand
    · subst e; right; exact ⟨rfl, by assumption, upF_self _ _ _⟩
    · left; exact upF_other _ _ e
  · left; rfl
theorem tire_taken {S : RS α} {t : Th α} (h : S.f S.hand = some t) (ht : Taken S) : Taken (tire S t) := fun i hi => by
  rcases tire_at h i with e | ⟨_, _, e⟩
  · rw [e]; exact ht i hi
  · exact ⟨_, e⟩
/-- a way: frame j, d frames on, isn't pinned, and not fresh -/
theorem turns_near (j : Nat) : ∀ (d : Nat) (S : RS α) (t : Th α), S.wf → Taken S → S.f j = some t → t.pins = 0 → t.fresh = false → (S.hand + d) % S.N = j → ∃ n R, n ≤ d ∧ Turns n S R
  | 0, S, t, hw, ht, hj, hp, hf, hd => by
    rw [Nat.add_zero, Nat.mod_eq_of_lt hw.hh] at hd
    subst hd
    exact ⟨0, _, Nat.le_refl _, .stop S t hj hp hf⟩
  | d + 1, S, t, hw, ht, hj, hp, hf, hd => by
    obtain ⟨u, hu⟩ := ht S.hand hw.hh
    by_cases hs : u.pins = 0 ∧ u.fresh = false
    · exact ⟨0, _, Nat.zero_le _, .stop S u hu hs.1 hs.2⟩
    · have hne : j ≠ S.hand := fun e => by rw [e, hu] at hj; cases hj; exact hs ⟨hp, hf⟩
      have hj' : (tire S u).f j = some t := by
        rcases tire_at hu j with e | ⟨e, _, _⟩
        · rw [e, hj]
        · exact absurd e hne
      obtain ⟨n, R, hn, hR⟩ := turns_near j d (tire S u) t (tire_wf hw u) (tire_taken hu ht) hj' hp hf (by
        show (nx S + d) % S.N = j
        unfold nx
        rw [Nat.mod_add_mod, ← hd]
        congr 1
        omega)
      exact ⟨n + 1, R, by omega, .on S u n R hu hs hR⟩
theorem turns_far (j : Nat) : ∀ (d : Nat) (S : RS α) (t : Th α), S.wf → Taken S → S.f j = some t → t.pins = 0 → (S.hand + d) % S.N = j → ∃ n R, n ≤ d + S.N ∧ Turns n S R
  | 0, S, t, hw, ht, hj, hp, hd => by
    rw [Nat.add_zero, Nat.mod_eq_of_lt hw.hh] at hd
    subst hd
    by_cases hf : t.fresh = false
    · exact ⟨0, _, Nat.zero_le _, .stop S t hj hp hf⟩
    · have hj' : (tire S t).f S.hand = some { t with fresh := false } := by unfold tire; simp [hp, upF_self]
      obtain ⟨n, R, hn, hR⟩ := turns_near S.hand (S.N - 1) (tire S t) _ (tire_wf hw t) (tire_taken hj ht) hj' hp rfl (by
        show (nx S + (S.N - 1)) % S.N = S.hand
        unfold nx
        have := hw.n1
        rw [Nat.mod_add_mod, show S.hand + 1 + (S.N - 1) = S.hand + S.N by omega, Nat.add_mod_right, Nat.mod_eq_of_lt hw.hh])
      exact ⟨n + 1, R, by have := hw.n1; omega, .on S t n R hj (fun h => hf h.2) hR⟩
  | d + 1, S, t, hw, ht, hj, hp, hd => by
    obtain ⟨u, hu⟩ := ht S.hand hw.hh
    by_cases hs : u.pins = 0 ∧ u.fresh = false
    · exact ⟨0, _, Nat.zero_le _, .stop S u hu hs.1 hs.2⟩
    · obtain ⟨t', hj', hp'⟩ : ∃ t', (tire S u).f j = some t' ∧ t'.pins = 0 := by
        rcases tire_at hu j with e | ⟨e, e2, e3⟩
        · exact ⟨t, by rw [e, hj], hp⟩
        · exact ⟨_, e3, e2⟩
      obtain ⟨n, R, hn, hR⟩ := turns_far j d (tire S u) t' (tire_wf hw u) (tire_taken hu ht) hj' hp' (by
        show (nx S + d) % S.N = j
        unfold nx
        rw [Nat.mod_add_mod, ← hd]
        congr 1
        omega)
      refine ⟨n + 1, R, ?_, .on S u n R hu hs hR⟩
      have : (tire S u).N = S.N := rfl
      omega
theorem vac_taken {S : RS α} (h : vacS S = none) : Taken S := fun i hi => by
  have := fst_no h i hi
  unfold vacP at this
  cases hf : S.f i with
  | none => rw [hf] at this; cases this
  | some t => exact ⟨t, rfl⟩
/-- where a frame can be made free, one is -/
theorem turns_some {S : RS α} (hw : S.wf) (hv : vacS S = none) {j : Nat} (hl : leaveS S = some j) : ∃ n, Turns n S (turnS S) := by
  obtain ⟨h1, h2, -⟩ := fst_is hl
  obtain ⟨t, ht⟩ := vac_taken hv j h1
  unfold leaveP at h2
  rw [ht] at h2
  obtain ⟨n, R, hn, hR⟩ := turns_far j (if S.hand ≤ j then j - S.hand else j + S.N - S.hand) S t hw (vac_taken hv) ht (by simpa using h2) (by
    have := hw.hh
    split
    · rw [show S.hand + (j - S.hand) = j by omega, Nat.mod_eq_of_lt h1]
    · rw [show S.hand + (j + S.N - S.hand) = j + S.N by omega, Nat.add_mod_right, Nat.mod_eq_of_lt h1])
  have : turnS S = R := turnF_of hR _ (by
    have := hw.hh
    split at hn <;> omega)
  rw [this]
  exact ⟨n, hR⟩
/-- what the hand leaves -/
theorem Turns.leaves {n : Nat} {S : RS α} {R : Nat × RS α} (h : Turns n S R) (hw : S.wf) : R.2.wf ∧ R.2.N = S.N ∧ R.1 < S.N ∧ (∃ t, R.2.f R.1 = some t ∧ t.pins = 0 ∧ t.fresh = false) ∧
    (∀ i, R.2.f i = S.f i ∨ ∃ t, S.f i = some t ∧ t.pins = 0 ∧ R.2.f i = some { t with fresh := false }) := by
  induction h with
  | stop S t h hp hf => exact ⟨⟨hw.n1, hw.n2, nx_lt hw⟩, rfl, hw.hh, ⟨t, h, hp, hf⟩, fun i => .inl rfl⟩
  | on S t n R h hp hr ih =>
    obtain ⟨h1, h2, h3, h4, h5⟩ := ih (tire_wf hw t)
    refine ⟨h1, h2, h3, h4, fun i => ?_⟩
    rcases tire_at h i with e | ⟨e, e2, e3⟩
    · rw [← e]; exact h5 i
    · subst e
      right
      refine ⟨t, h, e2, ?_⟩
      rcases h5 S.hand with e4 | ⟨t', e4, _, e5⟩
      · rw [e4, e3]
      · rw [e3] at e4
        cases e4
        exact e5
def noOu (z : α) : Ou α := ⟨0, z, false⟩
/-- Put -/
def putR (z : α) (S : RS α) (k : Int) (v : α) : Ou α × Bool × RS α := match atS S k with
  | some (i, t) => (noOu z, true, putAt S i (some { t with val := v, fresh := true }))
  | none => match vacS S with
    | some i => (noOu z, true, putAt S i (some ⟨k, v, 0, true⟩))
    | none => match leaveS S with
      | none => (noOu z, false, S)
      | some _ => match (turnS S).2.f (turnS S).1 with
        | some t => (⟨t.key, t.val, true⟩, true, putAt (turnS S).2 (turnS S).1 (some ⟨k, v, 0, true⟩))
        | none => (noOu z, false, S)
def getR (z : α) (S : RS α) (k : Int) : α × Bool × RS α := match atS S k with
  | some (i, t) => (t.val, true, putAt S i (some { t with fresh := true }))
  | none => (z, false, S)
def delR (z : α) (S : RS α) (k : Int) : α × Bool × RS α := match atS S k with
  | some (i, t) => (t.val, true, putAt S i none)
  | none => (z, false, S)
def pinR (S : RS α) (k : Int) : Bool × RS α := match atS S k with
  | some (i, t) => (true, putAt S i (some { t with pins := t.pins + 1 }))
  | none => (false, S)
def letR (S : RS α) (k : Int) : Bool × RS α := match atS S k with
  | some (i, t) => if t.pins = 0 then (false, S) else (true, putAt S i (some { t with pins := t.pins - 1 }))
  | none => (false, S)
def pinsR (S : RS α) (k : Int) : Nat := match atS S k with
  | some (_, t) => t.pins
  | none => 0
/-- what is at hand, by rising frames, of the first n -/
def thingsF (f : Nat → Option (Th α)) : Nat → List (Th α)
  | 0 => []
  | n + 1 => thingsF f n ++ (f n).toList
def thingsR (S : RS α) : List (Th α) := thingsF S.f S.N
theorem thingsF_len (f : Nat → Option (Th α)) : ∀ n, (thingsF f n).length ≤ n
  | 0 => Nat.le_refl _
  | n + 1 => by
    rw [thingsF, List.length_append]
    have := thingsF_len f n
    cases f n <;> simp <;> omega
def newR (N : Nat) : RS α := ⟨N, fun _ => none, 0⟩
def clampN (n : Int) : Nat := if n < 1 then 1 else if 64 < n then 64 else n.toNat
/-- how often a thing may be pinned -/
def Low (S : RS α) (b : Nat) : Prop := ∀ i t, S.f i = some t → t.pins ≤ b
theorem putAt_wf {S : RS α} (h : S.wf) (i : Nat) (x : Option (Th α)) : (putAt S i x).wf := ⟨h.n1, h.n2, h.hh⟩
end Go.Proofs.Ytdpaeffhddehaaa.Ring
