/- What the calls of a ring leave of its things, as plain data. -/
import Derived.Test.YtdpaeffhddehaaaRingMath
namespace Go.Proofs.Ytdpaeffhddehaaa.Ring
set_option maxRecDepth 100000
open Go.RowKit
variable {α : Type}
theorem keyP_is {f : Nat → Option (Th α)} {k : Int} {i : Nat} : keyP f k i = true ↔ ∃ t, f i = some t ∧ t.key = k := by
  unfold keyP
  cases h : f i with
  | none => simp
  | some t => simp
theorem keyP_not {f : Nat → Option (Th α)} {k : Int} {i : Nat} (h : ∀ t, f i = some t → t.key ≠ k) : keyP f k i = false := by
  cases hk : keyP f k i with
  | false => rfl
  | true => obtain ⟨t, h1, h2⟩ := keyP_is.1 hk; exact absurd h2 (h t h1)
theorem atS_of {S : RS α} {k : Int} {i : Nat} {t : Th α} (hi : i < S.N) (hf : S.f i = some t) (hk : t.key = k) (hu : ∀ j u, j < i → S.f j = some u → u.key ≠ k) : atS S k = some (i, t) := by
  have h := fst_some (p := keyP S.f k) (keyP_is.2 ⟨t, hf, hk⟩) (fun j hj => keyP_not (fun u hu' => hu j u hj hu')) hi
  unfold atS findS
  rw [h]
  simp [hf]
theorem atS_none {S : RS α} {k : Int} (h : ∀ i t, i < S.N → S.f i = some t → t.key ≠ k) : atS S k = none := by
  unfold atS findS
  rw [fst_none (fun j hj => keyP_not (fun t ht => h j t hj ht))]
theorem atS_not {S : RS α} {k : Int} (h : atS S k = none) {i : Nat} {t : Th α} (hi : i < S.N) (hf : S.f i = some t) : t.key ≠ k := fun e => by
  have := fst_no (atS_no h) i hi
  rw [keyP_is.2 ⟨t, hf, e⟩] at this
  cases this
/-- no key stands twice -/
def Uniq (S : RS α) : Prop := ∀ i j t u, i < S.N → j < S.N → S.f i = some t → S.f j = some u → t.key = u.key → i = j
theorem atS_uniq {S : RS α} (hu : Uniq S) {i : Nat} {t : Th α} (hi : i < S.N) (hf : S.f i = some t) : atS S t.key = some (i, t) :=
  atS_of hi hf rfl (fun j u hj hfj e => by have := hu i j t u hi (by omega) hf hfj e.symm; omega)
theorem putAt_at {S : RS α} {i : Nat} {x : Option (Th α)} (j : Nat) : (putAt S i x).f j = if j = i then x else S.f j := rfl
theorem putAt_N {S : RS α} {i : Nat} {x : Option (Th α)} : (putAt S i x).N = S.N := rfl
/-- the key stays -/
theorem uniq_same {S : RS α} (hu : Uniq S) {i : Nat} {t u : Th α} (hi : i < S.N) (hf : S.f i = some t) (hk : u.key = t.key) : Uniq (putAt S i (some u)) := by
  intro a b x y ha hb hx hy e
  rw [putAt_at] at hx hy
  split at hx <;> split at hy
  · omega
  · cases hx; subst a; exact hu i b t y hi hb hf hy (by rw [← hk]; exact e)
  · cases hy; subst b; exact hu a i x t ha hi hx hf (by rw [← hk]; exact e)
  · exact hu a b x y ha hb hx hy e
/-- a key that isn't at hand -/
theorem uniq_new {S : RS α} (hu : Uniq S) {i : Nat} {u : Th α} (hk : ∀ j t, j < S.N → S.f j = some t → t.key ≠ u.key) : Uniq (putAt S i (some u)) := by
  intro a b x y ha hb hx hy e
  rw [putAt_at] at hx hy
  split at hx <;> split at hy
  · omega
  · cases hx; exact absurd e.symm (hk b y hb hy)
  · cases hy; exact absurd e (hk a x ha hx)
  · exact hu a b x y ha hb hx hy e
theorem uniq_gone {S : RS α} (hu : Uniq S) {i : Nat} : Uniq (putAt S i none) := by
  intro a b x y ha hb hx hy e
  rw [putAt_at] at hx hy
  split at hx
  · cases hx
  · split at hy
    · cases hy
    · exact hu a b x y ha hb hx hy e
theorem things_full {f : Nat → Option (Th α)} : ∀ n, (∀ i, i < n → ∃ t, f i = some t) → (thingsF f n).length = n
  | 0, _ => rfl
  | n + 1, h => by
    obtain ⟨t, ht⟩ := h n (by omega)
    rw [thingsF, List.length_append, things_full n (fun i hi => h i (by omega)), ht]
    rfl
theorem thingsR_full {S : RS α} (h : Taken S) : (thingsR S).length = S.N := things_full S.N h
theorem things_upF {f : Nat → Option (Th α)} {i : Nat} {x : Option (Th α)} : ∀ n, n ≤ i → thingsF (upF f i x) n = thingsF f n
  | 0, _ => rfl
  | n + 1, h => by rw [thingsF, thingsF, things_upF (i := i) n (by omega), upF_other _ _ (show n ≠ i by omega)]
theorem things_len_set {f : Nat → Option (Th α)} {i : Nat} {x : Option (Th α)} : ∀ n, i < n → (thingsF (upF f i x) n).length + (f i).toList.length = (thingsF f n).length + x.toList.length
  | n + 1, h => by
    rw [thingsF, thingsF, List.length_append, List.length_append]
    by_cases e : i = n
    · subst e
      rw [things_upF _ (Nat.le_refl _), upF_self]
      omega
    · have := things_len_set (f := f) (i := i) (x := x) n (by omega)
      rw [upF_other _ _ (fun h => e h.symm)]
      omega
theorem things_len_put {S : RS α} {i : Nat} {x : Option (Th α)} (hi : i < S.N) : (thingsR (putAt S i x)).length + (S.f i).toList.length = (thingsR S).length + x.toList.length := things_len_set S.N hi
theorem things_same {f g : Nat → Option (Th α)} : ∀ n, (∀ i, i < n → (f i).isSome = (g i).isSome) → (thingsF f n).length = (thingsF g n).length
  | 0, _ => rfl
  | n + 1, h => by
    rw [thingsF, thingsF, List.length_append, List.length_append, things_same n (fun i hi => h i (by omega))]
    have := h n (by omega)
    cases hf : f n <;> cases hg : g n <;> simp_all
theorem vac_none {S : RS α} (h : Taken S) : vacS S = none := fst_none (fun j hj => by obtain ⟨t, ht⟩ := h j hj; unfold vacP; rw [ht]; rfl)
theorem vac_some {S : RS α} {i : Nat} (hi : i < S.N) (h0 : S.f i = none) (h : ∀ j, j < i → ∃ t, S.f j = some t) : vacS S = some i :=
  fst_some (by unfold vacP; rw [h0]; rfl) (fun j hj => by obtain ⟨t, ht⟩ := h j hj; unfold vacP; rw [ht]; rfl) hi
theorem leave_none {S : RS α} (h : ∀ i t, i < S.N → S.f i = some t → t.pins ≠ 0) : leaveS S = none := fst_none (fun j hj => by
  unfold leaveP
  cases hf : S.f j with
  | none => rfl
  | some t => simp [h j t hj hf])
theorem leave_some {S : RS α} {i : Nat} {t : Th α} (hi : i < S.N) (hf : S.f i = some t) (hp : t.pins = 0) : ∃ j, leaveS S = some j := by
  cases h : leaveS S with
  | some j => exact ⟨j, rfl⟩
  | none =>
    have := fst_no h i hi
    unfold leaveP at this
    rw [hf] at this
    simp [hp] at this
theorem rs_ext {S T : RS α} (h1 : S.N = T.N) (h2 : S.f = T.f) (h3 : S.hand = T.hand) : S = T := by
  cases S; cases T; simp_all
/-- what a Put leaves, told by cases -/
inductive PutIs (z : α) (S : RS α) (k : Int) (v : α) : Ou α × Bool × RS α → Prop
  | hit (i : Nat) (t : Th α) (hi : i < S.N) (hf : S.f i = some t) (hk : t.key = k) : PutIs z S k v (noOu z, true, putAt S i (some { t with val := v, fresh := true }))
  | vac (i : Nat) (hi : i < S.N) (hf : S.f i = none) (hk : ∀ j t, j < S.N → S.f j = some t → t.key ≠ k) : PutIs z S k v (noOu z, true, putAt S i (some ⟨k, v, 0, true⟩))
  | full (ht : Taken S) (hp : ∀ i t, i < S.N → S.f i = some t → t.pins ≠ 0) (hk : ∀ j t, j < S.N → S.f j = some t → t.key ≠ k) : PutIs z S k v (noOu z, false, S)
  | turn (i : Nat) (t : Th α) (S2 : RS α) (hi : i < S.N) (hf : S2.f i = some t) (hN : S2.N = S.N) (hw : S2.wf) (hp : t.pins = 0) (ht : Taken S) (hk : ∀ j t, j < S.N → S.f j = some t → t.key ≠ k)
      (hs : ∀ j, S2.f j = S.f j ∨ ∃ t, S.f j = some t ∧ t.pins = 0 ∧ S2.f j = some { t with fresh := false }) : PutIs z S k v (⟨t.key, t.val, true⟩, true, putAt S2 i (some ⟨k, v, 0, true⟩))
theorem put_is (z : α) {S : RS α} (hw : S.wf) (k : Int) (v : α) : PutIs z S k v (putR z S k v) := by
  unfold putR
  cases hk : atS S k with
  | some x =>
    obtain ⟨i, t⟩ := x
    obtain ⟨-, h2, h3, h4, -⟩ := atS_is hk
    exact .hit i t h2 h3 h4
  | none =>
    have hno := fun j t hj ht => atS_not hk (i := j) (t := t) hj ht
    cases hv : vacS S with
    | some i =>
      obtain ⟨h1, h2, -⟩ := fst_is hv
      refine .vac i h1 ?_ hno
      unfold vacP at h2
      cases hf : S.f i with
      | none => rfl
      | some t => rw [hf] at h2; cases h2
    | none =>
      cases hl : leaveS S with
      | none =>
        refine .full (vac_taken hv) (fun i t hi hf => ?_) hno
        have := fst_no hl i hi
        unfold leaveP at this
        rw [hf] at this
        simpa using this
      | some j =>
        obtain ⟨n, hT⟩ := turns_some hw hv hl
        obtain ⟨l1, l2, l3, ⟨t, l4, l5, -⟩, l6⟩ := hT.leaves hw
        simp only
        rw [l4]
        exact .turn _ t _ l3 l4 l2 l1 l5 (vac_taken hv) hno l6
end Go.Proofs.Ytdpaeffhddehaaa.Ring
