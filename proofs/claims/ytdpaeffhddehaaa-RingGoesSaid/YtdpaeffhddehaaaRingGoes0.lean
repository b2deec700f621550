/- The plain side of RingGoes. -/
import Derived.Test.YtdpaeffhddehaaaRingKin
namespace Go.Proofs.Ytdpaeffhddehaaa.Ring
set_option maxRecDepth 100000
open Go.RowKit
variable {α : Type}
theorem uniq_tired {S S2 : RS α} (h : Uniq S) (hN : S2.N = S.N) (hs : ∀ j, S2.f j = S.f j ∨ ∃ t, S.f j = some t ∧ t.pins = 0 ∧ S2.f j = some { t with fresh := false }) : Uniq S2 := by
  have back : ∀ j u, S2.f j = some u → ∃ t, S.f j = some t ∧ t.key = u.key := fun j u hu => by
    rcases hs j with e | ⟨t, e1, _, e3⟩
    · exact ⟨u, by rw [← e]; exact hu, rfl⟩
    · rw [e3] at hu; cases hu; exact ⟨t, e1, rfl⟩
  intro i j t u hi hj ht hu e
  obtain ⟨t', h1, h2⟩ := back i t ht
  obtain ⟨u', h3, h4⟩ := back j u hu
  exact h i j t' u' (by omega) (by omega) h1 h3 (by rw [h2, h4, e])
theorem uniq_put (z : α) {S : RS α} (hw : S.wf) (hu : Uniq S) (k : Int) (v : α) : Uniq (putR z S k v).2.2 ∧ (putR z S k v).2.2.N = S.N := by
  have hP := put_is z hw k v
  generalize putR z S k v = R at hP
  cases hP with
  | hit i t hi hf hk => exact ⟨uniq_same hu hi hf rfl, rfl⟩
  | vac i hi hf hk => exact ⟨uniq_new hu (fun j t hj ht => hk j t hj ht), rfl⟩
  | full ht hp hk => exact ⟨hu, rfl⟩
  | turn i t S2 hi hf hN hw2 hp ht hk hs =>
    refine ⟨uniq_new (uniq_tired hu hN hs) (fun j u hj hu2 => ?_), hN⟩
    rcases hs j with e | ⟨t', e1, _, e3⟩
    · exact hk j u (by omega) (by rw [← e]; exact hu2)
    · rw [e3] at hu2; cases hu2; exact hk j t' (by omega) e1
theorem things_mem {f : Nat → Option (Th α)} : ∀ {n : Nat} {t : Th α}, t ∈ thingsF f n → ∃ i, i < n ∧ f i = some t
  | n + 1, t, h => by
    rw [thingsF, List.mem_append] at h
    rcases h with h | h
    · obtain ⟨i, hi, e⟩ := things_mem h
      exact ⟨i, by omega, e⟩
    · cases hf : f n with
      | none => rw [hf] at h; simp at h
      | some u => rw [hf] at h; simp at h; subst h; exact ⟨n, by omega, hf⟩
theorem things_pair {S : RS α} (hu : Uniq S) : ∀ n, n ≤ S.N → (thingsF S.f n).Pairwise (fun x y => x.key ≠ y.key)
  | 0, _ => List.Pairwise.nil
  | n + 1, h => by
    rw [thingsF, List.pairwise_append]
    refine ⟨things_pair hu n (by omega), ?_, fun x hx y hy => ?_⟩
    · cases S.f n <;> simp
    · obtain ⟨i, hi, e⟩ := things_mem hx
      cases hf : S.f n with
      | none => rw [hf] at hy; simp at hy
      | some u =>
        rw [hf] at hy; simp at hy; subst hy
        intro ek
        have := hu i n x y (by omega) (by omega) e hf ek
        omega
def delAll (z : α) (S : RS α) (pre : List (Th α)) : RS α := pre.foldl (fun S t => (delR z S t.key).2.2) S
theorem delAll_snoc (z : α) (S : RS α) (pre : List (Th α)) (x : Th α) : delAll z S (pre ++ [x]) = (delR z (delAll z S pre) x.key).2.2 := by simp [delAll]
theorem del_all (z : α) : ∀ (L : List (Th α)) (S : RS α), Uniq S → L.Pairwise (fun x y => x.key ≠ y.key) → (∀ t ∈ L, ∃ i, i < S.N ∧ S.f i = some t) → (thingsR (delAll z S L)).length + L.length = (thingsR S).length
  | [], S, _, _, _ => rfl
  | t :: r, S, hu, hp, hm => by
    obtain ⟨i, hi, hf⟩ := hm t (by simp)
    have hd : delR z S t.key = (t.val, true, putAt S i none) := by unfold delR; rw [atS_uniq hu hi hf]
    have hl := things_len_put (S := S) (x := none) hi
    rw [hf] at hl
    have ih := del_all z r (putAt S i none) (uniq_gone hu) (List.pairwise_cons.1 hp).2 (fun u hum => by
      obtain ⟨j, hj, hfj⟩ := hm u (List.mem_cons_of_mem _ hum)
      refine ⟨j, hj, ?_⟩
      rw [putAt_at, if_neg (fun e => ?_)]
      · exact hfj
      · subst e
        rw [hf] at hfj; cases hfj
        exact (List.pairwise_cons.1 hp).1 t hum rfl)
    show (thingsR (delAll z (delR z S t.key).2.2 r)).length + (r.length + 1) = _
    rw [hd]
    simp only
    simp at hl
    omega
theorem del_take (z : α) {S : RS α} (hu : Uniq S) {m : Nat} (hm : m ≤ (thingsR S).length) : (thingsR (delAll z S ((thingsR S).take m))).length + m = (thingsR S).length := by
  have := del_all z ((thingsR S).take m) S hu ((things_pair hu S.N (Nat.le_refl _)).sublist (List.take_sublist _ _)) (fun t ht => things_mem (List.mem_of_mem_take ht))
  rw [List.length_take] at this
  omega
theorem del_N (z : α) (S : RS α) (k : Int) : (delR z S k).2.2.N = S.N ∧ ∀ i t, (delR z S k).2.2.f i = some t → S.f i = some t := by
  unfold delR
  cases hk : atS S k with
  | none => exact ⟨rfl, fun i t h => h⟩
  | some x =>
    obtain ⟨i, t⟩ := x
    refine ⟨rfl, fun j u h => ?_⟩
    simp only at h
    rw [putAt_at] at h
    split at h
    · cases h
    · exact h
end Go.Proofs.Ytdpaeffhddehaaa.Ring
