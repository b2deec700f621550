/- A purse as plain data: who is promised how much, rising. -/
import Derived.Test.YtoiakenepmbalaaRows
namespace Go.Proofs.Ytoiakenepmbalaa.Purse
set_option maxRecDepth 100000
abbrev Due := Int × Int
def total : List Due → Int
  | [] => 0
  | x :: r => x.2 + total r
def posL : List Due → Int → Nat
  | [], _ => 0
  | x :: r, k => if x.1 < k then posL r k + 1 else 0
def hasL : List Due → Int → Bool
  | [], _ => false
  | x :: r, k => if x.1 < k then hasL r k else decide (x.1 = k)
def ofL : List Due → Int → Int
  | [], _ => 0
  | x :: r, k => if x.1 < k then ofL r k else if x.1 = k then x.2 else 0
def addL : List Due → Int → Int → List Due
  | [], k, n => [(k, n)]
  | x :: r, k, n => if x.1 < k then x :: addL r k n else if x.1 = k then (k, x.2 + n) :: r else (k, n) :: x :: r
def cutL : List Due → Int → Int → List Due
  | [], _, _ => []
  | x :: r, k, n => if x.1 < k then x :: cutL r k n else if x.1 = k then (if x.2 = n then r else (k, x.2 - n) :: r) else x :: r
structure wfL (L : List Due) : Prop where
  srt : L.Pairwise (fun a b => a.1 < b.1)
  pos : ∀ x ∈ L, 1 ≤ x.2
  sum : total L ≤ 9223372036854775807
theorem posL_le : ∀ (L : List Due) (k : Int), posL L k ≤ L.length
  | [], _ => Nat.le_refl _
  | x :: r, k => by
    have := posL_le r k
    simp only [posL]; split <;> simp <;> omega
theorem posL_low : ∀ (L : List Due) (k : Int) (t : Nat) (x : Due), t < posL L k → L[t]? = some x → x.1 < k
  | [], k, t, x, h, _ => absurd h (Nat.not_lt_zero _)
  | y :: r, k, t, x, h, hx => by
    simp only [posL] at h
    split at h
    · rename_i hy
      cases t with
      | zero => simp at hx; subst hx; exact hy
      | succ t => exact posL_low r k t x (by omega) (by simpa using hx)
    · omega
theorem posL_high {L : List Due} (hs : L.Pairwise (fun a b => a.1 < b.1)) {k : Int} : ∀ (t : Nat) (x : Due), posL L k ≤ t → L[t]? = some x → k ≤ x.1 := by
  induction L with
  | nil => intro t x _ hx; simp at hx
  | cons y r ih =>
    intro t x h hx
    rw [List.pairwise_cons] at hs
    simp only [posL] at h
    split at h
    · cases t with
      | zero => omega
      | succ t => exact ih hs.2 t x (by omega) (by simpa using hx)
    · rename_i hy
      cases t with
      | zero => simp at hx; subst hx; omega
      | succ t =>
        have := hs.1 x (List.mem_of_getElem? (by simpa using hx : r[t]? = some x))
        omega
theorem hasL_get : ∀ (L : List Due) (k : Int), hasL L k = true → L[posL L k]? = some (k, ofL L k)
  | [], _, h => by simp [hasL] at h
  | y :: r, k, h => by
    simp only [hasL, posL, ofL] at h ⊢
    split at h
    · rename_i hy
      rw [if_pos hy, if_pos hy, List.getElem?_cons_succ]
      exact hasL_get r k h
    · rename_i hy
      have : y.1 = k := by simpa using h
      rw [if_neg hy, if_neg hy, if_pos this, ← this]; rfl
theorem hasL_not : ∀ (L : List Due) (k : Int), hasL L k = false → ∀ x, L[posL L k]? = some x → x.1 ≠ k
  | [], _, _, x, hx => by simp at hx
  | y :: r, k, h, x, hx => by
    simp only [hasL, posL] at h hx
    split at h
    · rename_i hy
      rw [if_pos hy, List.getElem?_cons_succ] at hx
      exact hasL_not r k h x hx
    · rename_i hy
      rw [if_neg hy] at hx
      have e : y = x := by simpa using hx
      subst e
      simpa using h
theorem hasL_lt {L : List Due} {k : Int} (h : hasL L k = true) : posL L k < L.length := (List.getElem?_eq_some_iff.1 (hasL_get L k h)).1
theorem ofL_not : ∀ (L : List Due) (k : Int), hasL L k = false → ofL L k = 0
  | [], _, _ => rfl
  | y :: r, k, h => by
    simp only [hasL, ofL] at h ⊢
    split at h
    · rename_i hy; rw [if_pos hy]; exact ofL_not r k h
    · rename_i hy
      rw [if_neg hy, if_neg (by simpa using h)]
theorem ofL_pos {L : List Due} (hp : ∀ x ∈ L, 1 ≤ x.2) {k : Int} (h : hasL L k = true) : 1 ≤ ofL L k := hp _ (List.mem_of_getElem? (hasL_get L k h))
theorem ofL_nn {L : List Due} (hp : ∀ x ∈ L, 1 ≤ x.2) (k : Int) : 0 ≤ ofL L k := by
  cases h : hasL L k with
  | true => have := ofL_pos hp h; omega
  | false => rw [ofL_not L k h]; exact Int.le_refl _
theorem total_nn : ∀ (L : List Due), (∀ x ∈ L, 1 ≤ x.2) → 0 ≤ total L
  | [], _ => Int.le_refl _
  | x :: r, h => by
    have h1 := h x List.mem_cons_self
    have h2 := total_nn r (fun y hy => h y (List.mem_cons_of_mem _ hy))
    simp only [total]; omega
theorem ofL_total : ∀ (L : List Due) (k : Int), (∀ x ∈ L, 1 ≤ x.2) → ofL L k ≤ total L
  | [], _, _ => Int.le_refl _
  | x :: r, k, h => by
    have h1 := h x List.mem_cons_self
    have hr : ∀ y ∈ r, 1 ≤ y.2 := fun y hy => h y (List.mem_cons_of_mem _ hy)
    have h2 := ofL_total r k hr
    have h3 := total_nn r hr
    simp only [ofL, total]
    split
    · omega
    · split <;> omega
theorem mem_total {L : List Due} (h : ∀ x ∈ L, 1 ≤ x.2) : ∀ x ∈ L, x.2 ≤ total L := by
  induction L with
  | nil => intro x hx; cases hx
  | cons y r ih =>
    have h1 := h y List.mem_cons_self
    have hr : ∀ z ∈ r, 1 ≤ z.2 := fun z hz => h z (List.mem_cons_of_mem _ hz)
    have h3 := total_nn r hr
    intro x hx
    simp only [total]
    rcases List.mem_cons.1 hx with rfl | hx
    · omega
    · have := ih hr x hx; omega
theorem addL_ins : ∀ (L : List Due) (k n : Int), hasL L k = false → addL L k n = L.take (posL L k) ++ [(k, n)] ++ L.drop (posL L k)
  | [], _, _, _ => rfl
  | y :: r, k, n, h => by
    simp only [hasL, addL, posL] at h ⊢
    split at h
    · rename_i hy
      rw [if_pos hy, if_pos hy, addL_ins r k n h]; rfl
    · rename_i hy
      rw [if_neg hy, if_neg (by simpa using h), if_neg hy]; rfl
theorem addL_set : ∀ (L : List Due) (k n : Int), hasL L k = true → addL L k n = L.set (posL L k) (k, ofL L k + n)
  | [], _, _, h => by simp [hasL] at h
  | y :: r, k, n, h => by
    simp only [hasL, addL, posL, ofL] at h ⊢
    split at h
    · rename_i hy
      rw [if_pos hy, if_pos hy, if_pos hy, addL_set r k n h]; rfl
    · rename_i hy
      have e : y.1 = k := by simpa using h
      rw [if_neg hy, if_pos e, if_neg hy, if_neg hy, if_pos e]; rfl
/-- what stands new at 0 and is promised more -/
theorem addL_two {L : List Due} {k : Int} (n : Int) (h : hasL L k = false) : (L.take (posL L k) ++ [(k, 0)] ++ L.drop (posL L k)).set (posL L k) (k, 0 + n) = addL L k n := by
  rw [addL_ins L k n h]
  have hl : (L.take (posL L k)).length = posL L k := by rw [List.length_take]; have := posL_le L k; omega
  rw [List.append_assoc, List.append_assoc, List.set_append_right _ _ (by omega), hl, Nat.sub_self]
  simp
theorem cutL_set : ∀ (L : List Due) (k n : Int), hasL L k = true → n ≠ ofL L k → cutL L k n = L.set (posL L k) (k, ofL L k - n)
  | [], _, _, h, _ => by simp [hasL] at h
  | y :: r, k, n, h, hn => by
    simp only [hasL, cutL, posL, ofL] at h hn ⊢
    split at h
    · rename_i hy
      rw [if_pos hy] at hn
      rw [if_pos hy, if_pos hy, if_pos hy, cutL_set r k n h hn]; rfl
    · rename_i hy
      have e : y.1 = k := by simpa using h
      rw [if_neg hy, if_pos e] at hn
      rw [if_neg hy, if_pos e, if_neg hy, if_neg hy, if_pos e, if_neg (fun e2 => hn e2.symm)]; rfl
theorem cutL_del : ∀ (L : List Due) (k n : Int), hasL L k = true → n = ofL L k → cutL L k n = L.take (posL L k) ++ L.drop (posL L k + 1)
  | [], _, _, h, _ => by simp [hasL] at h
  | y :: r, k, n, h, hn => by
    simp only [hasL, cutL, posL, ofL] at h hn ⊢
    split at h
    · rename_i hy
      rw [if_pos hy] at hn
      rw [if_pos hy, if_pos hy, cutL_del r k n h hn]; rfl
    · rename_i hy
      have e : y.1 = k := by simpa using h
      rw [if_neg hy, if_pos e] at hn
      rw [if_neg hy, if_pos e, if_neg hy, if_pos hn.symm]; rfl
theorem cutL_not : ∀ (L : List Due) (k n : Int), hasL L k = false → cutL L k n = L
  | [], _, _, _ => rfl
  | y :: r, k, n, h => by
    simp only [hasL, cutL] at h ⊢
    split at h
    · rename_i hy; rw [if_pos hy, cutL_not r k n h]
    · rename_i hy; rw [if_neg hy, if_neg (by simpa using h)]
theorem total_add : ∀ (L : List Due) (k n : Int), total (addL L k n) = total L + n
  | [], _, _ => by simp [addL, total]
  | y :: r, k, n => by
    simp only [addL]
    split
    · simp only [total]; rw [total_add r k n]; omega
    · split <;> simp only [total] <;> omega
theorem total_cut : ∀ (L : List Due) (k n : Int), hasL L k = true → total (cutL L k n) = total L - n
  | [], _, _, h => by simp [hasL] at h
  | y :: r, k, n, h => by
    simp only [hasL, cutL] at h ⊢
    split at h
    · rename_i hy; rw [if_pos hy]; simp only [total]; rw [total_cut r k n h]; omega
    · rename_i hy
      rw [if_neg hy, if_pos (by simpa using h)]
      split <;> simp only [total] <;> omega
theorem addL_len (L : List Due) (k n : Int) : (addL L k n).length ≤ L.length + 1 := by
  induction L with
  | nil => simp [addL]
  | cons y r ih =>
    simp only [addL]
    split
    · simpa using ih
    · split <;> simp
theorem cutL_len (L : List Due) (k n : Int) : (cutL L k n).length ≤ L.length := by
  induction L with
  | nil => simp [cutL]
  | cons y r ih =>
    simp only [cutL]
    split
    · simpa using ih
    · split
      · split <;> simp
      · simp
theorem mem_add {L : List Due} {k n : Int} {x : Due} (h : x ∈ addL L k n) : x ∈ L ∨ x.1 = k := by
  induction L with
  | nil => simp [addL] at h; exact .inr (by rw [h])
  | cons y r ih =>
    simp only [addL] at h
    split at h
    · rcases List.mem_cons.1 h with rfl | h
      · exact .inl List.mem_cons_self
      · rcases ih h with h | h
        · exact .inl (List.mem_cons_of_mem _ h)
        · exact .inr h
    · split at h
      · rcases List.mem_cons.1 h with rfl | h
        · exact .inr rfl
        · exact .inl (List.mem_cons_of_mem _ h)
      · rcases List.mem_cons.1 h with rfl | h
        · exact .inr rfl
        · exact .inl h
theorem mem_cut {L : List Due} {k n : Int} {x : Due} (h : x ∈ cutL L k n) : x ∈ L ∨ (x.1 = k ∧ x.2 = ofL L k - n ∧ hasL L k = true ∧ n ≠ ofL L k) := by
  induction L with
  | nil => simp [cutL] at h
  | cons y r ih =>
    simp only [cutL, ofL, hasL] at h ⊢
    split at h
    · rename_i hy
      rw [if_pos hy, if_pos hy]
      rcases List.mem_cons.1 h with rfl | h
      · exact .inl List.mem_cons_self
      · rcases ih h with h | h
        · exact .inl (List.mem_cons_of_mem _ h)
        · exact .inr h
    · rename_i hy
      rw [if_neg hy, if_neg hy]
      split at h
      · rename_i e
        rw [if_pos e]
        split at h
        · exact .inl (List.mem_cons_of_mem _ h)
        · rename_i e2
          rcases List.mem_cons.1 h with rfl | h
          · exact .inr ⟨rfl, rfl, by simpa using e, fun e3 => e2 e3.symm⟩
          · exact .inl (List.mem_cons_of_mem _ h)
      · exact .inl h
theorem srt_add {L : List Due} (hs : L.Pairwise (fun a b => a.1 < b.1)) (k n : Int) : (addL L k n).Pairwise (fun a b => a.1 < b.1) := by
  induction L with
  | nil => simp [addL]
  | cons y r ih =>
    have hs' := hs
    rw [List.pairwise_cons] at hs
    simp only [addL]
    split
    · rename_i hy
      rw [List.pairwise_cons]
      refine ⟨fun b hb => ?_, ih hs.2⟩
      rcases mem_add hb with hb | hb
      · exact hs.1 b hb
      · omega
    · split
      · rename_i hy e
        rw [List.pairwise_cons]
        exact ⟨fun b hb => by have := hs.1 b hb; show k < b.1; omega, hs.2⟩
      · rename_i hy e
        rw [List.pairwise_cons]
        refine ⟨fun b hb => ?_, hs'⟩
        show k < b.1
        rcases List.mem_cons.1 hb with rfl | hb
        · omega
        · have := hs.1 b hb; omega
theorem srt_cut {L : List Due} (hs : L.Pairwise (fun a b => a.1 < b.1)) (k n : Int) : (cutL L k n).Pairwise (fun a b => a.1 < b.1) := by
  induction L with
  | nil => simp [cutL]
  | cons y r ih =>
    have hs' := hs
    rw [List.pairwise_cons] at hs
    simp only [cutL]
    split
    · rename_i hy
      rw [List.pairwise_cons]
      refine ⟨fun b hb => ?_, ih hs.2⟩
      rcases mem_cut hb with hb | hb
      · exact hs.1 b hb
      · omega
    · split
      · rename_i hy e
        split
        · exact hs.2
        · rw [List.pairwise_cons]
          exact ⟨fun b hb => by have := hs.1 b hb; show k < b.1; omega, hs.2⟩
      · exact hs'
theorem ofL_absent : ∀ (L : List Due) (k : Int), (∀ x ∈ L, x.1 ≠ k) → ofL L k = 0
  | [], _, _ => rfl
  | y :: r, k, h => by
    simp only [ofL]
    rw [if_neg (h y List.mem_cons_self)]
    split
    · exact ofL_absent r k (fun x hx => h x (List.mem_cons_of_mem _ hx))
    · rfl
theorem ofL_add {L : List Due} (hs : L.Pairwise (fun a b => a.1 < b.1)) (k n j : Int) : ofL (addL L k n) j = if j = k then ofL L k + n else ofL L j := by
  induction L with
  | nil =>
    simp only [addL, ofL]
    by_cases e : j = k
    · subst e; simp
    · rw [if_neg e]
      split
      · rfl
      · rw [if_neg (by omega)]
  | cons y r ih =>
    rw [List.pairwise_cons] at hs
    have ih := ih hs.2
    simp only [addL, ofL]
    by_cases h1 : y.1 < k
    · rw [if_pos h1, if_pos h1]
      simp only [ofL]
      rw [ih]
      by_cases e : j = k
      · subst e; rw [if_pos rfl, if_pos h1, if_pos rfl]
      · rw [if_neg e, if_neg e]
    · rw [if_neg h1, if_neg h1]
      by_cases h2 : y.1 = k
      · rw [if_pos h2, if_pos h2]
        simp only [ofL]
        by_cases e : j = k
        · subst e; rw [if_neg (by omega), if_pos rfl, if_pos rfl]
        · rw [if_neg e, h2]
          by_cases h3 : k < j
          · rw [if_pos h3, if_pos h3]
          · rw [if_neg h3, if_neg h3, if_neg (by omega), if_neg (by omega)]
      · rw [if_neg h2, if_neg h2]
        simp only [ofL]
        by_cases e : j = k
        · subst e; rw [if_neg (by omega), if_pos rfl, if_pos rfl]; simp
        · rw [if_neg e]
          by_cases h3 : k < j
          · rw [if_pos h3]
          · rw [if_neg h3, if_neg (by omega), if_neg (by omega), if_neg (by omega)]
theorem ofL_cut {L : List Due} (hs : L.Pairwise (fun a b => a.1 < b.1)) (k n j : Int) (hk : hasL L k = true) : ofL (cutL L k n) j = if j = k then ofL L k - n else ofL L j := by
  induction L with
  | nil => simp [hasL] at hk
  | cons y r ih =>
    rw [List.pairwise_cons] at hs
    simp only [cutL, ofL, hasL] at hk ⊢
    by_cases h1 : y.1 < k
    · rw [if_pos h1] at hk
      have ih := ih hs.2 hk
      rw [if_pos h1, if_pos h1]
      simp only [ofL]
      rw [ih]
      by_cases e : j = k
      · subst e; rw [if_pos rfl, if_pos h1, if_pos rfl]
      · rw [if_neg e, if_neg e]
    · rw [if_neg h1] at hk
      have h2 : y.1 = k := by simpa using hk
      rw [if_neg h1, if_neg h1, if_pos h2, if_pos h2]
      have habs : ofL r k = 0 := ofL_absent r k (fun x hx e => by have := hs.1 x hx; omega)
      by_cases h4 : y.2 = n
      · rw [if_pos h4]
        by_cases e : j = k
        · subst e; rw [if_pos rfl, habs]; omega
        · rw [if_neg e]
          by_cases h3 : y.1 < j
          · rw [if_pos h3]
          · rw [if_neg h3, if_neg (by omega)]
            exact ofL_absent r j (fun x hx e2 => by have := hs.1 x hx; omega)
      · rw [if_neg h4]
        simp only [ofL]
        by_cases e : j = k
        · subst e; rw [if_neg (by omega), if_pos rfl, if_pos rfl]
        · rw [if_neg e, h2]
          by_cases h3 : k < j
          · rw [if_pos h3, if_pos h3]
          · rw [if_neg h3, if_neg h3, if_neg (by omega), if_neg (by omega)]
theorem wf_nil : wfL [] := ⟨List.Pairwise.nil, fun _ h => (by cases h), by decide⟩
theorem wf_add {L : List Due} (h : wfL L) {k n : Int} (h1 : 1 ≤ n) (h2 : total L + n ≤ 9223372036854775807) : wfL (addL L k n) := by
  refine ⟨srt_add h.srt k n, fun x hx => ?_, by rw [total_add]; exact h2⟩
  cases hh : hasL L k with
  | true =>
    rw [addL_set L k n hh] at hx
    have := ofL_pos h.pos hh
    rcases List.mem_or_eq_of_mem_set hx with hx | rfl
    · exact h.pos x hx
    · show 1 ≤ ofL L k + n; omega
  | false =>
    rw [addL_ins L k n hh] at hx
    rcases List.mem_append.1 hx with hx | hx
    · rcases List.mem_append.1 hx with hx | hx
      · exact h.pos x (List.mem_of_mem_take hx)
      · rw [List.mem_singleton] at hx; subst hx; exact h1
    · exact h.pos x (List.mem_of_mem_drop hx)
theorem wf_cut {L : List Due} (h : wfL L) {k n : Int} (hk : hasL L k = true) (h1 : 1 ≤ n) (h2 : n ≤ ofL L k) : wfL (cutL L k n) := by
  refine ⟨srt_cut h.srt k n, fun x hx => ?_, by rw [total_cut L k n hk]; have := h.sum; omega⟩
  rcases mem_cut hx with hx | ⟨_, e, _, e2⟩
  · exact h.pos x hx
  · rw [e]; omega
/-- the calls, plainly -/
def askB (L : List Due) (n room : Int) : Bool := decide (1 ≤ n ∧ n ≤ 1048576 ∧ n ≤ room ∧ total L ≤ room - n)
def askL (L : List Due) (k n room : Int) : List Due := if askB L n room then addL L k n else L
def takeN (L : List Due) (k n : Int) : Int := if n < 1 then 0 else if n ≤ ofL L k then n else ofL L k
def takeL (L : List Due) (k n : Int) : List Due := if hasL L k = true ∧ 1 ≤ n then cutL L k (takeN L k n) else L
theorem takeN_has {L : List Due} (h : wfL L) {k n : Int} (hk : hasL L k = true) (hn : 1 ≤ n) : 1 ≤ takeN L k n ∧ takeN L k n ≤ ofL L k ∧ takeN L k n ≤ n := by
  have := ofL_pos h.pos hk
  unfold takeN
  rw [if_neg (by omega)]
  split <;> omega
theorem takeN_not {L : List Due} {k n : Int} (h : ¬ (hasL L k = true ∧ 1 ≤ n)) : takeN L k n = 0 := by
  unfold takeN
  by_cases hn : n < 1
  · rw [if_pos hn]
  · rw [if_neg hn]
    have hk : hasL L k = false := by cases e : hasL L k with | false => rfl | true => exact absurd ⟨e, by omega⟩ h
    rw [ofL_not L k hk, if_neg (by omega)]
theorem ask_wf {L : List Due} (h : wfL L) {k n room : Int} (hr : room ≤ 9223372036854775807) : wfL (askL L k n room) := by
  unfold askL
  split
  · rename_i e
    have e := of_decide_eq_true e
    exact wf_add h e.1 (by omega)
  · exact h
theorem take_wf {L : List Due} (h : wfL L) (k n : Int) : wfL (takeL L k n) := by
  unfold takeL
  split
  · rename_i e
    have := takeN_has h e.1 e.2
    exact wf_cut h e.1 this.1 this.2.1
  · exact h
theorem ask_len (L : List Due) (k n room : Int) : (askL L k n room).length ≤ L.length + 1 := by
  unfold askL; split
  · exact addL_len L k n
  · omega
theorem take_len (L : List Due) (k n : Int) : (takeL L k n).length ≤ L.length := by
  unfold takeL; split
  · exact cutL_len L k _
  · omega
theorem total_ask (L : List Due) (k n room : Int) : total (askL L k n room) = if askB L n room then total L + n else total L := by
  unfold askL; split
  · exact total_add L k n
  · rfl
theorem total_take {L : List Due} (k n : Int) : total (takeL L k n) = total L - takeN L k n := by
  unfold takeL; split
  · rename_i e; exact total_cut L k _ e.1
  · rename_i e; rw [takeN_not e]; omega
theorem of_ask {L : List Due} (h : wfL L) (k n room j : Int) : ofL (askL L k n room) j = if askB L n room = true ∧ j = k then ofL L k + n else ofL L j := by
  unfold askL
  cases e : askB L n room with
  | true => rw [if_pos rfl, ofL_add h.srt]; simp
  | false => simp
theorem of_take {L : List Due} (h : wfL L) (k n j : Int) : ofL (takeL L k n) j = if j = k then ofL L k - takeN L k n else ofL L j := by
  unfold takeL
  split
  · rename_i e; exact ofL_cut h.srt k _ j e.1
  · rename_i e
    rw [takeN_not e]
    split
    · rename_i e2; subst e2; omega
    · rfl
end Go.Proofs.Ytoiakenepmbalaa.Purse
