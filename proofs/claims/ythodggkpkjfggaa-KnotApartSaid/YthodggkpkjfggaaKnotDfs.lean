/- A walk of paths as plain data: what is kept while it goes, and what it comes to. -/
import Derived.Lib.Hide
namespace Go.Proofs.Ythodggkpkjfggaa.Knot
set_option maxRecDepth 100000
section
variable {p : Nat → List Nat} {S S' : Nat → Prop}
/-- a way whose places all lie in S -/
inductive Way (p : Nat → List Nat) (S : Nat → Prop) : Nat → Nat → Prop
  | here {a : Nat} : S a → Way p S a a
  | on {a b c : Nat} : S a → b ∈ p a → Way p S b c → Way p S a c
theorem Way.mono {a b : Nat} (h : Way p S a b) (hs : ∀ x, S x → S' x) : Way p S' a b := by
  induction h with
  | here h => exact .here (hs _ h)
  | on h1 h2 _ ih => exact .on (hs _ h1) h2 ih
theorem Way.trans {a b c : Nat} (h : Way p S a b) (h' : Way p S b c) : Way p S a c := by
  induction h with
  | here _ => exact h'
  | on h1 h2 _ ih => exact .on h1 h2 (ih h')
theorem Way.snoc {a b c : Nat} (h : Way p S a b) (h1 : c ∈ p b) (h2 : S c) (hb : S b) : Way p S a c := h.trans (.on hb h1 (.here h2))
theorem Way.first {a b : Nat} (h : Way p S a b) : S a := by cases h <;> assumption
theorem Way.last {a b : Nat} (h : Way p S a b) : S b := by
  induction h with
  | here h => exact h
  | on _ _ _ ih => exact ih
/-- a set that is closed under steps is not left -/
theorem Way.closed {C : Nat → Prop} {a b : Nat} (h : Way p S a b) (hc : ∀ x y, C x → y ∈ p x → C y) (ha : C a) : C b := by
  induction h with
  | here _ => exact ha
  | on _ h2 _ ih => exact ih (hc _ _ ha h2)
/-- with the set added to what is known of the places -/
theorem Way.inside {C : Nat → Prop} {a b : Nat} (h : Way p S a b) (hc : ∀ x y, C x → y ∈ p x → C y) (ha : C a) : Way p (fun x => S x ∧ C x) a b := by
  induction h with
  | here h => exact .here ⟨h, ha⟩
  | on h1 h2 _ ih => exact .on ⟨h1, ha⟩ h2 (ih (hc _ _ ha h2))
theorem Way.rev {q : Nat → List Nat} (hq : ∀ x y, y ∈ p x → x ∈ q y) {a b : Nat} (h : Way p S a b) : Way q S b a := by
  induction h with
  | here h => exact .here h
  | on h1 h2 h3 ih => exact ih.snoc (hq _ _ h2) h1 ih.last
/-- anyhow -/
def Any (_ : Nat) : Prop := True
theorem Way.any {a b : Nat} (h : Way p S a b) : Way p Any a b := h.mono fun _ _ => trivial

/-- of each place: whatever gets to it by places that were left no later can be got to from it -/
def K3 (p : Nat → List Nat) (F : List Nat) : Prop := ∀ A v B, F = A ++ v :: B → ∀ u, Way p (fun x => x ∈ A ∨ x = v) u v → Way p Any v u
/-- the places that are under way (the last one first) -/
def Stk (p : Nat → List Nat) (D F : List Nat) : List Nat → Prop
  | [] => True
  | v :: rest => (∃ A B, F = A ++ B ∧ (∀ x ∈ A, ∀ y ∈ p x, y ∈ A ∨ y ∈ rest) ∧ (∀ x ∈ B, Way p (fun z => z ∉ D) v x) ∧ (∀ u ∈ rest, Way p (fun z => z ∉ D) u v)) ∧ Stk p D F rest
theorem Stk.left {D F : List Nat} {v : Nat} : ∀ {l : List Nat}, Stk p D F l → (∀ u ∈ l, Way p (fun z => z ∉ D) u v) → Stk p D (F ++ [v]) l
  | [], _, _ => trivial
  | t :: rest, ⟨⟨A, B, e, h1, h2, h3⟩, h⟩, hv => by
    refine ⟨⟨A, B ++ [v], by rw [e, List.append_assoc], h1, fun x hx => ?_, h3⟩, Stk.left h fun u hu => hv u (List.mem_cons_of_mem _ hu)⟩
    rcases List.mem_append.1 hx with hx | hx
    · exact h2 x hx
    · obtain rfl := List.mem_singleton.1 hx
      exact hv t List.mem_cons_self

/-- what is kept while a beginning b is gone from: D was left ahead of it, F since -/
structure DInv (p : Nat → List Nat) (n : Nat) (D F way : List Nat) (b : Nat) (been : Nat → Bool) (gone : Nat → Nat) : Prop where
  nodup : (D ++ F ++ way).Nodup
  lt : ∀ x ∈ D ++ F ++ way, x < n
  been_iff : ∀ x, been x = true ↔ x ∈ D ++ F ++ way
  closed : ∀ x ∈ D ++ F, ∀ y ∈ p x, y ∈ D ++ F ++ way
  gone_le : ∀ x ∈ way, gone x ≤ (p x).length ∧ ∀ y ∈ (p x).take (gone x), y ∈ D ++ F ++ way
  fresh : ∀ x, x ∉ D ++ F ++ way → gone x = 0
  stk : Stk p D (D ++ F) way
  k3 : K3 p (D ++ F)
  root : ∀ x ∈ F ++ way, Way p (fun z => z ∉ D) b x
  has : b ∈ F ++ way
/-- between two beginnings -/
structure BInv (p : Nat → List Nat) (n : Nat) (D : List Nat) (been : Nat → Bool) (gone : Nat → Nat) : Prop where
  nodup : D.Nodup
  lt : ∀ x ∈ D, x < n
  been_iff : ∀ x, been x = true ↔ x ∈ D
  closed : ∀ x ∈ D, ∀ y ∈ p x, y ∈ D
  fresh : ∀ x, x ∉ D → gone x = 0
  k3 : K3 p D
theorem BInv.new (p : Nat → List Nat) (n : Nat) : BInv p n [] (fun _ => false) (fun _ => 0) where
  nodup := by simp
  lt := by simp
  been_iff := by simp
  closed := by simp
  fresh := by simp
  k3 := fun A v B e => by simp at e
def put1 {α : Type} (f : Nat → α) (k : Nat) (v : α) : Nat → α := fun j => if j = k then v else f j
variable {n : Nat} {D F way : List Nat} {b : Nat} {been : Nat → Bool} {gone : Nat → Nat}
theorem BInv.begin_ (h : BInv p n D been gone) (hb : been b = false) (hn : b < n) : DInv p n D [] [b] b (put1 been b true) gone where
  nodup := by
    have : b ∉ D := fun e => by rw [(h.been_iff b).2 e] at hb; cases hb
    simp only [List.append_nil]
    rw [List.nodup_append]
    exact ⟨h.nodup, by simp, fun x hx y hy => by simp at hy; subst hy; exact fun e => this (e ▸ hx)⟩
  lt := by
    intro x hx
    simp at hx
    rcases hx with hx | rfl
    · exact h.lt x hx
    · exact hn
  been_iff := fun x => by
    unfold put1
    have := h.been_iff x
    by_cases e : x = b
    · simp [e]
    · simp [e, this]
  closed := by
    intro x hx y hy
    simp at hx
    have := h.closed x hx y hy
    simp [this]
  gone_le := by
    intro x hx
    have : b ∉ D := fun e => by rw [(h.been_iff b).2 e] at hb; cases hb
    obtain rfl := List.mem_singleton.1 hx
    rw [h.fresh x this]
    simp
  fresh := fun x hx => h.fresh x fun e => hx (by simp [e])
  stk := ⟨⟨D, [], by simp, fun x hx y hy => .inl (h.closed x hx y hy), by simp, by simp⟩, trivial⟩
  k3 := by simpa using h.k3
  root := by
    have : b ∉ D := fun e => by rw [(h.been_iff b).2 e] at hb; cases hb
    intro x hx
    simp at hx
    subst hx
    exact .here this
  has := by simp
theorem BInv.skip (h : BInv p n D been gone) (hb : been b = true) : b ∈ D := (h.been_iff b).1 hb
theorem DInv.end_ (h : DInv p n D F [] b been gone) : BInv p n (D ++ F) been gone where
  nodup := by simpa using h.nodup
  lt := fun x hx => h.lt x (by simpa using hx)
  been_iff := fun x => by simpa using h.been_iff x
  closed := fun x hx y hy => by simpa using h.closed x hx y hy
  fresh := fun x hx => h.fresh x (by simpa using hx)
  k3 := h.k3
theorem DInv.top_notin {v : Nat} {rest : List Nat} (h : DInv p n D F (v :: rest) b been gone) : v ∉ D ++ F ∧ v ∉ rest ∧ ∀ x ∈ rest, x ∉ D ++ F := by
  have h1 := h.nodup
  rw [List.nodup_append] at h1
  refine ⟨fun e => h1.2.2 v e v List.mem_cons_self rfl, (List.nodup_cons.1 h1.2.1).1, fun x hx e => h1.2.2 x e x (List.mem_cons_of_mem _ hx) rfl⟩
/-- a place is left -/
theorem DInv.leave {v : Nat} {rest : List Nat} (h : DInv p n D F (v :: rest) b been gone) (hg : gone v = (p v).length) : DInv p n D (F ++ [v]) rest b been gone := by
  have e1 : D ++ (F ++ [v]) ++ rest = D ++ F ++ v :: rest := by simp
  have e2 : D ++ (F ++ [v]) = D ++ F ++ [v] := by simp
  obtain ⟨n1, n2, n3⟩ := h.top_notin
  have hs := h.stk
  obtain ⟨⟨A, B, eF, a1, a2, a3⟩, hst⟩ := hs
  refine ⟨by rw [e1]; exact h.nodup, by rw [e1]; exact h.lt, by rw [e1]; exact h.been_iff, ?_, ?_, by rw [e1]; exact h.fresh, ?_, ?_, ?_, ?_⟩
  · rw [e1, e2]
    intro x hx y hy
    rcases List.mem_append.1 hx with hx | hx
    · exact h.closed x hx y hy
    · obtain rfl := List.mem_singleton.1 hx
      have := (h.gone_le x List.mem_cons_self).2 y
      rw [hg, List.take_length] at this
      exact this hy
  · rw [e1]
    exact fun x hx => h.gone_le x (List.mem_cons_of_mem _ hx)
  · rw [e2]
    exact hst.left a3
  · rw [e2]
    intro A' v' B' e u hu
    by_cases hB : B' = []
    · subst hB
      have e3 : D ++ F ++ [v] = A' ++ [v'] := e
      obtain ⟨e4, e5⟩ := List.append_inj' e3 rfl
      injection e5 with e5 _
      subst e5; subst e4
      -- whatever is on such a way was left since v was come to
      have key : ∀ a c, Way p (fun x => x ∈ D ++ F ∨ x = v) a c → c = v → a ∉ A := by
        intro a c hw
        induction hw with
        | here hS =>
          intro e hA; subst e
          exact n1 (by rw [eF]; exact List.mem_append_left _ hA)
        | on h1 h2 h3 ih =>
          intro e hA; subst e
          rcases a1 _ hA _ h2 with h4 | h4
          · exact ih rfl h4
          · rcases h3.first with h5 | h5
            · exact n3 _ h4 h5
            · rw [h5] at h4; exact n2 h4
      have hu1 := key u v hu rfl
      rcases hu.first with h5 | h5
      · rw [eF] at h5
        rcases List.mem_append.1 h5 with h5 | h5
        · exact absurd h5 hu1
        · exact (a2 u h5).any
      · rw [h5]; exact .here trivial
    · obtain ⟨B'', z, rfl⟩ : ∃ B'' z, B' = B'' ++ [z] := by
        rcases List.eq_nil_or_concat B' with h0 | ⟨B'', z, h0⟩
        · exact absurd h0 hB
        · exact ⟨B'', z, by simpa using h0⟩
      have e3 : D ++ F ++ [v] = (A' ++ v' :: B'') ++ [z] := by rw [e]; simp
      obtain ⟨e4, _⟩ := List.append_inj' e3 rfl
      exact h.k3 A' v' B'' e4 u hu
  · intro x hx
    exact h.root x (by simp at hx ⊢; rcases hx with h1 | h1 | h1 <;> simp [h1])
  · have := h.has
    simp at this ⊢
    rcases this with h1 | h1 | h1 <;> simp [h1]
/-- the next step from the last place leads to where it has been -/
theorem DInv.pass {v to : Nat} {rest : List Nat} (h : DInv p n D F (v :: rest) b been gone) (hto : (p v)[gone v]? = some to) (hbeen : been to = true) : DInv p n D F (v :: rest) b been (put1 gone v (gone v + 1)) where
  nodup := h.nodup
  lt := h.lt
  been_iff := h.been_iff
  closed := h.closed
  gone_le := fun x hx => by
    unfold put1
    by_cases e : x = v
    · subst e
      rw [if_pos rfl]
      have hlt := (List.getElem?_eq_some_iff.1 hto).1
      refine ⟨hlt, fun y hy => ?_⟩
      rw [List.take_add_one, hto] at hy
      rcases List.mem_append.1 hy with hy | hy
      · exact (h.gone_le x hx).2 y hy
      · simp at hy; subst hy; exact (h.been_iff y).1 hbeen
    · rw [if_neg e]; exact h.gone_le x hx
  fresh := fun x hx => by
    unfold put1
    have : x ≠ v := fun e => hx (by rw [e]; simp)
    rw [if_neg this]; exact h.fresh x hx
  stk := h.stk
  k3 := h.k3
  root := h.root
  has := h.has
/-- the next step leads to a new place -/
theorem DInv.come {v to : Nat} {rest : List Nat} (h : DInv p n D F (v :: rest) b been gone) (hto : (p v)[gone v]? = some to) (hbeen : been to = false) (hn : to < n) : DInv p n D F (to :: v :: rest) b (put1 been to true) (put1 gone v (gone v + 1)) := by
  have hnot : to ∉ D ++ F ++ v :: rest := fun e => by rw [(h.been_iff to).2 e] at hbeen; cases hbeen
  have hmem : to ∈ p v := List.mem_of_getElem? hto
  have hsub : ∀ x, x ∈ D ++ F ++ v :: rest → x ∈ D ++ F ++ to :: v :: rest := fun x hx => by simp at hx ⊢; rcases hx with h1 | h1 | h1 | h1 <;> simp [h1]
  have hvne : v ≠ to := fun e => hnot (by rw [← e]; simp)
  obtain ⟨n1, n2, n3⟩ := h.top_notin
  have htoD : to ∉ D := fun e => hnot (by simp [e])
  have hvD : v ∉ D := fun e => n1 (by simp [e])
  refine ⟨?_, ?_, ?_, fun x hx y hy => hsub y (h.closed x hx y hy), ?_, ?_, ?_, h.k3, ?_, ?_⟩
  · have h1 := h.nodup
    rw [List.nodup_append] at h1 ⊢
    refine ⟨h1.1, List.nodup_cons.2 ⟨fun e => hnot (List.mem_append_right _ e), h1.2.1⟩, fun x hx y hy => ?_⟩
    rcases List.mem_cons.1 hy with rfl | hy
    · exact fun e => hnot (by rw [← e]; exact List.mem_append_left _ hx)
    · exact h1.2.2 x hx y hy
  · intro x hx
    have : x = to ∨ x ∈ D ++ F ++ v :: rest := by simp at hx ⊢; rcases hx with h1 | h1 | h1 | h1 | h1 <;> simp [h1]
    rcases this with rfl | h1
    · exact hn
    · exact h.lt x h1
  · intro x
    unfold put1
    have := h.been_iff x
    by_cases e : x = to
    · subst e; simp
    · rw [if_neg e, this]
      constructor
      · exact hsub x
      · intro hx; simp at hx ⊢; rcases hx with h1 | h1 | h1 | h1 | h1
        · simp [h1]
        · simp [h1]
        · exact absurd h1 e
        · simp [h1]
        · simp [h1]
  · intro x hx
    unfold put1
    by_cases e : x = v
    · subst e
      rw [if_pos rfl]
      have hlt := (List.getElem?_eq_some_iff.1 hto).1
      refine ⟨hlt, fun y hy => ?_⟩
      rw [List.take_add_one, hto] at hy
      rcases List.mem_append.1 hy with hy | hy
      · exact hsub y ((h.gone_le x List.mem_cons_self).2 y hy)
      · simp at hy; subst hy; simp
    · rw [if_neg e]
      rcases List.mem_cons.1 hx with rfl | hx
      · rw [h.fresh x hnot]; simp
      · exact ⟨(h.gone_le x hx).1, fun y hy => hsub y ((h.gone_le x hx).2 y hy)⟩
  · intro x hx
    unfold put1
    have : x ≠ v := fun e => hx (by rw [e]; simp)
    rw [if_neg this]; exact h.fresh x fun e => hx (hsub x e)
  · refine ⟨⟨D ++ F, [], by simp, fun x hx y hy => ?_, by simp, ?_⟩, h.stk⟩
    · have := h.closed x hx y hy
      exact List.mem_append.1 this
    · have hv : ∀ u ∈ v :: rest, Way p (fun z => z ∉ D) u v := fun u hu => by
        rcases List.mem_cons.1 hu with rfl | hu
        · exact .here hvD
        · obtain ⟨⟨_, _, _, _, _, a3⟩, _⟩ := h.stk
          exact a3 u hu
      exact fun u hu => (hv u hu).snoc hmem htoD hvD
  · intro x hx
    have : x = to ∨ x ∈ F ++ v :: rest := by simp at hx ⊢; rcases hx with h1 | h1 | h1 | h1 <;> simp [h1]
    rcases this with rfl | h1
    · exact (h.root v (by simp)).snoc hmem htoD hvD
    · exact h.root x h1
  · have := h.has
    simp at this ⊢
    rcases this with h1 | h1 | h1 <;> simp [h1]
/-- how far it can go on -/
def steps (p : Nat → List Nat) (n : Nat) (gone : Nat → Nat) : Nat → Nat
  | 0 => 0
  | k + 1 => steps p n gone k + ((p k).length - gone k)
theorem steps_put {v g : Nat} : ∀ k, steps p n (put1 gone v g) k + (if v < k then (p v).length - gone v else 0) = steps p n gone k + (if v < k then (p v).length - g else 0)
  | 0 => by simp [steps]
  | k + 1 => by
    have ih := steps_put (v := v) (g := g) k
    simp only [steps, put1]
    by_cases e : k = v
    · subst e; simp at ih ⊢; omega
    · rw [if_neg e]
      by_cases h1 : v < k
      · have h2 : v < k + 1 := by omega
        simp only [h1, h2, if_true] at ih ⊢; omega
      · have h2 : ¬ v < k + 1 := by omega
        simp only [h1, h2, if_false] at ih ⊢; omega

theorem nodup_len {α : Type} [DecidableEq α] : ∀ (l m : List α), l.Nodup → (∀ x ∈ l, x ∈ m) → l.length ≤ m.length
  | [], _, _, _ => Nat.zero_le _
  | a :: l, m, h, hs => by
    obtain ⟨h1, h2⟩ := List.nodup_cons.1 h
    have h3 := nodup_len l (m.erase a) h2 fun x hx => (List.mem_erase_of_ne (fun e => h1 (by rw [← e]; exact hx))).2 (hs x (List.mem_cons_of_mem _ hx))
    have h4 := List.length_erase_of_mem (hs a List.mem_cons_self)
    have h5 : 0 < m.length := List.length_pos_of_mem (hs a List.mem_cons_self)
    rw [List.length_cons]; omega
theorem nodup_lt {l : List Nat} {n : Nat} (h : l.Nodup) (hs : ∀ x ∈ l, x < n) : l.length ≤ n := by
  have := nodup_len l (List.range n) h fun x hx => List.mem_range.2 (hs x hx)
  simpa using this
theorem steps_congr {g g' : Nat → Nat} : ∀ k, (∀ j, j < k → g j = g' j) → steps p n g k = steps p n g' k
  | 0, _ => rfl
  | k + 1, h => by
    simp only [steps]
    rw [steps_congr k fun j hj => h j (by omega), h k (by omega)]
/-- one step less -/
theorem steps_less {v : Nat} (hv : v < n) (hg : gone v < (p v).length) : steps p n (put1 gone v (gone v + 1)) n + 1 = steps p n gone n := by
  have := steps_put (p := p) (n := n) (gone := gone) (v := v) (g := gone v + 1) n
  rw [if_pos hv, if_pos hv] at this
  omega

theorem DInv.len (h : DInv p n D F way b been gone) : D.length + F.length + way.length ≤ n := by
  have := nodup_lt h.nodup h.lt
  simpa [Nat.add_assoc] using this
/-- all walks: each from the first beginning that was not yet been at -/
def Walks (p : Nat → List Nat) (beg : List Nat) (W : List (List Nat)) : Prop :=
  ∀ A X B, W = A ++ X :: B → ∃ b, b ∈ X ∧ (∀ x ∈ X, Way p (fun z => z ∉ A.flatten) b x) ∧ (∀ x ∈ (A ++ [X]).flatten, ∀ y ∈ p x, y ∈ (A ++ [X]).flatten) ∧ ∃ pre post, beg = pre ++ b :: post ∧ ∀ x ∈ pre, x ∈ A.flatten
theorem Walks.nil (p : Nat → List Nat) (beg : List Nat) : Walks p beg [] := fun A X B e => by simp at e
theorem Walks.more {beg pre post : List Nat} {W : List (List Nat)} {X : List Nat} (h : Walks p beg W) (hI : DInv p n W.flatten X [] b been gone) (hb : beg = pre ++ b :: post) (hpre : ∀ x ∈ pre, x ∈ W.flatten) : Walks p beg (W ++ [X]) := by
  intro A Y B e
  by_cases hB : B = []
  · subst hB
    obtain ⟨e4, e5⟩ := List.append_inj' e rfl
    injection e5 with e5 _
    subst e5; subst e4
    refine ⟨b, by simpa using hI.has, fun x hx => hI.root x (by simpa using hx), fun x hx y hy => ?_, pre, post, hb, hpre⟩
    have := hI.closed x (by simpa using hx) y hy
    simpa using this
  · obtain ⟨B'', z, rfl⟩ : ∃ B'' z, B = B'' ++ [z] := by
      rcases List.eq_nil_or_concat B with h0 | ⟨B'', z, h0⟩
      · exact absurd h0 hB
      · exact ⟨B'', z, by simpa using h0⟩
    have e3 : W ++ [X] = (A ++ Y :: B'') ++ [z] := by rw [e]; simp
    obtain ⟨e4, _⟩ := List.append_inj' e3 rfl
    exact h A Y B'' e4
theorem Walks.len {beg : List Nat} : ∀ {W : List (List Nat)}, (∀ X ∈ W, X ≠ []) → W.length ≤ W.flatten.length
  | [], _ => Nat.zero_le _
  | X :: W, h => by
    have := Walks.len (beg := beg) (W := W) fun Y hY => h Y (List.mem_cons_of_mem _ hY)
    have h1 := List.length_pos_iff.2 (h X List.mem_cons_self)
    simp only [List.flatten_cons, List.length_append, List.length_cons]; omega
theorem Walks.ne {beg : List Nat} {W : List (List Nat)} (h : Walks p beg W) : ∀ X ∈ W, X ≠ [] := fun X hX e => by
  obtain ⟨A, B, hAB⟩ := List.append_of_mem hX
  obtain ⟨b, hb, _⟩ := h A X B hAB
  rw [e] at hb; cases hb
/-- KNOTS: what the second walks come by, gone back from the last one left, are those that lead to one another -/
theorem knots {q : Nat → List Nat} (hpq : ∀ x y, y ∈ p x ↔ x ∈ q y) {L : List Nat} (hk : K3 p L) {W : List (List Nat)} (hW : Walks q L.reverse W) (hnd : W.flatten.Nodup) (hL : ∀ x, x ∈ W.flatten → x ∈ L) {X : List Nat} (hX : X ∈ W) {x : Nat} (hx : x ∈ X) (y : Nat) :
    y ∈ X ↔ (Way p Any x y ∧ Way p Any y x) := by
  obtain ⟨A, B, hAB⟩ := List.append_of_mem hX
  obtain ⟨b, hb, h1, h2, pre, post, h3, h4⟩ := hW A X B hAB
  have hout : ∀ z ∈ X, z ∉ A.flatten := fun z hz e => by
    rw [hAB, List.flatten_append, List.nodup_append] at hnd
    exact hnd.2.2 z e z (by simp [hz]) rfl
  have hrev : L = post.reverse ++ b :: pre.reverse := by
    have := congrArg List.reverse h3
    simpa using this
  have hall : ∀ z ∈ X, Way p Any z b ∧ Way p Any b z := by
    intro z hz
    have hw := h1 z hz
    have hin := hw.inside (C := fun v => v ∈ (A ++ [X]).flatten) (fun u v hu hv => h2 u hu v hv) (by simp [hb])
    have hback := (hin.rev (fun u v huv => (hpq v u).2 huv))
    refine ⟨hback.any, hk _ _ _ hrev z (hback.mono fun u hu => ?_)⟩
    have huX : u ∈ X := by
      have := hu.2
      simp at this
      rcases this with h5 | h5
      · exact absurd (List.mem_flatten.2 h5) hu.1
      · exact h5
    have huL : u ∈ L := hL u (by rw [hAB]; simp [huX])
    rw [hrev] at huL
    rcases List.mem_append.1 huL with h5 | h5
    · exact .inl h5
    · rcases List.mem_cons.1 h5 with h5 | h5
      · exact .inr h5
      · exact absurd (h4 u (by simpa using h5)) hu.1
  constructor
  · intro hy
    exact ⟨(hall x hx).1.trans (hall y hy).2, (hall y hy).1.trans (hall x hx).2⟩
  · rintro ⟨hxy, hyx⟩
    have hq := fun {a c} (h : Way p Any a c) => h.rev (fun u v huv => (hpq u v).1 huv)
    have hyin : y ∈ (A ++ [X]).flatten := (hq hyx).closed (C := fun v => v ∈ (A ++ [X]).flatten) (fun u v hu hv => h2 u hu v hv) (by simp [hx])
    simp at hyin
    rcases hyin with ⟨Y, hY, hy⟩ | hy
    · obtain ⟨A1, A2, hA⟩ := List.append_of_mem hY
      obtain ⟨_, _, _, k2, _⟩ := hW A1 Y (A2 ++ X :: B) (by rw [hAB, hA]; simp)
      have hxin : x ∈ (A1 ++ [Y]).flatten := (hq hxy).closed (C := fun v => v ∈ (A1 ++ [Y]).flatten) (fun u v hu hv => k2 u hu v hv) (by simp [hy])
      have hxA : x ∈ A.flatten := by
        rw [hA]; simp at hxin ⊢
        rcases hxin with h5 | h5
        · exact .inl h5
        · exact .inr (.inl h5)
      exact absurd hxA (hout x hx)
    · exact hy
end
end Go.Proofs.Ythodggkpkjfggaa.Knot
