/- Edges as plain data: who leads to whom, who is stuck, who are the victims; how the victims are found by halves. -/
import Derived.Lib.Hide
namespace Go.Proofs.Ythodggkpkjfggaa.Knot
set_option maxRecDepth 100000
/-- an edge -/
structure Ed where
  f : Int
  t : Int
deriving DecidableEq
inductive Rch (L : List Ed) : Int → Int → Prop
  | refl (a : Int) : Rch L a a
  | step {a b c : Int} : (⟨a, b⟩ : Ed) ∈ L → Rch L b c → Rch L a c
section
variable {L L' : List Ed} {a b c v x : Int}
theorem Rch.trans (h : Rch L a b) (h' : Rch L b c) : Rch L a c := by
  induction h with
  | refl _ => exact h'
  | step h1 _ ih => exact .step h1 (ih h')
theorem Rch.one (h : (⟨a, b⟩ : Ed) ∈ L) : Rch L a b := .step h (.refl _)
theorem Rch.mono (h : Rch L a b) (hs : ∀ e ∈ L, e ∈ L') : Rch L' a b := by
  induction h with
  | refl _ => exact .refl _
  | step h1 _ ih => exact .step (hs _ h1) ih
theorem Rch.closed {C : Int → Prop} (h : Rch L a b) (hc : ∀ e ∈ L, C e.f → C e.t) (ha : C a) : C b := by
  induction h with
  | refl _ => exact ha
  | step h1 _ ih => exact ih (hc _ h1 ha)
/-- the last step -/
theorem Rch.last (h : Rch L a b) : a = b ∨ ∃ z, Rch L a z ∧ (⟨z, b⟩ : Ed) ∈ L := by
  induction h with
  | refl _ => exact .inl rfl
  | step h1 h2 ih =>
    rcases ih with rfl | ⟨z, h3, h4⟩
    · exact .inr ⟨_, .refl _, h1⟩
    · exact .inr ⟨z, .step h1 h3, h4⟩
def Tied (L : List Ed) (a b : Int) : Prop := Rch L a b ∧ Rch L b a
theorem Tied.refl (L : List Ed) (a : Int) : Tied L a a := ⟨.refl _, .refl _⟩
theorem Tied.symm (h : Tied L a b) : Tied L b a := ⟨h.2, h.1⟩
theorem Tied.trans (h : Tied L a b) (h' : Tied L b c) : Tied L a c := ⟨h.1.trans h'.1, h'.2.trans h.2⟩
theorem Tied.mono (h : Tied L a b) (hs : ∀ e ∈ L, e ∈ L') : Tied L' a b := ⟨h.1.mono hs, h.2.mono hs⟩
/-- a row of edges leads back -/
def Cyc (L : List Ed) (v : Int) : Prop := ∃ t, (⟨v, t⟩ : Ed) ∈ L ∧ Rch L t v
theorem Cyc.mono (h : Cyc L v) (hs : ∀ e ∈ L, e ∈ L') : Cyc L' v := by
  obtain ⟨t, h1, h2⟩ := h
  exact ⟨t, hs _ h1, h2.mono hs⟩
def upTo (L : List Ed) (x : Int) : List Ed := L.filter fun e => decide (max e.f e.t ≤ x)
theorem mem_upTo {e : Ed} : e ∈ upTo L x ↔ e ∈ L ∧ e.f ≤ x ∧ e.t ≤ x := by
  unfold upTo; simp; omega
/-- v is the greatest of a ring -/
def Vic (L : List Ed) (v : Int) : Prop := Cyc (upTo L v) v
theorem upTo_mono (hs : ∀ e ∈ L, e ∈ L') : ∀ e ∈ upTo L x, e ∈ upTo L' x := fun e he => by
  rw [mem_upTo] at he ⊢; exact ⟨hs e he.1, he.2⟩
theorem Vic.mono (h : Vic L v) (hs : ∀ e ∈ L, e ∈ L') : Vic L' v := Cyc.mono h (upTo_mono hs)
theorem Vic.cyc (h : Vic L v) : Cyc L v := Cyc.mono h fun _ he => (mem_upTo.1 he).1
/-- the edges that lead back to where they are from -/
def innL (L : List Ed) (h : Int → Int) : List Ed := L.filter fun e => h e.f == h e.t
/-- h tells by a name of each knot -/
structure Heads (L : List Ed) (h : Int → Int) : Prop where
  tied : ∀ a, Tied L a (h a)
  same : ∀ a b, Tied L a b → h a = h b
theorem Heads.iff {h : Int → Int} (hh : Heads L h) : h a = h b ↔ Tied L a b :=
  ⟨fun e => (hh.tied a).trans (by rw [e]; exact (hh.tied b).symm), hh.same a b⟩
theorem mem_innL {h : Int → Int} (hh : Heads L h) {e : Ed} : e ∈ innL L h ↔ e ∈ L ∧ Rch L e.t e.f := by
  unfold innL
  simp only [List.mem_filter, beq_iff_eq]
  constructor
  · rintro ⟨h1, h2⟩; exact ⟨h1, (hh.iff.1 h2).2⟩
  · rintro ⟨h1, h2⟩; exact ⟨h1, hh.same _ _ ⟨.one h1, h2⟩⟩
/-- every edge leads back -/
def Inn (L : List Ed) : Prop := ∀ e ∈ L, Rch L e.t e.f
/-- of a closed row each edge is an inner one -/
theorem rch_in {L' : List Ed} (hs : ∀ e ∈ L, Rch L e.t e.f → e ∈ L') (h : Rch L a b) (h' : Rch L b a) : Rch L' a b := by
  induction h with
  | refl _ => exact .refl _
  | step h1 h2 ih => exact .step (hs _ h1 (h2.trans h')) (ih (h'.trans (.one h1)))
theorem cyc_in {L' : List Ed} (hs : ∀ e ∈ L, Rch L e.t e.f → e ∈ L') (h : Cyc L v) : Cyc L' v := by
  obtain ⟨t, h1, h2⟩ := h
  exact ⟨t, hs _ h1 h2, rch_in hs h2 (.one h1)⟩
theorem inn_innL {h : Int → Int} (hh : Heads L h) : Inn (innL L h) := fun _ he => by
  obtain ⟨h1, h2⟩ := (mem_innL hh).1 he
  exact rch_in (fun e h3 h4 => (mem_innL hh).2 ⟨h3, h4⟩) h2 (.one h1)
theorem innL_sub {h : Int → Int} : ∀ e ∈ innL L h, e ∈ L := fun _ he => (List.mem_filter.1 he).1
theorem cyc_innL {h : Int → Int} (hh : Heads L h) : Cyc (innL L h) v ↔ Cyc L v :=
  ⟨fun h => h.mono innL_sub, fun h => cyc_in (fun _ h3 h4 => (mem_innL hh).2 ⟨h3, h4⟩) h⟩
theorem vic_innL {h : Int → Int} (hh : Heads L h) : Vic (innL L h) v ↔ Vic L v := by
  refine ⟨fun h => h.mono innL_sub, fun hv => cyc_in (L := upTo L v) (fun e h3 h4 => ?_) hv⟩
  obtain ⟨h5, h6⟩ := mem_upTo.1 h3
  exact mem_upTo.2 ⟨(mem_innL hh).2 ⟨h5, h4.mono fun e he => (mem_upTo.1 he).1⟩, h6⟩
/-- where an inner edge is from somebody is stuck -/
theorem from_innL {h : Int → Int} (hh : Heads L h) : (∃ e ∈ innL L h, e.f = v) ↔ Cyc L v := by
  constructor
  · rintro ⟨e, h1, rfl⟩
    obtain ⟨h2, h3⟩ := (mem_innL hh).1 h1
    exact ⟨e.t, h2, h3⟩
  · rintro ⟨t, h1, h2⟩
    exact ⟨⟨v, t⟩, (mem_innL hh).2 ⟨h1, h2⟩, rfl⟩
/-! by halves -/
def isLow (h : Int → Int) (last : Int) (e : Ed) : Bool := h e.f == h e.t && decide (h e.f ≤ last)
def lowL (L : List Ed) (h : Int → Int) (last : Int) : List Ed := L.filter (isLow h last)
def highL (L : List Ed) (h : Int → Int) (last : Int) : List Ed := (L.filter fun e => !isLow h last e).map fun e => ⟨h e.f, h e.t⟩
variable {h : Int → Int} {last : Int}
theorem rch_up (hr : Rch (upTo L x) a b) : a = b ∨ (a ≤ x ∧ b ≤ x) := by
  rcases hr.last with rfl | ⟨z, _, h2⟩
  · exact .inl rfl
  · cases hr with
    | refl _ => exact .inl rfl
    | step h3 _ => exact .inr ⟨(mem_upTo.1 h3).2.1, (mem_upTo.1 h2).2.2⟩
theorem head_le (hh : Heads (upTo L last) h) (ha : a ≤ last) : h a ≤ last := by
  rcases rch_up (hh.tied a).1 with e | e
  · rw [← e]; exact ha
  · exact e.2
theorem head_far (hh : Heads (upTo L last) h) (ha : last < a) : h a = a := by
  rcases rch_up (hh.tied a).1 with e | e
  · exact e.symm
  · omega
theorem mem_low (hh : Heads (upTo L last) h) {e : Ed} : e ∈ lowL L h last ↔ e ∈ upTo L last ∧ Rch (upTo L last) e.t e.f := by
  unfold lowL isLow
  simp only [List.mem_filter, Bool.and_eq_true, beq_iff_eq, decide_eq_true_eq]
  constructor
  · rintro ⟨h1, h2, h3⟩
    have hf : e.f ≤ last := by
      rcases Int.lt_or_le last e.f with h4 | h4
      · rw [head_far hh h4] at h3; omega
      · exact h4
    have ht : e.t ≤ last := by
      rcases Int.lt_or_le last e.t with h4 | h4
      · have := head_far hh h4; rw [← h2] at this; omega
      · exact h4
    exact ⟨mem_upTo.2 ⟨h1, hf, ht⟩, (hh.iff.1 h2).2⟩
  · rintro ⟨h1, h2⟩
    exact ⟨(mem_upTo.1 h1).1, hh.same _ _ ⟨.one h1, h2⟩, head_le hh (mem_upTo.1 h1).2.1⟩
theorem low_sub : ∀ e ∈ lowL L h last, e ∈ L := fun _ he => (List.mem_filter.1 he).1
theorem low_inn (hh : Heads (upTo L last) h) : Inn (lowL L h last) := fun e he => by
  obtain ⟨h1, h2⟩ := (mem_low hh).1 he
  exact rch_in (fun e h3 h4 => (mem_low hh).2 ⟨h3, h4⟩) h2 (.one h1)
theorem low_vic (hh : Heads (upTo L last) h) : Vic (lowL L h last) v ↔ (Vic L v ∧ v ≤ last) := by
  constructor
  · intro hv
    refine ⟨hv.mono low_sub, ?_⟩
    obtain ⟨t, h1, _⟩ := hv.cyc
    exact (mem_upTo.1 ((mem_low hh).1 h1).1).2.1
  · rintro ⟨hv, hl⟩
    refine cyc_in (L := upTo L v) (fun e h3 h4 => ?_) hv
    obtain ⟨h5, h6, h7⟩ := mem_upTo.1 h3
    have hsub : ∀ e ∈ upTo L v, e ∈ upTo L last := fun e he => by rw [mem_upTo] at he ⊢; exact ⟨he.1, by omega, by omega⟩
    exact mem_upTo.2 ⟨(mem_low hh).2 ⟨hsub e h3, h4.mono hsub⟩, h6, h7⟩
theorem mem_high {e' : Ed} : e' ∈ highL L h last ↔ ∃ e ∈ L, e ∉ lowL L h last ∧ e' = ⟨h e.f, h e.t⟩ := by
  unfold highL lowL
  simp only [List.mem_map, List.mem_filter, Bool.not_eq_true']
  constructor
  · rintro ⟨e, ⟨h1, h2⟩, rfl⟩
    refine ⟨e, h1, ?_, rfl⟩
    rintro ⟨_, h3⟩
    rw [h3] at h2; cases h2
  · rintro ⟨e, h1, h2, rfl⟩; exact ⟨e, ⟨h1, by cases h3 : isLow h last e with | false => rfl | true => exact absurd ⟨h1, h3⟩ h2⟩, rfl⟩
/-- a row of edges, gone by the heads -/
theorem rch_down (hh : Heads (upTo L last) h) (hx : last ≤ x) (hr : Rch (upTo L x) a b) : Rch (upTo (highL L h last) x) (h a) (h b) := by
  induction hr with
  | refl _ => exact .refl _
  | @step a b c h1 _ ih =>
    obtain ⟨h2, h3, h4⟩ := mem_upTo.1 h1
    by_cases hlow : (⟨a, b⟩ : Ed) ∈ lowL L h last
    · have := (mem_low hh).1 hlow
      rw [hh.same a b ⟨.one this.1, this.2⟩]; exact ih
    · have hle : ∀ z, z ≤ x → h z ≤ x := fun z hz => by
        rcases Int.lt_or_le last z with h5 | h5
        · rw [head_far hh h5]; exact hz
        · have := head_le hh h5; omega
      exact .step (mem_upTo.2 ⟨mem_high.2 ⟨_, h2, hlow, rfl⟩, hle a h3, hle b h4⟩) ih
theorem tied_up (hh : Heads (upTo L last) h) (hx : last ≤ x) (a : Int) : Tied (upTo L x) a (h a) :=
  (hh.tied a).mono fun e he => by rw [mem_upTo] at he ⊢; exact ⟨he.1, by omega, by omega⟩
theorem head_up (hh : Heads (upTo L last) h) (hx : last ≤ x) (ha : h a ≤ x) : a ≤ x := by
  rcases Int.lt_or_le last a with h5 | h5
  · rw [head_far hh h5] at ha; exact ha
  · omega
/-- and back up -/
theorem rch_lift (hh : Heads (upTo L last) h) (hx : last ≤ x) {p q : Int} (hr : Rch (upTo (highL L h last) x) p q) : Rch (upTo L x) p q := by
  induction hr with
  | refl _ => exact .refl _
  | step h1 _ ih =>
    obtain ⟨h2, h3, h4⟩ := mem_upTo.1 h1
    obtain ⟨e, h5, _, h7⟩ := mem_high.1 h2
    injection h7 with h8 h9
    subst h8; subst h9
    have he : e ∈ upTo L x := mem_upTo.2 ⟨h5, head_up hh hx h3, head_up hh hx h4⟩
    exact (tied_up hh hx e.f).2.trans ((Rch.one he).trans ((tied_up hh hx e.t).1.trans ih))
theorem upTo_all {x : Int} (hx : ∀ e ∈ L, e.f ≤ x ∧ e.t ≤ x) : ∀ e ∈ L, e ∈ upTo L x := fun e he => mem_upTo.2 ⟨he, hx e he⟩
theorem has_top : ∀ L : List Ed, ∀ y : Int, ∃ x, y ≤ x ∧ ∀ e ∈ L, e.f ≤ x ∧ e.t ≤ x
  | [], y => ⟨y, by omega, by simp⟩
  | e :: l, y => by
    obtain ⟨x, h1, h2⟩ := has_top l (max y (max e.f e.t))
    refine ⟨x, by omega, fun e' he => ?_⟩
    rcases List.mem_cons.1 he with rfl | he
    · omega
    · exact h2 e' he
theorem high_inn (hh : Heads (upTo L last) h) (hL : Inn L) : Inn (highL L h last) := fun e' he => by
  obtain ⟨e, h1, h2, rfl⟩ := mem_high.1 he
  obtain ⟨x, hx1, hx2⟩ := has_top L last
  exact (rch_down hh hx1 ((hL e h1).mono (upTo_all hx2))).mono fun e he => (mem_upTo.1 he).1
theorem high_vic (hh : Heads (upTo L last) h) : Vic (highL L h last) v ↔ (Vic L v ∧ last < v) := by
  constructor
  · rintro ⟨t, h1, h2⟩
    obtain ⟨h3, h4, h5⟩ := mem_upTo.1 h1
    obtain ⟨e, h6, h7, h8⟩ := mem_high.1 h3
    injection h8 with h8 h9
    have hlt : last < v := by
      rcases Int.lt_or_le last v with h10 | h10
      · exact h10
      · exfalso
        dsimp only at h4 h5
        have hup : ∀ e' ∈ upTo (highL L h last) v, e' ∈ upTo (highL L h last) last := fun e' he' => by rw [mem_upTo] at he' ⊢; exact ⟨he'.1, by omega, by omega⟩
        have hb := rch_lift hh (Int.le_refl last) (h2.mono hup)
        have hef : e.f ≤ last := head_up hh (Int.le_refl last) (by omega)
        have het : e.t ≤ last := head_up hh (Int.le_refl last) (by omega)
        refine h7 ((mem_low hh).2 ⟨mem_upTo.2 ⟨h6, hef, het⟩, ?_⟩)
        have t1 := tied_up hh (Int.le_refl last) e.f
        have t2 := tied_up hh (Int.le_refl last) e.t
        rw [← h8] at t1
        rw [← h9] at t2
        exact t2.1.trans (hb.trans t1.2)
    refine ⟨⟨e.t, ?_, ?_⟩, hlt⟩
    · have hf : e.f = v := by
        have : last < e.f := by
          rcases Int.lt_or_le last e.f with h10 | h10
          · exact h10
          · have := head_le hh h10; omega
        rw [← head_far hh this]; exact h8.symm
      rw [← hf]
      have het : e.t ≤ v := head_up hh (Int.le_of_lt hlt) (by rw [← h9]; exact h5)
      have h11 : (⟨e.f, e.t⟩ : Ed) ∈ L := h6
      rw [hf] at h11 ⊢
      exact mem_upTo.2 ⟨h11, Int.le_refl _, het⟩
    · have t2 := tied_up hh (Int.le_of_lt hlt) e.t
      rw [← h9] at t2
      exact t2.1.trans (rch_lift hh (Int.le_of_lt hlt) h2)
  · rintro ⟨⟨t, h1, h2⟩, hlt⟩
    obtain ⟨h3, h4, h5⟩ := mem_upTo.1 h1
    have hv := head_far hh hlt
    refine ⟨h t, ?_, ?_⟩
    · have hle : h t ≤ v := by
        rcases Int.lt_or_le last t with h6 | h6
        · rw [head_far hh h6]; exact h5
        · have := head_le hh h6; omega
      refine mem_upTo.2 ⟨mem_high.2 ⟨⟨v, t⟩, h3, fun hlow => ?_, by rw [hv]⟩, Int.le_refl _, hle⟩
      have := (mem_upTo.1 ((mem_low hh).1 hlow).1).2.1
      dsimp only at this; omega
    · have := rch_down hh (Int.le_of_lt hlt) h2
      rw [hv] at this; exact this
/-! rows in order -/
def IsStuck (L : List Ed) (R : List Int) : Prop := R.Pairwise (· < ·) ∧ ∀ v, v ∈ R ↔ Cyc L v
def IsVics (L : List Ed) (R : List Int) : Prop := R.Pairwise (· > ·) ∧ ∀ v, v ∈ R ↔ Vic L v
theorem rise_ext : ∀ {A B : List Int}, A.Pairwise (· < ·) → B.Pairwise (· < ·) → (∀ v, v ∈ A ↔ v ∈ B) → A = B
  | [], [], _, _, _ => rfl
  | [], b :: B, _, _, h => by have := (h b).2 List.mem_cons_self; cases this
  | a :: A, [], _, _, h => by have := (h a).1 List.mem_cons_self; cases this
  | a :: A, b :: B, hA, hB, h => by
    obtain ⟨a1, a2⟩ := List.pairwise_cons.1 hA
    obtain ⟨b1, b2⟩ := List.pairwise_cons.1 hB
    have e : a = b := by
      rcases List.mem_cons.1 ((h a).1 List.mem_cons_self) with e | e
      · exact e
      · rcases List.mem_cons.1 ((h b).2 List.mem_cons_self) with e' | e'
        · exact e'.symm
        · have := a1 b e'; have := b1 a e; omega
    subst e
    rw [rise_ext a2 b2 fun v => ?_]
    constructor
    · intro hv
      rcases List.mem_cons.1 ((h v).1 (List.mem_cons_of_mem _ hv)) with e | e
      · have := a1 v hv; omega
      · exact e
    · intro hv
      rcases List.mem_cons.1 ((h v).2 (List.mem_cons_of_mem _ hv)) with e | e
      · have := b1 v hv; omega
      · exact e
theorem fall_ext {A B : List Int} (hA : A.Pairwise (· > ·)) (hB : B.Pairwise (· > ·)) (h : ∀ v, v ∈ A ↔ v ∈ B) : A = B := by
  have h1 := rise_ext (A := A.reverse) (B := B.reverse) (List.pairwise_reverse.2 hA) (List.pairwise_reverse.2 hB) fun v => by simp [h]
  have := congrArg List.reverse h1
  simpa using this
theorem IsStuck.uniq {A B : List Int} (h : IsStuck L A) (h' : IsStuck L B) : A = B := rise_ext h.1 h'.1 fun v => by rw [h.2, h'.2]
theorem IsVics.uniq {A B : List Int} (h : IsVics L A) (h' : IsVics L B) : A = B := fall_ext h.1 h'.1 fun v => by rw [h.2, h'.2]
theorem vics_join {A B : List Int} (hh : Heads (upTo L last) h) (hA : IsVics (highL L h last) A) (hB : IsVics (lowL L h last) B) : IsVics L (A ++ B) := by
  refine ⟨List.pairwise_append.2 ⟨hA.1, hB.1, fun a ha b hb => ?_⟩, fun v => ?_⟩
  · have h1 := ((high_vic hh).1 ((hA.2 a).1 ha)).2
    have h2 := ((low_vic hh).1 ((hB.2 b).1 hb)).2
    omega
  · rw [List.mem_append, hA.2, hB.2, high_vic hh, low_vic hh]
    constructor
    · rintro (h1 | h1) <;> exact h1.1
    · intro h1
      rcases Int.lt_or_le last v with h2 | h2
      · exact .inl ⟨h1, h2⟩
      · exact .inr ⟨h1, h2⟩
theorem cyc_to {p q : Int} (h3 : (⟨p, q⟩ : Ed) ∈ L) (h4 : Rch L q p) : Cyc L q := by
  cases h4 with
  | refl _ => exact ⟨_, h3, .refl _⟩
  | step h5 h6 => exact ⟨_, h5, h6.trans (.one h3)⟩
/-- somebody is the greatest of those that are stuck -/
theorem top_vic {k : Int} (hk : Cyc L k) (hall : ∀ v, Cyc L v → v ≤ k) : Vic L k := by
  refine cyc_in (fun e h3 h4 => ?_) hk
  have hf : Cyc L e.f := ⟨e.t, h3, h4⟩
  have ht : Cyc L e.t := cyc_to h3 h4
  exact mem_upTo.2 ⟨h3, hall _ hf, hall _ ht⟩
theorem inn_vic (hL : Inn L) (h0 : L ≠ []) : ∃ v, Vic L v := by
  -- the greatest of all ends
  have : ∀ l : List Ed, l ≠ [] → ∃ e ∈ l, ∀ e' ∈ l, e'.f ≤ e.f := by
    intro l
    induction l with
    | nil => intro h; exact absurd rfl h
    | cons e l ih =>
      intro _
      by_cases hl : l = []
      · subst hl; exact ⟨e, by simp, by simp⟩
      · obtain ⟨m, hm, h1⟩ := ih hl
        by_cases hem : e.f ≤ m.f
        · refine ⟨m, List.mem_cons_of_mem _ hm, fun e' he' => ?_⟩
          rcases List.mem_cons.1 he' with rfl | h2
          · exact hem
          · exact h1 _ h2
        · refine ⟨e, List.mem_cons_self, fun e' he' => ?_⟩
          rcases List.mem_cons.1 he' with rfl | h2
          · exact Int.le_refl _
          · have := h1 _ h2; omega
  obtain ⟨e, he, h1⟩ := this L h0
  refine ⟨e.f, top_vic ⟨e.t, he, hL e he⟩ fun v hv => ?_⟩
  obtain ⟨t, h2, _⟩ := hv
  exact h1 _ h2
/-- one name taken out -/
def without (L : List Ed) (k : Int) : List Ed := L.filter fun e => e.f != k && e.t != k
theorem mem_without {k : Int} {e : Ed} : e ∈ without L k ↔ e ∈ L ∧ e.f ≠ k ∧ e.t ≠ k := by unfold without; simp
theorem vic_without {k : Int} (hk : Cyc L k) (hall : ∀ v, Cyc L v → v ≤ k) : Vic L v ↔ (v = k ∨ Vic (without L k) v) := by
  constructor
  · intro hv
    by_cases e : v = k
    · exact .inl e
    · right
      have := hall v hv.cyc
      refine Cyc.mono hv fun e' he' => ?_
      rw [mem_upTo] at he' ⊢
      exact ⟨mem_without.2 ⟨he'.1, by omega, by omega⟩, he'.2⟩
  · rintro (rfl | hv)
    · exact top_vic hk hall
    · exact hv.mono fun e he => (mem_without.1 he).1
theorem without_less {k : Int} (hk : Cyc L k) : (without L k).length < L.length := by
  obtain ⟨t, h1, _⟩ := hk
  have h2 := List.length_filter_le (fun e : Ed => e.f != k && e.t != k) L
  rcases Nat.lt_or_ge (without L k).length L.length with h3 | h3
  · exact h3
  · have h4 : (L.filter fun e : Ed => e.f != k && e.t != k).length = L.length := Nat.le_antisymm h2 h3
    have h5 := List.length_filter_eq_length_iff.1 h4 _ h1
    simp at h5
theorem cyc_less {k : Int} (h : Cyc (without L k) v) : v ≠ k := by
  obtain ⟨t, h1, _⟩ := h
  exact (mem_without.1 h1).2.1
/-! what the statements ask -/
theorem vic_least {V : List Int} (hV : IsVics L V) (L' : List Ed) (hs : ∀ e, e ∈ L' ↔ e ∈ L ∧ e.f ∉ V ∧ e.t ∉ V) (v : Int) {R : List Int} (hR : IsStuck L' R) : v ∉ R := by
  intro hv
  have hne : R ≠ [] := fun e => by rw [e] at hv; cases hv
  -- the last of R is the greatest
  have hlast : ∀ x ∈ R, x ≤ R.getLast hne := by
    intro x hx
    have : ∀ (l : List Int) (h : l ≠ []), l.Pairwise (· < ·) → ∀ x ∈ l, x ≤ l.getLast h := by
      intro l
      induction l with
      | nil => intro h; exact absurd rfl h
      | cons a l ih =>
        intro h hp x hx
        obtain ⟨p1, p2⟩ := List.pairwise_cons.1 hp
        by_cases hl : l = []
        · subst hl; simp at hx ⊢; omega
        · rw [List.getLast_cons hl]
          rcases List.mem_cons.1 hx with rfl | hx
          · have := p1 _ (List.getLast_mem hl); omega
          · exact ih hl p2 x hx
    exact this R hne hR.1 x hx
  have hk := (hR.2 _).1 (List.getLast_mem hne)
  have hvic := top_vic hk fun x hx => hlast x ((hR.2 x).2 hx)
  have hin := (hV.2 _).2 (hvic.mono fun e he => ((hs e).1 he).1)
  obtain ⟨t, h1, _⟩ := hk
  exact ((hs _).1 h1).2.1 hin
theorem vic_stays {V : List Int} {m : Int} (hV : IsVics L (V ++ [m])) (L' : List Ed) (hs : ∀ e, e ∈ L' ↔ e ∈ L ∧ e.f ∉ V ∧ e.t ∉ V) : Cyc L' m := by
  have hm := (hV.2 m).1 (by simp)
  have hlt := (List.pairwise_append.1 hV.1).2.2
  refine Cyc.mono hm fun e he => ?_
  obtain ⟨h1, h2, h3⟩ := mem_upTo.1 he
  exact (hs e).2 ⟨h1, fun hv => by have := hlt _ hv m (by simp); omega, fun hv => by have := hlt _ hv m (by simp); omega⟩
theorem vics_same {V : List Int} (hs : ∀ e, e ∈ L ↔ e ∈ L') (h : IsVics L V) : IsVics L' V :=
  ⟨h.1, fun v => (h.2 v).trans ⟨fun h => h.mono fun e he => (hs e).1 he, fun h => h.mono fun e he => (hs e).2 he⟩⟩
theorem stuck_same {V : List Int} (hs : ∀ e, e ∈ L ↔ e ∈ L') (h : IsStuck L V) : IsStuck L' V :=
  ⟨h.1, fun v => (h.2 v).trans ⟨fun h => h.mono fun e he => (hs e).1 he, fun h => h.mono fun e he => (hs e).2 he⟩⟩
theorem rch_fall (hd : ∀ e ∈ L, e.t < e.f) (hr : Rch L a b) : b ≤ a := by
  induction hr with
  | refl _ => omega
  | step h1 _ ih => have := hd _ h1; dsimp only at this; omega
theorem fall_none (hd : ∀ e ∈ L, e.t < e.f) (v : Int) : ¬ Cyc L v := by
  rintro ⟨t, h1, h2⟩
  have := rch_fall hd h2
  have := hd _ h1
  dsimp only at this; omega
theorem stuck_none (hd : ∀ e ∈ L, e.t < e.f) : IsStuck L [] := ⟨List.Pairwise.nil, fun v => ⟨fun h => absurd h (by simp), fun h => absurd h (fall_none hd v)⟩⟩
theorem vics_none (hd : ∀ e ∈ L, e.t < e.f) : IsVics L [] := ⟨List.Pairwise.nil, fun v => ⟨fun h => absurd h (by simp), fun h => absurd (Vic.cyc h) (fall_none hd v)⟩⟩
end
end Go.Proofs.Ythodggkpkjfggaa.Knot
