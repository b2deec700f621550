/- How a row that rises is laid anew, one after the other, as the document's own answer does it. -/
import Derived.Test.YtcpkngkeechjeaaPastRead
namespace Go.Proofs.Ytcpkngkeechjeaa.Past
set_option maxRecDepth 100000
open Go.Proofs.Ytcpkngkeechjeaa.Ent
section
variable {K V : Type} [DecidableEq K] {lt : K → K → Bool}
/-- behind the first k: laid already, or all of them stand ahead -/
def InsD (lt : K → K → Bool) (over : Bool) (x : K) (v : V) (A : List (K × V)) (done : Bool) (N : List (K × V)) : Prop :=
  (done = false → (∀ y ∈ A, lt y.1 x = true) ∧ N = A) ∧ (done = true → (∃ y ∈ A, lt y.1 x = false) ∧ N = putK lt over x v A)
theorem ins_nil (lt : K → K → Bool) (over : Bool) (x : K) (v : V) : InsD lt over x v [] false [] := ⟨fun _ => ⟨by simp, rfl⟩, (fun h => nomatch h)⟩
theorem put_ahead (o : Order lt) {over : Bool} {x : K} {v : V} {B : List (K × V)} : ∀ {A : List (K × V)}, (∀ y ∈ A, lt y.1 x = true) → putK lt over x v (A ++ B) = A ++ putK lt over x v B
  | [], _ => rfl
  | y :: r, h => by
    have h1 := h y List.mem_cons_self
    have h2 := put_ahead o (over := over) (v := v) (B := B) (A := r) fun z hz => h z (List.mem_cons_of_mem _ hz)
    rw [List.cons_append, putK, if_neg (by rw [o.asym h1]; simp), if_neg (o.ne h1), h2, List.cons_append]
theorem put_behind (o : Order lt) {over : Bool} {x : K} {v : V} {B : List (K × V)} : ∀ {A : List (K × V)}, (∃ y ∈ A, lt y.1 x = false) → putK lt over x v (A ++ B) = putK lt over x v A ++ B
  | [], ⟨y, h, _⟩ => nomatch h
  | z :: r, ⟨y, hy, h⟩ => by
    rw [List.cons_append, putK, putK]
    split
    · rfl
    · split
      · rfl
      · rename_i h1 h2
        have : ∃ y ∈ r, lt y.1 x = false := by
          rcases List.mem_cons.1 hy with rfl | hy
          · rcases o.tri y.1 x with h3 | h3 | h3
            · rw [h] at h3; cases h3
            · exact absurd h3 h2
            · exact absurd h3 h1
          · exact ⟨y, hy, h⟩
        rw [put_behind o this, List.cons_append]
section
variable {over : Bool} {x : K} {v : V} {A N : List (K × V)} {y : K × V}
/-- what comes next stands behind it: it is laid, and that one behind -/
theorem ins_lt (o : Order lt) (h : InsD lt over x v A false N) (hl : lt x y.1 = true) : InsD lt over x v (A ++ [y]) true (N ++ [(x, v)] ++ [y]) := by
  obtain ⟨h1, rfl⟩ := h.1 rfl
  refine ⟨(fun h => nomatch h), fun _ => ⟨⟨y, by simp, o.asym hl⟩, ?_⟩⟩
  rw [put_ahead o h1, putK, if_pos hl, List.append_assoc]
  rfl
theorem ins_eq (o : Order lt) (h : InsD lt over x v A false N) (hl : y.1 = x) : InsD lt over x v (A ++ [y]) true (N ++ [if over = true then (x, v) else y]) := by
  obtain ⟨h1, rfl⟩ := h.1 rfl
  refine ⟨(fun h => nomatch h), fun _ => ⟨⟨y, by simp, by rw [hl, o.irr]⟩, ?_⟩⟩
  rw [put_ahead o h1]
  simp [putK, hl, o.irr]
theorem ins_gt (o : Order lt) (h : InsD lt over x v A false N) (hl : lt x y.1 = false) (hn : y.1 ≠ x) : InsD lt over x v (A ++ [y]) false (N ++ [y]) := by
  obtain ⟨h1, rfl⟩ := h.1 rfl
  refine ⟨fun _ => ⟨fun z hz => ?_, rfl⟩, (fun h => nomatch h)⟩
  rcases List.mem_append.1 hz with hz | hz
  · exact h1 z hz
  · rw [List.mem_singleton] at hz
    subst hz
    rcases o.tri z.1 x with h2 | h2 | h2
    · exact h2
    · exact absurd h2 hn
    · rw [hl] at h2; cases h2
theorem ins_past (o : Order lt) (h : InsD lt over x v A true N) : InsD lt over x v (A ++ [y]) true (N ++ [y]) := by
  obtain ⟨⟨z, hz, h1⟩, rfl⟩ := h.2 rfl
  exact ⟨(fun h => nomatch h), fun _ => ⟨⟨z, List.mem_append_left _ hz, h1⟩, (put_behind o ⟨z, hz, h1⟩).symm⟩⟩
/-- behind the place no one of that key comes -/
theorem ins_ne (h : InsD lt over x v A true N) (hr : Rise lt (A ++ [y])) : y.1 ≠ x := fun e => by
  obtain ⟨⟨z, hz, h1⟩, _⟩ := h.2 rfl
  have := (List.pairwise_append.1 hr).2.2 z hz y (by simp)
  rw [e, h1] at this
  cases this
theorem ins_end (o : Order lt) (h : InsD lt over x v A false N) : N ++ [(x, v)] = putK lt over x v A := by
  obtain ⟨h1, rfl⟩ := h.1 rfl
  have := put_ahead o (over := over) (x := x) (v := v) (B := []) h1
  rw [List.append_nil] at this
  rw [this]; rfl
end
theorem put_len (over : Bool) (x : K) (v : V) : ∀ L : List (K × V), (putK lt over x v L).length ≤ L.length + 1
  | [] => by simp [putK]
  | y :: r => by
    have := put_len over x v r
    unfold putK
    split
    · simp
    · split <;> simp <;> omega
end
theorem read_len (L : List Ent) (first : Int) (i : Nat) : (readN L first i).los.length ≤ i ∧ (readN L first i).dn.length ≤ i ∧ (readN L first i).pg.length ≤ i := by
  induction i with
  | zero => simp [readN, v0]
  | succ i ih =>
    unfold readN
    cases L[i]? with
    | none => dsimp only; omega
    | some x =>
      dsimp only
      unfold stepV
      split
      · omega
      · dsimp only
        refine ⟨?_, ?_, ?_⟩
        · split
          · omega
          · have := put_len (lt := lessT) true (txE x) x.lsn (readN L first i).los; omega
        · split
          · rw [List.length_append, List.length_singleton]; omega
          · omega
        · split
          · have := put_len (lt := ltI) false x.page (first + i) (readN L first i).pg; omega
          · omega
end Go.Proofs.Ytcpkngkeechjeaa.Past
