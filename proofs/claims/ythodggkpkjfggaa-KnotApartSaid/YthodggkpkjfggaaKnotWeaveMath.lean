/- What weave makes of edges, as plain data; what it holds in memory while it goes over them. -/
import Derived.Test.YthodggkpkjfggaaKnotOnce
import Derived.Test.YthodggkpkjfggaaKnotCat
namespace Go.Proofs.Ythodggkpkjfggaa.Knot
set_option maxRecDepth 100000
open Go.RowKit
open Go.Proofs.Ythodggkpkjfggaa.Mem
def ends (L : List Ed) : List Int := L.flatMap fun e => [e.f, e.t]
theorem mem_ends {L : List Ed} {k : Int} : k ∈ ends L ↔ ∃ e ∈ L, k = e.f ∨ k = e.t := by simp [ends]
theorem ends_len : ∀ L : List Ed, (ends L).length = 2 * L.length
  | [] => rfl
  | e :: L => by
    have := ends_len L
    simp only [ends, List.flatMap_cons, List.length_append, List.length_cons, List.length_nil] at this ⊢
    omega
def ix (N : List Int) (k : Int) : Nat := N.idxOf k
def pOf (N : List Int) (L : List Ed) (x : Nat) : List Nat := (L.filter fun e => ix N e.f == x).map fun e => ix N e.t
def qOf (N : List Int) (L : List Ed) (x : Nat) : List Nat := (L.filter fun e => ix N e.t == x).map fun e => ix N e.f
section
variable {N : List Int} {L : List Ed}
theorem mem_pOf {x y : Nat} : y ∈ pOf N L x ↔ ∃ e ∈ L, ix N e.f = x ∧ ix N e.t = y := by
  unfold pOf
  simp only [List.mem_map, List.mem_filter, beq_iff_eq]
  constructor
  · rintro ⟨e, ⟨h1, h2⟩, h3⟩; exact ⟨e, h1, h2, h3⟩
  · rintro ⟨e, h1, h2, h3⟩; exact ⟨e, ⟨h1, h2⟩, h3⟩
theorem mem_qOf {x y : Nat} : y ∈ qOf N L x ↔ ∃ e ∈ L, ix N e.t = x ∧ ix N e.f = y := by
  unfold qOf
  simp only [List.mem_map, List.mem_filter, beq_iff_eq]
  constructor
  · rintro ⟨e, ⟨h1, h2⟩, h3⟩; exact ⟨e, h1, h2, h3⟩
  · rintro ⟨e, h1, h2, h3⟩; exact ⟨e, ⟨h1, h2⟩, h3⟩
theorem pq (x y : Nat) : y ∈ pOf N L x ↔ x ∈ qOf N L y := by
  rw [mem_pOf, mem_qOf]
  constructor
  · rintro ⟨e, h1, h2, h3⟩; exact ⟨e, h1, h3, h2⟩
  · rintro ⟨e, h1, h2, h3⟩; exact ⟨e, h1, h3, h2⟩
theorem pOf_snoc (e : Ed) : pOf N (L ++ [e]) = put1 (pOf N L) (ix N e.f) (pOf N L (ix N e.f) ++ [ix N e.t]) := by
  funext x
  unfold pOf put1
  by_cases h : x = ix N e.f
  · subst h; simp [List.filter_append]
  · have : ¬ ix N e.f = x := fun e => h e.symm
    simp [List.filter_append, h, this]
theorem qOf_snoc (e : Ed) : qOf N (L ++ [e]) = put1 (qOf N L) (ix N e.t) (qOf N L (ix N e.t) ++ [ix N e.f]) := by
  funext x
  unfold qOf put1
  by_cases h : x = ix N e.t
  · subst h; simp [List.filter_append]
  · have : ¬ ix N e.t = x := fun e => h e.symm
    simp [List.filter_append, h, this]
theorem pOf_len (x : Nat) : (pOf N L x).length ≤ L.length := by unfold pOf; rw [List.length_map]; exact List.length_filter_le _ _
theorem qOf_len (x : Nat) : (qOf N L x).length ≤ L.length := by unfold qOf; rw [List.length_map]; exact List.length_filter_le _ _
theorem ix_lt {k : Int} (h : k ∈ N) : ix N k < N.length := List.idxOf_lt_length_of_mem h
theorem ix_get {k : Int} (h : k ∈ N) : N.getD (ix N k) 0 = k := by
  have h1 := ix_lt h
  have h2 := List.getElem_idxOf (xs := N) (x := k) h1
  unfold ix at h1 ⊢
  simp [List.getD, h1, h2]
theorem way_of {a b : Int} (h : Rch L a b) : Way (pOf N L) Any (ix N a) (ix N b) := by
  induction h with
  | refl _ => exact .here trivial
  | step h1 _ ih => exact .on trivial (mem_pOf.2 ⟨_, h1, rfl, rfl⟩) ih
variable (hN : ∀ e ∈ L, e.f ∈ N ∧ e.t ∈ N)
include hN
theorem rch_of {x y : Nat} (h : Way (pOf N L) Any x y) : Rch L (N.getD x 0) (N.getD y 0) := by
  induction h with
  | here _ => exact .refl _
  | on _ h2 _ ih =>
    obtain ⟨e, h3, h4, h5⟩ := mem_pOf.1 h2
    rw [← h4, ix_get (hN e h3).1]
    rw [← h5, ix_get (hN e h3).2] at ih
    exact .step h3 ih
theorem p_lt (x y : Nat) (h : y ∈ pOf N L x) : y < N.length := by
  obtain ⟨e, h1, _, h3⟩ := mem_pOf.1 h
  rw [← h3]; exact ix_lt (hN e h1).2
theorem q_lt (x y : Nat) (h : y ∈ qOf N L x) : y < N.length := by
  obtain ⟨e, h1, _, h3⟩ := mem_qOf.1 h
  rw [← h3]; exact ix_lt (hN e h1).1
/-- one place of each knot is written at all its places -/
def HeadsOf (W : List (List Nat)) (hd : Nat → Nat) : Prop := ∀ X ∈ W, ∃ h, h ∈ X ∧ ∀ x ∈ X, hd x = h
theorem heads_web {W : List (List Nat)} {hd : Nat → Nat} (hk : ∀ X ∈ W, ∀ x ∈ X, ∀ y, y ∈ X ↔ (Way (pOf N L) Any x y ∧ Way (pOf N L) Any y x)) (hall : ∀ x, x < N.length → x ∈ W.flatten) (hh : HeadsOf W hd) :
    Heads L (headF N ((List.range N.length).map hd)) := by
  have hget : ∀ x, x < N.length → ((List.range N.length).map hd).getD x 0 = hd x := fun x hx => by simp [List.getD, hx]
  have hin : ∀ a b, Rch L a b → a = b ∨ (a ∈ N ∧ b ∈ N) := fun a b h => by
    rcases h.last with rfl | ⟨z, _, h2⟩
    · exact .inl rfl
    · cases h with
      | refl _ => exact .inl rfl
      | step h3 _ => exact .inr ⟨(hN _ h3).1, (hN _ h2).2⟩
  constructor
  · intro a
    unfold headF
    by_cases ha : a ∈ N
    · rw [if_pos ha]
      have hx := ix_lt ha
      obtain ⟨X, hX, hxX⟩ := List.mem_flatten.1 (hall _ hx)
      obtain ⟨h, h1, h2⟩ := hh X hX
      have e : ((List.range N.length).map hd).getD (N.idxOf a) 0 = h := by
        rw [show N.idxOf a = ix N a from rfl, hget _ hx, h2 _ hxX]
      rw [e]
      obtain ⟨w1, w2⟩ := (hk X hX _ hxX h).1 h1
      have r1 := rch_of hN w1
      have r2 := rch_of hN w2
      rw [ix_get ha] at r1 r2
      exact ⟨r1, r2⟩
    · rw [if_neg ha]; exact Tied.refl _ _
  · intro a b hab
    rcases hin a b hab.1 with rfl | ⟨ha, hb⟩
    · rfl
    · unfold headF
      rw [if_pos ha, if_pos hb]
      have hx := ix_lt ha
      have hy := ix_lt hb
      obtain ⟨X, hX, hxX⟩ := List.mem_flatten.1 (hall _ hx)
      have hyX := (hk X hX _ hxX (ix N b)).2 ⟨way_of hab.1, way_of hab.2⟩
      obtain ⟨h, h1, h2⟩ := hh X hX
      have e1 : ((List.range N.length).map hd).getD (N.idxOf a) 0 = h := by rw [show N.idxOf a = ix N a from rfl, hget _ hx, h2 _ hxX]
      have e2 : ((List.range N.length).map hd).getD (N.idxOf b) 0 = h := by rw [show N.idxOf b = ix N b from rfl, hget _ hy, h2 _ hyX]
      rw [e1, e2]
end
/-! the rows of paths, while the edges are gone over -/
structure EW (w W0 : World) (n gt gb : Nat) (Y : Nat → Prop) (W : World) (v : Nat → Value) (xs : Nat → List Int) : Prop where
  b : Below w.heap.size w W
  k : Keep Y W0 W
  tA : Arr W gt 26 n v
  bA : Arr W gb 26 n (fun k => v (n + k))
  rows : RF W w.heap.size (fun b => b = gt ∨ b = gb ∨ Y b) (n + n) v xs
  ne : gt ≠ gb ∧ w.heap.size ≤ gt ∧ w.heap.size ≤ gb ∧ ¬ Y gt ∧ ¬ Y gb
  yl : ∀ b, Y b → b < W.heap.size
section
variable {w W0 W W' w1 w2 : World} {n gt gb : Nat} {Y : Nat → Prop} {v : Nat → Value} {xs : Nat → List Int}
theorem EW.below (h : EW w W0 n gt gb Y W v xs) (hb : Below W.heap.size W W') : EW w W0 n gt gb Y W' v xs :=
  ⟨h.b.trans (hb.mono h.b.size), h.k.trans (Keep.of_below hb h.yl), h.tA.below hb, h.bA.below hb, h.rows.below hb, h.ne, fun b hb' => Nat.lt_of_lt_of_le (h.yl b hb') hb.size⟩
theorem EW.app (h : EW w W0 n gt gb Y W v xs) {k : Nat} (hk : k < n + n) {u : Value} {zs : List Int} (hb : Below W.heap.size W w1) (ha : AppRes w1 w2 w.heap.size 3 1 (v k) u zs.length (iv zs)) {g i : Nat} (hgi : (g = gt ∧ i = k ∧ k < n) ∨ (g = gb ∧ n + i = k)) :
    (w2.cell? ⟨g, i, none⟩ = some (v k) ∧ w2.frozen? ⟨g, i, none⟩ = false) ∧ EW w W0 n gt gb Y (w2.setCell ⟨g, i, none⟩ u) (put1 v k u) (put1 xs k zs) := by
  have hX : ∀ b, (b = gt ∨ b = gb ∨ Y b) → b < W.heap.size := by
    rintro b (rfl | rfl | e)
    · exact h.tA.lt
    · exact h.bA.lt
    · exact h.yl b e
  obtain ⟨h1, h2⟩ := h.rows.app hX hk hb ha
  have hs : ∀ b, (b = gt ∨ b = gb ∨ Y b) → w2.heap[b]? = W.heap[b]? := fun b hb' => h2 b (hX b hb') (fun e => h.rows.off k hk b e hb')
  have hg : g = gt ∨ g = gb := hgi.imp (fun e => e.1) fun e => e.1
  have hgX : g = gt ∨ g = gb ∨ Y g := hg.imp id fun e => .inl e
  have t1 := h.tA.of_block (hs gt (.inl rfl))
  have b1 := h.bA.of_block (hs gb (.inr (.inl rfl)))
  have hsz : W.heap.size ≤ w2.heap.size := Nat.le_trans hb.size ha.2.1.size
  have hbe : Below w.heap.size w w2 := (h.b.trans (hb.mono h.b.size)).grown ha.2.1 (Nat.le_trans h.b.size hb.size) (fun j hj => own_ge (h.rows.own k hk) j hj)
  have hkeep : Keep Y W0 w2 := ⟨hbe.os.trans (h.b.os.symm.trans h.k.os), hbe.tape.trans (h.b.tape.symm.trans h.k.tape), hbe.output.trans (h.b.output.symm.trans h.k.output), Nat.le_trans h.k.size hsz, fun b hb' => (hs b (.inr (.inr hb'))).trans (h.k.block b hb')⟩
  refine ⟨?_, Below.setCell hbe ?_ u, hkeep.set_ (fun e => ?_) _ _, ?_, ?_, h1.set_ hgX _ _, h.ne, fun b hb' => by simp; exact Nat.lt_of_lt_of_le (h.yl b hb') hsz⟩
  · rcases hgi with ⟨rfl, rfl, h4⟩ | ⟨rfl, rfl⟩
    · exact t1.at_ h4
    · exact b1.at_ (by omega)
  · show w.heap.size ≤ g
    rcases hg with e | e
    · rw [e]; exact h.ne.2.1
    · rw [e]; exact h.ne.2.2.1
  · rcases hg with e1 | e1
    · rw [e1] at e; exact h.ne.2.2.2.1 e
    · rw [e1] at e; exact h.ne.2.2.2.2 e
  · rcases hgi with ⟨rfl, rfl, h4⟩ | ⟨rfl, rfl⟩
    · have := t1.set_ (k := i) h4 (put1 v i u) (fun j => by unfold put1; by_cases e : j = i <;> simp [e])
      have e : put1 v i u i = u := if_pos rfl
      rwa [e] at this
    · obtain ⟨cs, k1, k2, k3⟩ := t1.far (p := ⟨g, i, none⟩) h.ne.1 u
      exact ⟨cs, k1, k2, fun j hj => by rw [k3 j hj]; unfold put1; rw [if_neg (by omega)]⟩
  · rcases hgi with ⟨rfl, rfl, h4⟩ | ⟨rfl, rfl⟩
    · obtain ⟨cs, k1, k2, k3⟩ := b1.far (p := ⟨g, i, none⟩) h.ne.1.symm u
      exact ⟨cs, k1, k2, fun j hj => by rw [k3 j hj]; dsimp only; unfold put1; rw [if_neg (by omega)]⟩
    · have := b1.set_ (k := i) (by omega) (fun j => put1 v (n + i) u (n + j)) (fun j => by unfold put1; by_cases e : j = i <;> simp [e])
      have e : put1 v (n + i) u (n + i) = u := if_pos rfl
      rwa [e] at this
/-- the rows at the end, to be read -/
theorem EW.readT (h : EW w W0 n gt gb Y W v xs) {p : Nat → List Nat} (hp : ∀ k, k < n → xs k = nv (p k)) : PR W (.slice (some ⟨gt, 0, none⟩) n n) n p :=
  ⟨gt, rfl, h.tA.lt, fun k hk => ⟨_, (h.tA.at_ hk).1, by have := IR.of_own (h.rows.own k (by omega)); rw [hp k hk] at this; exact this⟩⟩
theorem EW.readB (h : EW w W0 n gt gb Y W v xs) {p : Nat → List Nat} (hp : ∀ k, k < n → xs (n + k) = nv (p k)) : PR W (.slice (some ⟨gb, 0, none⟩) n n) n p :=
  ⟨gb, rfl, h.bA.lt, fun k hk => ⟨_, (h.bA.at_ hk).1, by have := IR.of_own (h.rows.own (n + k) (by omega)); rw [hp k hk] at this; exact this⟩⟩
theorem EW.start (hb : Below w.heap.size w W) (ht : Arr W gt 26 n (fun _ => .slice none 0 0)) (hbk : Arr W gb 26 n (fun _ => .slice none 0 0)) (hne : gt ≠ gb ∧ w.heap.size ≤ gt ∧ w.heap.size ≤ gb ∧ ¬ Y gt ∧ ¬ Y gb) (hk : Keep Y W0 W) (hy : ∀ b, Y b → b < W.heap.size) :
    EW w W0 n gt gb Y W (fun _ => .slice none 0 0) (fun _ => []) := by
  have hnil : ∀ b, (Value.slice none 0 0).ownBlock ≠ some b := fun b e => by simp [Value.ownBlock] at e
  exact ⟨hb, hk, ht, hbk, ⟨fun k _ => own_nil _ _ _ _, fun j k _ _ _ b e => absurd e (hnil b), fun k _ b e => absurd e (hnil b)⟩, hne, hy⟩
end
end Go.Proofs.Ythodggkpkjfggaa.Knot
