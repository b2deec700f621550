/- What a walk of paths holds in memory, and how each of its steps leaves it. -/
import Derived.Test.YthodggkpkjfggaaKnotMem
namespace Go.Proofs.Ythodggkpkjfggaa.Knot
set_option maxRecDepth 100000
open Go.RowKit
open Go.Proofs.Ythodggkpkjfggaa.Mem
def nv (l : List Nat) : List Int := l.map Int.ofNat
theorem nv_len (l : List Nat) : (nv l).length = l.length := by simp [nv]
theorem nv_app (A B : List Nat) : nv (A ++ B) = nv A ++ nv B := by simp [nv]
theorem nv_at {l : List Nat} {i x : Nat} (h : l[i]? = some x) : (nv l)[i]? = some (x : Int) := by simp [nv, h]
/-- paths in memory -/
def PR (w : World) (u : Value) (n : Nat) (p : Nat → List Nat) : Prop := ∃ g, u = .slice (some ⟨g, 0, none⟩) n n ∧ g < w.heap.size ∧ ∀ k, k < n → ∃ x, w.cell? ⟨g, k, none⟩ = some x ∧ IR w x (nv (p k))
theorem PR.below {w w' : World} {u : Value} {n : Nat} {p : Nat → List Nat} (h : PR w u n p) (hb : Below w.heap.size w w') : PR w' u n p := by
  obtain ⟨g, e, h1, h2⟩ := h
  refine ⟨g, e, Nat.lt_of_lt_of_le h1 hb.size, fun k hk => ?_⟩
  obtain ⟨x, h3, h4⟩ := h2 k hk
  exact ⟨x, (hb.cell (p := ⟨g, k, none⟩) h1).trans h3, h4.below hb⟩
def xsOf (left way : List Nat) (D : List (List Nat)) : Nat → List Int
  | 0 => nv left
  | 1 => nv way.reverse
  | k + 2 => nv (D.getD k [])
def cellsOf (v : Nat → Value) (m : Nat) : List Value := (List.range m).map fun k => v (k + 2)
structure WS (w : World) (n gb gg : Nat) (W : World) (kv : Value) (D : List (List Nat)) (left way : List Nat) (been : Nat → Bool) (gone : Nat → Nat) (v : Nat → Value) : Prop where
  b : Below w.heap.size w W
  beenA : Arr W gb 4 n (fun k => .bool (been k))
  goneA : Arr W gg 3 n (fun k => .int .i64 (gone k : Int))
  ne : gb ≠ gg ∧ w.heap.size ≤ gb ∧ w.heap.size ≤ gg
  rows : RF W w.heap.size (fun b => b = gb ∨ b = gg ∨ kv.ownBlock = some b) (D.length + 2) v (xsOf left way D)
  walks : W.ownsRow w.heap.size 26 1 kv D.length (cellsOf v D.length)
  kne : kv.ownBlock ≠ some gb ∧ kv.ownBlock ≠ some gg
section
variable {w W W' w1 w2 : World} {n gb gg : Nat} {kv : Value} {D : List (List Nat)} {left way : List Nat} {been : Nat → Bool} {gone : Nat → Nat} {v : Nat → Value}
theorem WS.hX (h : WS w n gb gg W kv D left way been gone v) : ∀ b, (b = gb ∨ b = gg ∨ kv.ownBlock = some b) → b < W.heap.size := by
  rintro b (rfl | rfl | e)
  · exact h.beenA.lt
  · exact h.goneA.lt
  · exact own_lt h.walks e
/-- memory elsewhere is made -/
theorem WS.below (h : WS w n gb gg W kv D left way been gone v) (hb : Below W.heap.size W W') : WS w n gb gg W' kv D left way been gone v :=
  ⟨h.b.trans (hb.mono h.b.size), h.beenA.below hb, h.goneA.below hb, h.ne, h.rows.below hb, own_below h.walks hb, h.kne⟩
/-- a place counts as been at -/
theorem WS.been_ (h : WS w n gb gg W kv D left way been gone v) {k : Nat} (hk : k < n) : WS w n gb gg (W.setCell ⟨gb, k, none⟩ (.bool true)) kv D left way (put1 been k true) gone v := by
  refine ⟨Below.setCell h.b h.ne.2.1 _, ?_, h.goneA.far (p := ⟨gb, k, none⟩) h.ne.1.symm _, h.ne, h.rows.set_ (.inl rfl) _ _, own_set h.walks h.kne.1 _ _, h.kne⟩
  have := h.beenA.set_ hk (fun j => .bool (put1 been k true j)) (fun j => by unfold put1; by_cases e : j = k <;> simp [e])
  simpa [put1] using this
/-- one step more from a place -/
theorem WS.gone_ (h : WS w n gb gg W kv D left way been gone v) {k : Nat} (hk : k < n) (z : Nat) : WS w n gb gg (W.setCell ⟨gg, k, none⟩ (.int .i64 (z : Int))) kv D left way been (put1 gone k z) v := by
  refine ⟨Below.setCell h.b h.ne.2.2 _, h.beenA.far (p := ⟨gg, k, none⟩) h.ne.1 _, ?_, h.ne, h.rows.set_ (.inr (.inl rfl)) _ _, own_set h.walks h.kne.2 _ _, h.kne⟩
  have := h.goneA.set_ hk (fun j => .int .i64 ((put1 gone k z j : Nat) : Int)) (fun j => by unfold put1; by_cases e : j = k <;> simp [e])
  simpa [put1] using this
/-- the last one is taken off -/
theorem own_cut {B size m k c : Nat} {a : Option Addr} {T : TypeId} {xs : List Value} (h : W.ownsRow B T size (.slice a m c) m xs) (hk : k ≤ m) : W.ownsRow B T size (.slice a k c) k (xs.take (k * size)) := by
  have hl : (xs.take (k * size)).length = k * size := by rw [List.length_take, h.1]; exact Nat.min_eq_left (Nat.mul_le_mul_right _ hk)
  rcases h.2 with ⟨e, h0⟩ | ⟨g, cap, cur, e, hb, hc, h1, h2, h3, h4⟩
  · injection e with e1 e2 e3
    subst e1; subst e2; subst e3
    obtain rfl : k = 0 := by omega
    exact ⟨hl, .inl ⟨rfl, rfl⟩⟩
  · injection e with e1 e2 e3
    subst e1; subst e3
    refine ⟨hl, .inr ⟨g, c, cur, rfl, hb, hc, by omega, h2, h3, ?_⟩⟩
    rw [← h4, List.take_take, Nat.min_eq_left (Nat.mul_le_mul_right _ hk)]
theorem xs_left (x : Nat) : ∀ k, put1 (xsOf left way D) 0 (nv (left ++ [x])) k = xsOf (left ++ [x]) way D k
  | 0 => rfl
  | 1 => rfl
  | _ + 2 => rfl
theorem xs_way (way' : List Nat) : ∀ k, put1 (xsOf left way D) 1 (nv way'.reverse) k = xsOf left way' D k
  | 0 => rfl
  | 1 => rfl
  | _ + 2 => rfl
theorem cells_put (u : Value) {j : Nat} (hj : j < 2) (m : Nat) : cellsOf (put1 v j u) m = cellsOf v m := by
  unfold cellsOf
  apply List.map_congr_left
  intro k _
  unfold put1
  rw [if_neg (by omega)]
/-- the row of those left has grown -/
theorem WS.left_ (h : WS w n gb gg W kv D left way been gone v) {u : Value} {x : Nat} (hb : Below W.heap.size W w1) (ha : AppRes w1 w2 w.heap.size 3 1 (v 0) u (nv left ++ [(x : Int)]).length (iv (nv left ++ [(x : Int)]))) :
    WS w n gb gg w2 kv D (left ++ [x]) way been gone (put1 v 0 u) := by
  have e : nv left ++ [(x : Int)] = nv (left ++ [x]) := by simp [nv]
  rw [e] at ha
  obtain ⟨h1, h2⟩ := h.rows.app h.hX (k := 0) (by omega) hb ha
  have h3 : ∀ b, (b = gb ∨ b = gg ∨ kv.ownBlock = some b) → w2.heap[b]? = W.heap[b]? := fun b hb' => h2 b (h.hX b hb') (fun e => h.rows.off 0 (by omega) b e hb')
  refine ⟨?_, h.beenA.of_block (h3 _ (.inl rfl)), h.goneA.of_block (h3 _ (.inr (.inl rfl))), h.ne, h1.ext (fun _ _ => rfl) fun k _ => (xs_left x k).symm, ?_, h.kne⟩
  · exact (h.b.trans (hb.mono h.b.size)).grown ha.2.1 (Nat.le_trans h.b.size hb.size) (fun k hk => own_ge (h.rows.own 0 (by omega)) k hk)
  · rw [cells_put _ (by omega)]
    exact own_same h.walks fun g hg => h3 g (.inr (.inr hg))
/-- the way has grown -/
theorem WS.way_ (h : WS w n gb gg W kv D left way been gone v) {u : Value} {x : Nat} (hb : Below W.heap.size W w1) (ha : AppRes w1 w2 w.heap.size 3 1 (v 1) u (nv way.reverse ++ [(x : Int)]).length (iv (nv way.reverse ++ [(x : Int)]))) :
    WS w n gb gg w2 kv D left (x :: way) been gone (put1 v 1 u) := by
  have e : nv way.reverse ++ [(x : Int)] = nv (x :: way).reverse := by simp [nv]
  rw [e] at ha
  obtain ⟨h1, h2⟩ := h.rows.app h.hX (k := 1) (by omega) hb ha
  have h3 : ∀ b, (b = gb ∨ b = gg ∨ kv.ownBlock = some b) → w2.heap[b]? = W.heap[b]? := fun b hb' => h2 b (h.hX b hb') (fun e => h.rows.off 1 (by omega) b e hb')
  refine ⟨?_, h.beenA.of_block (h3 _ (.inl rfl)), h.goneA.of_block (h3 _ (.inr (.inl rfl))), h.ne, h1.ext (fun _ _ => rfl) fun k _ => (xs_way _ k).symm, ?_, h.kne⟩
  · exact (h.b.trans (hb.mono h.b.size)).grown ha.2.1 (Nat.le_trans h.b.size hb.size) (fun k hk => own_ge (h.rows.own 1 (by omega)) k hk)
  · rw [cells_put _ (by omega)]
    exact own_same h.walks fun g hg => h3 g (.inr (.inr hg))
/-- the last one of the way is left -/
theorem WS.pop {x : Nat} (h : WS w n gb gg W kv D left (x :: way) been gone v) {a : Option Addr} {c : Nat} (hv : v 1 = .slice a (way.length + 1) c) : WS w n gb gg W kv D left way been gone (put1 v 1 (.slice a way.length c)) := by
  have h1 := h.rows.own 1 (by omega)
  have hl : (xsOf left (x :: way) D 1).length = way.length + 1 := by simp [xsOf, nv]
  rw [hv, hl] at h1
  have h2 := own_cut h1 (k := way.length) (by omega)
  have e : (iv (xsOf left (x :: way) D 1)).take (way.length * 1) = iv (nv way.reverse) := by
    unfold xsOf nv iv
    simp only [List.reverse_cons, List.map_append]
    rw [List.take_left' (by simp)]
  rw [e] at h2
  have h3 : W.ownsRow w.heap.size 3 1 (.slice a way.length c) (nv way.reverse).length (iv (nv way.reverse)) := by rw [nv_len, List.length_reverse]; exact h2
  refine ⟨h.b, h.beenA, h.goneA, h.ne, (h.rows.put_ h.hX (k := 1) (by omega) h3 (fun b e => .inl (by rw [hv]; cases a <;> exact e)) fun _ _ _ => rfl).ext (fun _ _ => rfl) fun k _ => ?_, ?_, h.kne⟩
  · exact (xs_way way k).symm
  · rw [cells_put _ (by omega)]; exact h.walks
/-- a walk begins -/
theorem WS.begin_ (h : WS w n gb gg W kv D [] [] been gone v) (b : Nat) :
    WS w n gb gg (W.alloc (.cells #[.int .i64 (b : Int)] 3)) kv D [] [b] been gone (put1 v 1 (.slice (some ⟨W.heap.size, 0, none⟩) 1 1)) := by
  have hb := below_box W (.cells #[.int .i64 (b : Int)] 3)
  have h' := h.below hb
  have ho : (W.alloc (.cells #[.int .i64 (b : Int)] 3)).ownsRow w.heap.size 3 1 (.slice (some ⟨W.heap.size, 0, none⟩) 1 1) (nv [b].reverse).length (iv (nv [b].reverse)) :=
    ⟨rfl, .inr ⟨W.heap.size, 1, _, rfl, h.b.size, Blk.new W _ _, by simp [nv], by decide, rfl, rfl⟩⟩
  refine ⟨h'.b, h'.beenA, h'.goneA, h.ne, (h.rows.put_ h.hX (k := 1) (by omega) ho (fun c e => .inr ?_) fun c hc _ => hb.block c hc).ext (fun _ _ => rfl) fun k _ => (xs_way [b] k).symm, ?_, h.kne⟩
  · simp [Value.ownBlock] at e; omega
  · rw [cells_put _ (by omega)]; exact h'.walks
def pushV (v : Nat → Value) (m : Nat) (k : Nat) : Value := if k < 2 then .slice none 0 0 else if k = m + 2 then v 0 else v k
/-- the walk is one of the walks -/
theorem WS.push (h : WS w n gb gg W kv D left [] been gone v) {u : Value} (hb : Below W.heap.size W w1) (ha : AppRes w1 w2 w.heap.size 26 1 kv u (D.length + 1) (cellsOf v D.length ++ [v 0])) :
    WS w n gb gg w2 u (D ++ [left]) [] [] been gone (pushV v D.length) := by
  obtain ⟨ho, hg, hu⟩ := ha
  have hs : ∀ b, b < W.heap.size → kv.ownBlock ≠ some b → w2.heap[b]? = W.heap[b]? := fun b h1 h2 => (hg.block b (Nat.lt_of_lt_of_le h1 hb.size) (fun e => h2 e.symm)).trans (hb.block b h1)
  have hus : ∀ b, u.ownBlock = some b → kv.ownBlock = some b ∨ W.heap.size ≤ b := fun b e => by
    rcases hu with e1 | e1
    · exact .inl (by rw [← e1]; exact e)
    · rw [e1] at e; injection e with e; exact .inr (by have := hb.size; omega)
  have hgb := h.beenA.lt
  have hgg := h.goneA.lt
  have hle : (D ++ [left]).length = D.length + 1 := by simp
  have hrow : ∀ k, k < D.length + 2 → W.heap.size ≤ w2.heap.size ∧ w2.ownsRow w.heap.size 3 1 (v k) (xsOf left [] D k).length (iv (xsOf left [] D k)) := fun k hk =>
    ⟨Nat.le_trans hb.size hg.size, own_same (h.rows.own k hk) fun b e => hs b (h.rows.lt hk e) fun e1 => h.rows.off k hk b e (.inr (.inr e1))⟩
  have hnil : ∀ b, (Value.slice none 0 0).ownBlock ≠ some b := fun b e => by simp [Value.ownBlock] at e
  -- which row of before each row is
  have hsrc : ∀ k, k < D.length + 3 → 2 ≤ k → ∃ j, j < D.length + 2 ∧ pushV v D.length k = v j ∧ xsOf [] [] (D ++ [left]) k = xsOf left [] D j ∧ (j = if k = D.length + 2 then 0 else k) := by
    intro k hk h2
    obtain ⟨m, rfl⟩ : ∃ m, k = m + 2 := ⟨k - 2, by omega⟩
    unfold pushV
    rw [if_neg (by omega)]
    by_cases e : m + 2 = D.length + 2
    · rw [if_pos e, if_pos e]
      refine ⟨0, by omega, rfl, ?_, rfl⟩
      have em : m = D.length := by omega
      subst em
      simp [xsOf]
    · rw [if_neg e, if_neg e]
      refine ⟨m + 2, by omega, rfl, ?_, rfl⟩
      have : m < D.length := by omega
      simp [xsOf, List.getD, List.getElem?_append, this]
  have hlow : ∀ k, k < 2 → pushV v D.length k = .slice none 0 0 ∧ xsOf [] [] (D ++ [left]) k = [] := fun k hk => by
    rcases (show k = 0 ∨ k = 1 by omega) with rfl | rfl
    · exact ⟨rfl, rfl⟩
    · exact ⟨rfl, rfl⟩
  refine ⟨?_, h.beenA.of_block (hs gb hgb h.kne.1), h.goneA.of_block (hs gg hgg h.kne.2), h.ne, ⟨fun k hk => ?_, fun j k hj hk hjk b e1 e2 => ?_, fun k hk b e => ?_⟩, ?_, ?_⟩
  · exact (h.b.trans (hb.mono h.b.size)).grown hg (Nat.le_trans h.b.size hb.size) (fun k hk => own_ge h.walks k hk)
  · rw [hle] at hk
    by_cases h2 : k < 2
    · obtain ⟨e1, e2⟩ := hlow k h2
      rw [e1, e2]; exact own_nil _ _ _ _
    · obtain ⟨j, hj, e1, e2, _⟩ := hsrc k (by omega) (by omega)
      rw [e1, e2]; exact (hrow j hj).2
  · rw [hle] at hj hk
    by_cases h2 : j < 2
    · rw [(hlow j h2).1] at e1; exact hnil b e1
    · by_cases h3 : k < 2
      · rw [(hlow k h3).1] at e2; exact hnil b e2
      · obtain ⟨i1, hi1, f1, _, g1⟩ := hsrc j (by omega) (by omega)
        obtain ⟨i2, hi2, f2, _, g2⟩ := hsrc k (by omega) (by omega)
        rw [f1] at e1; rw [f2] at e2
        refine h.rows.sep i1 i2 hi1 hi2 ?_ b e1 e2
        rw [g1, g2]
        split <;> split <;> omega
  · rw [hle] at hk
    by_cases h2 : k < 2
    · rw [(hlow k h2).1] at e; exact absurd e (hnil b)
    · obtain ⟨j, hj, e1, _, _⟩ := hsrc k (by omega) (by omega)
      rw [e1] at e
      have h4 := h.rows.off j hj b e
      have h5 := h.rows.lt hj e
      rintro (h6 | h6 | h6)
      · exact h4 (.inl h6)
      · exact h4 (.inr (.inl h6))
      · rcases hus b h6 with h7 | h7
        · exact h4 (.inr (.inr h7))
        · omega
  · rw [hle]
    have e : cellsOf (pushV v D.length) (D.length + 1) = cellsOf v D.length ++ [v 0] := by
      unfold cellsOf
      rw [List.range_succ, List.map_append]
      congr 1
      · apply List.map_congr_left
        intro k hk
        have := List.mem_range.1 hk
        unfold pushV
        rw [if_neg (by omega), if_neg (by omega)]
      · show [pushV v D.length (D.length + 2)] = [v 0]
        unfold pushV; rw [if_neg (by omega), if_pos rfl]
    rw [e]; exact ho
  · refine ⟨fun e => ?_, fun e => ?_⟩
    · rcases hus gb e with h1 | h1
      · exact h.kne.1 h1
      · omega
    · rcases hus gg e with h1 | h1
      · exact h.kne.2 h1
      · omega
/-- how far the walk may go on, read in memory -/
def goneIn (W : World) (gg k : Nat) : Nat := match W.cell? ⟨gg, k, none⟩ with
  | some (.int _ z) => z.toNat
  | _ => 0
def lenIn : Value → Nat
  | .slice _ m _ => m
  | _ => 0
theorem WS.goneIn_ (h : WS w n gb gg W kv D left way been gone v) (p : Nat → List Nat) : steps p n (goneIn W gg) n = steps p n gone n :=
  steps_congr n fun k hk => by unfold goneIn; rw [(h.goneA.at_ hk).1]; simp
theorem WS.way_shape (h : WS w n gb gg W kv D left way been gone v) : ∃ a c, v 1 = .slice a way.length c := by
  have h1 := h.rows.own 1 (by omega)
  obtain ⟨a, c, e⟩ := own_shape h1
  refine ⟨a, c, ?_⟩
  rw [e]
  simp [xsOf, nv]
theorem WS.left_shape (h : WS w n gb gg W kv D left way been gone v) : ∃ a c, v 0 = .slice a left.length c := by
  have h1 := h.rows.own 0 (by omega)
  obtain ⟨a, c, e⟩ := own_shape h1
  refine ⟨a, c, ?_⟩
  rw [e]
  simp [xsOf, nv]
theorem WS.start (w : World) (n : Nat) {W : World} {gb gg : Nat} (hb : Below w.heap.size w W) (h1 : Arr W gb 4 n (fun _ => .bool false)) (h2 : Arr W gg 3 n (fun _ => .int .i64 0)) (hne : gb ≠ gg ∧ w.heap.size ≤ gb ∧ w.heap.size ≤ gg) :
    WS w n gb gg W (.slice none 0 0) [] [] [] (fun _ => false) (fun _ => 0) (fun _ => .slice none 0 0) := by
  have hnil : ∀ b, (Value.slice none 0 0).ownBlock ≠ some b := fun b e => by simp [Value.ownBlock] at e
  refine ⟨hb, h1, h2, hne, ⟨fun k hk => ?_, fun j k _ _ _ b e => absurd e (hnil b), fun k _ b e => absurd e (hnil b)⟩, own_nil _ _ _ _, ⟨hnil _, hnil _⟩⟩
  rcases (show k = 0 ∨ k = 1 by simp at hk; omega) with rfl | rfl
  · exact own_nil _ _ _ _
  · exact own_nil _ _ _ _
/-- all walks in memory, to be read; they lie above B -/
def WR (w : World) (B : Nat) (u : Value) (D : List (List Nat)) : Prop :=
  ∃ a c, u = .slice a D.length c ∧ (0 < D.length → ∃ g, a = some ⟨g, 0, none⟩ ∧ B ≤ g ∧ g < w.heap.size ∧ ∀ k X, D[k]? = some X → ∃ x, w.cell? ⟨g, k, none⟩ = some x ∧ IRb w B x (nv X))
theorem WR.kept {w w' : World} {B : Nat} {u : Value} {D : List (List Nat)} (h : WR w B u D) (hs : ∀ b, B ≤ b → b < w.heap.size → w'.heap[b]? = w.heap[b]?) (hz : w.heap.size ≤ w'.heap.size) : WR w' B u D := by
  obtain ⟨a, c, e, h1⟩ := h
  refine ⟨a, c, e, fun hn => ?_⟩
  obtain ⟨g, e1, h5, h2, h3⟩ := h1 hn
  refine ⟨g, e1, h5, Nat.lt_of_lt_of_le h2 hz, fun k X hX => ?_⟩
  obtain ⟨x, h6, h7⟩ := h3 k X hX
  exact ⟨x, (World.cell?_of_block (w := w) (a := ⟨g, k, none⟩) (hs g h5 h2)).trans h6, h7.kept hs hz⟩
theorem WS.read (h : WS w n gb gg W kv D left way been gone v) : WR W w.heap.size kv D := by
  rcases h.walks.2 with ⟨e, h0⟩ | ⟨g, c, cur, e, hg0, hc, h1, h2, h3, h4⟩
  · have : D = [] := List.eq_nil_of_length_eq_zero h0
    subst this
    exact ⟨none, 0, e, fun h => absurd h (Nat.lt_irrefl _)⟩
  · refine ⟨_, c, e, fun hn => ⟨g, rfl, hg0, (Array.getElem?_eq_some_iff.1 hc).1, fun k X hX => ?_⟩⟩
    have hlt := (List.getElem?_eq_some_iff.1 hX).1
    refine ⟨v (k + 2), ?_, ?_⟩
    · rw [Blk.cell (show Blk W g _ _ from hc), ← Array.getElem?_toList]
      have : (cellsOf v D.length)[k]? = some (v (k + 2)) := by simp [cellsOf, hlt]
      rw [← h4, List.getElem?_take_of_lt (by omega)] at this
      exact this
    · have h5 := IRb.of_own (h.rows.own (k + 2) (by omega))
      have e2 : xsOf left way D (k + 2) = nv X := by simp [xsOf, List.getD, hX]
      rw [e2] at h5; exact h5
end
end Go.Proofs.Ythodggkpkjfggaa.Knot
