/- A ring in memory. -/
import Derived.Test.YtdpaeffhddehaaaRingMath
namespace Go.Proofs.Ytdpaeffhddehaaa.RingS
set_option maxRecDepth 100000
open Go.RowKit
open Go.Proofs.Ytdpaeffhddehaaa.Mem
open Go.Proofs.Ytdpaeffhddehaaa.Ring
abbrev Thing := Th ByteArray
abbrev RState := RS ByteArray
def thC (t : Thing) : Array Value := #[.int .i64 t.key, .string t.val, .int .i64 (t.pins : Int), .bool t.fresh]
def ptrV (x : Option Thing) (a : Nat) : Value := .pointer (x.map fun _ => ⟨a, 0, none⟩)
/-- a ring in memory, that lies in none of the blocks M -/
structure RA (w : World) (p fb : Nat) (ad : Nat → Nat) (M : Nat → Prop) (S : RState) : Prop where
  blk : Blk w p 69 #[.slice (some ⟨fb, 0, none⟩) S.N S.N, .int .i64 (S.hand : Int)]
  row : ∃ cs, Blk w fb 72 cs ∧ cs.size = S.N ∧ ∀ i, i < S.N → cs[i]? = some (ptrV (S.f i) (ad i))
  th : ∀ i t, i < S.N → S.f i = some t → Blk w (ad i) 75 (thC t)
  n0 : p ≠ fb
  n1 : ∀ i t, i < S.N → S.f i = some t → ad i ≠ p ∧ ad i ≠ fb ∧ ¬ M (ad i)
  inj : ∀ i j t u, i < S.N → j < S.N → S.f i = some t → S.f j = some u → ad i = ad j → i = j
  m0 : ¬ M p
  m1 : ¬ M fb
  lt : ∀ k, M k → k < w.heap.size
  wf : S.wf
section
variable {w w' : World} {p fb : Nat} {ad : Nat → Nat} {M M' : Nat → Prop} {S : RState}
/-- others have worked on blocks M, and made some -/
theorem RA.step (h : RA w p fb ad M S) (hs : w.heap.size ≤ w'.heap.size) (hb : ∀ k, k < w.heap.size → ¬ M k → w'.heap[k]? = w.heap[k]?) (hm : ∀ k, M' k → M k ∨ (w.heap.size ≤ k ∧ k < w'.heap.size)) : RA w' p fb ad M' S := by
  obtain ⟨cs, h1, h2, h3⟩ := h.row
  have hp := h.blk.lt
  have hq := h1.lt
  refine ⟨(hb p h.blk.lt h.m0).trans h.blk, ⟨cs, (hb fb h1.lt h.m1).trans h1, h2, h3⟩, fun i t hi ht => (hb _ (h.th i t hi ht).lt (h.n1 i t hi ht).2.2).trans (h.th i t hi ht), h.n0, fun i t hi ht => ⟨(h.n1 i t hi ht).1, (h.n1 i t hi ht).2.1, ?_⟩, h.inj, ?_, ?_, ?_, h.wf⟩
  · intro hk; rcases hm _ hk with h' | h'
    · exact (h.n1 i t hi ht).2.2 h'
    · have := (h.th i t hi ht).lt; omega
  · intro hk; rcases hm _ hk with h' | h'
    · exact h.m0 h'
    · omega
  · intro hk; rcases hm _ hk with h' | h'
    · exact h.m1 h'
    · omega
  · intro k hk; rcases hm _ hk with h' | h'
    · have := h.lt k h'; omega
    · exact h'.2
theorem RA.below (h : RA w p fb ad M S) (hb : Below w.heap.size w w') : RA w' p fb ad M S := h.step hb.size (fun k hk _ => hb.block k hk) (fun _ hk => .inl hk)
theorem RA.get (h : RA w p fb ad M S) : w.cell? ⟨p, 0, none⟩ = some (.slice (some ⟨fb, 0, none⟩) S.N S.N) ∧ w.cell? ⟨p, 1, none⟩ = some (.int .i64 (S.hand : Int)) ∧ w.frozen? ⟨p, 1, none⟩ = false := ⟨h.blk.cell 0, h.blk.cell 1, h.blk.frozen 1⟩
theorem RA.at_ (h : RA w p fb ad M S) {i : Nat} (hi : i < S.N) : w.cell? ⟨fb, i, none⟩ = some (ptrV (S.f i) (ad i)) ∧ w.frozen? ⟨fb, i, none⟩ = false := by
  obtain ⟨cs, h1, h2, h3⟩ := h.row
  exact ⟨(h1.cell i).trans (h3 i hi), h1.frozen i⟩
theorem RA.on (h : RA w p fb ad M S) {i : Nat} {t : Thing} (hi : i < S.N) (ht : S.f i = some t) : w.cell? ⟨fb, i, none⟩ = some (.pointer (some ⟨ad i, 0, none⟩)) ∧ w.cell? ⟨ad i, 0, none⟩ = some (.int .i64 t.key) ∧ w.cell? ⟨ad i, 1, none⟩ = some (.string t.val) ∧ w.cell? ⟨ad i, 2, none⟩ = some (.int .i64 (t.pins : Int)) ∧ w.cell? ⟨ad i, 3, none⟩ = some (.bool t.fresh) ∧
    (w.frozen? ⟨ad i, 1, none⟩ = false ∧ w.frozen? ⟨ad i, 2, none⟩ = false ∧ w.frozen? ⟨ad i, 3, none⟩ = false) ∧ ad i ≠ p ∧ ad i ≠ fb := by
  have h1 := (h.at_ hi).1
  rw [ht] at h1
  have h2 := h.th i t hi ht
  exact ⟨h1, h2.cell 0, h2.cell 1, h2.cell 2, h2.cell 3, ⟨h2.frozen 1, h2.frozen 2, h2.frozen 3⟩, (h.n1 i t hi ht).1, (h.n1 i t hi ht).2.1⟩
theorem RA.off (h : RA w p fb ad M S) {i : Nat} (hi : i < S.N) (ht : S.f i = none) : w.cell? ⟨fb, i, none⟩ = some (.pointer none) := by
  have h1 := (h.at_ hi).1
  rw [ht] at h1
  exact h1
/-- the hand -/
theorem RA.setHand (h : RA w p fb ad M S) (n : Nat) (hn : n < S.N) : RA (w.setCell ⟨p, 1, none⟩ (.int .i64 (n : Int))) p fb ad M { S with hand := n } := by
  obtain ⟨cs, h1, h2, h3⟩ := h.row
  refine ⟨?_, ⟨cs, h1.far (p := ⟨p, 1, none⟩) (fun e => h.n0 e.symm) _, h2, h3⟩, fun i t hi ht => (h.th i t hi ht).far (p := ⟨p, 1, none⟩) (h.n1 i t hi ht).1 _, h.n0, h.n1, h.inj, h.m0, h.m1, fun k hk => by simpa using h.lt k hk, ⟨h.wf.n1, h.wf.n2, hn⟩⟩
  have := h.blk.set_ 1 (.int .i64 (n : Int))
  simpa using this
/-- a thing turned in place -/
theorem RA.setTh (h : RA w p fb ad M S) {i : Nat} {t : Thing} (hi : i < S.N) (ht : S.f i = some t) (u : Thing) (j : Nat) (v : Value) (hc : (thC t).setIfInBounds j v = thC u) : RA (w.setCell ⟨ad i, j, none⟩ v) p fb ad M (putAt S i (some u)) := by
  obtain ⟨cs, h1, h2, h3⟩ := h.row
  have hN := h.n1 i t hi ht
  have hf : ∀ k, k < S.N → ∀ t', (putAt S i (some u)).f k = some t' → (k = i ∧ t' = u) ∨ (k ≠ i ∧ S.f k = some t') := fun k _ t' hk => by
    by_cases e : k = i
    · subst e; left; refine ⟨rfl, ?_⟩; have : some u = some t' := (upF_self S.f k (some u)).symm.trans hk; cases this; rfl
    · right; exact ⟨e, (upF_other S.f (some u) e).symm.trans hk⟩
  have hf' : ∀ k, k < S.N → ∀ t', (putAt S i (some u)).f k = some t' → ∃ t'', S.f k = some t'' := fun k hk t' hkk => by
    rcases hf k hk t' hkk with ⟨rfl, _⟩ | ⟨_, e⟩
    · exact ⟨t, ht⟩
    · exact ⟨t', e⟩
  refine ⟨h.blk.far (p := ⟨ad i, j, none⟩) (fun e => hN.1 e.symm) _, ⟨cs, h1.far (p := ⟨ad i, j, none⟩) (fun e => hN.2.1 e.symm) _, h2, fun k hk => ?_⟩, fun k t' hk hk' => ?_, h.n0, fun k t' hk hk' => ?_, fun k l t' u' hk hl hk' hl' => ?_, h.m0, h.m1, fun k hk => by simpa using h.lt k hk, putAt_wf h.wf _ _⟩
  · rw [h3 k hk]
    by_cases e : k = i
    · subst e; rw [ht]; show _ = some (ptrV (upF S.f k (some u) k) (ad k)); rw [upF_self]; rfl
    · show _ = some (ptrV (upF S.f i (some u) k) (ad k)); rw [upF_other _ _ e]
  · rcases hf k hk t' hk' with ⟨rfl, rfl⟩ | ⟨e, e2⟩
    · rw [← hc]; exact (h.th k t hk ht).set_ j v
    · exact (h.th k t' hk e2).far (p := ⟨ad i, j, none⟩) (fun e3 => e (h.inj k i t' t hk hi e2 ht e3)) _
  · obtain ⟨t'', e⟩ := hf' k hk t' hk'
    exact h.n1 k t'' hk e
  · obtain ⟨t'', e⟩ := hf' k hk t' hk'
    obtain ⟨u'', e2⟩ := hf' l hl u' hl'
    exact h.inj k l t'' u'' hk hl e e2
theorem ptrV_congr (x : Option Thing) {a b : Nat} (h : x ≠ none → a = b) : ptrV x a = ptrV x b := by
  cases x with
  | none => rfl
  | some t => rw [h (by simp)]
/-- a thing in a new block, laid in a frame -/
theorem RA.lay (h : RA w p fb ad M S) {i g : Nat} {u : Thing} (hi : i < S.N) (hg : Blk w g 75 (thC u)) (hp : g ≠ p) (hfb : g ≠ fb) (hM : ¬ M g) (hfar : ∀ k t, k < S.N → S.f k = some t → ad k ≠ g) :
    RA (w.setCell ⟨fb, i, none⟩ (.pointer (some ⟨g, 0, none⟩))) p fb (fun k => if k = i then g else ad k) M (putAt S i (some u)) := by
  obtain ⟨cs, h1, h2, h3⟩ := h.row
  have hf : ∀ k, ∀ t', (putAt S i (some u)).f k = some t' → (k = i ∧ t' = u) ∨ (k ≠ i ∧ S.f k = some t') := fun k t' hk => by
    by_cases e : k = i
    · subst e; left; refine ⟨rfl, ?_⟩; have : some u = some t' := (upF_self S.f k (some u)).symm.trans hk; cases this; rfl
    · right; exact ⟨e, (upF_other S.f (some u) e).symm.trans hk⟩
  refine ⟨h.blk.far (p := ⟨fb, i, none⟩) h.n0 _, ⟨_, h1.set_ i _, (show (Array.setIfInBounds _ _ _).size = S.N by simpa using h2), fun k hk => ?_⟩, fun k t' hk hk' => ?_, h.n0, fun k t' hk hk' => ?_, fun k l t' u' hk hl hk' hl' hkl => ?_, h.m0, h.m1, fun k hk => by simpa using h.lt k hk, putAt_wf h.wf _ _⟩
  · by_cases e : k = i
    · subst e
      show _ = some (ptrV (upF S.f k (some u) k) _)
      rw [upF_self, if_pos rfl, Array.getElem?_setIfInBounds, if_pos rfl, if_pos (by rw [h2]; exact hi)]
      rfl
    · show _ = some (ptrV (upF S.f i (some u) k) _)
      rw [upF_other _ _ e, if_neg e, Array.getElem?_setIfInBounds, if_neg (fun e2 => e e2.symm)]
      exact h3 k hk
  · rcases hf k t' hk' with ⟨rfl, rfl⟩ | ⟨e, e2⟩
    · rw [if_pos rfl]; exact hg.far (p := ⟨fb, k, none⟩) hfb _
    · rw [if_neg e]; exact (h.th k t' hk e2).far (p := ⟨fb, i, none⟩) (h.n1 k t' hk e2).2.1 _
  · rcases hf k t' hk' with ⟨rfl, rfl⟩ | ⟨e, e2⟩
    · rw [if_pos rfl]; exact ⟨hp, hfb, hM⟩
    · rw [if_neg e]; exact h.n1 k t' hk e2
  · rcases hf k t' hk' with ⟨rfl, rfl⟩ | ⟨e, e2⟩ <;> rcases hf l u' hl' with ⟨rfl, rfl⟩ | ⟨e3, e4⟩
    · rfl
    · rw [if_pos rfl, if_neg e3] at hkl; exact absurd hkl.symm (hfar l u' hl e4)
    · rw [if_neg e, if_pos rfl] at hkl; exact absurd hkl (hfar k t' hk e2)
    · rw [if_neg e, if_neg e3] at hkl; exact h.inj k l t' u' hk hl e2 e4 hkl
/-- a frame made vacant -/
theorem RA.clear (h : RA w p fb ad M S) {i : Nat} : RA (w.setCell ⟨fb, i, none⟩ (.pointer none)) p fb ad M (putAt S i none) := by
  obtain ⟨cs, h1, h2, h3⟩ := h.row
  have hf : ∀ k, ∀ t', (putAt S i none).f k = some t' → k ≠ i ∧ S.f k = some t' := fun k t' hk => by
    by_cases e : k = i
    · subst e; have : none = some t' := (upF_self S.f k none).symm.trans hk; cases this
    · exact ⟨e, (upF_other S.f none e).symm.trans hk⟩
  refine ⟨h.blk.far (p := ⟨fb, i, none⟩) h.n0 _, ⟨_, h1.set_ i _, (show (Array.setIfInBounds _ _ _).size = S.N by simpa using h2), fun k hk => ?_⟩, fun k t' hk hk' => ?_, h.n0, fun k t' hk hk' => ?_, fun k l t' u' hk hl hk' hl' hkl => ?_, h.m0, h.m1, fun k hk => by simpa using h.lt k hk, putAt_wf h.wf _ _⟩
  · by_cases e : k = i
    · subst e
      show _ = some (ptrV (upF S.f k none k) _)
      rw [upF_self, Array.getElem?_setIfInBounds, if_pos rfl, if_pos (by rw [h2]; exact hk)]
      rfl
    · show _ = some (ptrV (upF S.f i none k) _)
      rw [upF_other _ _ e, Array.getElem?_setIfInBounds, if_neg (fun e2 => e e2.symm)]
      exact h3 k hk
  · obtain ⟨e, e2⟩ := hf k t' hk'
    exact (h.th k t' hk e2).far (p := ⟨fb, i, none⟩) (h.n1 k t' hk e2).2.1 _
  · exact h.n1 k t' hk (hf k t' hk').2
  · exact h.inj k l t' u' hk hl (hf k t' hk').2 (hf l u' hl').2 hkl
end
/-- a ring in memory, its own blocks unnamed -/
def RQ (w : World) (p : Nat) (M : Nat → Prop) (S : RState) : Prop := ∃ fb ad, RA w p fb ad M S
section
variable {w w' : World} {p : Nat} {M M' : Nat → Prop} {S : RState}
theorem RQ.step (h : RQ w p M S) (hs : w.heap.size ≤ w'.heap.size) (hb : ∀ k, k < w.heap.size → ¬ M k → w'.heap[k]? = w.heap[k]?) (hm : ∀ k, M' k → M k ∨ (w.heap.size ≤ k ∧ k < w'.heap.size)) : RQ w' p M' S := by
  obtain ⟨fb, ad, h⟩ := h
  exact ⟨fb, ad, h.step hs hb hm⟩
theorem RQ.below (h : RQ w p M S) (hb : Below w.heap.size w w') : RQ w' p M S := h.step hb.size (fun k hk _ => hb.block k hk) (fun _ hk => .inl hk)
theorem RQ.mono (h : RQ w p M S) (hm : ∀ k, M' k → M k) : RQ w p M' S := h.step (Nat.le_refl _) (fun _ _ _ => rfl) (fun k hk => .inl (hm k hk))
theorem RQ.alloc (h : RQ w p M S) (o : Obj) : RQ (w.alloc o) p (fun k => M k ∨ k = w.heap.size) S :=
  h.step (by simp) (fun k hk _ => Below.heap_alloc w o k hk) (fun k hk => hk.elim .inl (fun e => .inr (by simp; omega)))
theorem RQ.set_ (h : RQ w p M S) {b : Nat} (hb : M b) (i : Nat) (v : Value) : RQ (w.setCell ⟨b, i, none⟩ v) p M S :=
  h.step (by simp) (fun k _ hk => Below.heap_setCell w ⟨b, i, none⟩ v k (fun e => hk ((show k = b from e) ▸ hb))) (fun k hk => .inl hk)
theorem RQ.drewN (h : RQ w p M S) (n : Nat) : RQ (w.drewN n) p M S := h.step (Nat.le_refl _) (fun _ _ _ => rfl) (fun _ hk => .inl hk)
theorem RQ.wf (h : RQ w p M S) : S.wf := by obtain ⟨fb, ad, h⟩ := h; exact h.wf
theorem RQ.lt (h : RQ w p M S) : ∀ k, M k → k < w.heap.size := by obtain ⟨fb, ad, h⟩ := h; exact h.lt
theorem RQ.pm (h : RQ w p M S) : ¬ M p := by obtain ⟨fb, ad, h⟩ := h; exact h.m0
theorem RQ.pl (h : RQ w p M S) : p < w.heap.size := by obtain ⟨fb, ad, h⟩ := h; exact h.blk.lt
end
end Go.Proofs.Ytdpaeffhddehaaa.RingS
