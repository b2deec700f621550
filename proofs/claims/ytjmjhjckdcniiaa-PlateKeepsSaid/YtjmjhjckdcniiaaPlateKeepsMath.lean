/- What is known of a plate, of what was synced, and of what was written later. -/
import Derived.Test.YtjmjhjckdcniiaaPlateArmsWalk
namespace Go.Proofs.Ytjmjhjckdcniiaa.Plate
open Go.RowKit
open Go.Proofs.Ytjmjhjckdcniiaa.Mem

def setF {α : Type} (V : Nat → α) (n : Nat) (x : α) : Nat → α := fun i => if i = n then x else V i
theorem setF_same {α : Type} (V : Nat → α) (n : Nat) (x : α) : setF V n x n = x := by simp [setF]
theorem setF_other {α : Type} (V : Nat → α) {n k : Nat} (x : α) (h : k ≠ n) : setF V n x k = V k := by simp [setF, h]
def lastB (d : UInt8) (l : List UInt8) : UInt8 := if l.length = 0 then d else l.getD (l.length - 1) 0

theorem last_snoc (k : Nat) (l : List Wr) (x : Wr) : lastOf k (l ++ [x]) = if x.n = k then some x.d else lastOf k l := by
  induction l with
  | nil => simp [lastOf]
  | cons y r ih =>
    rw [List.cons_append, lastOf, ih]
    by_cases h : x.n = k
    · simp [h]
    · simp [h, lastOf]
theorem last_filter (k : Nat) (l : List Wr) : lastOf k l = ((l.filter (fun x => x.n = k)).map (·.d)).getLast? := by
  induction l with
  | nil => rfl
  | cons x r ih =>
    rw [lastOf]
    by_cases h : x.n = k
    · have e : decide (x.n = k) = true := decide_eq_true h
      simp only [List.filter_cons, e, if_true, List.map_cons, List.getLast?_cons]
      rw [← ih]
      cases lastOf k r <;> simp [h]
    · have e : decide (x.n = k) = false := decide_eq_false h
      simp only [List.filter_cons, e, Bool.false_eq_true, if_false]
      rw [← ih]
      cases lastOf k r <;> simp [h]
theorem take_snoc {q : List Wr} {j : Nat} (h : j < q.length) : q.take (j + 1) = q.take j ++ [q.getD j now] := by
  rw [List.take_succ_eq_append_getElem h]
  simp [List.getD, h]
theorem set_done (F : Nat → Sec) (q : List Wr) (k : Nat) : ∀ j, j ≤ q.length → setTo F (fun _ => 1) q j k = match lastOf k (q.take j) with | some d => ⟨d, false⟩ | none => F k
  | 0, _ => by simp [setTo, lastOf]
  | j + 1, h => by
    rw [setTo, take_snoc (by omega), last_snoc]
    have ih := set_done F q k j (by omega)
    unfold fateS
    rw [if_pos rfl]
    unfold upd
    by_cases hk : (q.getD j now).n = k
    · rw [if_pos hk.symm, if_pos hk]
    · rw [if_neg (fun e => hk e.symm), if_neg hk]; exact ih
theorem set_any (F : Nat → Sec) (fate : Nat → Int) (q : List Wr) (k : Nat) : ∀ j, j ≤ q.length → setTo F fate q j k = F k ∨ ∃ x ∈ q, x.n = k ∧ (setTo F fate q j k = ⟨x.d, false⟩ ∨ setTo F fate q j k = ⟨⟨#[]⟩, true⟩)
  | 0, _ => .inl rfl
  | j + 1, h => by
    have ih := set_any F fate q k j (by omega)
    rw [setTo]
    have hm : q.getD j now ∈ q := by
      have e : q.getD j now = q[j] := by simp [List.getD, show j < q.length by omega]
      rw [e]; exact List.getElem_mem _
    unfold fateS upd
    by_cases h1 : fate j = 1
    · rw [if_pos h1]
      by_cases hk : k = (q.getD j now).n
      · right; exact ⟨_, hm, hk.symm, .inl (by rw [if_pos hk])⟩
      · simp only [if_neg hk]; exact ih
    · rw [if_neg h1]
      by_cases h2 : fate j = 2
      · rw [if_pos h2]
        by_cases hk : k = (q.getD j now).n
        · right; exact ⟨_, hm, hk.symm, .inr (by rw [if_pos hk])⟩
        · simp only [if_neg hk]; exact ih
      · rw [if_neg h2]; exact ih

structure Rel (S : PS) (f : Nat → UInt8) (L : Nat → List UInt8) (a : Nat) : Prop where
  N : S.N = 40
  sec : ∀ k, k < 40 → S.sec k = ⟨fstr 256 (f k), false⟩
  q : ∀ x ∈ S.q, ∃ b ∈ L x.n, x.d = fstr 256 b
  on : S.off = false → ∀ k, (S.q.filter (fun x => x.n = k)).map (·.d) = (L k).map (fstr 256)
  acts : S.acts ≤ a
  life : S.life ≤ 1
  lon : S.off = false → S.life = 0
  arm : S.arm ≤ 100
  ql : S.q.length ≤ a
section
variable {S : PS} {f : Nat → UInt8} {L : Nat → List UInt8} {a : Nat}
theorem Rel.mono (h : Rel S f L a) {a' : Nat} (ha : a ≤ a') : Rel S f L a' := ⟨h.N, h.sec, h.q, h.on, Nat.le_trans h.acts ha, h.life, h.lon, h.arm, Nat.le_trans h.ql ha⟩
theorem Rel.tame (h : Rel S f L a) (ha : a ≤ 1000) : Tame S := ⟨by have := h.life; omega, by have := h.acts; omega, by have := h.arm; omega, by have := h.ql; omega⟩
theorem act_facts (T : PS) : (actS T).q = T.q ∧ (actS T).N = T.N ∧ (actS T).sec = T.sec ∧ (actS T).acts = T.acts + 1 ∧ (actS T).arm ≤ T.arm ∧ ((actS T).off = false → T.off = false ∧ (actS T).life = T.life) ∧ (actS T).life ≤ T.life + 1 := by
  unfold actS offS
  split
  · exact ⟨rfl, rfl, rfl, rfl, Nat.le_refl _, fun h => ⟨h, rfl⟩, by simp⟩
  · split
    · refine ⟨rfl, rfl, rfl, rfl, by simp, fun h => by simp at h, ?_⟩
      simp only; split <;> omega
    · exact ⟨rfl, rfl, rfl, rfl, by simp, fun h => ⟨h, rfl⟩, by simp⟩
/-- an act behind which nothing else is other than it was -/
theorem Rel.act (h : Rel S f L a) (h0 : S.off = false) : Rel (actS S) f L (a + 1) := by
  obtain ⟨e1, e2, e3, e4, e5, e6, e7⟩ := act_facts S
  have hl := h.lon h0
  refine ⟨e2.trans h.N, fun k hk => by rw [e3]; exact h.sec k hk, by rw [e1]; exact h.q, fun ho => by rw [e1]; exact h.on h0, ?_, ?_, fun ho => ?_, ?_, ?_⟩
  · have := h.acts; omega
  · omega
  · have := (e6 ho).2; omega
  · have := h.arm; omega
  · rw [e1]; have := h.ql; omega
theorem Rel.put (h : Rel S f L a) (n : Nat) (b : UInt8) : Rel (putS S n (fstr 256 b)) f (setF L n (L n ++ [b])) (a + 1) := by
  refine ⟨h.N, h.sec, fun x hx => ?_, fun ho k => ?_, ?_, h.life, h.lon, h.arm, ?_⟩
  · rcases List.mem_append.1 hx with h1 | h1
    · obtain ⟨y, hy, e⟩ := h.q x h1
      refine ⟨y, ?_, e⟩
      by_cases hn : x.n = n
      · rw [hn, setF_same]; rw [hn] at hy; exact List.mem_append_left _ hy
      · rw [setF_other _ _ hn]; exact hy
    · simp at h1; subst h1
      exact ⟨b, by rw [setF_same]; simp, rfl⟩
  · have := h.on ho k
    show ((S.q ++ [(⟨n, fstr 256 b⟩ : Wr)]).filter (fun x => x.n = k)).map (·.d) = _
    rw [List.filter_append, List.map_append, this]
    by_cases hk : n = k
    · subst hk; rw [setF_same]; simp
    · rw [setF_other _ _ (fun e => hk e.symm)]; simp [hk]
  · have := h.acts; show S.acts ≤ _; omega
  · show (S.q ++ [_]).length ≤ _; have := h.ql; simp; omega
theorem Rel.more (h : Rel S f L a) (h0 : S.off = true) (n : Nat) (b : UInt8) : Rel S f (setF L n (L n ++ [b])) a := by
  refine ⟨h.N, h.sec, fun x hx => ?_, fun ho => ?_, h.acts, h.life, h.lon, h.arm, h.ql⟩
  · obtain ⟨y, hy, e⟩ := h.q x hx
    refine ⟨y, ?_, e⟩
    by_cases hn : x.n = n
    · rw [hn, setF_same]; rw [hn] at hy; exact List.mem_append_left _ hy
    · rw [setF_other _ _ hn]; exact hy
  · rw [h0] at ho; cases ho
theorem Rel.write (h : Rel S f L a) {n : Nat} (hn : n < 40) (b : UInt8) : Rel (writeS S (n : Int) (fstr 256 b)) f (setF L n (L n ++ [b])) (a + 2) := by
  cases h0 : S.off with
  | true => rw [(write_off h0).2]; exact (h.more h0 n b).mono (by omega)
  | false =>
    have hi : inS S (n : Int) = true := by unfold inS; simp [h.N]; omega
    rw [(write_ok h0 hi (fstr_size 256 b)).2]
    exact (h.put n b).act h0
theorem Rel.syncNo (h : Rel S f L a) (he : syncE S ≠ 0) : Rel (syncS S) f L (a + 1) := by
  cases h0 : S.off with
  | true => rw [(sync_off h0).2]; exact h.mono (by omega)
  | false =>
    by_cases h1 : S.arm = 1
    · rw [(sync_down h0 h1).2]; exact h.act h0
    · exact absurd (sync_done h0 h1).1 he
theorem map_last (l : List UInt8) : (l.map (fstr 256)).getLast? = if l.length = 0 then none else some (fstr 256 (l.getD (l.length - 1) 0)) := by
  rw [List.getLast?_eq_getElem?]
  by_cases h : l.length = 0
  · rw [if_pos h, List.eq_nil_of_length_eq_zero h]; rfl
  · rw [if_neg h]
    simp [List.getD, show l.length - 1 < l.length by omega]
theorem Rel.syncOk (h : Rel S f L a) (he : syncE S = 0) : Rel (syncS S) (fun k => lastB (f k) (L k)) (fun _ => []) (a + 1) := by
  cases h0 : S.off with
  | true => rw [(sync_off h0).1] at he; cases he
  | false =>
    by_cases h1 : S.arm = 1
    · rw [(sync_down h0 h1).1] at he; cases he
    · rw [(sync_done h0 h1).2]
      have hA := h.act h0
      obtain ⟨e1, e2, e3, e4, e5, e6, e7⟩ := act_facts S
      refine ⟨hA.N, fun k hk => ?_, by simp [doneS], fun _ k => by simp [doneS], hA.acts, hA.life, hA.lon, hA.arm, by simp [doneS]⟩
      show setTo (actS S).sec (fun _ => 1) (actS S).q (actS S).q.length k = _
      rw [set_done _ _ _ _ (Nat.le_refl _), List.take_length, e1, e3, last_filter, h.on h0 k, map_last]
      unfold lastB
      by_cases hl : (L k).length = 0
      · rw [if_pos hl, if_pos hl]; exact h.sec k hk
      · rw [if_neg hl, if_neg hl]
/-- what a sector holds in the end -/
def Ends (g : Nat → Sec) (f : Nat → UInt8) (L : Nat → List UInt8) (k : Nat) : Prop :=
  g k = ⟨fstr 256 (f k), false⟩ ∨ (∃ i, i < (L k).length ∧ g k = ⟨fstr 256 ((L k).getD i 0), false⟩) ∨ (0 < (L k).length ∧ g k = ⟨⟨#[]⟩, true⟩)
theorem Rel.ends (h : Rel S f L a) (fate : Nat → Int) {k : Nat} (hk : k < 40) : Ends (setTo S.sec fate S.q S.q.length) f L k := by
  rcases set_any S.sec fate S.q k S.q.length (Nat.le_refl _) with e | ⟨x, hx, hn, e⟩
  · exact .inl (e.trans (h.sec k hk))
  · obtain ⟨b, hb, hd⟩ := h.q x hx
    rw [hn] at hb
    obtain ⟨i, hi, hbi⟩ := List.mem_iff_getElem.1 hb
    rcases e with e | e
    · refine .inr (.inl ⟨i, hi, ?_⟩)
      rw [e, hd]
      have : (L k).getD i 0 = b := by simp [List.getD, hi, hbi]
      rw [this]
    · exact .inr (.inr ⟨by omega, e⟩)
end
end Go.Proofs.Ytjmjhjckdcniiaa.Plate
