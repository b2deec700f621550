/- Two ends that talk, as plain data: what holds whatever is lost, doubled, late. -/
import Derived.Test.YtbbikibkijncgaaCordOut
namespace Go.Proofs.Ytbbikibkijncgaa.Cord
set_option maxRecDepth 100000
/-- one direction: A sends, B receives; tx: what A was given, at_: what B told, pl: the datagrams that A ever sent -/
structure Half (ep : Int) (A B : CE) (tx at_ : List ByteArray) (pl : List Gm) : Prop where
  epA : A.ep = ep
  giv : A.ack + A.op.length = tx.length
  op : A.op = tx.drop A.ack
  ack : A.ack ≤ B.got
  got : B.got ≤ tx.length
  at_is : at_ = tx.take B.got
  f : ∀ x s, B.f x = some s → 1 ≤ x ∧ tx[x - 1]? = some s
  sm : ∀ s ∈ tx, s.size ≤ 1024
  pl : ∀ g ∈ pl, g.ep = ep ∧ 0 ≤ g.ak ∧ g.ak ≤ (A.got : Int) ∧ ((g.sq = 0 ∧ g.bd.size = 0) ∨ ∃ x : Nat, 1 ≤ x ∧ g.sq = (x : Int) ∧ tx[x - 1]? = some g.bd ∧ x ≤ B.got + 32)
section
variable {ep : Int} {A B : CE} {tx at_ tb ab : List ByteArray} {pl pb : List Gm}
theorem half_new (ep : Int) : Half ep (newE ep) (newE ep) [] [] [] :=
  ⟨rfl, rfl, rfl, Nat.le_refl _, Nat.le_refl _, rfl, fun x s h => (by cases h), fun s h => (by cases h), fun g h => (by cases h)⟩
/-- the sender is given a text -/
theorem Half.send (h : Half ep A B tx at_ pl) {s : ByteArray} (hs : s.size ≤ 1024) (ho : A.op.length < 32) : Half ep (sendE A s) B (tx ++ [s]) at_ pl := by
  have he : sendE A s = { A with op := A.op ++ [s] } := by unfold sendE; rw [if_pos ⟨by omega, ho⟩]
  rw [he]
  have hl : A.ack ≤ tx.length := by have := h.giv; omega
  refine ⟨h.epA, by have := h.giv; simp; omega, by show A.op ++ [s] = _; rw [List.drop_append_of_le_length hl, h.op], h.ack, by have := h.got; simp; omega, by rw [List.take_append_of_le_length h.got]; exact h.at_is, fun x t hx => ?_, fun t ht => ?_, fun g hg => ?_⟩
  · obtain ⟨h1, h2⟩ := h.f x t hx
    exact ⟨h1, by rw [List.getElem?_append_left (List.getElem?_eq_some_iff.1 h2).1]; exact h2⟩
  · rcases List.mem_append.1 ht with ht | ht
    · exact h.sm t ht
    · rw [List.mem_singleton.1 ht]; exact hs
  · obtain ⟨h1, h2, h3, h4⟩ := h.pl g hg
    refine ⟨h1, h2, h3, h4.imp id ?_⟩
    rintro ⟨x, x1, x2, x3, x4⟩
    exact ⟨x, x1, x2, by rw [List.getElem?_append_left (List.getElem?_eq_some_iff.1 x3).1]; exact x3, x4⟩
theorem send_got (e : CE) (s : ByteArray) : (sendE e s).got = e.got ∧ (sendE e s).f = e.f ∧ (sendE e s).due = e.due ∧ (sendE e s).ack = e.ack := by
  unfold sendE; split <;> exact ⟨rfl, rfl, rfl, rfl⟩
/-- the receiver's other work changes nothing for this direction -/
theorem Half.other (h : Half ep A B tx at_ pl) {B' : CE} (hg : B'.got = B.got) (hf : B'.f = B.f) : Half ep A B' tx at_ pl :=
  ⟨h.epA, h.giv, h.op, by rw [hg]; exact h.ack, by rw [hg]; exact h.got, by rw [hg]; exact h.at_is, by rw [hf]; exact h.f, h.sm, by rw [hg]; exact h.pl⟩
/-- the sender's other work -/
theorem Half.mine (h : Half ep A B tx at_ pl) {A' : CE} (he : A'.ep = A.ep) (ha : A'.ack = A.ack) (ho : A'.op = A.op) (hg : A.got ≤ A'.got) : Half ep A' B tx at_ pl :=
  ⟨he.trans h.epA, by rw [ha, ho]; exact h.giv, by rw [ha, ho]; exact h.op, by rw [ha]; exact h.ack, h.got, h.at_is, h.f, h.sm, fun g hm => by obtain ⟨h1, h2, h3, h4⟩ := h.pl g hm; exact ⟨h1, h2, by omega, h4⟩⟩
theorem outL_mem {e : CE} {g : Gm} (h : g ∈ outL e) : (e.op = [] ∧ e.due = true ∧ g = gmA e) ∨ ∃ i s, e.op[i]? = some s ∧ g = gm e i s := by
  unfold outL at h
  split at h
  · rename_i h0
    split at h
    · rename_i hd; exact .inl ⟨h0, hd, by simpa using h⟩
    · cases h
  · obtain ⟨i, hi, rfl⟩ := List.getElem_of_mem h
    have hlt : i < e.op.length := by have := gms_len e; omega
    have hx : e.op[i]? = some e.op[i] := List.getElem?_eq_getElem hlt
    refine .inr ⟨i, e.op[i], hx, ?_⟩
    have := gms_get hx
    rw [List.getElem?_eq_getElem hi] at this
    injection this
theorem Half.out (h : Half ep A B tx at_ pl) (hw : A.wf) : Half ep (outE A) B tx at_ (pl ++ outL A) := by
  refine ⟨h.epA, h.giv, h.op, h.ack, h.got, h.at_is, h.f, h.sm, fun g hg => ?_⟩
  rcases List.mem_append.1 hg with hg | hg
  · exact h.pl g hg
  · rcases outL_mem hg with ⟨_, _, rfl⟩ | ⟨i, s, hi, rfl⟩
    · exact ⟨h.epA, by simp [gmA], by simp [gmA, outE], .inl ⟨rfl, rfl⟩⟩
    · have hlt := (List.getElem?_eq_some_iff.1 hi).1
      have h32 := hw.ol
      have hk := h.ack
      refine ⟨h.epA, by simp [gm], by simp [gm, outE], .inr ⟨A.ack + 1 + i, by omega, by simp [gm], ?_, by omega⟩⟩
      rw [h.op, List.getElem?_drop] at hi
      rw [show A.ack + 1 + i - 1 = A.ack + i by omega]; exact hi
/-- a datagram of this direction is taken: it isn't refused -/
theorem Half.check (h : Half ep A B tx at_ pl) (h2 : Half ep B A tb ab pb) {g : Gm} (hg : g ∈ pl) : checkX B g = 0 := by
  obtain ⟨g1, g2, g3, g4⟩ := h.pl g hg
  have hgiv : (B.given : Int) = tb.length := by unfold CE.given; have := h2.giv; omega
  have hgot := h2.got
  have hsz : g.bd.size ≤ 1024 := by
    rcases g4 with ⟨_, h⟩ | ⟨x, _, _, h3, _⟩
    · omega
    · exact h.sm _ (List.mem_of_getElem? h3)
  rcases check_cases B g with ⟨h, _⟩ | ⟨_, h, _⟩ | ⟨_, _, h, _⟩ | ⟨_, _, _, h, _⟩ | ⟨_, _, _, _, h, _⟩ | ⟨_, hs, _, _, h, _⟩ | ⟨_, _, _, _, _, h, _⟩ | ⟨_, _, _, _, _, h⟩ | ⟨_, _, _, _, _, _, h⟩
  · exact absurd (g1.trans h2.epA.symm) h
  · rcases g4 with ⟨h0, _⟩ | ⟨x, x1, x2, _⟩ <;> omega
  · rcases g4 with ⟨h0, _⟩ | ⟨x, x1, x2, _, x4⟩ <;> omega
  · omega
  · omega
  · rcases g4 with ⟨_, h0⟩ | ⟨x, x1, x2, _⟩ <;> omega
  · omega
  · exact h
  · exact h
/-- what comes of it, for the receiver's own sending -/
theorem settle_half (h2 : Half ep B A tb ab pb) {k : Nat} (hk : k ≤ A.got) : Half ep (settleE B k) A tb ab pb := by
  unfold settleE
  split
  · exact h2
  · rename_i hlt
    have hg := h2.giv
    have ha := h2.got
    refine ⟨h2.epA, ?_, ?_, hk, h2.got, h2.at_is, h2.f, h2.sm, h2.pl⟩
    · simp; omega
    · show B.op.drop (k - B.ack) = tb.drop k
      rw [h2.op, List.drop_drop]; congr 1; omega
theorem settle_got (e : CE) (k : Nat) : (settleE e k).got = e.got ∧ (settleE e k).f = e.f ∧ (settleE e k).due = e.due ∧ (settleE e k).ep = e.ep := by
  unfold settleE; split <;> exact ⟨rfl, rfl, rfl, rfl⟩
/-- a text laid, and what is told -/
theorem Half.lay (h : Half ep A B tx at_ pl) {x : Nat} {s : ByteArray} (h1 : 1 ≤ x) (hs : tx[x - 1]? = some s) : Half ep A (layE B x s) tx at_ pl := by
  refine ⟨h.epA, h.giv, h.op, h.ack, h.got, h.at_is, fun y t hy => ?_, h.sm, h.pl⟩
  unfold layE at hy
  dsimp only at hy
  split at hy
  · unfold upd at hy
    split at hy
    · rename_i e; cases hy; subst e; exact ⟨h1, hs⟩
    · exact h.f y t hy
  · exact h.f y t hy
theorem Half.told (h : Half ep A B tx at_ pl) : Cord.told B = (tx.drop B.got).take (Cord.told B).length ∧ B.got + (Cord.told B).length ≤ tx.length := by
  have hget : ∀ i s, (Cord.told B)[i]? = some s → tx[B.got + i]? = some s := fun i s hi => by
    have := (h.f _ _ (told_get hi)).2
    rwa [show B.got + 1 + i - 1 = B.got + i by omega] at this
  have hle : B.got + (Cord.told B).length ≤ tx.length := by
    rcases Nat.eq_zero_or_pos (Cord.told B).length with h0 | h0
    · have := h.got; omega
    · have hx : (Cord.told B)[(Cord.told B).length - 1]? = some (Cord.told B)[(Cord.told B).length - 1] := List.getElem?_eq_getElem (by omega)
      have := (List.getElem?_eq_some_iff.1 (hget _ _ hx)).1
      omega
  refine ⟨?_, hle⟩
  apply List.ext_getElem?
  intro i
  rcases Nat.lt_or_ge i (Cord.told B).length with hi | hi
  · have hx : (Cord.told B)[i]? = some (Cord.told B)[i] := List.getElem?_eq_getElem hi
    rw [List.getElem?_take_of_lt hi, List.getElem?_drop, hx, hget i _ hx]
  · rw [List.getElem?_eq_none hi, List.getElem?_eq_none (by rw [List.length_take]; omega)]
theorem Half.tell (h : Half ep A B tx at_ pl) : Half ep A (tellE B) tx (at_ ++ Cord.told B) pl := by
  obtain ⟨h1, h2⟩ := h.told
  have hg := h.got
  refine ⟨h.epA, h.giv, h.op, Nat.le_trans h.ack (Nat.le_add_right _ _), h2, ?_, fun x s hx => ?_, h.sm, fun g hm => ?_⟩
  · show at_ ++ Cord.told B = tx.take (B.got + (Cord.told B).length)
    rw [List.take_add, ← h1, ← h.at_is]
  · unfold tellE stepE at hx
    dsimp only at hx
    split at hx
    · cases hx
    · exact h.f x s hx
  · obtain ⟨g1, g2, g3, g4⟩ := h.pl g hm
    refine ⟨g1, g2, g3, g4.imp id ?_⟩
    rintro ⟨x, x1, x2, x3, x4⟩
    exact ⟨x, x1, x2, x3, Nat.le_trans x4 (by show B.got + 32 ≤ B.got + (Cord.told B).length + 32; omega)⟩
/-- both directions behind a taken datagram -/
theorem Half.take (h : Half ep A B tx at_ pl) (h2 : Half ep B A tb ab pb) {g : Gm} (hg : g ∈ pl) :
    takeX B g = 0 ∧ Half ep A (takeE B g) tx (at_ ++ takeL B g) pl ∧ Half ep (takeE B g) A tb ab pb := by
  have hx := h.check h2 hg
  obtain ⟨g1, g2, g3, g4⟩ := h.pl g hg
  have hk : g.ak.toNat ≤ A.got := by omega
  have hs2 := settle_half h2 hk
  obtain ⟨s1, s2, s3, s4⟩ := settle_got B g.ak.toNat
  have hs1 := h.other s1 s2
  refine ⟨hx, ?_⟩
  unfold takeE takeL
  have hne : ¬ (checkX B g ≠ 0) := by simp [hx]
  rw [if_neg hne, if_neg hne]
  by_cases h0 : g.sq = 0
  · rw [if_pos h0, if_pos h0, List.append_nil]; exact ⟨hs1, hs2⟩
  · rw [if_neg h0, if_neg h0]
    rcases g4 with ⟨h3, _⟩ | ⟨x, x1, x2, x3, x4⟩
    · exact absurd h3 h0
    · rw [x2, Int.toNat_natCast]
      exact ⟨(hs1.lay x1 x3).tell, hs2.mine rfl rfl rfl (Nat.le_add_right _ _)⟩
end
end Go.Proofs.Ytbbikibkijncgaa.Cord
