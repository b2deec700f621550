/- Plain facts on log entries: which can be, their bytes, what bytes begin with; no program is named here. -/
import Derived.Test.YtcpkngkeechjeaaNibMath
namespace Go.Proofs.Ytcpkngkeechjeaa.Ent
set_option maxRecDepth 100000
open Go.Lib (uvarint zigzag)
open Go.Proofs.Ytcpkngkeechjeaa.Nib

structure Ent where
  kind : Int
  cl : Int
  ep : Int
  n : Int
  lsn : Int
  prev : Int
  page : Int
  slot : Int
  wu : Bool
  wd : ByteArray
  iu : Bool
  id : ByteArray
  next : Int
def noE : Ent := ⟨0, 0, 0, 0, 0, 0, 0, 0, false, ⟨#[]⟩, false, ⟨#[]⟩, 0⟩

def withinB (a lo hi : Int) : Bool := decide (lo ≤ a ∧ a ≤ hi)
def knownB (c e n : Int) : Bool := withinB c 1 8 && withinB e 1 1073741824 && withinB n 1 1073741824
/-- a slot that can be -/
def fitsB (u : Bool) (d : ByteArray) : Bool := decide (d.size ≤ 200 ∧ (u = true ∨ d.size = 0))
def chB (x : Ent) : Bool := withinB x.page 0 1023 && withinB x.slot 0 31 && fitsB x.wu x.wd && fitsB x.iu x.id
def bareB (x : Ent) : Bool := decide (x.page = 0 ∧ x.slot = 0 ∧ x.wu = false ∧ x.wd.size = 0 ∧ x.iu = false ∧ x.id.size = 0 ∧ x.next = 0)
def headB (x : Ent) : Bool := knownB x.cl x.ep x.n && withinB x.lsn 1 1099511627776 && decide (0 ≤ x.prev ∧ x.prev < x.lsn)
def longB (k : Int) : Bool := decide (k = 1 ∨ k = 2)
def goodB (x : Ent) : Bool := headB x &&
  (if x.kind = 1 then decide (x.next = 0) && chB x else if x.kind = 2 then withinB x.next 0 x.prev && chB x else if x.kind = 3 ∨ x.kind = 4 then bareB x else false)

theorem good_short {x : Ent} (h : goodB x = true) (hk : longB x.kind = false) : headB x = true ∧ (x.kind = 3 ∨ x.kind = 4) ∧ bareB x = true := by
  have hk' := of_decide_eq_false hk
  unfold goodB at h
  rw [if_neg (by omega), if_neg (by omega)] at h
  by_cases c : x.kind = 3 ∨ x.kind = 4
  · rw [if_pos c] at h; simp at h; exact ⟨h.1, c, h.2⟩
  · rw [if_neg c] at h; simp at h
theorem good_long {x : Ent} (h : goodB x = true) (hk : longB x.kind = true) : headB x = true ∧ chB x = true ∧ 0 ≤ x.next ∧ x.next ≤ x.prev := by
  have hk' := of_decide_eq_true hk
  unfold goodB at h
  by_cases c : x.kind = 1
  · rw [if_pos c] at h; simp at h
    have hh := h.1
    unfold headB at hh; simp at hh
    exact ⟨h.1, h.2.2, by omega, by omega⟩
  · rw [if_neg c, if_pos (by omega)] at h; simp [withinB] at h
    exact ⟨h.1, h.2.2, h.2.1.1, h.2.1.2⟩

/-- bytes -/
def slotL (u : Bool) (d : List UInt8) : List UInt8 := if u then enc 1 ++ encStr d else enc 0
def headL (x : Ent) : List UInt8 := enc x.kind ++ enc x.cl ++ enc x.ep ++ enc x.n ++ enc x.lsn ++ enc x.prev
def tailL (x : Ent) : List UInt8 := enc x.page ++ enc x.slot ++ enc x.next ++ slotL x.wu x.wd.data.toList ++ slotL x.iu x.id.data.toList
def rawL (x : Ent) : List UInt8 := headL x ++ if longB x.kind then tailL x else []
def encE (x : Ent) : ByteArray := if goodB x then ⟨(rawL x).toArray⟩ else ⟨#[]⟩
def codeE (x : Ent) : Int := if goodB x then 0 else 1
def costE (x : Ent) : Int := if goodB x then 1 + (((rawL x).length + 231) / 232 : Nat) else 0

/-- reading: what stands behind k numbers; the k-th number; whether one of the first k was wrong -/
def restN : Nat → List UInt8 → List UInt8
  | 0, s => s
  | k + 1, s => (takeInt (restN k s)).2.1
def valN (k : Nat) (s : List UInt8) : Int := (takeInt (restN k s)).1
def wrN : Nat → List UInt8 → Bool
  | 0, _ => false
  | k + 1, s => wrN k s || !(takeInt (restN k s)).2.2

/-- a slot: used, its bytes, what stands behind it, whether it can be -/
def slotR (s : List UInt8) : Bool × List UInt8 × List UInt8 × Bool :=
  if (takeInt s).1 = 0 then (false, [], (takeInt s).2.1, (takeInt s).2.2)
  else if (takeInt s).1 = 1 then (true, (takeStr (takeInt s).2.1 200).1, (takeStr (takeInt s).2.1 200).2.1, (takeInt s).2.2 && (takeStr (takeInt s).2.1 200).2.2)
  else (false, [], (takeInt s).2.1, false)
def arr (l : List UInt8) : ByteArray := ⟨l.toArray⟩
theorem arr_list (l : List UInt8) : (arr l).data.toList = l := by simp [arr]
theorem list_arr (s : ByteArray) : arr s.data.toList = s := by apply ByteArray.ext; simp [arr]
theorem arr_size (l : List UInt8) : (arr l).size = l.length := by unfold arr; rfl

def rest9 (s : List UInt8) : List UInt8 := restN 9 s
def readX (s : List UInt8) : Ent :=
  if longB (valN 0 s) then
    ⟨valN 0 s, valN 1 s, valN 2 s, valN 3 s, valN 4 s, valN 5 s, valN 6 s, valN 7 s, (slotR (restN 9 s)).1, arr (slotR (restN 9 s)).2.1,
      (slotR (slotR (restN 9 s)).2.2.1).1, arr (slotR (slotR (restN 9 s)).2.2.1).2.1, valN 8 s⟩
  else ⟨valN 0 s, valN 1 s, valN 2 s, valN 3 s, valN 4 s, valN 5 s, 0, 0, false, arr [], false, arr [], 0⟩
def readT (s : List UInt8) : List UInt8 := if longB (valN 0 s) then (slotR (slotR (restN 9 s)).2.2.1).2.2.1 else restN 6 s
def readW (s : List UInt8) : Bool := if longB (valN 0 s) then (wrN 9 s || !(slotR (restN 9 s)).2.2.2) || !(slotR (slotR (restN 9 s)).2.2.1).2.2.2 else wrN 6 s
def decB (s : List UInt8) : Bool := !readW s && goodB (readX s)
def decX (s : List UInt8) : Ent := if decB s then readX s else noE
def decT (s : List UInt8) : List UInt8 := if decB s then readT s else []
def decC (s : List UInt8) : Int := if decB s then 0 else 4

theorem wrN_mono {j k : Nat} (s : List UInt8) (h : j ≤ k) (hw : wrN j s = true) : wrN k s = true := by
  induction h with
  | refl => exact hw
  | step h ih => simp [wrN, ih]
theorem wrN_ok {j k : Nat} {s : List UInt8} (h : j < k) (hw : wrN k s = false) : (takeInt (restN j s)).2.2 = true := by
  cases e : (takeInt (restN j s)).2.2 with
  | true => rfl
  | false =>
    have := wrN_mono s (show j + 1 ≤ k from h) (by simp [wrN, e])
    rw [this] at hw; exact absurd hw (by simp)
theorem restN_form {j k : Nat} {s : List UInt8} (h : j < k) (hw : wrN k s = false) : restN j s = enc (valN j s) ++ restN (j + 1) s :=
  (takeInt_form (wrN_ok h hw)).1
theorem valN_fits (k : Nat) (s : List UInt8) : Fits (valN k s) := takeInt_fits _
theorem restN_len (k : Nat) (s : List UInt8) : (restN k s).length ≤ s.length := by
  induction k with
  | zero => exact Nat.le_refl _
  | succ k ih => exact Nat.le_trans (takeInt_len _) ih

theorem one_ne_zero' : ¬ ((1 : Int) = 0) := by omega
theorem takeStr_one {s : List UInt8} {most : Int} (h : (takeStr s most).2.2 = true) : s = encStr (takeStr s most).1 ++ (takeStr s most).2.1 ∧ ((takeStr s most).1.length : Int) ≤ most := by
  unfold takeStr at h ⊢
  by_cases c : (takeInt s).2.2 = true ∧ 0 ≤ (takeInt s).1 ∧ (takeInt s).1 ≤ most ∧ (takeInt s).1 ≤ (takeInt s).2.1.length
  · rw [if_pos c]
    obtain ⟨h1, h2, h3, h4⟩ := c
    have hf := (takeInt_form h1).1
    have hl : ((List.take (takeInt s).1.toNat (takeInt s).2.1).length : Int) = (takeInt s).1 := by rw [List.length_take]; omega
    refine ⟨?_, by simp only; rw [hl]; exact h3⟩
    simp only
    unfold encStr
    rw [hl, List.append_assoc, List.take_append_drop]
    exact hf
  · rw [if_neg c] at h; simp at h

theorem slotR_form {s : List UInt8} (h : (slotR s).2.2.2 = true) : s = slotL (slotR s).1 (slotR s).2.1 ++ (slotR s).2.2.1 ∧ (slotR s).2.1.length ≤ 200 ∧ ((slotR s).1 = true ∨ (slotR s).2.1.length = 0) := by
  unfold slotR at h ⊢
  by_cases c0 : (takeInt s).1 = 0
  · rw [if_pos c0] at h ⊢
    have hf := (takeInt_form h).1
    rw [c0] at hf
    exact ⟨by simpa [slotL] using hf, by simp, .inr rfl⟩
  · rw [if_neg c0] at h ⊢
    by_cases c1 : (takeInt s).1 = 1
    · rw [if_pos c1] at h ⊢
      simp only [Bool.and_eq_true] at h
      have hf := (takeInt_form h.1).1
      obtain ⟨h2, h3⟩ := takeStr_one h.2
      rw [c1] at hf
      refine ⟨?_, by simp only; omega, .inl rfl⟩
      simp only [slotL, if_true]
      rw [List.append_assoc, ← h2]
      exact hf
    · rw [if_neg c1] at h; simp at h

theorem fits0 : Fits 0 := ⟨by omega, by omega⟩
theorem fits1 : Fits 1 := ⟨by omega, by omega⟩
theorem slotR_back {u : Bool} {d : ByteArray} (h : fitsB u d = true) (t : List UInt8) : slotR (slotL u d.data.toList ++ t) = (u, d.data.toList, t, true) := by
  have h' := of_decide_eq_true h
  unfold slotR
  cases u with
  | false =>
    have e : slotL false d.data.toList ++ t = enc 0 ++ t := rfl
    rw [e, takeInt_enc fits0]
    have hd : d.data.toList = [] := by
      have : d.data.toList.length = 0 := by have := h'.2; simp at this ⊢; omega
      exact List.eq_nil_of_length_eq_zero this
    rw [hd]; rfl
  | true =>
    have e : slotL true d.data.toList ++ t = enc 1 ++ (encStr d.data.toList ++ t) := by simp [slotL]
    have hl : d.data.toList.length = d.size := by simp
    rw [e, takeInt_enc fits1]
    simp only
    rw [if_neg one_ne_zero', if_pos trivial, takeStr_enc (by omega) t (by omega)]
    rfl

/-- the parts of a good head -/
theorem head_parts {x : Ent} (h : headB x = true) : (1 ≤ x.cl ∧ x.cl ≤ 8) ∧ (1 ≤ x.ep ∧ x.ep ≤ 1073741824) ∧ (1 ≤ x.n ∧ x.n ≤ 1073741824) ∧ (1 ≤ x.lsn ∧ x.lsn ≤ 1099511627776) ∧ 0 ≤ x.prev ∧ x.prev < x.lsn := by
  simp only [headB, knownB, withinB, Bool.and_eq_true, decide_eq_true_eq] at h
  exact ⟨h.1.1.1.1, h.1.1.1.2, h.1.1.2, h.1.2, h.2⟩
theorem ch_parts {x : Ent} (h : chB x = true) : (0 ≤ x.page ∧ x.page ≤ 1023) ∧ (0 ≤ x.slot ∧ x.slot ≤ 31) ∧ fitsB x.wu x.wd = true ∧ fitsB x.iu x.id = true := by
  simp only [chB, withinB, Bool.and_eq_true, decide_eq_true_eq] at h
  exact ⟨h.1.1.1, h.1.1.2, h.1.2, h.2⟩
theorem kind_fits {x : Ent} (h : goodB x = true) : 1 ≤ x.kind ∧ x.kind ≤ 4 := by
  cases hk : longB x.kind with
  | false => have := (good_short h hk).2.1; omega
  | true => have := of_decide_eq_true hk; omega

/-- what the first numbers of a good entry's bytes are -/
theorem rest_head {x : Ent} (h : headB x = true) (hk : 1 ≤ x.kind ∧ x.kind ≤ 4) (t : List UInt8) :
    valN 0 (headL x ++ t) = x.kind ∧ valN 1 (headL x ++ t) = x.cl ∧ valN 2 (headL x ++ t) = x.ep ∧ valN 3 (headL x ++ t) = x.n ∧ valN 4 (headL x ++ t) = x.lsn ∧ valN 5 (headL x ++ t) = x.prev ∧ restN 6 (headL x ++ t) = t ∧ wrN 6 (headL x ++ t) = false := by
  obtain ⟨h1, h2, h3, h4, h5, h6⟩ := head_parts h
  have e0 : takeInt (restN 0 (headL x ++ t)) = (x.kind, enc x.cl ++ (enc x.ep ++ (enc x.n ++ (enc x.lsn ++ (enc x.prev ++ t)))), true) := by
    simp only [restN, headL, List.append_assoc]
    exact takeInt_enc ⟨by omega, by omega⟩ _
  have r1 : restN 1 (headL x ++ t) = enc x.cl ++ (enc x.ep ++ (enc x.n ++ (enc x.lsn ++ (enc x.prev ++ t)))) := by rw [restN, e0]
  have e1 : takeInt (restN 1 (headL x ++ t)) = (x.cl, enc x.ep ++ (enc x.n ++ (enc x.lsn ++ (enc x.prev ++ t))), true) := by rw [r1]; exact takeInt_enc ⟨by omega, by omega⟩ _
  have r2 : restN 2 (headL x ++ t) = enc x.ep ++ (enc x.n ++ (enc x.lsn ++ (enc x.prev ++ t))) := by rw [restN, e1]
  have e2 : takeInt (restN 2 (headL x ++ t)) = (x.ep, enc x.n ++ (enc x.lsn ++ (enc x.prev ++ t)), true) := by rw [r2]; exact takeInt_enc ⟨by omega, by omega⟩ _
  have r3 : restN 3 (headL x ++ t) = enc x.n ++ (enc x.lsn ++ (enc x.prev ++ t)) := by rw [restN, e2]
  have e3 : takeInt (restN 3 (headL x ++ t)) = (x.n, enc x.lsn ++ (enc x.prev ++ t), true) := by rw [r3]; exact takeInt_enc ⟨by omega, by omega⟩ _
  have r4 : restN 4 (headL x ++ t) = enc x.lsn ++ (enc x.prev ++ t) := by rw [restN, e3]
  have e4 : takeInt (restN 4 (headL x ++ t)) = (x.lsn, enc x.prev ++ t, true) := by rw [r4]; exact takeInt_enc ⟨by omega, by omega⟩ _
  have r5 : restN 5 (headL x ++ t) = enc x.prev ++ t := by rw [restN, e4]
  have e5 : takeInt (restN 5 (headL x ++ t)) = (x.prev, t, true) := by rw [r5]; exact takeInt_enc ⟨by omega, by omega⟩ _
  refine ⟨by unfold valN; rw [e0], by unfold valN; rw [e1], by unfold valN; rw [e2], by unfold valN; rw [e3], by unfold valN; rw [e4], by unfold valN; rw [e5], by rw [restN, e5], ?_⟩
  simp [wrN, e0, e1, e2, e3, e4, e5]
theorem rest_tail {x : Ent} (hp : 0 ≤ x.page ∧ x.page ≤ 1023) (hs : 0 ≤ x.slot ∧ x.slot ≤ 31) (hn : 0 ≤ x.next ∧ x.next ≤ 1099511627776) {s t : List UInt8} (h6 : restN 6 s = enc x.page ++ (enc x.slot ++ (enc x.next ++ t))) (hw : wrN 6 s = false) :
    valN 6 s = x.page ∧ valN 7 s = x.slot ∧ valN 8 s = x.next ∧ restN 9 s = t ∧ wrN 9 s = false := by
  have e6 : takeInt (restN 6 s) = (x.page, enc x.slot ++ (enc x.next ++ t), true) := by rw [h6]; exact takeInt_enc ⟨by omega, by omega⟩ _
  have r7 : restN 7 s = enc x.slot ++ (enc x.next ++ t) := by rw [restN, e6]
  have e7 : takeInt (restN 7 s) = (x.slot, enc x.next ++ t, true) := by rw [r7]; exact takeInt_enc ⟨by omega, by omega⟩ _
  have r8 : restN 8 s = enc x.next ++ t := by rw [restN, e7]
  have e8 : takeInt (restN 8 s) = (x.next, t, true) := by rw [r8]; exact takeInt_enc ⟨by omega, by omega⟩ _
  refine ⟨by unfold valN; rw [e6], by unfold valN; rw [e7], by unfold valN; rw [e8], by rw [restN, e8], ?_⟩
  rw [wrN, wrN, wrN, hw, e6, e7, e8]; rfl

theorem size_zero {d : ByteArray} (h : d.size = 0) : d = ⟨#[]⟩ := by
  apply ByteArray.ext
  apply Array.eq_empty_of_size_eq_zero
  exact h
/-- written, an entry is read as itself -/
theorem read_back {x : Ent} (h : goodB x = true) (t : List UInt8) : readX (rawL x ++ t) = x ∧ readT (rawL x ++ t) = t ∧ readW (rawL x ++ t) = false := by
  have hk := kind_fits h
  cases hl : longB x.kind with
  | false =>
    obtain ⟨hh, _, hb⟩ := good_short h hl
    have e : rawL x = headL x := by unfold rawL; rw [hl]; simp
    rw [e]
    obtain ⟨v0, v1, v2, v3, v4, v5, r6, w6⟩ := rest_head hh hk t
    unfold readX readT readW
    rw [v0, hl]
    simp only [Bool.false_eq_true, if_false]
    refine ⟨?_, r6, w6⟩
    rw [v1, v2, v3, v4, v5]
    obtain ⟨b1, b2, b3, b4, b5, b6, b7⟩ := of_decide_eq_true hb
    obtain ⟨kind, cl, ep, n, lsn, prev, page, slot, wu, wd, iu, id, next⟩ := x
    simp only at b1 b2 b3 b4 b5 b6 b7
    subst b1 b2 b3 b5 b7
    rw [show wd = ⟨#[]⟩ from size_zero b4, show id = ⟨#[]⟩ from size_zero b6]
    rfl
  | true =>
    obtain ⟨hh, hc, hn⟩ := good_long h hl
    obtain ⟨p1, p2, p3, p4⟩ := ch_parts hc
    have hp := head_parts hh
    have e : rawL x ++ t = headL x ++ (enc x.page ++ (enc x.slot ++ (enc x.next ++ (slotL x.wu x.wd.data.toList ++ (slotL x.iu x.id.data.toList ++ t))))) := by
      unfold rawL; rw [hl]; simp [tailL]
    rw [e]
    obtain ⟨v0, v1, v2, v3, v4, v5, r6, w6⟩ := rest_head hh hk (enc x.page ++ (enc x.slot ++ (enc x.next ++ (slotL x.wu x.wd.data.toList ++ (slotL x.iu x.id.data.toList ++ t)))))
    generalize headL x ++ (enc x.page ++ (enc x.slot ++ (enc x.next ++ (slotL x.wu x.wd.data.toList ++ (slotL x.iu x.id.data.toList ++ t))))) = s at v0 v1 v2 v3 v4 v5 r6 w6
    obtain ⟨v6, v7, v8, r9, w9⟩ := rest_tail p1 p2 ⟨by omega, by omega⟩ r6 w6
    unfold readX readT readW
    rw [v0, hl]
    simp only [if_true]
    rw [r9, slotR_back p3]
    simp only
    rw [slotR_back p4, v1, v2, v3, v4, v5, v6, v7, v8, w9]
    refine ⟨?_, rfl, rfl⟩
    simp only [list_arr]
theorem dec_back {x : Ent} (h : goodB x = true) (t : List UInt8) : decX (rawL x ++ t) = x ∧ decT (rawL x ++ t) = t ∧ decC (rawL x ++ t) = 0 := by
  obtain ⟨h1, h2, h3⟩ := read_back h t
  have hb : decB (rawL x ++ t) = true := by unfold decB; rw [h1, h3, h]; rfl
  unfold decX decT decC
  rw [hb]
  exact ⟨h1, h2, rfl⟩

/-- what is read was written so -/
theorem dec_form {s : List UInt8} (h : decB s = true) : goodB (readX s) = true ∧ s = rawL (readX s) ++ readT s := by
  unfold decB at h
  simp only [Bool.and_eq_true, Bool.not_eq_true'] at h
  obtain ⟨hw, hg⟩ := h
  refine ⟨hg, ?_⟩
  cases hl : longB (valN 0 s) with
  | false =>
    have hw6 : wrN 6 s = false := by unfold readW at hw; rw [hl] at hw; simpa using hw
    have f0 := restN_form (j := 0) (by omega) hw6
    have f1 := restN_form (j := 1) (by omega) hw6
    have f2 := restN_form (j := 2) (by omega) hw6
    have f3 := restN_form (j := 3) (by omega) hw6
    have f4 := restN_form (j := 4) (by omega) hw6
    have f5 := restN_form (j := 5) (by omega) hw6
    have ek : longB (readX s).kind = false := by unfold readX; rw [hl]; exact hl
    unfold rawL; rw [ek]
    unfold readT readX headL; rw [hl]
    simp only [Bool.false_eq_true, if_false, List.append_nil, List.append_assoc]
    rw [← f5, ← f4, ← f3, ← f2, ← f1, ← f0]; rfl
  | true =>
    have hw' : ((wrN 9 s || !(slotR (restN 9 s)).2.2.2) || !(slotR (slotR (restN 9 s)).2.2.1).2.2.2) = false := by unfold readW at hw; rw [hl] at hw; exact hw
    simp only [Bool.or_eq_false_iff, Bool.not_eq_false'] at hw'
    obtain ⟨⟨hw9, hs1⟩, hs2⟩ := hw'
    obtain ⟨g1, _, _⟩ := slotR_form hs1
    obtain ⟨g2, _, _⟩ := slotR_form hs2
    have f0 := restN_form (j := 0) (by omega) hw9
    have f1 := restN_form (j := 1) (by omega) hw9
    have f2 := restN_form (j := 2) (by omega) hw9
    have f3 := restN_form (j := 3) (by omega) hw9
    have f4 := restN_form (j := 4) (by omega) hw9
    have f5 := restN_form (j := 5) (by omega) hw9
    have f6 := restN_form (j := 6) (by omega) hw9
    have f7 := restN_form (j := 7) (by omega) hw9
    have f8 := restN_form (j := 8) (by omega) hw9
    have ek : longB (readX s).kind = true := by unfold readX; rw [hl]; exact hl
    unfold rawL; rw [ek]
    unfold readT readX headL tailL; rw [hl]
    simp only [if_true, List.append_assoc, arr_list]
    rw [← g2, ← g1, ← f8, ← f7, ← f6, ← f5, ← f4, ← f3, ← f2, ← f1, ← f0]; rfl
theorem dec_parts (s : List UInt8) : (decC s = 0 ∧ goodB (decX s) = true ∧ s = rawL (decX s) ++ decT s) ∨ (decC s = 4 ∧ decX s = noE ∧ decT s = []) := by
  cases h : decB s with
  | true =>
    left
    obtain ⟨h1, h2⟩ := dec_form h
    unfold decC decX decT; rw [h]
    exact ⟨rfl, h1, h2⟩
  | false =>
    right
    unfold decC decX decT; rw [h]
    exact ⟨rfl, rfl, rfl⟩

theorem enc_len {n : Int} {k : Nat} (h0 : 0 ≤ n) (h : 2 * n < (128 ^ (k + 1) : Nat)) : (enc n).length ≤ k + 1 := by
  unfold enc
  rw [uv_iff]
  unfold zigzag
  rw [if_pos h0]
  omega
theorem slotL_len {u : Bool} {d : ByteArray} (h : fitsB u d = true) : (slotL u d.data.toList).length ≤ 203 := by
  have h' := of_decide_eq_true h
  unfold slotL
  cases u with
  | false => simp only [Bool.false_eq_true, if_false]; have := enc_len (n := 0) (k := 0) (by omega) (by omega); omega
  | true =>
    have h1 := enc_len (n := 1) (k := 0) (by omega) (by omega)
    have hl : d.data.toList.length = d.size := by simp
    have h2 := enc_len (n := (d.data.toList.length : Int)) (k := 1) (by omega) (by omega)
    simp only [if_true, encStr, List.length_append]
    omega
theorem raw_len {x : Ent} (h : goodB x = true) : 6 ≤ (rawL x).length ∧ (rawL x).length ≤ 464 := by
  have hk := kind_fits h
  have hh : headB x = true := by unfold goodB at h; simp only [Bool.and_eq_true] at h; exact h.1
  obtain ⟨h1, h2, h3, h4, h5, h6⟩ := head_parts hh
  have e0 := enc_len (n := x.kind) (k := 0) (by omega) (by omega)
  have e1 := enc_len (n := x.cl) (k := 0) (by omega) (by omega)
  have e2 := enc_len (n := x.ep) (k := 4) (by omega) (by omega)
  have e3 := enc_len (n := x.n) (k := 4) (by omega) (by omega)
  have e4 := enc_len (n := x.lsn) (k := 5) (by omega) (by omega)
  have e5 := enc_len (n := x.prev) (k := 5) (by omega) (by omega)
  have p0 := enc_pos x.kind
  have p1 := enc_pos x.cl
  have p2 := enc_pos x.ep
  have p3 := enc_pos x.n
  have p4 := enc_pos x.lsn
  have p5 := enc_pos x.prev
  cases hl : longB x.kind with
  | false =>
    unfold rawL headL; rw [hl]
    simp only [List.length_append, Bool.false_eq_true, if_false, List.length_nil]
    omega
  | true =>
    obtain ⟨_, hc, hn⟩ := good_long h hl
    obtain ⟨c1, c2, c3, c4⟩ := ch_parts hc
    have e6 := enc_len (n := x.page) (k := 1) (by omega) (by omega)
    have e7 := enc_len (n := x.slot) (k := 0) (by omega) (by omega)
    have e8 := enc_len (n := x.next) (k := 5) (by omega) (by omega)
    have l1 := slotL_len c3
    have l2 := slotL_len c4
    unfold rawL headL tailL; rw [hl]
    simp only [List.length_append, if_true]
    omega
theorem cost_bd {x : Ent} (h : goodB x = true) : 2 ≤ costE x ∧ costE x ≤ 3 := by
  obtain ⟨h1, h2⟩ := raw_len h
  unfold costE; rw [h]
  simp only [if_true]
  omega
/-- written and cut off anywhere: none -/
theorem dec_cut {x : Ent} (h : goodB x = true) {k : Nat} (hk : k < (rawL x).length) : decC ((rawL x).take k) = 4 := by
  rcases dec_parts ((rawL x).take k) with ⟨_, hg, hs⟩ | ⟨h1, _, _⟩
  · have h2 := dec_back hg (decT ((rawL x).take k) ++ (rawL x).drop k)
    rw [← List.append_assoc, ← hs, List.take_append_drop] at h2
    have h3 := dec_back h []
    rw [List.append_nil] at h3
    have h4 := h2.2.1.symm.trans h3.2.1
    have h5 := congrArg List.length h4
    rw [List.length_append, List.length_drop] at h5
    simp at h5
    omega
  · exact h1
/-- two entries, written, of which one begins as the other does, are one -/
theorem raw_apart {x y : Ent} (hx : goodB x = true) (hy : goodB y = true) {t : List UInt8} (h : rawL x = rawL y ++ t) : x = y := by
  have h1 := dec_back hx []
  have h2 := dec_back hy t
  rw [List.append_nil, h] at h1
  exact h1.1.symm.trans h2.1
end Go.Proofs.Ytcpkngkeechjeaa.Ent
