/- The document's session, as plain data: an end, what Send, Out and Take make of it. -/
import Derived.Test.YtbbikibkijncgaaRows
import Derived.WalkKit
import Derived.Lib.Hide
namespace Go.Proofs.Ytbbikibkijncgaa.Cord
set_option maxRecDepth 100000
/-- a datagram -/
structure Gm where
  cl : Int
  up : Bool
  ep : Int
  sq : Int
  ak : Int
  bd : ByteArray
/-- an end -/
structure CE where
  ep : Int
  ack : Nat
  op : List ByteArray
  got : Nat
  f : Nat → Option ByteArray
  due : Bool
def CE.given (e : CE) : Nat := e.ack + e.op.length
structure CE.wf (e : CE) : Prop where
  win : ∀ x s, e.f x = some s → e.got < x ∧ x ≤ e.got + 32 ∧ s.size ≤ 16384
  ol : e.op.length ≤ 32
  e1 : 1 ≤ e.ep
  e2 : e.ep ≤ 1073741824
def newE (ep : Int) : CE := ⟨ep, 0, [], 0, fun _ => none, false⟩
theorem wf_new {ep : Int} (h1 : 1 ≤ ep) (h2 : ep ≤ 1073741824) : (newE ep).wf := ⟨fun x s h => (by cases h), (by simp [newE]), h1, h2⟩
/-- Send -/
def sendE (e : CE) (s : ByteArray) : CE := if s.size ≤ 16384 ∧ e.op.length < 32 then { e with op := e.op ++ [s] } else e
def sendX (e : CE) (s : ByteArray) : Int := if 16384 < s.size then 5 else if 32 ≤ e.op.length then 11 else 0
theorem wf_send {e : CE} (h : e.wf) (s : ByteArray) : (sendE e s).wf := by
  unfold sendE
  split
  · rename_i hc; exact ⟨h.win, by simp; omega, h.e1, h.e2⟩
  · exact h
/-- Out -/
def gm (e : CE) (i : Nat) (s : ByteArray) : Gm := ⟨0, false, e.ep, (e.ack : Int) + 1 + i, e.got, s⟩
def gmA (e : CE) : Gm := ⟨0, false, e.ep, 0, e.got, .empty⟩
def owesB (e : CE) : Bool := e.due || decide (0 < e.op.length)
def gmsE (e : CE) : List Gm := e.op.zipIdx.map fun x => gm e x.2 x.1
def outL (e : CE) : List Gm := if e.op = [] then (if e.due then [gmA e] else []) else gmsE e
def outE (e : CE) : CE := { e with due := false }
theorem wf_out {e : CE} (h : e.wf) : (outE e).wf := ⟨h.win, h.ol, h.e1, h.e2⟩
/-- Take -/
def checkX (e : CE) (g : Gm) : Int :=
  if g.ep ≠ e.ep then 23 else if g.sq < 0 ∨ (e.got : Int) + 32 < g.sq then 4 else if g.ak < 0 ∨ (e.given : Int) < g.ak then 4
  else if g.sq = 0 ∧ g.bd.size ≠ 0 then 4 else if 16384 < g.bd.size then 5 else 0
def settleE (e : CE) (k : Nat) : CE := if k ≤ e.ack then e else { e with op := e.op.drop (k - e.ack), ack := k }
def upd (f : Nat → Option ByteArray) (x : Nat) (s : ByteArray) : Nat → Option ByteArray := fun y => if y = x then some s else f y
def layE (e : CE) (x : Nat) (s : ByteArray) : CE := { e with due := true, f := if e.f x = none ∧ e.got < x then upd e.f x s else e.f }
/-- the texts that stand in a row from one on -/
def runF (f : Nat → Option ByteArray) : Nat → Nat → List ByteArray
  | 0, _ => []
  | n + 1, g => match f (g + 1) with
    | none => []
    | some s => s :: runF f n (g + 1)
def told (e : CE) : List ByteArray := runF e.f 33 e.got
/-- j texts told -/
def stepE (e : CE) (j : Nat) : CE := { e with got := e.got + j, f := fun x => if x ≤ e.got + j then none else e.f x }
def tellE (e : CE) : CE := stepE e (told e).length
def takeX (e : CE) (g : Gm) : Int := checkX e g
def takeE (e : CE) (g : Gm) : CE :=
  if checkX e g ≠ 0 then e else if g.sq = 0 then settleE e g.ak.toNat else tellE (layE (settleE e g.ak.toNat) g.sq.toNat g.bd)
def takeL (e : CE) (g : Gm) : List ByteArray :=
  if checkX e g ≠ 0 then [] else if g.sq = 0 then [] else told (layE (settleE e g.ak.toNat) g.sq.toNat g.bd)
theorem wf_settle {e : CE} (h : e.wf) (k : Nat) : (settleE e k).wf := by
  unfold settleE
  split
  · exact h
  · exact ⟨h.win, by simp; have := h.ol; omega, h.e1, h.e2⟩
theorem wf_lay {e : CE} (h : e.wf) {x : Nat} {s : ByteArray} (hx : x ≤ e.got + 32) (hs : s.size ≤ 16384) : (layE e x s).wf := by
  unfold layE
  refine ⟨fun y t hy => ?_, h.ol, h.e1, h.e2⟩
  dsimp only at hy ⊢
  split at hy
  · rename_i hc
    unfold upd at hy
    split at hy
    · rename_i hyx; cases hy; subst hyx; exact ⟨hc.2, hx, hs⟩
    · exact h.win y t hy
  · exact h.win y t hy
theorem run_get (f : Nat → Option ByteArray) : ∀ (n g i : Nat) (s : ByteArray), (runF f n g)[i]? = some s → f (g + 1 + i) = some s
  | 0, g, i, s, h => by simp [runF] at h
  | n + 1, g, i, s, h => by
    unfold runF at h
    split at h
    · simp at h
    · rename_i t ht
      cases i with
      | zero => have : t = s := by simpa using h
                subst this; exact ht
      | succ i => have := run_get f n (g + 1) i s (by simpa using h)
                  rw [show g + 1 + (i + 1) = g + 1 + 1 + i by omega]; exact this
theorem run_end (f : Nat → Option ByteArray) : ∀ (n g : Nat), (runF f n g).length < n → f (g + (runF f n g).length + 1) = none
  | 0, g, h => by simp at h
  | n + 1, g, h => by
    unfold runF at h ⊢
    split at h
    · rename_i ht; simp [ht]
    · rename_i t ht
      have := run_end f n (g + 1) (by simpa using h)
      rw [List.length_cons, show g + ((runF f n (g + 1)).length + 1) + 1 = g + 1 + (runF f n (g + 1)).length + 1 by omega]
      exact this
theorem run_len (f : Nat → Option ByteArray) : ∀ (n g : Nat), (runF f n g).length ≤ n
  | 0, g => by simp [runF]
  | n + 1, g => by
    unfold runF
    split
    · simp
    · have := run_len f n (g + 1); simp; omega
theorem told_le {e : CE} (h : e.wf) : (told e).length ≤ 32 := by
  have h1 := run_len e.f 33 e.got
  rcases Nat.lt_or_ge 32 (told e).length with h2 | h2
  · have h3 : (told e)[32]? = some (told e)[32] := List.getElem?_eq_getElem h2
    have h4 := h.win _ _ (run_get e.f 33 e.got 32 _ h3)
    omega
  · exact h2
theorem told_end {e : CE} (h : e.wf) : e.f (e.got + (told e).length + 1) = none := run_end e.f 33 e.got (by have := told_le h; unfold told at this; omega)
theorem told_get {e : CE} {i : Nat} {s : ByteArray} (h : (told e)[i]? = some s) : e.f (e.got + 1 + i) = some s := run_get e.f 33 e.got i s h
theorem wf_step {e : CE} (h : e.wf) (j : Nat) : (stepE e j).wf := by
  refine ⟨fun x s hx => ?_, h.ol, h.e1, h.e2⟩
  unfold stepE at hx ⊢
  dsimp only at hx ⊢
  split at hx
  · cases hx
  · have := h.win x s hx; omega
theorem step_zero {e : CE} (h : e.wf) : stepE e 0 = e := by
  have : (fun x => if x ≤ e.got + 0 then none else e.f x) = e.f := by
    funext x
    split
    · cases hx : e.f x with
      | none => rfl
      | some s => have := h.win x s hx; omega
    · rfl
  unfold stepE
  rw [this]; rfl
/-- what stands where the next text would: in the row told, or nothing -/
theorem told_next {e : CE} (h : e.wf) {j : Nat} (hj : j ≤ (told e).length) : (stepE e j).f (e.got + j + 1) = (told e)[j]? := by
  have e1 : (stepE e j).f (e.got + j + 1) = e.f (e.got + j + 1) := by unfold stepE; dsimp only; rw [if_neg (by omega)]
  rw [e1]
  rcases Nat.lt_or_ge j (told e).length with h2 | h2
  · have h3 : (told e)[j]? = some (told e)[j] := List.getElem?_eq_getElem h2
    rw [h3, show e.got + j + 1 = e.got + 1 + j by omega]; exact told_get h3
  · obtain rfl : j = (told e).length := by omega
    rw [told_end h, List.getElem?_eq_none (Nat.le_refl _)]
theorem wf_take {e : CE} (h : e.wf) (g : Gm) : (takeE e g).wf := by
  unfold takeE
  split
  · exact h
  · rename_i hc
    split
    · exact wf_settle h _
    · refine wf_step (wf_lay (wf_settle h _) ?_ ?_) _
      · have hg : (settleE e g.ak.toNat).got = e.got := by unfold settleE; split <;> rfl
        rw [hg]
        unfold checkX at hc
        repeat' split at hc
        all_goals (first | (exact absurd rfl (fun e => hc (by decide))) | skip)
        all_goals omega
      · unfold checkX at hc
        repeat' split at hc
        all_goals (first | (exact absurd rfl (fun e => hc (by decide))) | skip)
        all_goals omega
end Go.Proofs.Ytbbikibkijncgaa.Cord
