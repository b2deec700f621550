/- A plate, as plain data. -/
import Derived.Test.YtnnppdjgmjgjhaaDoorMem
namespace Go.Proofs.YtnnppdjgmjgjhaaDoor.Plate
open Go.RowKit
open Go.Proofs.YtnnppdjgmjgjhaaDoor.Mem
structure Sec where
  d : ByteArray
  t : Bool
structure Wr where
  n : Nat
  d : ByteArray
structure PS where
  N : Nat
  sec : Nat → Sec
  q : List Wr
  off : Bool
  arm : Nat
  acts : Nat
  life : Nat
def now : Wr := ⟨0, ⟨#[]⟩⟩
def wcells (q : List Wr) : List Value := q.flatMap fun x => [.int .i64 (x.n : Int), .string x.d]
theorem wcells_length (q : List Wr) : (wcells q).length = q.length * 2 := by
  induction q with
  | nil => rfl
  | cons x r ih => show (_ :: _ :: wcells r).length = _; simp only [List.length_cons, ih]; omega
theorem wcells_get {q : List Wr} {i : Nat} {x : Wr} (h : q[i]? = some x) : (wcells q)[i * 2]? = some (.int .i64 (x.n : Int)) ∧ (wcells q)[i * 2 + 1]? = some (.string x.d) := by
  induction q generalizing i with
  | nil => simp at h
  | cons y r ih =>
    cases i with
    | zero => simp at h; subst h; exact ⟨rfl, rfl⟩
    | succ i =>
      have := ih (i := i) (by simpa using h)
      rw [show (i + 1) * 2 = i * 2 + 1 + 1 by omega]
      exact this
theorem wcells_snoc (q : List Wr) (x : Wr) : wcells q ++ [.int .i64 (x.n : Int), .string x.d] = wcells (q ++ [x]) := by simp [wcells]
def upd (f : Nat → Sec) (n : Nat) (x : Sec) : Nat → Sec := fun k => if k = n then x else f k
def fateS (f : Nat → Sec) (x : Wr) (z : Int) : Nat → Sec := if z = 1 then upd f x.n ⟨x.d, false⟩ else if z = 2 then upd f x.n ⟨⟨#[]⟩, true⟩ else f
/-- behind j writes that have their fates -/
def setTo (f : Nat → Sec) (fate : Nat → Int) (q : List Wr) : Nat → Nat → Sec
  | 0 => f
  | j + 1 => fateS (setTo f fate q j) (q.getD j now) (fate j)
def fateZ (fs : List Int) (i : Nat) : Int :=
  if fs.length = 0 then 0 else if (fs.getD (i % fs.length) 0).tmod 3 < 0 then (fs.getD (i % fs.length) 0).tmod 3 + 3 else (fs.getD (i % fs.length) 0).tmod 3
def offS (S : PS) : PS := { S with off := true, arm := 0, life := if S.off then S.life else S.life + 1 }
def armS (S : PS) (n : Int) : PS := { S with arm := n.toNat }
def actS (S : PS) : PS := if S.arm = 0 then { S with acts := S.acts + 1 } else if S.arm = 1 then offS { S with acts := S.acts + 1, arm := 0 } else { S with acts := S.acts + 1, arm := S.arm - 1 }
def actE (S : PS) : Int := if S.arm = 1 then 10 else 0
def inS (S : PS) (n : Int) : Bool := decide (0 ≤ n) && decide (n < S.N)
def putS (S : PS) (n : Nat) (s : ByteArray) : PS := { S with q := S.q ++ [⟨n, s⟩] }
def writeS (S : PS) (n : Int) (s : ByteArray) : PS := if S.off then S else if inS S n && decide (s.size = 256) then actS (putS S n.toNat s) else S
def writeE (S : PS) (n : Int) (s : ByteArray) : Int := if S.off then 10 else if inS S n && decide (s.size = 256) then actE S else 1
def doneS (S : PS) (fate : Nat → Int) : PS := { S with sec := setTo S.sec fate S.q S.q.length, q := [] }
def syncS (S : PS) : PS := if S.off then S else if S.arm = 1 then actS S else doneS (actS S) fun _ => 1
def syncE (S : PS) : Int := if S.off then 10 else actE S
def onS (S : PS) (fs : List Int) : PS := if S.off then doneS { S with off := false } (fateZ fs) else S
/-- the last of the writes of a sector -/
def lastOf (n : Nat) : List Wr → Option ByteArray
  | [] => none
  | x :: r => match lastOf n r with
    | some d => some d
    | none => if x.n = n then some x.d else none
def readE (S : PS) (n : Int) : Int := if S.off then 10 else if inS S n then (match lastOf n.toNat S.q with | some _ => 0 | none => if (S.sec n.toNat).t then 20 else 0) else 1
def readD (S : PS) (n : Int) : ByteArray := if S.off then ⟨#[]⟩ else if inS S n then (match lastOf n.toNat S.q with | some d => d | none => if (S.sec n.toNat).t then ⟨#[]⟩ else (S.sec n.toNat).d) else ⟨#[]⟩

/-- a row of sectors -/
def SecRow (w : World) (sb N : Nat) (f : Nat → Sec) : Prop := ∃ cs, Blk w sb 65 cs ∧ cs.size = N * 2 ∧ ∀ k, k < N → cs[k * 2]? = some (.string (f k).d) ∧ cs[k * 2 + 1]? = some (.bool (f k).t)
/-- a plate in memory, that lies in none of the blocks M -/
structure PA (w : World) (p sb : Nat) (qv : Value) (M : Nat → Prop) (S : PS) : Prop where
  blk : Blk w p 62 #[.slice (some ⟨sb, 0, none⟩) S.N S.N, qv, .bool S.off, .int .i64 (S.arm : Int), .int .i64 (S.acts : Int), .int .i64 (S.life : Int)]
  sec : SecRow w sb S.N S.sec
  own : w.ownsRow 0 76 2 qv S.q.length (wcells S.q)
  wf : ∀ x ∈ S.q, x.n < S.N
  n0 : p ≠ sb
  n1 : qv.ownBlock ≠ some p
  n2 : qv.ownBlock ≠ some sb
  m0 : ¬ M p
  m1 : ¬ M sb
  m2 : ∀ g, qv.ownBlock = some g → ¬ M g
  lt : ∀ k, M k → k < w.heap.size
section
variable {w w' : World} {p sb : Nat} {qv : Value} {M M' : Nat → Prop} {S : PS}
/-- others have worked on blocks M, and made some -/
theorem PA.step (h : PA w p sb qv M S) (hs : w.heap.size ≤ w'.heap.size) (hb : ∀ k, k < w.heap.size → ¬ M k → w'.heap[k]? = w.heap[k]?) (hm : ∀ k, M' k → M k ∨ (w.heap.size ≤ k ∧ k < w'.heap.size)) : PA w' p sb qv M' S := by
  obtain ⟨cs, h1, h2⟩ := h.sec
  have hp := h.blk.lt
  have hq := h1.lt
  refine ⟨(hb p h.blk.lt h.m0).trans h.blk, ⟨cs, (hb sb h1.lt h.m1).trans h1, h2⟩, own_same h.own (fun g hg => hb g (own_lt h.own hg) (h.m2 g hg)), h.wf, h.n0, h.n1, h.n2, ?_, ?_, ?_, ?_⟩
  · intro hk; rcases hm _ hk with h' | h'
    · exact h.m0 h'
    · omega
  · intro hk; rcases hm _ hk with h' | h'
    · exact h.m1 h'
    · omega
  · intro g hg hk; rcases hm _ hk with h' | h'
    · exact h.m2 g hg h'
    · have := own_lt h.own hg; omega
  · intro k hk; rcases hm _ hk with h' | h'
    · have := h.lt k h'; omega
    · exact h'.2
theorem PA.below (h : PA w p sb qv M S) (hb : Below w.heap.size w w') : PA w' p sb qv M S := h.step hb.size (fun k hk _ => hb.block k hk) (fun _ hk => .inl hk)
theorem PA.drewN (h : PA w p sb qv M S) (n : Nat) : PA (w.drewN n) p sb qv M S := ⟨h.blk, h.sec, h.own, h.wf, h.n0, h.n1, h.n2, h.m0, h.m1, h.m2, h.lt⟩
theorem PA.mono (h : PA w p sb qv M S) (hm : ∀ k, M' k → M k) : PA w p sb qv M' S := h.step (Nat.le_refl _) (fun _ _ _ => rfl) (fun k hk => .inl (hm k hk))
/-- a block more is the other's -/
theorem PA.alloc (h : PA w p sb qv M S) (o : Obj) : PA (w.alloc o) p sb qv (fun k => M k ∨ k = w.heap.size) S :=
  h.step (by simp) (fun k hk _ => Below.heap_alloc w o k hk) (fun k hk => hk.elim .inl (fun e => .inr (by simp; omega)))
theorem PA.set_ (h : PA w p sb qv M S) {b : Nat} (hb : M b) (i : Nat) (v : Value) : PA (w.setCell ⟨b, i, none⟩ v) p sb qv M S :=
  h.step (by simp) (fun k _ hk => Below.heap_setCell w ⟨b, i, none⟩ v k (fun e => hk ((show k = b from e) ▸ hb))) (fun k hk => .inl hk)
end
end Go.Proofs.YtnnppdjgmjgjhaaDoor.Plate
