/- An end in memory; what reads it; New. -/
import Derived.Test.YtbbikibkijncgaaCordMap
import Derived.Laws.AppendOwn
import Derived.StillTailTactics
import Derived.Deep.RegionHeld3
import Derived.Lib.QuietBelow
import Derived.Deep.CutBlock
import Derived.Deep.DeepCutAuto
namespace Go.Proofs.Ytbbikibkijncgaa.Cord
set_option maxRecDepth 100000
open Go.RowKit
open Go.Proofs.Ytbbikibkijncgaa.Mem
def strsV (l : List ByteArray) : List Value := l.map Value.string
theorem strs_len (l : List ByteArray) : (strsV l).length = l.length := by simp [strsV]
theorem strs_app (a b : List ByteArray) : strsV (a ++ b) = strsV a ++ strsV b := by simp [strsV]
theorem strs_get {l : List ByteArray} {i : Nat} {s : ByteArray} (h : l[i]? = some s) : (strsV l)[i]? = some (.string s) := by simp [strsV, h]
/-- nothing but the blocks F and new memory was touched -/
def Touch (F : Nat → Prop) (w w' : World) : Prop := Keep (fun k => k < w.heap.size ∧ ¬ F k) w w'
theorem Touch.refl (F : Nat → Prop) (w : World) : Touch F w w := Keep.refl _ _
theorem Touch.size {F : Nat → Prop} {w w' : World} (h : Touch F w w') : w.heap.size ≤ w'.heap.size := Keep.size h
theorem Touch.trans {F G : Nat → Prop} {w w' w'' : World} (h : Touch F w w') (h2 : Touch G w' w'') (hg : ∀ k, G k → F k ∨ w.heap.size ≤ k) : Touch F w w'' :=
  Keep.trans h (Keep.mono h2 fun k hk => ⟨Nat.lt_of_lt_of_le hk.1 (Keep.size h), fun g => (hg k g).elim hk.2 (fun x => by have := hk.1; omega)⟩)
theorem Touch.mono {F G : Nat → Prop} {w w' : World} (h : Touch F w w') (hg : ∀ k, F k → G k) : Touch G w w' := Keep.mono h fun k hk => ⟨hk.1, fun x => hk.2 (hg k x)⟩
theorem Touch.block {F : Nat → Prop} {w w' : World} (h : Touch F w w') {k : Nat} (hk : k < w.heap.size) (hf : ¬ F k) : w'.heap[k]? = w.heap[k]? := Keep.block h k ⟨hk, hf⟩
theorem Touch.of_below {F : Nat → Prop} {w w' : World} (h : Below w.heap.size w w') : Touch F w w' := Keep.of_below h fun _ hk => hk.1
theorem Touch.below {F : Nat → Prop} {w w' : World} {B : Nat} (h : Touch F w w') (hB : B ≤ w.heap.size) (hf : ∀ k, F k → B ≤ k) : Below B w w' := Keep.below h fun k hk => ⟨(by omega), fun x => by have := hf k x; omega⟩
theorem Touch.set_ {F : Nat → Prop} {w w' : World} (h : Touch F w w') {b : Nat} (hb : F b ∨ w.heap.size ≤ b) (i : Nat) (v : Value) : Touch F w (w'.setCell ⟨b, i, none⟩ v) :=
  Keep.set_ h (fun x => hb.elim x.2 (fun y => by have := x.1; omega)) i v
theorem Touch.drewN {F : Nat → Prop} {w w' : World} (h : Touch F w w') (q : Nat) : Touch F w (w'.drewN q) := Keep.drewN h q
theorem Touch.alloc {F : Nat → Prop} {w w' : World} (h : Touch F w w') (o : Obj) : Touch F w (w'.alloc o) := Keep.alloc h (fun _ hk => Nat.lt_of_lt_of_le hk.1 h.size) o
theorem Touch.grown {F : Nat → Prop} {w w' w'' : World} {row : Option Nat} (h : Touch F w w') (hg : w'.grownBy w'' row) (hr : ∀ k, row = some k → F k ∨ w.heap.size ≤ k) : Touch F w w'' :=
  Keep.grown h hg (fun _ hk => Nat.lt_of_lt_of_le hk.1 h.size) (fun k e hk => (hr k e).elim hk.2 (fun x => by have := hk.1; omega))
/-- an end in memory: its block, its row, its map -/
structure EA (w : World) (p b n : Nat) (v : Value) (e : CE) : Prop where
  blk : Blk w p 66 #[.int .i64 e.ep, .int .i64 e.ack, v, .int .i64 e.got, .map (some b), .bool e.due]
  own : w.ownsRow 0 9 1 v e.op.length (strsV e.op)
  map : MapS w b n e.f
  n0 : v.ownBlock ≠ some p
  nb : v.ownBlock ≠ some b
  pb : b ≠ p
  wf : e.wf
  given : e.given ≤ n
  gotn : e.got ≤ 32 * n
def Foot (p b : Nat) (v : Value) (k : Nat) : Prop := k = p ∨ k = b ∨ v.ownBlock = some k
section
variable {w w' : World} {p b n : Nat} {v : Value} {e : CE}
theorem EA.same (h : EA w p b n v e) (hb : ∀ k, k < w.heap.size → Foot p b v k → w'.heap[k]? = w.heap[k]?) : EA w' p b n v e :=
  ⟨(hb p h.blk.lt (.inl rfl)).trans h.blk, own_same h.own fun g hg => hb g (own_lt h.own hg) (.inr (.inr hg)), h.map.same (hb b h.map.lt (.inr (.inl rfl))), h.n0, h.nb, h.pb, h.wf, h.given, h.gotn⟩
theorem EA.lt (h : EA w p b n v e) : ∀ k, Foot p b v k → k < w.heap.size := by
  rintro k (rfl | rfl | hk)
  · exact h.blk.lt
  · exact h.map.lt
  · exact own_lt h.own hk
theorem EA.at_ (h : EA w p b n v e) : w.cell? ⟨p, 0, none⟩ = some (.int .i64 e.ep) ∧ w.cell? ⟨p, 1, none⟩ = some (.int .i64 e.ack) ∧ w.cell? ⟨p, 2, none⟩ = some v ∧ w.cell? ⟨p, 3, none⟩ = some (.int .i64 e.got) ∧ w.cell? ⟨p, 4, none⟩ = some (.map (some b)) ∧ w.cell? ⟨p, 5, none⟩ = some (.bool e.due) :=
  ⟨h.blk.cell 0, h.blk.cell 1, h.blk.cell 2, h.blk.cell 3, h.blk.cell 4, h.blk.cell 5⟩
theorem EA.fr (h : EA w p b n v e) : w.frozen? ⟨p, 1, none⟩ = false ∧ w.frozen? ⟨p, 2, none⟩ = false ∧ w.frozen? ⟨p, 3, none⟩ = false ∧ w.frozen? ⟨p, 5, none⟩ = false := ⟨h.blk.frozen 1, h.blk.frozen 2, h.blk.frozen 3, h.blk.frozen 5⟩
end
/-- .. all its blocks among F -/
def EQ (w : World) (p n : Nat) (F : Nat → Prop) (e : CE) : Prop := ∃ b v, EA w p b n v e ∧ (∀ k, Foot p b v k → F k) ∧ ∀ k, F k → k < w.heap.size
section
variable {w w' : World} {p n : Nat} {F G : Nat → Prop} {e : CE}
theorem EQ.lt (h : EQ w p n F e) : ∀ k, F k → k < w.heap.size := by obtain ⟨_, _, _, _, h⟩ := h; exact h
theorem EQ.wf (h : EQ w p n F e) : e.wf := by obtain ⟨_, _, h, _, _⟩ := h; exact h.wf
theorem EQ.given (h : EQ w p n F e) : e.given ≤ n := by obtain ⟨_, _, h, _, _⟩ := h; exact h.given
theorem EQ.gotn (h : EQ w p n F e) : e.got ≤ 32 * n := by obtain ⟨_, _, h, _, _⟩ := h; exact h.gotn
theorem EQ.mono (h : EQ w p n F e) {m : Nat} (hm : n ≤ m) : EQ w p m F e := by
  obtain ⟨b, v, h, h2⟩ := h
  exact ⟨b, v, ⟨h.blk, h.own, h.map.mono hm, h.n0, h.nb, h.pb, h.wf, Nat.le_trans h.given hm, Nat.le_trans h.gotn (Nat.mul_le_mul_left 32 hm)⟩, h2⟩
/-- others have worked -/
theorem EQ.touch (h : EQ w p n F e) (ht : Touch G w w') (hd : ∀ k, F k → ¬ G k) : EQ w' p n F e := by
  obtain ⟨b, v, h, h2, h3⟩ := h
  exact ⟨b, v, h.same fun k hk hf => ht.block hk (hd k (h2 k hf)), h2, fun k hk => Nat.lt_of_lt_of_le (h3 k hk) ht.size⟩
theorem EQ.below (h : EQ w p n F e) (hb : Below w.heap.size w w') : EQ w' p n F e := h.touch (G := fun _ => False) (Touch.of_below hb) fun _ _ x => x
theorem EQ.drewN (h : EQ w p n F e) (q : Nat) : EQ (w.drewN q) p n F e := h.touch (G := fun _ => False) ((Touch.refl _ _).drewN q) fun _ _ x => x
end
set_option maxRecDepth 100000 in
theorem epoch_any (p n : Nat) (F : Nat → Prop) (e : CE) (w : World) (h : EQ w p n F e) :
    Calls Try.prog 22 #[.pointer (some ⟨p, 0, none⟩)] w fun r w' => r = .returned (.int .i64 e.ep) ∧ w = w' := by
  obtain ⟨b, v, h, _⟩ := h
  obtain ⟨c0, _⟩ := h.at_
  clear h
  go_enter Try.func22, Try.ntmps22
  go_wp2
  go_ret
  exact ⟨rfl, rfl⟩
set_option maxRecDepth 100000 in
theorem got_any (p n : Nat) (F : Nat → Prop) (e : CE) (w : World) (h : EQ w p n F e) :
    Calls Try.prog 21 #[.pointer (some ⟨p, 0, none⟩)] w fun r w' => r = .returned (.int .i64 e.got) ∧ w = w' := by
  obtain ⟨b, v, h, _⟩ := h
  obtain ⟨_, _, _, c3, _⟩ := h.at_
  clear h
  go_enter Try.func21, Try.ntmps21
  go_wp2
  go_ret
  exact ⟨rfl, rfl⟩
set_option maxRecDepth 100000 in
theorem open_any (p n : Nat) (F : Nat → Prop) (e : CE) (w : World) (h : EQ w p n F e) :
    Calls Try.prog 20 #[.pointer (some ⟨p, 0, none⟩)] w fun r w' => r = .returned (.int .i64 e.op.length) ∧ w = w' := by
  obtain ⟨b, v, h, _⟩ := h
  obtain ⟨_, _, c2, _⟩ := h.at_
  obtain ⟨a, c, rfl⟩ := own_shape h.own
  clear h
  go_enter Try.func20, Try.ntmps20
  go_wp2
  go_ret
  exact ⟨rfl, rfl⟩
set_option maxRecDepth 100000 in
theorem owes_any (p n : Nat) (F : Nat → Prop) (e : CE) (w : World) (h : EQ w p n F e) :
    Calls Try.prog 13 #[.pointer (some ⟨p, 0, none⟩)] w fun r w' => r = .returned (.bool (owesB e)) ∧ w = w' := by
  obtain ⟨b, v, h, _⟩ := h
  obtain ⟨_, _, c2, _, _, c5⟩ := h.at_
  obtain ⟨a, c, rfl⟩ := own_shape h.own
  clear h
  obtain ⟨ep, ack, op, got, f, due⟩ := e
  unfold owesB
  dsimp only at c2 c5 ⊢
  generalize op.length = m at c2 ⊢
  cases due with
  | true =>
    go_enter Try.func13, Try.ntmps13
    go_wp2
    go_ret
    exact ⟨rfl, rfl⟩
  | false =>
    by_cases hm : 0 < m
    · have hm2 : (0 : Int) < (m : Int) := by omega
      rw [decide_eq_true hm]
      go_enter Try.func13, Try.ntmps13
      go_wp2
      go_ret
      exact ⟨rfl, rfl⟩
    · obtain rfl : m = 0 := by omega
      go_enter Try.func13, Try.ntmps13
      go_wp2
      go_ret
      exact ⟨rfl, rfl⟩
theorem new_none (ep : Int) (w : World) (h : ¬ (1 ≤ ep ∧ ep ≤ 1073741824)) :
    Calls Try.prog 9 #[.int .i64 ep] w fun r w' => r = .returned (.pointer none) ∧ w = w' := by
  by_cases h1 : ep < 1
  · go_enter Try.func9, Try.ntmps9
    go_wp2
    go_ret
    exact ⟨rfl, rfl⟩
  · have h2 : 1073741824 < ep := by omega
    go_enter Try.func9, Try.ntmps9
    go_wp2
    go_ret
    exact ⟨rfl, rfl⟩
/-- a new end, in memory of its own -/
def NewRes (ep : Int) (w : World) (r : Ending) (w' : World) : Prop :=
  ∃ p, r = .returned (.pointer (some ⟨p, 0, none⟩)) ∧ EQ w' p 0 (fun k => w.heap.size ≤ k ∧ k < w'.heap.size) (newE ep) ∧ Below w.heap.size w w'
set_option maxRecDepth 100000 in
theorem new_any (ep : Int) (w : World) (h1 : 1 ≤ ep) (h2 : ep ≤ 1073741824) :
    Calls Try.prog 9 #[.int .i64 ep] w (NewRes ep w) := by
  have hmm := @run_makeMap Try.prog
  have H1 : ¬ ep < 1 := by omega
  have H2 : ¬ 1073741824 < ep := by omega
  go_enter Try.func9, Try.ntmps9
  go_wp2
  go_ret
  refine ⟨w.heap.size + 1, rfl, ⟨w.heap.size, .slice none 0 0, ⟨?_, own_nil _ _ _ _, (map_made w).same ?_, by simp [Value.ownBlock], by simp [Value.ownBlock], by omega, wf_new h1 h2, Nat.zero_le _, Nat.zero_le _⟩, ?_, fun k hk => hk.2⟩, ((Below.refl w.heap.size w).alloc (Nat.le_refl _) _).alloc (by simp) _⟩
  · have := Blk.new (w.alloc (.map #[] 0)) 66 #[.int .i64 ep, .int .i64 0, .slice none 0 0, .int .i64 0, .map (some w.heap.size), .bool false]
    simpa [newE] using this
  · exact Below.heap_alloc _ _ _ (by simp)
  · rintro k (rfl | rfl | hk)
    · simp
    · simp; omega
    · simp [Value.ownBlock] at hk
end Go.Proofs.Ytbbikibkijncgaa.Cord
