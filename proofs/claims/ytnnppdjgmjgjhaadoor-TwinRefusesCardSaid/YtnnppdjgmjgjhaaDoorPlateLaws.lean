/- A plate on which no act is armed; the walk of the statements' own beginning. -/
import Derived.Test.YtnnppdjgmjgjhaaDoorPlateNew
import Derived.Test.YtnnppdjgmjgjhaaDoorPlateSync
import Derived.Test.YtnnppdjgmjgjhaaDoorPlateRead
namespace Go.Proofs.YtnnppdjgmjgjhaaDoor.Plate
set_option maxRecDepth 100000
open Go.RowKit
open Go.Proofs.YtnnppdjgmjgjhaaDoor.Mem

/-- a plate somewhere -/
def PQ (w : World) (p : Nat) (M : Nat → Prop) (S : PS) : Prop := ∃ sb qv, PA w p sb qv M S
section
variable {w w' : World} {p : Nat} {M M' : Nat → Prop} {S : PS}
theorem PQ.below (h : PQ w p M S) (hb : Below w.heap.size w w') : PQ w' p M S := by
  obtain ⟨sb, qv, h⟩ := h; exact ⟨sb, qv, h.below hb⟩
theorem PQ.mono (h : PQ w p M S) (hm : ∀ k, M' k → M k) : PQ w p M' S := by
  obtain ⟨sb, qv, h⟩ := h; exact ⟨sb, qv, h.mono hm⟩
theorem PQ.lt (h : PQ w p M S) : ∀ k, M k → k < w.heap.size := by
  obtain ⟨sb, qv, h⟩ := h; exact h.lt
theorem PQ.step (h : PQ w p M S) (hs : w.heap.size ≤ w'.heap.size) (hb : ∀ k, k < w.heap.size → ¬ M k → w'.heap[k]? = w.heap[k]?) (hm : ∀ k, M' k → M k ∨ (w.heap.size ≤ k ∧ k < w'.heap.size)) : PQ w' p M' S := by
  obtain ⟨sb, qv, h⟩ := h; exact ⟨sb, qv, h.step hs hb hm⟩
theorem PQ.alloc (h : PQ w p M S) (o : Obj) : PQ (w.alloc o) p (fun k => M k ∨ k = w.heap.size) S := by
  obtain ⟨sb, qv, h⟩ := h; exact ⟨sb, qv, h.alloc o⟩
end
theorem pq_write (w : World) (p : Nat) (M : Nat → Prop) (S : PS) (n : Int) (s : ByteArray) (h : PQ w p M S) (ht : Tame S) :
    Calls Tryd.prog 49 #[.pointer (some ⟨p, 0, none⟩), .int .i64 n, .string s] w fun e w' => e = .returned (.int .i64 (writeE S n s)) ∧ PQ w' p M (writeS S n s) ∧ Keep M w w' := by
  obtain ⟨sb, qv, h⟩ := h
  refine (write_any w p sb qv M S n s h ht).mono ?_
  rintro e w' ⟨h1, ⟨qv', h2⟩, h3⟩
  exact ⟨h1, ⟨sb, qv', h2⟩, h3⟩
theorem pq_sync (w : World) (p : Nat) (M : Nat → Prop) (S : PS) (h : PQ w p M S) (ht : Tame S) :
    Calls Tryd.prog 51 #[.pointer (some ⟨p, 0, none⟩)] w fun e w' => e = .returned (.int .i64 (syncE S)) ∧ PQ w' p M (syncS S) ∧ Keep M w w' := by
  obtain ⟨sb, qv, h⟩ := h
  refine (sync_any w p sb qv M S h ht).mono ?_
  rintro e w' ⟨h1, ⟨qv', h2⟩, h3⟩
  exact ⟨h1, ⟨sb, qv', h2⟩, h3⟩
theorem pq_off (w : World) (p : Nat) (M : Nat → Prop) (S : PS) (h : PQ w p M S) (hl : S.life ≤ 4611686018427387904) :
    Calls Tryd.prog 12 #[.pointer (some ⟨p, 0, none⟩)] w fun e w' => e = .returned (.tuple #[]) ∧ PQ w' p M (offS S) ∧ Keep M w w' := by
  obtain ⟨sb, qv, h⟩ := h
  refine (off_any w p sb qv M S h hl).mono ?_
  rintro e w' ⟨h1, h2, h3⟩
  exact ⟨h1, ⟨sb, qv, h2⟩, h3⟩
theorem pq_arm (w : World) (p : Nat) (M : Nat → Prop) (S : PS) (n : Int) (h : PQ w p M S) :
    Calls Tryd.prog 8 #[.pointer (some ⟨p, 0, none⟩), .int .i64 n] w fun e w' => e = .returned (.tuple #[]) ∧ PQ w' p M (armS S n) ∧ Keep M w w' := by
  obtain ⟨sb, qv, h⟩ := h
  refine (arm_any w p sb qv M S n h).mono ?_
  rintro e w' ⟨h1, h2, h3⟩
  exact ⟨h1, ⟨sb, qv, h2⟩, h3⟩
theorem pq_read (w : World) (p : Nat) (M : Nat → Prop) (S : PS) (n : Int) (h : PQ w p M S) (hq : S.q.length ≤ 1000000) :
    Calls Tryd.prog 18 #[.pointer (some ⟨p, 0, none⟩), .int .i64 n] w fun e w' => e = .returned (.tuple #[.string (readD S n), .int .i64 (readE S n)]) ∧ PQ w' p M S ∧ Keep M w w' := by
  obtain ⟨sb, qv, h⟩ := h
  refine (read_any w p sb qv M S n h hq).mono ?_
  rintro e w' ⟨h1, h2⟩
  exact ⟨h1, ⟨sb, qv, h.below h2⟩, Keep.of_below h2 h.lt⟩
theorem pq_on (w : World) (p : Nat) (M : Nat → Prop) (S : PS) (fa : Option Addr) (fn fc : Nat) (fs : List Int) (h : PQ w p M S) (hq : S.q.length ≤ 1000000) (hF : Ints w fa fn fs) (hfn : fn ≤ 9223372036854775807) (hfm : ∀ b off, fa = some ⟨b, off, none⟩ → 0 < fn → M b) :
    Calls Tryd.prog 11 #[.pointer (some ⟨p, 0, none⟩), .slice fa fn fc] w fun e w' => e = .returned (.tuple #[]) ∧ PQ w' p M (onS S fs) ∧ Keep M w w' := by
  obtain ⟨sb, qv, h⟩ := h
  refine (on_any w p sb qv M S fa fn fc fs h hq hF hfn hfm).mono ?_
  rintro e w' ⟨h1, ⟨qv', h2⟩, h3⟩
  exact ⟨h1, ⟨sb, qv', h2⟩, h3⟩
theorem pq_new (w : World) (n : Nat) (h1 : 1 ≤ n) (h2 : n ≤ 16384) :
    Calls Tryd.prog 6 #[.int .i64 (n : Int)] w fun e w' => ∃ p, e = .returned (.pointer (some ⟨p, 0, none⟩)) ∧ PQ w' p (fun k => k < w.heap.size) (newS n) ∧ Below w.heap.size w w' := by
  refine (new_any w n h1 h2).mono ?_
  rintro e w' ⟨p, sb, h1, h2, h3⟩
  exact ⟨p, h1, ⟨sb, _, h2⟩, h3⟩
/-- the power is on, or off; nothing is armed -/
def St (N : Nat) (f : Nat → Sec) (q : List Wr) (off : Bool) (acts life : Nat) : PS := ⟨N, f, q, off, 0, acts, life⟩
theorem pl_write (w : World) (p : Nat) (M : Nat → Prop) (N : Nat) (f : Nat → Sec) (q : List Wr) (acts life n : Nat) (s : ByteArray) (h : PQ w p M (St N f q false acts life)) (hn : n < N) (hs : s.size = 256) (ha : acts ≤ 1000) (hl : life ≤ 1000) (hq : q.length ≤ 1000) :
    Calls Tryd.prog 49 #[.pointer (some ⟨p, 0, none⟩), .int .i64 (n : Int), .string s] w fun e w' => e = .returned (.int .i64 0) ∧ PQ w' p M (St N f (q ++ [⟨n, s⟩]) false (acts + 1) life) ∧ Keep M w w' := by
  have h1 := pq_write w p M _ (n : Int) s h (tame_act (by show life ≤ _; omega) (by show acts ≤ _; omega) (Nat.zero_le _) (by show q.length ≤ _; omega))
  have hi : inS (St N f q false acts life) (n : Int) = true := by unfold inS; simp [St, hn]
  obtain ⟨e1, e2⟩ := write_ok (S := St N f q false acts life) (s := s) rfl hi hs
  rw [e1, e2] at h1
  exact h1
theorem pl_sync (w : World) (p : Nat) (M : Nat → Prop) (N : Nat) (f : Nat → Sec) (q : List Wr) (acts life : Nat) (h : PQ w p M (St N f q false acts life)) (ha : acts ≤ 1000) (hl : life ≤ 1000) (hq : q.length ≤ 1000) :
    Calls Tryd.prog 51 #[.pointer (some ⟨p, 0, none⟩)] w fun e w' => e = .returned (.int .i64 0) ∧ PQ w' p M (St N (setTo f (fun _ => 1) q q.length) [] false (acts + 1) life) ∧ Keep M w w' :=
  pq_sync w p M _ h (tame_act (by show life ≤ _; omega) (by show acts ≤ _; omega) (Nat.zero_le _) (by show q.length ≤ _; omega))
theorem pl_off (w : World) (p : Nat) (M : Nat → Prop) (N : Nat) (f : Nat → Sec) (q : List Wr) (acts life : Nat) (h : PQ w p M (St N f q false acts life)) (hl : life ≤ 1000) :
    Calls Tryd.prog 12 #[.pointer (some ⟨p, 0, none⟩)] w fun e w' => e = .returned (.tuple #[]) ∧ PQ w' p M (St N f q true acts (life + 1)) ∧ Keep M w w' :=
  pq_off w p M _ h (by show life ≤ _; omega)
theorem pl_on1 (w : World) (p : Nat) (M : Nat → Prop) (N : Nat) (f : Nat → Sec) (q : List Wr) (acts life : Nat) (z : Int) (h : PQ w p M (St N f q true acts life)) (hq : q.length ≤ 1000) (hz : 0 ≤ z ∧ z ≤ 2) :
    Calls Tryd.prog 11 #[.pointer (some ⟨p, 0, none⟩), .slice (some ⟨w.heap.size, 0, none⟩) 1 1] (w.alloc (.cells #[.int .i64 z] 3)) fun e w' => e = .returned (.tuple #[]) ∧ PQ w' p M (St N (setTo f (fun _ => z) q q.length) [] false acts life) ∧ Keep M w w' := by
  have hI : Ints (w.alloc (.cells #[.int .i64 z] 3)) (some ⟨w.heap.size, 0, none⟩) 1 [z] := ⟨rfl, fun y hy => by simp at hy; subst hy; omega, fun _ => ⟨w.heap.size, 0, rfl, by simp, fun i hi => by
    obtain rfl : i = 0 := by omega
    simp⟩⟩
  refine (pq_on _ p _ _ _ 1 1 [z] (h.alloc (.cells #[.int .i64 z] 3)) (by show q.length ≤ _; omega) hI (by decide) (fun b off e _ => .inr (by cases e; rfl))).mono ?_
  rintro e w' ⟨h1, h2, h3⟩
  have hf : fateZ [z] = fun _ => z := by
    funext i
    obtain ⟨k, rfl⟩ : ∃ k : Nat, z = (k : Int) := ⟨z.toNat, by omega⟩
    have hk : k ≤ 2 := by omega
    have e3 : ((k : Int)).tmod 3 = (k : Int) := by
      have : ((k : Int)).tmod 3 = ((k % 3 : Nat) : Int) := rfl
      rw [this, Nat.mod_eq_of_lt (by omega)]
    unfold fateZ
    simp only [List.length_singleton, Nat.mod_one, List.getD_cons_zero, e3]
    rw [if_neg (by decide), if_neg (by omega)]
  have h2' : PQ w' p (fun k => M k ∨ k = w.heap.size) (St N (setTo f (fateZ [z]) q q.length) [] false acts life) := h2
  rw [hf] at h2'
  exact ⟨h1, h2'.mono (fun k hk => .inl hk), (Keep.refl M w).alloc h.lt _ |>.trans (h3.mono fun k hk => .inl hk)⟩
theorem pl_on0 (w : World) (p : Nat) (M : Nat → Prop) (N : Nat) (f : Nat → Sec) (q : List Wr) (acts life : Nat) (h : PQ w p M (St N f q true acts life)) (hq : q.length ≤ 1000) :
    Calls Tryd.prog 11 #[.pointer (some ⟨p, 0, none⟩), .slice none 0 0] w fun e w' => e = .returned (.tuple #[]) ∧ PQ w' p M (St N (setTo f (fun _ => 0) q q.length) [] false acts life) ∧ Keep M w w' := by
  have h1 := pq_on w p M _ none 0 0 [] h (by show q.length ≤ _; omega) (Ints.nil w none) (by decide) (fun b off e => by cases e)
  have hf : fateZ [] = fun _ => 0 := by funext i; rfl
  have h2 : onS (St N f q true acts life) [] = St N (setTo f (fateZ []) q q.length) [] false acts life := rfl
  rw [h2, hf] at h1
  exact h1
theorem pq_acts (w : World) (p : Nat) (M : Nat → Prop) (S : PS) (h : PQ w p M S) :
    Calls Tryd.prog 17 #[.pointer (some ⟨p, 0, none⟩)] w fun e w' => e = .returned (.int .i64 (S.acts : Int)) ∧ w = w' := by
  obtain ⟨sb, qv, h⟩ := h; exact acts_any w p sb qv M S h
theorem pq_life (w : World) (p : Nat) (M : Nat → Prop) (S : PS) (h : PQ w p M S) :
    Calls Tryd.prog 22 #[.pointer (some ⟨p, 0, none⟩)] w fun e w' => e = .returned (.int .i64 (S.life : Int)) ∧ w = w' := by
  obtain ⟨sb, qv, h⟩ := h; exact life_any w p sb qv M S h
theorem pq_sectors (w : World) (p : Nat) (M : Nat → Prop) (S : PS) (h : PQ w p M S) :
    Calls Tryd.prog 43 #[.pointer (some ⟨p, 0, none⟩)] w fun e w' => e = .returned (.int .i64 (S.N : Int)) ∧ w = w' := by
  obtain ⟨sb, qv, h⟩ := h; exact sectors_any w p sb qv M S h
theorem pq_down (w : World) (p : Nat) (M : Nat → Prop) (S : PS) (h : PQ w p M S) :
    Calls Tryd.prog 21 #[.pointer (some ⟨p, 0, none⟩)] w fun e w' => e = .returned (.bool S.off) ∧ w = w' := by
  obtain ⟨sb, qv, h⟩ := h; exact down_any w p sb qv M S h
theorem in_st {N n : Nat} {f : Nat → Sec} {q : List Wr} {o : Bool} {a l : Nat} (hn : n < N) : inS (St N f q o a l) (n : Int) = true := by unfold inS; simp [St, hn]
theorem pl_read (w : World) (p : Nat) (M : Nat → Prop) (N : Nat) (f : Nat → Sec) (a l n : Nat) (d : ByteArray) (h : PQ w p M (St N f [] false a l)) (hn : n < N) (hf : f n = ⟨d, false⟩) :
    Calls Tryd.prog 18 #[.pointer (some ⟨p, 0, none⟩), .int .i64 (n : Int)] w fun e w' => e = .returned (.tuple #[.string d, .int .i64 0]) ∧ PQ w' p M (St N f [] false a l) ∧ Keep M w w' := by
  have h1 := pq_read w p M _ (n : Int) h (Nat.zero_le _)
  obtain ⟨e1, e2⟩ := read_sec (S := St N f [] false a l) rfl (in_st hn) rfl (by show (f n).t = false; rw [hf])
  rw [e1, e2, show ((St N f [] false a l).sec n).d = d from by show (f n).d = d; rw [hf]] at h1
  exact h1
theorem pl_rtorn (w : World) (p : Nat) (M : Nat → Prop) (N : Nat) (f : Nat → Sec) (a l n : Nat) (d : ByteArray) (h : PQ w p M (St N f [] false a l)) (hn : n < N) (hf : f n = ⟨d, true⟩) :
    Calls Tryd.prog 18 #[.pointer (some ⟨p, 0, none⟩), .int .i64 (n : Int)] w fun e w' => e = .returned (.tuple #[.string ⟨#[]⟩, .int .i64 20]) ∧ PQ w' p M (St N f [] false a l) ∧ Keep M w w' := by
  have h1 := pq_read w p M _ (n : Int) h (Nat.zero_le _)
  obtain ⟨e1, e2⟩ := read_torn (S := St N f [] false a l) rfl (in_st hn) rfl (by show (f n).t = true; rw [hf])
  rw [e1, e2] at h1
  exact h1
theorem pl_rwait (w : World) (p : Nat) (M : Nat → Prop) (N : Nat) (f : Nat → Sec) (q : List Wr) (a l n : Nat) (d : ByteArray) (h : PQ w p M (St N f q false a l)) (hn : n < N) (hq : q.length ≤ 1000) (hf : lastOf n q = some d) :
    Calls Tryd.prog 18 #[.pointer (some ⟨p, 0, none⟩), .int .i64 (n : Int)] w fun e w' => e = .returned (.tuple #[.string d, .int .i64 0]) ∧ PQ w' p M (St N f q false a l) ∧ Keep M w w' := by
  have h1 := pq_read w p M _ (n : Int) h (by show q.length ≤ _; omega)
  obtain ⟨e1, e2⟩ := read_wait (S := St N f q false a l) rfl (in_st hn) hf
  rw [e1, e2] at h1
  exact h1
theorem pl_rdown (w : World) (p : Nat) (M : Nat → Prop) (N : Nat) (f : Nat → Sec) (q : List Wr) (a l : Nat) (n : Int) (h : PQ w p M (St N f q true a l)) (hq : q.length ≤ 1000) :
    Calls Tryd.prog 18 #[.pointer (some ⟨p, 0, none⟩), .int .i64 n] w fun e w' => e = .returned (.tuple #[.string ⟨#[]⟩, .int .i64 10]) ∧ PQ w' p M (St N f q true a l) ∧ Keep M w w' := by
  have h1 := pq_read w p M _ n h (by show q.length ≤ _; omega)
  obtain ⟨e1, e2⟩ := read_off (S := St N f q true a l) (n := n) rfl
  rw [e1, e2] at h1
  exact h1
theorem pl_wshort (w : World) (p : Nat) (M : Nat → Prop) (N : Nat) (f : Nat → Sec) (q : List Wr) (a l : Nat) (n : Int) (s : ByteArray) (h : PQ w p M (St N f q false a l)) (hs : s.size ≠ 256) (ha : a ≤ 1000) (hl : l ≤ 1000) (hq : q.length ≤ 1000) :
    Calls Tryd.prog 49 #[.pointer (some ⟨p, 0, none⟩), .int .i64 n, .string s] w fun e w' => e = .returned (.int .i64 1) ∧ PQ w' p M (St N f q false a l) ∧ Keep M w w' := by
  have h1 := pq_write w p M _ n s h (tame_act (by show l ≤ _; omega) (by show a ≤ _; omega) (Nat.zero_le _) (by show q.length ≤ _; omega))
  obtain ⟨e1, e2⟩ := write_not (S := St N f q false a l) (n := n) (s := s) rfl (.inr hs)
  rw [e1, e2] at h1
  exact h1
end Go.Proofs.YtnnppdjgmjgjhaaDoor.Plate
