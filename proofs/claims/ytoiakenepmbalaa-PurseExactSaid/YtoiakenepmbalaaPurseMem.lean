/- A purse in memory; find, Of, Sum, New. -/
import Derived.Test.YtoiakenepmbalaaPurseFind
import Derived.Maps.AppendAt
namespace Go.Proofs.Ytoiakenepmbalaa.Purse
set_option maxRecDepth 100000
open Go.RowKit
open Go.Proofs.Ytoiakenepmbalaa.Mem
/-- a purse in memory, that lies in none of the blocks M -/
structure PA (w : World) (p : Nat) (v : Value) (M : Nat → Prop) (L : List Due) : Prop where
  blk : Blk w p 48 #[v, .int .i64 (total L)]
  own : w.ownsRow 0 53 2 v L.length (cellsP L)
  n0 : v.ownBlock ≠ some p
  m0 : ¬ M p
  m1 : ∀ g, v.ownBlock = some g → ¬ M g
  lt : ∀ k, M k → k < w.heap.size
  wf : wfL L
section
variable {w w' : World} {p : Nat} {v : Value} {M M' : Nat → Prop} {L : List Due}
/-- others have worked on blocks M, and made some -/
theorem PA.step (h : PA w p v M L) (hs : w.heap.size ≤ w'.heap.size) (hb : ∀ k, k < w.heap.size → ¬ M k → w'.heap[k]? = w.heap[k]?) (hm : ∀ k, M' k → M k ∨ (w.heap.size ≤ k ∧ k < w'.heap.size)) : PA w' p v M' L := by
  refine ⟨(hb p h.blk.lt h.m0).trans h.blk, own_same h.own fun g hg => hb g (own_lt h.own hg) (h.m1 g hg), h.n0, ?_, ?_, ?_, h.wf⟩
  · intro hk; rcases hm _ hk with h' | h'
    · exact h.m0 h'
    · have := h.blk.lt; omega
  · intro g hg hk; rcases hm _ hk with h' | h'
    · exact h.m1 g hg h'
    · have := own_lt h.own hg; omega
  · intro k hk; rcases hm _ hk with h' | h'
    · have := h.lt k h'; omega
    · exact h'.2
theorem PA.at_ (h : PA w p v M L) : w.cell? ⟨p, 0, none⟩ = some v ∧ w.cell? ⟨p, 1, none⟩ = some (.int .i64 (total L)) ∧ w.frozen? ⟨p, 0, none⟩ = false ∧ w.frozen? ⟨p, 1, none⟩ = false := ⟨h.blk.cell 0, h.blk.cell 1, h.blk.frozen 0, h.blk.frozen 1⟩
/-- the row's cells -/
theorem PA.row (h : PA w p v M L) : (v = .slice none 0 0 ∧ L.length = 0) ∨ ∃ g c, v = .slice (some ⟨g, 0, none⟩) L.length c ∧ L.length ≤ c ∧ g < w.heap.size ∧ g ≠ p ∧ ∀ t x, L[t]? = some x → w.cell? ⟨g, t * 2, none⟩ = some (.int .i64 x.1) ∧ w.cell? ⟨g, t * 2 + 1, none⟩ = some (.int .i64 x.2) ∧ w.frozen? ⟨g, t * 2 + 1, none⟩ = false := by
  rcases h.own.2 with h0 | ⟨g, c, cur, rfl, _, hg, hnc, _, hcs, ht⟩
  · exact .inl h0
  · refine .inr ⟨g, c, rfl, hnc, (Array.getElem?_eq_some_iff.1 hg).1, fun e => h.n0 (by rw [e]; rfl), fun t x hx => ?_⟩
    have hlt := (List.getElem?_eq_some_iff.1 hx).1
    obtain ⟨c1, c2⟩ := cells_at L t x hx
    rw [← ht, List.getElem?_take_of_lt (by omega), Array.getElem?_toList] at c1 c2
    exact ⟨(Blk.cell (show Blk w g _ _ from hg) _).trans c1, (Blk.cell (show Blk w g _ _ from hg) _).trans c2, Blk.frozen (show Blk w g _ _ from hg) _⟩
end
/-- a purse in memory, its own row unnamed -/
def PQ (w : World) (p : Nat) (M : Nat → Prop) (L : List Due) : Prop := ∃ v, PA w p v M L
section
variable {w w' : World} {p : Nat} {M M' : Nat → Prop} {L : List Due}
theorem PQ.step (h : PQ w p M L) (hs : w.heap.size ≤ w'.heap.size) (hb : ∀ k, k < w.heap.size → ¬ M k → w'.heap[k]? = w.heap[k]?) (hm : ∀ k, M' k → M k ∨ (w.heap.size ≤ k ∧ k < w'.heap.size)) : PQ w' p M' L := by
  obtain ⟨v, h⟩ := h
  exact ⟨v, h.step hs hb hm⟩
theorem PQ.below (h : PQ w p M L) (hb : Below w.heap.size w w') : PQ w' p M L := h.step hb.size (fun k hk _ => hb.block k hk) (fun _ hk => .inl hk)
theorem PQ.mono (h : PQ w p M L) (hm : ∀ k, M' k → M k) : PQ w p M' L := h.step (Nat.le_refl _) (fun _ _ _ => rfl) (fun k hk => .inl (hm k hk))
theorem PQ.alloc (h : PQ w p M L) (o : Obj) : PQ (w.alloc o) p (fun k => M k ∨ k = w.heap.size) L :=
  h.step (by simp) (fun k hk _ => Below.heap_alloc w o k hk) (fun k hk => hk.elim .inl (fun e => .inr (by simp; omega)))
theorem PQ.set_ (h : PQ w p M L) {b : Nat} (hb : M b) (i : Nat) (v : Value) : PQ (w.setCell ⟨b, i, none⟩ v) p M L :=
  h.step (by simp) (fun k _ hk => Below.heap_setCell w ⟨b, i, none⟩ v k (fun e => hk ((show k = b from e) ▸ hb))) (fun k hk => .inl hk)
theorem PQ.drewN (h : PQ w p M L) (n : Nat) : PQ (w.drewN n) p M L := h.step (Nat.le_refl _) (fun _ _ _ => rfl) (fun _ hk => .inl hk)
theorem PQ.wf (h : PQ w p M L) : wfL L := by obtain ⟨v, h⟩ := h; exact h.wf
theorem PQ.lt (h : PQ w p M L) : ∀ k, M k → k < w.heap.size := by obtain ⟨v, h⟩ := h; exact h.lt
theorem PQ.pm (h : PQ w p M L) : ¬ M p := by obtain ⟨v, h⟩ := h; exact h.m0
theorem PQ.pl (h : PQ w p M L) : p < w.heap.size := by obtain ⟨v, h⟩ := h; exact h.blk.lt
end
set_option maxRecDepth 100000 in
set_option maxHeartbeats 1000000 in
theorem search_nil (k : Int) (w : World) :
    Calls Try.prog 24 #[.slice none 0 0, .int .i64 k, .func (.func 25) #[] #[]] w (FindRes [] k w) := by
  go_enter Try.func24, Try.ntmps24
  go_wp2
  go_loopg [9, 10] 0 (fun _ s9 s10 wr => s9 = .int .i64 0 ∧ s10 = .int .i64 0 ∧ wr = w)
  case atStart => exact ⟨rfl, rfl, rfl⟩
  case round =>
    obtain ⟨rfl, rfl, rfl⟩ := hrel
    go_wp2
    go_ret2
    exact ⟨rfl, Below.refl _ _⟩
set_option maxRecDepth 100000 in
set_option maxHeartbeats 1000000 in
theorem find_any (p : Nat) (v : Value) (M : Nat → Prop) (L : List Due) (k : Int) (w : World) (h : PA w p v M L) (hn : L.length ≤ 1000000) :
    Calls Try.prog 18 #[.pointer (some ⟨p, 0, none⟩), .int .i64 k] w (FindRes L k w) := by
  obtain ⟨c0, _, _, _⟩ := h.at_
  rcases h.row with ⟨rfl, h0⟩ | ⟨g, c, rfl, hc, hg, _, hcs⟩
  · obtain rfl := List.eq_nil_of_length_eq_zero h0
    clear h
    go_enter Try.func18, Try.ntmps18
    go_wp2_with fail
    refine (search_nil k _).mono ?_; rintro e w1 ⟨rfl, b1⟩
    have B1 := Lib.hid b1
    clear b1
    go_wp2
    go_ret2
    exact ⟨rfl, B1.out⟩
  · have hse := search_some g c L.length L k w rfl hg (fun t x hx => ⟨(hcs t x hx).1, (hcs t x hx).2.1⟩) h.wf.srt (by omega)
    have HSE := Lib.hid hse
    clear hse hcs h
    go_enter Try.func18, Try.ntmps18
    go_wp2_with fail
    refine HSE.out.mono ?_; rintro e w1 ⟨rfl, b1⟩
    have B1 := Lib.hid b1
    clear b1
    go_wp2
    go_ret2
    exact ⟨rfl, B1.out⟩
set_option maxRecDepth 100000 in
theorem find_nil (k : Int) (w : World) :
    Calls Try.prog 18 #[.pointer none, .int .i64 k] w fun e w' => e = .returned (.tuple #[.int .i64 0, .bool false]) ∧ w = w' := by
  go_enter Try.func18, Try.ntmps18
  go_wp2
  go_ret2
  exact ⟨rfl, rfl⟩
set_option maxRecDepth 100000 in
theorem sum_any (p : Nat) (M : Nat → Prop) (L : List Due) (w : World) (h : PQ w p M L) :
    Calls Try.prog 15 #[.pointer (some ⟨p, 0, none⟩)] w fun e w' => e = .returned (.int .i64 (total L)) ∧ w = w' := by
  obtain ⟨v, h⟩ := h
  obtain ⟨_, c1, _, _⟩ := h.at_
  clear h
  go_enter Try.func15, Try.ntmps15
  go_wp2
  go_ret
  exact ⟨rfl, rfl⟩
set_option maxRecDepth 100000 in
theorem sum_nil (w : World) : Calls Try.prog 15 #[.pointer none] w fun e w' => e = .returned (.int .i64 0) ∧ w = w' := by
  go_enter Try.func15, Try.ntmps15
  go_wp2
  go_ret
  exact ⟨rfl, rfl⟩
set_option maxRecDepth 100000 in
set_option maxHeartbeats 1000000 in
theorem of_any (p : Nat) (M : Nat → Prop) (L : List Due) (k : Int) (w : World) (h : PQ w p M L) (hn : L.length ≤ 1000000) :
    Calls Try.prog 13 #[.pointer (some ⟨p, 0, none⟩), .int .i64 k] w fun e w' => e = .returned (.int .i64 (ofL L k)) ∧ Below w.heap.size w w' := by
  obtain ⟨v, h⟩ := h
  have hf := find_any p v M L k w h hn
  have HF := Lib.hid hf
  have H := Lib.hid h
  clear hf h
  generalize hof : ofL L k = n
  have HN := Lib.hid hof
  clear hof
  go_enter Try.func13, Try.ntmps13
  go_wp2_with fail
  refine HF.out.mono ?_; rintro e w1 ⟨rfl, b1⟩
  have h1 := H.out.step b1.size (fun k hk _ => b1.block k hk) (fun _ hk => .inl hk)
  have H1 := Lib.hid h1
  have B1 := Lib.hid b1
  clear b1 h1
  cases hh : hasL L k with
  | false =>
    obtain rfl : n = 0 := HN.out.symm.trans (ofL_not L k hh)
    go_wp2
    go_ret
    exact ⟨rfl, B1.out⟩
  | true =>
    have hlt := hasL_lt hh
    have hx := hasL_get L k hh
    rw [HN.out] at hx
    obtain ⟨c0, _, _, _⟩ := H1.out.at_
    rcases H1.out.row with ⟨rfl, h0⟩ | ⟨g, c, rfl, hc, hg, _, hcs⟩
    · omega
    · obtain ⟨_, c2, _⟩ := hcs _ _ hx
      clear hcs
      clear hx
      generalize posL L k = i at hlt c2 ⊢
      go_wp2
      go_ret
      exact ⟨rfl, B1.out⟩
set_option maxRecDepth 100000 in
theorem of_nil (k : Int) (w : World) : Calls Try.prog 13 #[.pointer none, .int .i64 k] w fun e w' => e = .returned (.int .i64 0) ∧ w = w' := by
  go_enter Try.func13, Try.ntmps13
  go_wp2_with fail
  refine (find_nil _ _).mono ?_; rintro e w1 ⟨rfl, rfl⟩
  go_wp2
  go_ret
  exact ⟨rfl, rfl⟩
/-- a new purse is in memory of its own -/
def NewRes (w : World) (e : Ending) (w' : World) : Prop := e = .returned (.pointer (some ⟨w.heap.size, 0, none⟩)) ∧ PQ w' w.heap.size (fun k => k < w.heap.size) [] ∧ Below w.heap.size w w'
set_option maxRecDepth 100000 in
theorem new_any (w : World) : Calls Try.prog 8 #[] w (NewRes w) := by
  go_enter Try.func8, Try.ntmps8
  go_wp2
  go_ret
  refine ⟨rfl, ⟨.slice none 0 0, ?_⟩, (Below.refl w.heap.size w).alloc (Nat.le_refl _) _⟩
  exact ⟨Blk.new w _ _, own_nil _ _ _ _, by simp [Value.ownBlock], Nat.lt_irrefl _, fun g hg => by simp [Value.ownBlock] at hg, fun k hk => by simp; omega, wf_nil⟩
end Go.Proofs.Ytoiakenepmbalaa.Purse
