/- A net in memory: New, Put. -/
import Derived.Test.YthkgmfgchgoafaaMistCount
import Derived.Laws.AppendOwn
import Derived.Maps.AppendAt
import Derived.Deep.RegionLaw
import Derived.Laws.OwnMore
namespace Go.Proofs.Ythkgmfgchgoafaa.Mist
set_option maxRecDepth 100000
open Go.RowKit
open Go.Proofs.Ythkgmfgchgoafaa.Mem Go.Proofs.Ythkgmfgchgoafaa.CordG
/-- a net in memory (of type T), that lies in none of the blocks M -/
structure PA (T : TypeId) (w : World) (p : Nat) (v : Value) (M : Nat → Prop) (L : List Gr) : Prop where
  blk : Blk w p T #[v]
  own : w.ownsRow 0 29 6 v L.length (gramsV L)
  n0 : v.ownBlock ≠ some p
  m0 : ¬ M p
  m1 : ∀ g, v.ownBlock = some g → ¬ M g
  lt : ∀ k, M k → k < w.heap.size
section
variable {T : TypeId} {w w' w1 w2 : World} {p : Nat} {v v' : Value} {M M' : Nat → Prop} {L L' : List Gr}
theorem PA.step (h : PA T w p v M L) (hs : w.heap.size ≤ w'.heap.size) (hb : ∀ k, k < w.heap.size → ¬ M k → w'.heap[k]? = w.heap[k]?) (hm : ∀ k, M' k → M k ∨ (w.heap.size ≤ k ∧ k < w'.heap.size)) : PA T w' p v M' L := by
  refine ⟨(hb p h.blk.lt h.m0).trans h.blk, own_same h.own fun g hg => hb g (own_lt h.own hg) (h.m1 g hg), h.n0, ?_, ?_, ?_⟩
  · intro hk; rcases hm _ hk with h' | h'
    · exact h.m0 h'
    · have := h.blk.lt; omega
  · intro g hg hk; rcases hm _ hk with h' | h'
    · exact h.m1 g hg h'
    · have := own_lt h.own hg; omega
  · intro k hk; rcases hm _ hk with h' | h'
    · have := h.lt k h'; omega
    · exact h'.2
theorem PA.alloc (h : PA T w p v M L) (o : Obj) : PA T (w.alloc o) p v (fun k => M k ∨ k = w.heap.size) L :=
  h.step (by simp) (fun k hk _ => Below.heap_alloc w o k hk) (fun k hk => hk.elim .inl (fun e => .inr (by simp; omega)))
theorem PA.set_ (h : PA T w p v M L) {b : Nat} (hb : M b) (i : Nat) (u : Value) : PA T (w.setCell ⟨b, i, none⟩ u) p v M L :=
  h.step (by simp) (fun k _ hk => Below.heap_setCell w ⟨b, i, none⟩ u k (fun e => hk ((show k = b from e) ▸ hb))) (fun k hk => .inl hk)
theorem PA.mono (h : PA T w p v M L) (hm : ∀ k, M' k → M k) : PA T w p v M' L := h.step (Nat.le_refl _) (fun _ _ _ => rfl) (fun k hk => .inl (hm k hk))
/-- its row laid anew -/
theorem PA.laid (h : PA T w p v M L) (hb : Below w.heap.size w w1) (ho : w2.ownsRow 0 29 6 v' L'.length (gramsV L')) (hg : w1.grownBy w2 v.ownBlock) (hv : ∀ g, v'.ownBlock = some g → v.ownBlock = some g ∨ w1.heap.size ≤ g) :
    w2.cell? ⟨p, 0, none⟩ = some v ∧ w2.frozen? ⟨p, 0, none⟩ = false ∧ PA T (w2.setCell ⟨p, 0, none⟩ v') p v' M L' ∧ Keep M w (w2.setCell ⟨p, 0, none⟩ v') := by
  have h1 := h.blk.below hb h.blk.lt
  have h2 := h1.grown hg (fun e => h.n0 e.symm)
  have hs := hb.size
  have hs2 := hg.size
  have hn : v'.ownBlock ≠ some p := fun e => by
    rcases hv p e with x | x
    · exact h.n0 x
    · have := h.blk.lt; omega
  refine ⟨h2.cell 0, h2.frozen 0, ⟨by simpa using h2.set_ 0 v', own_set ho hn 0 v', hn, h.m0, fun g e hm => ?_, fun k hk => ?_⟩, ?_⟩
  · rcases hv g e with x | x
    · exact h.m1 g x hm
    · have := h.lt g hm; omega
  · have := h.lt k hk; simp; omega
  · exact ((Keep.of_below hb h.lt).grown hg (fun k hk => by have := h.lt k hk; omega) (fun k e hk => h.m1 k e hk)).set_ h.m0 0 v'
end
/-- .. its row unnamed -/
def PQ (T : TypeId) (w : World) (p : Nat) (M : Nat → Prop) (L : List Gr) : Prop := ∃ v, PA T w p v M L
section
variable {T : TypeId} {w w' : World} {p : Nat} {M M' : Nat → Prop} {L : List Gr}
theorem PQ.step (h : PQ T w p M L) (hs : w.heap.size ≤ w'.heap.size) (hb : ∀ k, k < w.heap.size → ¬ M k → w'.heap[k]? = w.heap[k]?) (hm : ∀ k, M' k → M k ∨ (w.heap.size ≤ k ∧ k < w'.heap.size)) : PQ T w' p M' L := by
  obtain ⟨v, h⟩ := h
  exact ⟨v, h.step hs hb hm⟩
theorem PQ.below (h : PQ T w p M L) (hb : Below w.heap.size w w') : PQ T w' p M L := h.step hb.size (fun k hk _ => hb.block k hk) (fun _ hk => .inl hk)
theorem PQ.mono (h : PQ T w p M L) (hm : ∀ k, M' k → M k) : PQ T w p M' L := h.step (Nat.le_refl _) (fun _ _ _ => rfl) (fun k hk => .inl (hm k hk))
theorem PQ.alloc (h : PQ T w p M L) (o : Obj) : PQ T (w.alloc o) p (fun k => M k ∨ k = w.heap.size) L :=
  h.step (by simp) (fun k hk _ => Below.heap_alloc w o k hk) (fun k hk => hk.elim .inl (fun e => .inr (by simp; omega)))
theorem PQ.set_ (h : PQ T w p M L) {b : Nat} (hb : M b) (i : Nat) (v : Value) : PQ T (w.setCell ⟨b, i, none⟩ v) p M L :=
  h.step (by simp) (fun k _ hk => Below.heap_setCell w ⟨b, i, none⟩ v k (fun e => hk ((show k = b from e) ▸ hb))) (fun k hk => .inl hk)
theorem PQ.drewN (h : PQ T w p M L) (n : Nat) : PQ T (w.drewN n) p M L := h.step (Nat.le_refl _) (fun _ _ _ => rfl) (fun _ hk => .inl hk)
theorem PQ.lt (h : PQ T w p M L) : ∀ k, M k → k < w.heap.size := by obtain ⟨v, h⟩ := h; exact h.lt
theorem PQ.pm (h : PQ T w p M L) : ¬ M p := by obtain ⟨v, h⟩ := h; exact h.m0
theorem PQ.pl (h : PQ T w p M L) : p < w.heap.size := by obtain ⟨v, h⟩ := h; exact h.blk.lt
end
theorem PA.np {w : World} {p : Nat} {v : Value} {M : Nat → Prop} {L : List Gr} (h : PA 69 w p v M L) : NP w (some ⟨p, 0, none⟩) v L := ⟨src_own h.own, .inr ⟨p, rfl, h.blk⟩⟩
theorem ncount_any (p : Nat) (M : Nat → Prop) (L : List Gr) (c : Int) (u : Bool) (w : World) (h : PQ 69 w p M L) (hlen : L.length ≤ 1000000) :
    Calls Try.prog 14 #[.pointer (some ⟨p, 0, none⟩), .int .i64 c, .bool u] w fun e w' => e = .returned (.int .i64 (countL L c u : Int)) ∧ Below w.heap.size w w' := by
  obtain ⟨v, h⟩ := h
  exact count_any _ v L c u w h.np hlen
theorem zcount_any (c : Int) (u : Bool) (w : World) :
    Calls Try.prog 14 #[.pointer none, .int .i64 c, .bool u] w fun e w' => e = .returned (.int .i64 0) ∧ Below w.heap.size w w' := count_any none _ [] c u w (np_none w) (Nat.zero_le _)
theorem nfind_any (p : Nat) (M : Nat → Prop) (L : List Gr) (c : Int) (u : Bool) (at_ : Int) (w : World) (h : PQ 69 w p M L) (hlen : L.length ≤ 1000000) :
    Calls Try.prog 29 #[.pointer (some ⟨p, 0, none⟩), .int .i64 c, .bool u, .int .i64 at_] w fun e w' => e = .returned (.int .i64 (findI L c u at_)) ∧ Below w.heap.size w w' := by
  obtain ⟨v, h⟩ := h
  exact find_any _ v L c u at_ w h.np hlen
/-- a new net is in memory of its own -/
def NewRes (w : World) (e : Ending) (w' : World) : Prop := e = .returned (.pointer (some ⟨w.heap.size, 0, none⟩)) ∧ PQ 69 w' w.heap.size (fun k => k < w.heap.size) [] ∧ Below w.heap.size w w'
set_option maxRecDepth 100000 in
theorem new_any (w : World) : Calls Try.prog 9 #[] w (NewRes w) := by
  go_enter Try.func9, Try.ntmps9
  go_wp2
  go_ret
  refine ⟨rfl, ⟨.slice none 0 0, ?_⟩, (Below.refl w.heap.size w).alloc (Nat.le_refl _) _⟩
  exact ⟨Blk.new w _ _, own_nil _ _ _ _, by simp [Value.ownBlock], Nat.lt_irrefl _, fun g hg => by simp [Value.ownBlock] at hg, fun k hk => by simp; omega⟩
/-- append, as a step of a drawn region, where its run is known -/
theorem step_append_known {P : Program} {ops : Array Oper} {o : Oper} {a : Act} {w : World} {K : Act → World → Prop} {Q : Exit → Act → World → Prop} {E : Prop}
    (hg : o.guard = none) (d x : Operand) (dT sT : TypeId) (hop : o.op = Op.call { callee := Callee.builtin Builtin.append, args := #[d, x], argTypes := #[dT, sT] })
    (v u : Value) (hd : a.eval d = v) (hx : a.eval x = u) {v' : Value} {w' : World} (hr : (Builtin.append_ #[dT, sT] o.type #[v, u]).run P w = .ok v' w') (hK : K (a.put o.dst v') w') :
    if Region.wanted o (yielded ops a.tmps) = true then Oper.wp P o a w K Q else E := by
  have hw : Region.wanted o (yielded ops a.tmps) = true := by simp [Region.wanted, hg]
  rw [if_pos hw]
  unfold Oper.wp
  simp [execOp, hop, resolve, invoke, builtin, hd, hx, hr, Result.andThen]
  exact hK
theorem step_put {ops : Array Oper} {o : Oper} {a : Act} {w wr : World} {K : Act → World → Prop} {Q : Exit → Act → World → Prop} {E : Prop} (hg : o.guard = none) (s x : Operand)
    (hop : o.op = .call { callee := .builtin .append, args := #[s, x], argTypes := #[67, 67] })
    (v : Value) (L : List Gr) (hs : a.eval s = v) (vb : Nat) (y : Gr) (hx : a.eval x = .slice (some ⟨vb, 0, none⟩) 1 1) (hP : Below wr.heap.size wr w ∧ Blk w vb 29 (gv y))
    (hown : wr.ownsRow 0 29 6 v L.length (gramsV L)) (hn : L.length ≤ 30000)
    (hK : ∀ v' w', Below wr.heap.size wr w → w'.ownsRow 0 29 6 v' (L ++ [y]).length (gramsV (L ++ [y])) → w.grownBy w' v.ownBlock → (v'.ownBlock = v.ownBlock ∨ v'.ownBlock = some w.heap.size) → K (a.put o.dst v') w') :
    if Region.wanted o (yielded ops a.tmps) = true then Oper.wp Try.prog o a w K Q else E := by
  obtain ⟨i0, hi, hz0, hz1, hz2⟩ := info_parts info_gram
  have hown2 : w.ownsRow 0 29 6 v L.length (gramsV L) := own_same hown fun g hg => hP.1.block g (own_lt hown hg)
  obtain ⟨v', w', hr, h2, h3, _, h5⟩ := run_append_own_at (P := Try.prog) w 0 67 o.type 29 i0 (.agg #[.int .i64 0, .bool false, .int .i64 0, .int .i64 0, .int .i64 0, .string .empty]) 6 56 Try.underlying67 hi hz0 hz1 hz2 rfl (by decide) v L.length (gramsV L) hown2 ⟨vb, 0, none⟩ 1 1 (gv y).toList rfl
    (fun j z hj => by rw [Addr.add_lit, hP.2.cell, Nat.zero_add, ← Array.getElem?_toList]; exact hj) (fun z hz => by simp [gv] at hz; rcases hz with rfl | rfl | rfl | rfl | rfl | rfl <;> rfl) (by unfold maxLen; omega) (by omega) (Nat.zero_le _)
  refine step_append_known hg s x 67 67 hop v (.slice (some ⟨vb, 0, none⟩) 1 1) hs hx hr (hK v' w' hP.1 ?_ h3 h5)
  rw [List.length_append, grams_app, grams_one]; exact h2
/-- Put -/
def putX (L : List Gr) (g : Gr) : Int := if g.cl < 1 ∨ 8 < g.cl then 1 else if 64 ≤ countL L g.cl g.up then 11 else 0
def putL (L : List Gr) (g : Gr) : List Gr := if putX L g = 0 then L ++ [g] else L
theorem put_is (L : List Gr) (g : Gr) : ((g.cl < 1 ∨ 8 < g.cl) ∧ putX L g = 1 ∧ putL L g = L) ∨ (¬ g.cl < 1 ∧ ¬ 8 < g.cl ∧ 64 ≤ countL L g.cl g.up ∧ putX L g = 11 ∧ putL L g = L) ∨ (¬ g.cl < 1 ∧ ¬ 8 < g.cl ∧ ¬ 64 ≤ countL L g.cl g.up ∧ putX L g = 0 ∧ putL L g = L ++ [g]) := by
  by_cases h1 : g.cl < 1 ∨ 8 < g.cl
  · have e : putX L g = 1 := by unfold putX; rw [if_pos h1]
    exact .inl ⟨h1, e, by unfold putL; rw [e]; rfl⟩
  · by_cases h2 : 64 ≤ countL L g.cl g.up
    · have e : putX L g = 11 := by unfold putX; rw [if_neg h1, if_pos h2]
      exact .inr (.inl ⟨by omega, by omega, h2, e, by unfold putL; rw [e]; rfl⟩)
    · have e : putX L g = 0 := by unfold putX; rw [if_neg h1, if_neg h2]
      exact .inr (.inr ⟨by omega, by omega, h2, e, by unfold putL; rw [e]; rfl⟩)
theorem put_len (L : List Gr) (g : Gr) : (putL L g).length ≤ L.length + 1 := by
  rcases put_is L g with ⟨_, _, h⟩ | ⟨_, _, _, _, h⟩ | ⟨_, _, _, _, h⟩ <;> rw [h] <;> simp
theorem below_box (w : World) (o : Obj) : Below w.heap.size w (w.alloc o) := (Below.refl _ _).alloc (Nat.le_refl _) o
set_option maxRecDepth 100000 in
set_option maxHeartbeats 4000000 in
theorem put_any (p : Nat) (M : Nat → Prop) (L : List Gr) (x : Gr) (w : World) (h : PQ 69 w p M L) (hlen : L.length ≤ 30000) :
    Calls Try.prog 10 #[.pointer (some ⟨p, 0, none⟩), .agg #[.int .i64 x.cl, .bool x.up, .int .i64 x.ep, .int .i64 x.sq, .int .i64 x.ak, .string x.bd]] w fun e w' => e = .returned (.int .i64 (putX L x)) ∧ PQ 69 w' p M (putL L x) ∧ Keep M w w' := by
  have hb := below_box w (.cells (gv x) 29)
  have h1 := h.below hb
  have hB := Blk.new w 29 (gv x)
  have HK1 := Lib.hid (Keep.of_below hb h.lt)
  have HX1 := Lib.hid h1
  have x0 := hB.cell 0
  have x1 := hB.cell 1
  have HBX := Lib.hid hB
  have HC := Lib.hid (ncount_any p M L x.cl x.up _ h1 (by omega))
  obtain ⟨cl, up, ep, sq, ak, bd⟩ := x
  dsimp only [gv] at x0 x1 HK1 HX1 HBX HC ⊢
  rcases put_is L ⟨cl, up, ep, sq, ak, bd⟩ with ⟨hc, hx, he⟩ | ⟨hc, hd, hf, hx, he⟩ | ⟨hc, hd, hf, hx, he⟩
  · rw [hx, he]
    clear h hb h1 hB HC hx he HBX
    dsimp only at hc
    by_cases hc1 : cl < 1
    · clear hc
      go_enter Try.func10, Try.ntmps10
      go_wp2
      go_ret
      exact ⟨rfl, HX1.out, HK1.out⟩
    · have hc2 : 8 < cl := by omega
      clear hc
      go_enter Try.func10, Try.ntmps10
      go_wp2
      go_ret
      exact ⟨rfl, HX1.out, HK1.out⟩
  · rw [hx, he]
    dsimp only at hc hd hf
    generalize countL L cl up = k at hf HC
    have hfi : (64 : Int) ≤ (k : Int) := by omega
    clear h hb h1 hB hx he HBX
    go_enter Try.func10, Try.ntmps10
    go_wp2_with fail
    refine HC.out.mono ?_
    rintro e w2 ⟨rfl, b2⟩
    have HX2 := Lib.hid (HX1.out.below b2)
    have HK2 := Lib.hid (HK1.out.trans (Keep.of_below b2 HX1.out.lt))
    clear b2 HC x0 x1
    go_wp2
    go_ret
    exact ⟨rfl, HX2.out, HK2.out⟩
  · rw [hx, he]
    dsimp only at hc hd hf
    generalize countL L cl up = k at hf HC
    have hfi : ¬ (64 : Int) ≤ (k : Int) := by omega
    have hwb := hb
    clear h hb h1 hB hx he
    go_enter Try.func10, Try.ntmps10
    go_wp2_with fail
    refine HC.out.mono ?_
    rintro e w2 ⟨rfl, b2⟩
    obtain ⟨v, hA⟩ := HX1.out.below b2
    have HB2 := Lib.hid (HBX.out.below b2 HBX.out.lt)
    have HK2 := Lib.hid (HK1.out.trans (Keep.of_below b2 HX1.out.lt))
    clear b2 HC x0 x1 HK1 HBX HX1 hwb
    have x0 := HB2.out.cell 0
    have x1 := HB2.out.cell 1
    have x2 := HB2.out.cell 2
    have x3 := HB2.out.cell 3
    have x4 := HB2.out.cell 4
    have x5 := HB2.out.cell 5
    obtain ⟨a, cv, rfl⟩ := own_shape hA.own
    have FIN : Hid (∀ W2 v5 w5, Below w2.heap.size w2 W2 → w5.ownsRow 0 29 6 v5 (L ++ [(⟨cl, up, ep, sq, ak, bd⟩ : Gr)]).length (gramsV (L ++ [(⟨cl, up, ep, sq, ak, bd⟩ : Gr)])) → W2.grownBy w5 (Value.slice a L.length cv).ownBlock → (v5.ownBlock = (Value.slice a L.length cv).ownBlock ∨ v5.ownBlock = some W2.heap.size) →
        (∃ a n c, v5 = .slice a n c) ∧ w5.cell? ⟨p, 0, none⟩ = some (.slice a L.length cv) ∧ w5.frozen? ⟨p, 0, none⟩ = false ∧ PQ 69 (w5.setCell ⟨p, 0, none⟩ v5) p M (L ++ [(⟨cl, up, ep, sq, ak, bd⟩ : Gr)]) ∧ Keep M w (w5.setCell ⟨p, 0, none⟩ v5)) := Lib.hid fun W2 v5 w5 hb ho hg hv => by
      obtain ⟨a5, c5, e5⟩ := own_shape ho
      obtain ⟨h1, h2, h3, h4⟩ := hA.laid hb ho hg (fun g hg5 => by
        rcases hv with e1 | e1
        · exact .inl (e1.symm.trans hg5)
        · rw [e1] at hg5; injection hg5 with hg5; exact .inr (by omega))
      exact ⟨⟨a5, _, c5, e5⟩, h1, h2, ⟨v5, h3⟩, HK2.out.trans h4⟩
    have d1 : w2.cell? ⟨p, 0, none⟩ = some (.slice a L.length cv) := hA.blk.cell 0
    have d6 : (w2.alloc (.cells #[.int .i64 cl, .bool up, .int .i64 ep, .int .i64 sq, .int .i64 ak, .string bd] 29)).cell? ⟨p, 0, none⟩ = some (.slice a L.length cv) := ((below_box w2 _).cell (p := ⟨p, 0, none⟩) hA.blk.lt).trans d1
    have d7 : (w2.alloc (.cells #[.int .i64 cl, .bool up, .int .i64 ep, .int .i64 sq, .int .i64 ak, .string bd] 29)).drew.cell? ⟨p, 0, none⟩ = some (.slice a L.length cv) := d6
    have HO := Lib.hid hA.own
    clear hA
    go_wp2_with fail
    go_region_law (refine step_put (wr := w2) rfl (.tmp 29) (.tmp 31) rfl (.slice a L.length cv) L (by simp [Act.eval]) w2.heap.size ⟨cl, up, ep, sq, ak, bd⟩ (by simp [Act.eval]) ?hp HO.out hlen ?_; (case hp => first | exact ⟨(below_box w2 _).drew, Blk.new w2 _ _⟩ | exact ⟨below_box w2 _, Blk.new w2 _ _⟩); intro v5 w5 hb5 ho5 hg5 hv5; have HE := Lib.hid (FIN.out _ v5 w5 hb5 ho5 hg5 hv5); obtain ⟨a5, n5, c5, e5⟩ := HE.out.1; subst e5; have k5 := HE.out.2.1; have f5 := HE.out.2.2.1; clear hb5 ho5 hg5 hv5)
    all_goals
      clear FIN HO HK2 HB2 d6 d7
      go_wp2_with fail
      go_ret
      exact ⟨rfl, HE.out.2.2.2⟩
set_option maxRecDepth 100000 in
theorem zput_any (x : Gr) (w : World) :
    Calls Try.prog 10 #[.pointer none, .agg #[.int .i64 x.cl, .bool x.up, .int .i64 x.ep, .int .i64 x.sq, .int .i64 x.ak, .string x.bd]] w fun e w' => e = .returned (.int .i64 2) ∧ Below w.heap.size w w' := by
  have hn := run_nilp
  have hb := Lib.hid (below_box w (.cells (gv x) 29))
  go_enter Try.func10, Try.ntmps10
  go_wp2
  go_ret
  exact ⟨rfl, hb.out⟩
end Go.Proofs.Ythkgmfgchgoafaa.Mist
