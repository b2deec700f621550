/- What an event makes of the talk. -/
import Derived.Test.YtbbikibkijncgaaCordSends
namespace Go.Proofs.Ytbbikibkijncgaa.Cord
set_option maxRecDepth 100000
open Go.RowKit
open Go.Proofs.Ytbbikibkijncgaa.Mem
theorem Inv.giveB {ep : Int} {t : TS} (h : Inv ep t) {s : ByteArray} (hs : s.size ≤ 1024) (h0 : sendX t.B s = 0) : Inv ep { t with B := sendE t.B s, tA := t.tA ++ [s] } := by
  rcases sendX_is t.B s with ⟨h1, _⟩ | ⟨_, _, h1, _⟩ | ⟨_, h1, _, _⟩
  · omega
  · omega
  · obtain ⟨g1, g2, g3, g4⟩ := send_got t.B s
    exact ⟨h.ab.other g1 g2, h.ba.send hs h1, h.wa, wf_send h.wb s⟩
theorem Inv.giveA1 {ep : Int} {t : TS} (h : Inv ep t) {s : ByteArray} (hs : s.size ≤ 1024) (h0 : sendX t.A s = 0) : Inv ep { t with A := sendE t.A s, tB := t.tB ++ [s] } := by
  have := h.giveA hs
  unfold Cord.giveA at this
  rw [if_pos h0] at this
  exact this
theorem send_none {e : CE} {s : ByteArray} (h : sendX e s ≠ 0) : sendE e s = e := by
  rcases sendX_is e s with ⟨_, _, h1⟩ | ⟨_, _, _, h1⟩ | ⟨_, _, h1, _⟩
  · exact h1
  · exact h1
  · exact absurd h1 h
theorem Inv.sends {ep : Int} {t : TS} (h : Inv ep t) (fi : Bool) : Inv ep (sendsS t fi) := by
  cases fi with
  | true => exact h.sendsA
  | false =>
    refine ⟨?_, ?_, h.wa, wf_out h.wb⟩
    · show Half ep t.A (outE t.B) t.tB t.aB (poolOf (t.pl ++ _) true)
      rw [pool_app, pool_same, if_neg (by decide), List.append_nil]
      exact h.ab.other rfl rfl
    · show Half ep (outE t.B) t.A t.tA t.aA (poolOf (t.pl ++ _) false)
      rw [pool_app, pool_same, if_pos rfl]
      exact h.ba.out h.wb
theorem Inv.comes {ep : Int} {t : TS} (h : Inv ep t) {x : Gm × Bool} (hx : x ∈ t.pl) : comesX t x = 0 ∧ Inv ep (comesS t x) := by
  obtain ⟨g, fi⟩ := x
  cases fi with
  | true => exact h.comesA hx
  | false =>
    obtain ⟨h1, h2, h3⟩ := h.ba.take h.ab (pool_mem.2 hx)
    exact ⟨h1, h3, h2, wf_take h.wa g, h.wb⟩
/-- how long its rows may be behind i events -/
structure Lens (t : TS) (i : Nat) : Prop where
  tA : t.tA.length ≤ i
  tB : t.tB.length ≤ i
  pl : t.pl.length ≤ 33 * i
theorem Lens.more {t : TS} {i j : Nat} (h : Lens t i) (hj : i ≤ j) : Lens t j := ⟨Nat.le_trans h.tA hj, Nat.le_trans h.tB hj, Nat.le_trans h.pl (Nat.mul_le_mul_left 33 hj)⟩
theorem out_len {e : CE} (h : e.wf) : (outL e).length ≤ 33 := by
  have := h.ol
  unfold outL
  split
  · split <;> simp
  · rw [gms_len]; omega
theorem Lens.sends {ep : Int} {t : TS} {i : Nat} (h : Lens t i) (hv : Inv ep t) (fi : Bool) : Lens (sendsS t fi) (i + 1) := by
  have h1 := out_len hv.wa
  have h2 := out_len hv.wb
  have h3 := h.pl
  cases fi with
  | true => exact ⟨Nat.le_succ_of_le h.tA, Nat.le_succ_of_le h.tB, by show (t.pl ++ _).length ≤ _; simp; omega⟩
  | false => exact ⟨Nat.le_succ_of_le h.tA, Nat.le_succ_of_le h.tB, by show (t.pl ++ _).length ≤ _; simp; omega⟩
theorem Lens.comes {t : TS} {i : Nat} (h : Lens t i) (x : Gm × Bool) : Lens (comesS t x) i := by
  unfold comesS; split <;> exact ⟨h.tA, h.tB, h.pl⟩
theorem at_len {ep : Int} {t : TS} {i : Nat} (h : Inv ep t) (hl : Lens t i) : t.aA.length ≤ i ∧ t.aB.length ≤ i := by
  have h1 := hl.tA
  have h2 := hl.tB
  constructor
  · rw [h.ba.at_is, List.length_take]; omega
  · rw [h.ab.at_is, List.length_take]; omega
section
variable {W0 w w' wr : World} {tp a b n : Nat} {V : Nat → Value} {X : Nat → Prop} {t : TS}
theorem TQ.sendA (h : TQ W0 w tp a b n V X t) (s : ByteArray) :
    Calls Try.prog 11 #[.pointer (some ⟨a, 0, none⟩), .string s] w fun r w' => r = .returned (.int .i64 (sendX t.A s)) ∧ TQ W0 w' tp a b (n + 1) V X { t with A := sendE t.A s } ∧ Keep X w w' := by
  refine (h.two.send s rfl rfl).mono ?_
  rintro r w' ⟨rfl, h2, hk⟩
  exact ⟨rfl, h.keep (hk.mono fun _ h => .inl h) (h2.mono (Nat.le_refl _) (by omega)), hk.mono fun _ h => .inr h⟩
theorem TQ.sendB (h : TQ W0 w tp a b n V X t) (s : ByteArray) :
    Calls Try.prog 11 #[.pointer (some ⟨b, 0, none⟩), .string s] w fun r w' => r = .returned (.int .i64 (sendX t.B s)) ∧ TQ W0 w' tp a b (n + 1) V X { t with B := sendE t.B s } ∧ Keep X w w' := by
  refine (h.two.swap.send s rfl rfl).mono ?_
  rintro r w' ⟨rfl, h2, hk⟩
  exact ⟨rfl, h.keep (hk.mono fun _ h => .inl h) (h2.swap.mono (by omega) (Nat.le_refl _)), hk.mono fun _ h => .inr h⟩
/-- a text at the end of what the second end is to get, as a step of a drawn region -/
theorem step_tB {ops : Array Oper} {o : Oper} {ac : Act} {K : Act → World → Prop} {Q : Exit → Act → World → Prop} {E : Prop} (h : TQ W0 wr tp a b n V X t) (hg : o.guard = none) (s x : Operand)
    (hop : o.op = .call { callee := .builtin .append, args := #[s, x], argTypes := #[40, 40] }) (hs : ac.eval s = V 1) (vb : Nat) (y : ByteArray) (hx : ac.eval x = .slice (some ⟨vb, 0, none⟩) 1 1) (hP : Below wr.heap.size wr w ∧ Blk w vb 9 #[.string y]) (hn : t.tB.length ≤ 30000)
    (hK : ∀ a5 n5 c5 w5, w5.cell? ⟨tp, 3, none⟩ = some (V 1) ∧ w5.frozen? ⟨tp, 3, none⟩ = false ∧ (∃ V', TQ W0 (w5.setCell ⟨tp, 3, none⟩ (.slice a5 n5 c5)) tp a b n V' X { t with tB := t.tB ++ [y] }) → K (ac.put o.dst (.slice a5 n5 c5)) w5) :
    if Region.wanted o (yielded ops ac.tmps) = true then Oper.wp Try.prog o ac w K Q else E := by
  have hw := h.below hP.1
  obtain ⟨i0, hi, hz0, hz1, hz2⟩ := info_parts info_str
  obtain ⟨v', w', hr, h2, h3, _, h5⟩ := run_append_own_at (P := Try.prog) w W0.heap.size 40 o.type 9 i0 (.string .empty) 1 16 Try.underlying40 hi hz0 hz1 hz2 rfl (by decide) (V 1) t.tB.length (strsV t.tB) hw.r1 ⟨vb, 0, none⟩ 1 1 [.string y] rfl
    (fun j z hj => by rw [Addr.add_lit, hP.2.cell, Nat.zero_add, ← Array.getElem?_toList]; exact hj) (fun z hz => by simp at hz; subst hz; rfl) (by unfold maxLen; omega) (by omega) hw.bel.size
  have h2' : w'.ownsRow W0.heap.size 9 1 v' (t.tB ++ [y]).length (strsV (t.tB ++ [y])) := by rw [List.length_append, strs_app]; exact h2
  obtain ⟨a5, c5, rfl⟩ := own_shape h2'
  have hb := hw.blk.grown h3 (fun x => hw.tp0 1 (by decide) x.symm)
  exact step_append_known hg s x 40 40 hop (V 1) (.slice (some ⟨vb, 0, none⟩) 1 1) hs hx hr (hK a5 _ c5 w' ⟨hb.cell 3, hb.frozen 3, _, (hw.laid (i := 1) (by decide) (t' := { t with tB := t.tB ++ [y] }) h3 h5 rfl rfl rfl h2' rfl rfl rfl).1⟩)
theorem step_tA {ops : Array Oper} {o : Oper} {ac : Act} {K : Act → World → Prop} {Q : Exit → Act → World → Prop} {E : Prop} (h : TQ W0 wr tp a b n V X t) (hg : o.guard = none) (s x : Operand)
    (hop : o.op = .call { callee := .builtin .append, args := #[s, x], argTypes := #[40, 40] }) (hs : ac.eval s = V 0) (vb : Nat) (y : ByteArray) (hx : ac.eval x = .slice (some ⟨vb, 0, none⟩) 1 1) (hP : Below wr.heap.size wr w ∧ Blk w vb 9 #[.string y]) (hn : t.tA.length ≤ 30000)
    (hK : ∀ a5 n5 c5 w5, w5.cell? ⟨tp, 2, none⟩ = some (V 0) ∧ w5.frozen? ⟨tp, 2, none⟩ = false ∧ (∃ V', TQ W0 (w5.setCell ⟨tp, 2, none⟩ (.slice a5 n5 c5)) tp a b n V' X { t with tA := t.tA ++ [y] }) → K (ac.put o.dst (.slice a5 n5 c5)) w5) :
    if Region.wanted o (yielded ops ac.tmps) = true then Oper.wp Try.prog o ac w K Q else E := by
  have hw := h.below hP.1
  obtain ⟨i0, hi, hz0, hz1, hz2⟩ := info_parts info_str
  obtain ⟨v', w', hr, h2, h3, _, h5⟩ := run_append_own_at (P := Try.prog) w W0.heap.size 40 o.type 9 i0 (.string .empty) 1 16 Try.underlying40 hi hz0 hz1 hz2 rfl (by decide) (V 0) t.tA.length (strsV t.tA) hw.r0 ⟨vb, 0, none⟩ 1 1 [.string y] rfl
    (fun j z hj => by rw [Addr.add_lit, hP.2.cell, Nat.zero_add, ← Array.getElem?_toList]; exact hj) (fun z hz => by simp at hz; subst hz; rfl) (by unfold maxLen; omega) (by omega) hw.bel.size
  have h2' : w'.ownsRow W0.heap.size 9 1 v' (t.tA ++ [y]).length (strsV (t.tA ++ [y])) := by rw [List.length_append, strs_app]; exact h2
  obtain ⟨a5, c5, rfl⟩ := own_shape h2'
  have hb := hw.blk.grown h3 (fun x => hw.tp0 0 (by decide) x.symm)
  exact step_append_known hg s x 40 40 hop (V 0) (.slice (some ⟨vb, 0, none⟩) 1 1) hs hx hr (hK a5 _ c5 w' ⟨hb.cell 2, hb.frozen 2, _, (hw.laid (i := 0) (by decide) (t' := { t with tA := t.tA ++ [y] }) h3 h5 rfl rfl h2' rfl rfl rfl rfl).1⟩)
/-- a datagram of the pool -/
theorem TQ.pool (h : TQ W0 w tp a b n V X t) {K : Nat} (hK : K < t.pl.length) : ∃ g c x, V 4 = .slice (some ⟨g, 0, none⟩) t.pl.length c ∧ t.pl.length ≤ c ∧ t.pl[K]? = some x ∧ w.cell? ⟨g, K * 7, none⟩ = some (.int .i64 x.1.cl) ∧ w.cell? ⟨g, K * 7 + 1, none⟩ = some (.bool x.1.up) ∧ w.cell? ⟨g, K * 7 + 2, none⟩ = some (.int .i64 x.1.ep) ∧
    w.cell? ⟨g, K * 7 + 3, none⟩ = some (.int .i64 x.1.sq) ∧ w.cell? ⟨g, K * 7 + 4, none⟩ = some (.int .i64 x.1.ak) ∧ w.cell? ⟨g, K * 7 + 5, none⟩ = some (.string x.1.bd) ∧ w.cell? ⟨g, K * 7 + 6, none⟩ = some (.bool x.2) := by
  obtain ⟨g, c, e, _, _, hc⟩ := own_pos h.r4 (by omega)
  have hcap : t.pl.length ≤ c := by
    have ho := h.r4
    rw [e] at ho
    rcases ho.2 with ⟨e2, _⟩ | ⟨g2, c2, cu, e2, _, _, h3, _⟩
    · cases e2
    · injection e2 with _ _ e3; rw [e3]; exact h3
  have hx : t.pl[K]? = some t.pl[K] := List.getElem?_eq_getElem hK
  have hcx : ∀ j, j < 7 → w.cell? ⟨g, K * 7 + j, none⟩ = (sentC t.pl[K])[j]? := fun j hj => by rw [hc _ (by omega)]; exact sent_at t.pl K _ hx j hj
  exact ⟨g, c, t.pl[K], e, hcap, hx, hcx 0 (by decide), hcx 1 (by decide), hcx 2 (by decide), hcx 3 (by decide), hcx 4 (by decide), hcx 5 (by decide), hcx 6 (by decide)⟩
end
end Go.Proofs.Ytbbikibkijncgaa.Cord
