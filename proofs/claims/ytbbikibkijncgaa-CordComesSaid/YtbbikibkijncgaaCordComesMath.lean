/- Six rounds in which all comes: on plain data and in memory. -/
import Derived.Test.YtbbikibkijncgaaCordEvent
namespace Go.Proofs.Ytbbikibkijncgaa.Cord
set_option maxRecDepth 100000
open Go.RowKit
open Go.Proofs.Ytbbikibkijncgaa.Mem
theorem swap_swap (t : TS) : t.swap.swap = t := by
  cases t; simp [TS.swap, Function.comp_def]
/-- a round in which the first end (fi) or the second one sends -/
def RndF (ep : Int) (fi : Bool) (t : TS) (i : Nat) (u : TS) : Prop := match fi with
  | true => Rnd ep t i u
  | false => Rnd ep t.swap i u.swap
section
variable {ep : Int} {t u : TS} {fi : Bool} {i : Nat}
theorem sends_swap (t : TS) : (sendsS t false).swap = sendsA t.swap := by simp [sendsS, TS.swap, sendsA, Function.comp_def]
theorem rndF_start (h : Inv ep t) : RndF ep fi t 0 (sendsS t fi) := by
  cases fi with
  | true => exact Rnd.start h
  | false => show Rnd ep t.swap 0 (sendsS t false).swap; rw [sends_swap]; exact Rnd.start h.swap
theorem rndF_next (h : RndF ep fi t i u) {x : Gm × Bool} (hx : (sendsL t fi)[i]? = some x) : comesX u x = 0 ∧ RndF ep fi t (i + 1) (comesS u x) := by
  cases fi with
  | true =>
    unfold sendsL at hx
    rw [if_pos rfl, List.getElem?_map] at hx
    cases hg : (outL t.A)[i]? with
    | none => rw [hg] at hx; cases hx
    | some g => rw [hg] at hx; cases hx; exact Rnd.next h hg
  | false =>
    unfold sendsL at hx
    rw [if_neg (by decide), List.getElem?_map] at hx
    cases hg : (outL t.B)[i]? with
    | none => rw [hg] at hx; cases hx
    | some g => rw [hg] at hx; cases hx; exact Rnd.next (t := t.swap) (u := u.swap) h hg
theorem rndF_inv (h : RndF ep fi t i u) : Inv ep u := by
  cases fi with
  | true => exact Rnd.inv h
  | false => have := (Rnd.inv h).swap; rw [swap_swap] at this; exact this
theorem rndF_len (h : RndF ep fi t i u) : u.tA = t.tA ∧ u.tB = t.tB ∧ u.pl.length = t.pl.length + (sendsL t fi).length := by
  cases fi with
  | true => exact ⟨Rnd.tA h, Rnd.tB h, by rw [Rnd.pl h]; simp [sendsA, sendsL]⟩
  | false =>
    refine ⟨Rnd.tB h, Rnd.tA h, ?_⟩
    have := congrArg List.length (Rnd.pl h)
    simp [sendsA, sendsL, TS.swap] at this ⊢
    exact this
theorem rndF_end {r : Nat} (hr : r < 6) (hf : fi = decide (r % 2 = 0)) (h : RndF ep fi t (sendsL t fi).length u) (h0 : Inv ep t) (hs : Stage r t) : Stage (r + 1) u := by
  cases fi with
  | true =>
    have h2 : r % 2 = 0 := of_decide_eq_true hf.symm
    have hl : (sendsL t true).length = (outL t.A).length := by simp [sendsL]
    rw [hl] at h
    exact stage_even (by omega) h h0 hs
  | false =>
    have h2 : ¬ r % 2 = 0 := of_decide_eq_false hf.symm
    have hl : (sendsL t false).length = (outL t.swap.A).length := by simp [sendsL, TS.swap]
    rw [hl] at h
    have := stage_odd (r := r) (t := t.swap) (u := u.swap) (by omega) h h0.swap (by rw [swap_swap]; exact hs)
    rw [swap_swap] at this
    exact this
end
structure Small (t : TS) (r : Nat) : Prop where
  tA : t.tA.length ≤ 120
  tB : t.tB.length ≤ 120
  pl : t.pl.length ≤ 33 * (120 + r)
/-- behind r rounds -/
def Big (W0 : World) (tp a b : Nat) (ep : Int) (r : Nat) (t : TS) (wx : World) : Prop := (∃ V, TQ W0 wx tp a b (400 + 66 * r) V (fun _ => False) t) ∧ Inv ep t ∧ Stage r t ∧ Small t r
/-- j of a round's datagrams have come -/
def Mid (W0 : World) (tp a b : Nat) (ep : Int) (fi : Bool) (t : TS) (v : Option Addr) (q r j : Nat) (wx : World) : Prop := ∃ V u,
  wx.ownsRow W0.heap.size 58 7 (.slice v (sendsL t fi).length q) (sendsL t fi).length (sentV (sendsL t fi)) ∧ TQ W0 wx tp a b (400 + 66 * r + 2 * j) V (fun k => (Value.slice v (sendsL t fi).length q).ownBlock = some k) u ∧ RndF ep fi t j u
theorem sendsL_len {ep : Int} {t : TS} (h : Inv ep t) (fi : Bool) : (sendsL t fi).length ≤ 33 := by
  have h1 := out_len h.wa
  have h2 := out_len h.wb
  cases fi <;> simp [sendsL] <;> assumption
section
variable {W0 w w' : World} {tp a b : Nat} {ep : Int} {fi : Bool} {t : TS} {r : Nat}
theorem Big.bel (h : Big W0 tp a b ep r t w) : Below W0.heap.size W0 w := by obtain ⟨⟨V, h⟩, _⟩ := h; exact h.bel
theorem big_start {V : Nat → Value} (h : TQ W0 w tp a b 400 V (fun _ => False) t) (hv : Inv ep t) (hl : Lens t 120) : Big W0 tp a b ep 0 t w := ⟨⟨V, h⟩, hv, trivial, ⟨hl.tA, hl.tB, hl.pl⟩⟩
theorem Big.sends (h : Big W0 tp a b ep r t w) (hr : r < 6) (fi : Bool) :
    Calls Try.prog 24 #[.pointer (some ⟨tp, 0, none⟩), .bool fi] w fun e w' => ∃ v q, e = .returned (.slice v (sendsL t fi).length q) ∧ Mid W0 tp a b ep fi t v q r 0 w' := by
  obtain ⟨⟨V, h1⟩, h2, h3, h4⟩ := h
  refine (sends_any W0 w tp a b _ V _ t fi h1 (by omega) (by have := h4.pl; omega)).mono ?_
  rintro e w' ⟨V', v, q, rfl, ho, h5⟩
  exact ⟨v, q, rfl, V', _, ho, h5, rndF_start h2⟩
theorem Mid.next {v : Option Addr} {q j : Nat} (h : Mid W0 tp a b ep fi t v q r j w) (h4 : Small t r) (hr : r < 6) (h0 : Inv ep t) (hj : j < (sendsL t fi).length) : ∃ g x, v = some ⟨g, 0, none⟩ ∧ w.cell? ⟨g, j * 7, none⟩ = some (.int .i64 x.1.cl) ∧ w.cell? ⟨g, j * 7 + 1, none⟩ = some (.bool x.1.up) ∧ w.cell? ⟨g, j * 7 + 2, none⟩ = some (.int .i64 x.1.ep) ∧
    w.cell? ⟨g, j * 7 + 3, none⟩ = some (.int .i64 x.1.sq) ∧ w.cell? ⟨g, j * 7 + 4, none⟩ = some (.int .i64 x.1.ak) ∧ w.cell? ⟨g, j * 7 + 5, none⟩ = some (.string x.1.bd) ∧ w.cell? ⟨g, j * 7 + 6, none⟩ = some (.bool x.2) ∧
    ∀ W', Below w.heap.size w W' → Calls Try.prog 25 #[.pointer (some ⟨tp, 0, none⟩), .agg (sentA x)] W' fun e w' => e = .returned (.bool true) ∧ Mid W0 tp a b ep fi t v q r (j + 1) w' := by
  obtain ⟨V, u, ho, hq, hR⟩ := h
  have hx : (sendsL t fi)[j]? = some (sendsL t fi)[j] := List.getElem?_eq_getElem hj
  obtain ⟨g, c, e, _, _, hc⟩ := own_pos ho (by omega)
  injection e with e1 e2 e3
  have hcx : ∀ i, i < 7 → w.cell? ⟨g, j * 7 + i, none⟩ = (sentC (sendsL t fi)[j])[i]? := fun i hi => by rw [hc _ (by omega)]; exact sent_at _ j _ hx i hi
  have h33 := sendsL_len h0 fi
  obtain ⟨l1, l2, l3⟩ := rndF_len hR
  have hi := rndF_inv hR
  have hgA := hi.ba.got
  have hgB := hi.ab.got
  have hlA : u.aA.length ≤ 120 := by rw [hi.ba.at_is, List.length_take, l1]; have := h4.tA; omega
  have hlB : u.aB.length ≤ 120 := by rw [hi.ab.at_is, List.length_take, l2]; have := h4.tB; omega
  obtain ⟨c1, c2⟩ := rndF_next hR hx
  refine ⟨g, (sendsL t fi)[j], e1, hcx 0 (by decide), hcx 1 (by decide), hcx 2 (by decide), hcx 3 (by decide), hcx 4 (by decide), hcx 5 (by decide), hcx 6 (by decide), fun W' hb => ?_⟩
  refine (comes_any W0 W' tp a b _ V _ u _ (hq.below hb) (by omega) (by omega)).mono ?_
  rintro e w' ⟨V', rfl, h5, h6⟩
  refine ⟨by rw [c1]; rfl, V', _, ?_, h5, c2⟩
  have ho2 := own_same ho fun g hg => hb.block g (own_lt ho hg)
  exact own_same ho2 fun g hg => h6.block g hg
theorem Mid.end_ {v : Option Addr} {q : Nat} (h : Mid W0 tp a b ep fi t v q r (sendsL t fi).length w) (h4 : Small t r) (hr : r < 6) (hf : fi = decide (r % 2 = 0)) (h0 : Inv ep t) (hs : Stage r t) : ∃ u, Big W0 tp a b ep (r + 1) u w := by
  obtain ⟨V, u, ho, hq, hR⟩ := h
  have h33 := sendsL_len h0 fi
  obtain ⟨l1, l2, l3⟩ := rndF_len hR
  refine ⟨u, ⟨V, (hq.less (fun _ x => x.elim)).mono (by omega)⟩, rndF_inv hR, rndF_end hr hf hR h0 hs, ⟨by rw [l1]; exact h4.tA, by rw [l2]; exact h4.tB, by have := h4.pl; omega⟩⟩
/-- what the statement asks in the end, in memory -/
theorem Big.ends (h : Big W0 tp a b ep 6 t w) : ∃ a0 c0 a1 c1 a2 c2 a3 c3, w.cell? ⟨tp, 0, none⟩ = some (.pointer (some ⟨a, 0, none⟩)) ∧ w.cell? ⟨tp, 1, none⟩ = some (.pointer (some ⟨b, 0, none⟩)) ∧ w.cell? ⟨tp, 2, none⟩ = some (.slice a0 t.tA.length c0) ∧ w.cell? ⟨tp, 3, none⟩ = some (.slice a1 t.tB.length c1) ∧
    w.cell? ⟨tp, 4, none⟩ = some (.slice a2 t.tA.length c2) ∧ w.cell? ⟨tp, 5, none⟩ = some (.slice a3 t.tB.length c3) ∧
    ∀ W', Below w.heap.size w W' → Calls Try.prog 19 #[.slice a2 t.tA.length c2, .slice a0 t.tA.length c0] W' (fun r w' => r = .returned (.bool true) ∧ Below W'.heap.size W' w') ∧ Calls Try.prog 19 #[.slice a3 t.tB.length c3, .slice a1 t.tB.length c1] W' (fun r w' => r = .returned (.bool true) ∧ Below W'.heap.size W' w') ∧
      Calls Try.prog 20 #[.pointer (some ⟨a, 0, none⟩)] W' (fun r w' => r = .returned (.int .i64 0) ∧ Below W'.heap.size W' w') ∧ Calls Try.prog 20 #[.pointer (some ⟨b, 0, none⟩)] W' (fun r w' => r = .returned (.int .i64 0) ∧ Below W'.heap.size W' w') ∧
      Calls Try.prog 13 #[.pointer (some ⟨a, 0, none⟩)] W' (fun r w' => r = .returned (.bool false) ∧ Below W'.heap.size W' w') ∧ Calls Try.prog 13 #[.pointer (some ⟨b, 0, none⟩)] W' (fun r w' => r = .returned (.bool false) ∧ Below W'.heap.size W' w') := by
  obtain ⟨⟨V, hq⟩, hv, hs, hm⟩ := h
  obtain ⟨e1, e2, e3, e4, e5, e6⟩ := stage_end hv hs
  obtain ⟨a0, c0, hV0⟩ := own_shape hq.r0
  obtain ⟨a1, c1, hV1⟩ := own_shape hq.r1
  obtain ⟨a2, c2, hV2⟩ := own_shape hq.r2
  obtain ⟨a3, c3, hV3⟩ := own_shape hq.r3
  rw [e1] at hV2
  rw [e2] at hV3
  refine ⟨a0, c0, a1, c1, a2, c2, a3, c3, hq.blk.cell 0, hq.blk.cell 1, by rw [← hV0]; exact hq.blk.cell 2, by rw [← hV1]; exact hq.blk.cell 3, by rw [← hV2]; exact hq.blk.cell 4, by rw [← hV3]; exact hq.blk.cell 5, fun W' hb => ?_⟩
  have hw := hq.below hb
  have s0 : Strs W' a0 t.tA.length t.tA := strs_of (by have := hw.r0; rwa [hV0] at this) rfl
  have s1 : Strs W' a1 t.tB.length t.tB := strs_of (by have := hw.r1; rwa [hV1] at this) rfl
  have s2 : Strs W' a2 t.tA.length t.tA := strs_of (by have := hw.r2; rwa [hV2, e1] at this) rfl
  have s3 : Strs W' a3 t.tB.length t.tB := strs_of (by have := hw.r3; rwa [hV3, e2] at this) rfl
  obtain ⟨FA, FB, k1, k2, _⟩ := hw.two
  refine ⟨texts_same _ _ _ _ _ _ _ s2 s0 (by have := hm.tA; omega), texts_same _ _ _ _ _ _ _ s3 s1 (by have := hm.tB; omega), ?_, ?_, ?_, ?_⟩
  · refine (open_any a _ _ _ _ k1).mono ?_
    rintro r w' ⟨rfl, rfl⟩
    exact ⟨by rw [e3]; rfl, Below.refl _ _⟩
  · refine (open_any b _ _ _ _ k2).mono ?_
    rintro r w' ⟨rfl, rfl⟩
    exact ⟨by rw [e4]; rfl, Below.refl _ _⟩
  · refine (owes_any a _ _ _ _ k1).mono ?_
    rintro r w' ⟨rfl, rfl⟩
    exact ⟨by rw [e5], Below.refl _ _⟩
  · refine (owes_any b _ _ _ _ k2).mono ?_
    rintro r w' ⟨rfl, rfl⟩
    exact ⟨by rw [e6], Below.refl _ _⟩
end
end Go.Proofs.Ytbbikibkijncgaa.Cord
