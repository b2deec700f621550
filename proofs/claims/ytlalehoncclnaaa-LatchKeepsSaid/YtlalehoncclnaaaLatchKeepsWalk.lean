/- The walk of the statement LatchKeeps. -/
import Derived.Test.YtlalehoncclnaaaLatchKeepsMath
namespace Go.Proofs.Ytlalehoncclnaaa.Latch
set_option maxRecDepth 100000
open Go.RowKit
open Go.Proofs.Ytlalehoncclnaaa.Mem
/-- the blocks that are the law's own -/
def MH (w1 : World) (nb ob : Nat) (k : Nat) : Prop := (k < w1.heap.size ∨ k = nb) ∨ k = ob
structure HAt (w w1 : World) (p nb ob : Nat) (L : LS) (W : World) : Prop where
  tq : TQ W p (MH w1 nb ob) L
  nd : Arr W nb 46 6 (nF L)
  ow : Arr W ob 47 6 (oF L)
  ne : nb ≠ ob
  six : Six L
  hl : Held L
  bel : Below w.heap.size w W
  b1 : w.heap.size ≤ w1.heap.size
section
variable {w w1 W W' : World} {p nb ob : Nat} {L L' : LS} {K : Nat}
theorem HAt.keep (h : HAt w w1 p nb ob L W) (ht : TQ W' p (MH w1 nb ob) L') (k : Keep (MH w1 nb ob) W W') (hs : Six L') (hh : Held L') (hu : ∀ q, usedL q L' = usedL q L ∧ (0 < waitL q L' ↔ 0 < waitL q L)) : HAt w w1 p nb ob L' W' := by
  have e1 : nF L' = nF L := by funext q; unfold nF; rw [(hu q).1]
  have e2 : oF L' = oF L := by funext q; unfold oF; rw [decide_eq_decide.2 (hu q).2]
  exact ⟨ht, by rw [e1]; exact h.nd.keep k (.inl (.inr rfl)), by rw [e2]; exact h.ow.keep k (.inr rfl), h.ne, hs, hh, h.bel.trans (k.below fun _ hk => .inl (.inl (Nat.lt_of_lt_of_le hk h.b1))), h.b1⟩
theorem HAt.same (h : HAt w w1 p nb ob L W) (ht : TQ W' p (MH w1 nb ob) L) (k : Keep (MH w1 nb ob) W W') : HAt w w1 p nb ob L W' := h.keep ht k h.six h.hl fun _ => ⟨rfl, Iff.rfl⟩
theorem HAt.cells (h : HAt w w1 p nb ob L W) (hK : K < 6) : W.cell? ⟨nb, K, none⟩ = some (.int .i64 (usedL (K : Int) L : Int)) ∧ W.frozen? ⟨nb, K, none⟩ = false ∧ W.cell? ⟨ob, K, none⟩ = some (.bool (decide (0 < waitL (K : Int) L))) ∧ W.frozen? ⟨ob, K, none⟩ = false :=
  ⟨(h.nd.at_ hK).1, (h.nd.at_ hK).2, (h.ow.at_ hK).1, (h.ow.at_ hK).2⟩
theorem HAt.quiet (h : HAt w w1 p nb ob L W) (q : Nat) : HAt w w1 p nb ob L (W.drewN q) := h.same (h.tq.drewN q) ((Keep.refl _ W).drewN q)
theorem HAt.lhas (h : HAt w w1 p nb ob L W) {pg : Int} (hs : Sm pg) (x : Bool) (q : Nat) :
    Calls Try.prog 19 #[.pointer (some ⟨p, 0, none⟩), .int .i64 pg, .bool x] (W.drewN q) fun e w' => e = .returned (.bool (hasL pg x L)) ∧ ∃ m, w' = W.drewN m := by
  obtain ⟨hb, ub, ht⟩ := h.tq
  refine (has_any p hb ub _ L pg x (W.drewN q) (ht.drewN q) hs).mono ?_
  rintro e w' ⟨he, q2, rfl⟩
  exact ⟨he, drewN_drewN W q q2⟩
theorem HAt.lused (h : HAt w w1 p nb ob L W) {pg : Int} (hs : Sm pg) (q : Nat) :
    Calls Try.prog 21 #[.pointer (some ⟨p, 0, none⟩), .int .i64 pg] (W.drewN q) fun e w' => e = .returned (.int .i64 (usedL pg L : Int)) ∧ ∃ m, w' = W.drewN m := by
  obtain ⟨hb, ub, ht⟩ := h.tq
  exact (used_any p hb ub _ L pg (W.drewN q) (ht.drewN q) hs).mono fun _ _ ⟨he, hw⟩ => ⟨he, q, hw.symm⟩
/-- need[K] is laid -/
theorem arr_need (h : HAt w w1 p nb ob L W) (hK : K < 6) {x : Nat} (hu : ∀ q : Int, usedL q L' = (if q = (K : Int) then x else usedL q L)) : Arr (W.setCell ⟨nb, K, none⟩ (.int .i64 (x : Int))) nb 46 6 (nF L') := by
  have e : nF L' K = .int .i64 (x : Int) := by unfold nF; rw [hu, if_pos rfl]
  have := h.nd.set_ hK (nF L') fun j => by
    by_cases e1 : j = K
    · rw [if_pos e1, e1]
    · rw [if_neg e1]
      unfold nF
      rw [hu, if_neg (by omega)]
  rwa [e] at this
end
theorem six_row {w : World} {T : TypeId} {z : Value} : Arr (w.alloc (.cells #[z, z, z, z, z, z] T)) w.heap.size T 6 (fun _ => z) := by
  refine ⟨_, Blk.new w _ _, rfl, fun k hk => ?_⟩
  match k, hk with
  | 0, _ => rfl
  | 1, _ => rfl
  | 2, _ => rfl
  | 3, _ => rfl
  | 4, _ => rfl
  | 5, _ => rfl
/-- in End's loop: the first j pages have been gone over -/
structure EAt (w w1 : World) (p nb ob : Nat) (L : LS) (v : Value) (j : Nat) (W : World) : Prop where
  tq : TQ W p (fun k => MH w1 nb ob k ∨ v.ownBlock = some k) (endL L)
  os : W.ownsRow 0 50 2 v (endO L).length (letsV (endO L))
  nd : Arr W nb 46 6 (fun k => if k < j then .int .i64 0 else nF L k)
  ow : Arr W ob 47 6 (fun k => if k < j then .bool false else oF L k)
  ne : nb ≠ ob ∧ v.ownBlock ≠ some nb ∧ v.ownBlock ≠ some ob
  bel : Below w.heap.size w W
section
variable {w w1 W W' : World} {p nb ob : Nat} {L : LS} {v : Value} {j : Nat}
theorem EAt.cells (h : EAt w w1 p nb ob L v j W) (hj : j < 6) : W.cell? ⟨nb, j, none⟩ = some (nF L j) ∧ W.frozen? ⟨nb, j, none⟩ = false ∧ W.cell? ⟨ob, j, none⟩ = some (oF L j) ∧ W.frozen? ⟨ob, j, none⟩ = false := by
  have h1 := h.nd.at_ hj
  have h2 := h.ow.at_ hj
  rw [if_neg (Nat.lt_irrefl j)] at h1 h2
  exact ⟨h1.1, h1.2, h2.1, h2.2⟩
theorem EAt.next (h : EAt w w1 p nb ob L v j W) (hj : j < 6) (hb : w.heap.size ≤ nb ∧ w.heap.size ≤ ob) : EAt w w1 p nb ob L v (j + 1) ((W.setCell ⟨ob, j, none⟩ (.bool false)).setCell ⟨nb, j, none⟩ (.int .i64 0)) := by
  have h1 := h.ow.set_ hj (fun k => if k < j + 1 then .bool false else oF L k) fun i => by
    by_cases e : i = j
    · rw [if_pos e, e]
    · rw [if_neg e]
      by_cases e2 : i < j
      · rw [if_pos e2, if_pos (by omega)]
      · rw [if_neg e2, if_neg (by omega)]
  rw [if_pos (Nat.lt_succ_self j)] at h1
  have h2 := (h.nd.far (p := ⟨ob, j, none⟩) (fun e => h.ne.1 e) (.bool false)).set_ hj (fun k => if k < j + 1 then .int .i64 0 else nF L k) fun i => by
    by_cases e : i = j
    · rw [if_pos e, e]
    · rw [if_neg e]
      by_cases e2 : i < j
      · rw [if_pos e2, if_pos (by omega)]
      · rw [if_neg e2, if_neg (by omega)]
  rw [if_pos (Nat.lt_succ_self j)] at h2
  refine ⟨(h.tq.set_ (.inl (.inr rfl)) j _).set_ (.inl (.inl (.inr rfl))) j _, own_set (own_set h.os h.ne.2.2 j _) h.ne.2.1 j _, h2, h1.far (p := ⟨nb, j, none⟩) (fun e => h.ne.1 e.symm) _, h.ne, ?_⟩
  exact h.bel.trans ((((Keep.refl (fun k => k < w.heap.size) W).set_ (b := ob) (by omega) j _).set_ (b := nb) (by omega) j _).below fun _ hk => hk)
theorem EAt.done (h : EAt w w1 p nb ob L v 6 W) (hO : Ok L) (hs : Six L) (hb : w.heap.size ≤ w1.heap.size) : HAt w w1 p nb ob (endL L) W := by
  refine ⟨h.tq.mono fun _ hk => .inl hk, ?_, ?_, h.ne.1, six_end hs, held_end, h.bel, hb⟩
  · obtain ⟨cs, a, b, c⟩ := h.nd
    refine ⟨cs, a, b, fun k hk => ?_⟩
    have := c k hk
    dsimp only at this
    rw [if_pos hk] at this
    rw [this]
    unfold nF
    rw [(end_used L hO.1 k).1]
    rfl
  · obtain ⟨cs, a, b, c⟩ := h.ow
    refine ⟨cs, a, b, fun k hk => ?_⟩
    have := c k hk
    dsimp only at this
    rw [if_pos hk] at this
    rw [this]
    unfold oF
    rw [(end_used L hO.1 k).2]
    rfl
end
/-- between two rounds -/
def RH (w w1 : World) (p nb ob j : Nat) (W : World) : Prop := ∃ L, HAt w w1 p nb ob L W ∧ L.length ≤ j
set_option maxRecDepth 100000 in
set_option maxHeartbeats 64000000 in
theorem keeps_walk (a : Option Addr) (n c : Nat) (xs : List Act) (w : World) (hA : Acts w a n xs) :
    Calls Try.prog 4 #[.slice a n c] w fun e w' => e = .returned (.bool true) ∧ Below w.heap.size w w' := by
  have HA := Lib.hid hA
  clear hA
  go_enter Try.func4, Try.ntmps4
  go_wp2_with fail
  refine (awake_any w).mono ?_
  rintro e w0 ⟨rfl, b0⟩
  have HB0 := Lib.hid b0
  clear b0
  go_wp2_with fail
  refine (new_any w0).mono ?_
  rintro e w1 ⟨p, rfl, hp0, h1, b1⟩
  have HI0 : Hid (RH w w0 p w1.heap.size (w1.heap.size + 1) 0 ((w1.alloc (.cells #[.int .i64 0, .int .i64 0, .int .i64 0, .int .i64 0, .int .i64 0, .int .i64 0] 46)).alloc (.cells #[.bool false, .bool false, .bool false, .bool false, .bool false, .bool false] 47)) ∧ w.heap.size ≤ w1.heap.size) := Lib.hid (by
    have hs : (w1.alloc (.cells #[.int .i64 0, .int .i64 0, .int .i64 0, .int .i64 0, .int .i64 0, .int .i64 0] 46)).heap.size = w1.heap.size + 1 := by simp
    have hs1 := b1.size
    have hs0 := HB0.out.size
    have r1 := six_row (w := w1) (T := 46) (z := .int .i64 0)
    have r2 := six_row (w := w1.alloc (.cells #[.int .i64 0, .int .i64 0, .int .i64 0, .int .i64 0, .int .i64 0, .int .i64 0] 46)) (T := 47) (z := .bool false)
    have t2 := (h1.alloc (.cells #[.int .i64 0, .int .i64 0, .int .i64 0, .int .i64 0, .int .i64 0, .int .i64 0] 46)).alloc (.cells #[.bool false, .bool false, .bool false, .bool false, .bool false, .bool false] 47)
    rw [hs] at r2 t2
    refine ⟨⟨[], ⟨t2, r1.alloc _, r2, by omega, (fun k hk => by cases hk), held_nil, ((HB0.out.trans (b1.mono HB0.out.size)).alloc (by omega) _).alloc (by omega) _, hs0⟩, Nat.le_refl _⟩, by omega⟩)
  clear h1 b1 HB0 hp0
  go_wp2_with fail
  obtain ⟨nb, hnb⟩ : ∃ nb, nb = w1.heap.size := ⟨_, rfl⟩
  obtain ⟨ob, hob⟩ : ∃ ob, ob = w1.heap.size + 1 := ⟨_, rfl⟩
  have HLO : Hid (w.heap.size ≤ nb ∧ w.heap.size ≤ ob) := Lib.hid (by have := HI0.out.2; omega)
  rw [← hob, ← hnb] at HI0 ⊢
  clear hnb hob
  generalize (w1.alloc (.cells #[.int .i64 0, .int .i64 0, .int .i64 0, .int .i64 0, .int .i64 0, .int .i64 0] 46)).alloc (.cells #[.bool false, .bool false, .bool false, .bool false, .bool false, .bool false] 47) = w2 at HI0 ⊢
  go_loopw [6] (fun i wr => ∃ j : Nat, j ≤ n ∧ j ≤ 200 ∧ i = .int .i64 (j : Int) ∧ Hid (RH w w0 p nb ob j wr)) (fun i _ => 200 - (intOf i).toNat)
  case atStart => exact ⟨0, Nat.zero_le _, by omega, rfl, Lib.hid HI0.out.1⟩
  case round =>
    obtain ⟨j, hj, hj2, rfl, HI⟩ := hrel
    clear HI0
    by_cases hlt : j < n
    rotate_left
    · obtain rfl : j = n := by omega
      obtain ⟨L, hH, -⟩ := HI.out
      have HF := Lib.hid hH.bel
      clear hH HI
      go_wp2_with fail
      refine (grant_nil 1 true wr).mono ?_
      rintro e w3 ⟨rfl, rfl⟩
      go_wp2_with fail
      refine (clear_nil wr).mono ?_
      rintro e w3 ⟨rfl, rfl⟩
      go_wp2_with fail
      refine (has_nil 1 false wr).mono ?_
      rintro e w3 ⟨rfl, q, hq⟩
      have HF3 : Hid (Below w.heap.size w w3) := Lib.hid (by rw [hq]; exact HF.out.trans (((Keep.refl (fun k => k < w.heap.size) wr).drewN q).below fun _ h => h))
      clear hq HF
      go_wp2_with fail
      refine (use_nil 1 false w3).mono ?_
      rintro e w4 ⟨rfl, rfl⟩
      go_wp2_with fail
      refine (used_nil 1 w3).mono ?_
      rintro e w4 ⟨rfl, rfl⟩
      go_wp2_with fail
      refine (call_nil 1 true w3).mono ?_
      rintro e w4 ⟨rfl, rfl⟩
      go_wp2_with fail
      refine (end_nil w3).mono ?_
      rintro e w4 ⟨rfl, rfl⟩
      go_wp2_with fail
      refine (pages_nil w3).mono ?_
      rintro e w4 ⟨rfl, rfl⟩
      go_wp2
      go_ret
      exact ⟨rfl, HF3.out⟩
    by_cases hlt2 : j < 200
    rotate_left
    · obtain rfl : j = 200 := by omega
      obtain ⟨L, hH, -⟩ := HI.out
      have HF := Lib.hid hH.bel
      clear hH HI
      go_wp2_with fail
      refine (grant_nil 1 true wr).mono ?_
      rintro e w3 ⟨rfl, rfl⟩
      go_wp2_with fail
      refine (clear_nil wr).mono ?_
      rintro e w3 ⟨rfl, rfl⟩
      go_wp2_with fail
      refine (has_nil 1 false wr).mono ?_
      rintro e w3 ⟨rfl, q, hq⟩
      have HF3 : Hid (Below w.heap.size w w3) := Lib.hid (by rw [hq]; exact HF.out.trans (((Keep.refl (fun k => k < w.heap.size) wr).drewN q).below fun _ h => h))
      clear hq HF
      go_wp2_with fail
      refine (use_nil 1 false w3).mono ?_
      rintro e w4 ⟨rfl, rfl⟩
      go_wp2_with fail
      refine (used_nil 1 w3).mono ?_
      rintro e w4 ⟨rfl, rfl⟩
      go_wp2_with fail
      refine (call_nil 1 true w3).mono ?_
      rintro e w4 ⟨rfl, rfl⟩
      go_wp2_with fail
      refine (end_nil w3).mono ?_
      rintro e w4 ⟨rfl, rfl⟩
      go_wp2_with fail
      refine (pages_nil w3).mono ?_
      rintro e w4 ⟨rfl, rfl⟩
      go_wp2
      go_ret
      exact ⟨rfl, HF3.out⟩
    obtain ⟨L, hH, hLn⟩ := HI.out
    obtain ⟨b0, off, x, rfl, hb, -, ⟨c0, c1, c2⟩, hg⟩ := (HA.out.below hH.bel).at_ hlt
    have HH := Lib.hid hH
    have HLN := Lib.hid hLn
    clear HI hH hLn hg hb
    obtain ⟨kd, pg, x⟩ := x
    dsimp only at c0 c1 c2
    obtain ⟨K, hKe, hK⟩ := cut_of pg 6 (by omega) (by omega)
    have hK6 : K < 6 := by omega
    have hsm : Sm (K : Int) := sm_of (by omega)
    have HKE := Lib.hid hKe
    clear hKe
    go_upto_region 11 with (fail)
    rw [HKE.out]
    clear HKE c1 c2
    have hn1 : L.length ≤ 1000000 := by have := HLN.out; omega
    obtain ⟨x0, f0, y0, g0⟩ := HH.out.cells hK6
    have HUP := Lib.hid HH.out.tq.ok
    go_upto_block 2 with (fail)
    clear c0
    go_cut [] (fun wx => RH w w0 p nb ob (j + 1) wx)
    case first =>
      by_cases k1 : kd = 1
      · subst k1
        as_aux_lemma =>
          cases x with
          | true =>
            have HF := Lib.hid (grant_any p _ L (K : Int) true wr HH.out.tq hsm hn1)
            have HX := Lib.hid (uw_grant HUP.out.1 (K : Int) true)
            have HHL := Lib.hid (held_grant HUP.out.1 HH.out.hl (K : Int) true fun _ => rfl)
            have HSX := Lib.hid (six_grant HH.out.six (p := (K : Int)) (by omega) true)
            have HGL := Lib.hid (grant_len (K : Int) true L)
            clear HUP
            go_wp2_with fail
            refine HF.out.mono ?_
            rintro e W2 ⟨rfl, h2, k2⟩
            have FIN : Hid (RH w w0 p nb ob (j + 1) W2) := Lib.hid ⟨_, HH.out.keep h2 k2 HSX.out HHL.out (fun q => ⟨(HX.out q).1, by rw [(HX.out q).2]⟩), by have := HGL.out; have := HLN.out; omega⟩
            clear h2 k2 HF HH
            go_wp2_with fail
            go_meet
            exact FIN.out
          | false =>
            by_cases hu : usedL (K : Int) L = 2
            · rw [hu] at x0
              have HF := Lib.hid (grant_any p _ L (K : Int) true wr HH.out.tq hsm hn1)
              have HX := Lib.hid (uw_grant HUP.out.1 (K : Int) true)
              have HHL := Lib.hid (held_grant HUP.out.1 HH.out.hl (K : Int) true fun _ => rfl)
              have HSX := Lib.hid (six_grant HH.out.six (p := (K : Int)) (by omega) true)
              have HGL := Lib.hid (grant_len (K : Int) true L)
              clear HUP
              change wr.cell? ⟨nb, K, none⟩ = some (.int .i64 2) at x0
              go_wp2_with fail
              refine HF.out.mono ?_
              rintro e W2 ⟨rfl, h2, k2⟩
              have FIN : Hid (RH w w0 p nb ob (j + 1) W2) := Lib.hid ⟨_, HH.out.keep h2 k2 HSX.out HHL.out (fun q => ⟨(HX.out q).1, by rw [(HX.out q).2]⟩), by have := HGL.out; have := HLN.out; omega⟩
              clear h2 k2 HF HH
              go_wp2_with fail
              go_meet
              exact FIN.out
            · have hd : ((usedL (K : Int) L : Int) == 2) = false := by rw [beq_eq_false_iff_ne]; omega
              have HF := Lib.hid (grant_any p _ L (K : Int) false wr HH.out.tq hsm hn1)
              have HX := Lib.hid (uw_grant HUP.out.1 (K : Int) false)
              have HHL := Lib.hid (held_grant HUP.out.1 HH.out.hl (K : Int) false fun h => absurd h hu)
              have HSX := Lib.hid (six_grant HH.out.six (p := (K : Int)) (by omega) false)
              have HGL := Lib.hid (grant_len (K : Int) false L)
              clear HUP
              generalize usedL (K : Int) L = us at x0 hd
              go_wp2_with fail
              refine HF.out.mono ?_
              rintro e W2 ⟨rfl, h2, k2⟩
              have FIN : Hid (RH w w0 p nb ob (j + 1) W2) := Lib.hid ⟨_, HH.out.keep h2 k2 HSX.out HHL.out (fun q => ⟨(HX.out q).1, by rw [(HX.out q).2]⟩), by have := HGL.out; have := HLN.out; omega⟩
              clear h2 k2 HF HH
              go_wp2_with fail
              go_meet
              exact FIN.out
      have n1 : (kd == 1) = false := by simpa using k1
      by_cases k2 : kd = 2
      · subst k2
        as_aux_lemma =>
          have HF := Lib.hid (use_any p _ L (K : Int) x wr HH.out.tq hsm hn1)
          have HHL := Lib.hid (held_use HUP.out.1 HH.out.hl (K : Int) x)
          have HSX := Lib.hid (six_use HH.out.six (K : Int) x)
          have HGL := Lib.hid (use_len (K : Int) x L)
          cases hh : hasL (K : Int) x L with
          | false =>
            have e1 : useE (K : Int) x L = 12 := by unfold useE; rw [hh]; rfl
            have e2 : useL (K : Int) x L = L := by unfold useL; rw [hh]; rfl
            rw [e1, e2] at HF
            clear e1 e2 hh
            go_wp2_with fail
            refine HF.out.mono ?_
            rintro e W2 ⟨rfl, h2, k2⟩
            have FIN : Hid (RH w w0 p nb ob (j + 1) W2) := Lib.hid ⟨_, HH.out.same h2 k2, by have := HLN.out; omega⟩
            clear h2 k2 HF HH
            go_wp2_with fail
            go_meet
            exact FIN.out
          | true =>
            have e1 : useE (K : Int) x L = 0 := by unfold useE; rw [hh]; rfl
            rw [e1] at HF
            have HX := Lib.hid (uw_use HUP.out.1 (K : Int) x hh)
            clear e1 hh HUP x0 f0 y0 g0
            go_wp2_with fail
            refine HF.out.mono ?_
            rintro e W2 ⟨rfl, h2, k2⟩
            have HN2 := Lib.hid (HH.out.nd.keep k2 (.inl (.inr rfl)))
            have HO2 := Lib.hid (HH.out.ow.keep k2 (.inr rfl))
            have HT2 := Lib.hid h2
            have HB2 := Lib.hid (HH.out.bel.trans (k2.below fun _ hk => .inl (.inl (Nat.lt_of_lt_of_le hk HH.out.b1))))
            have x0 : W2.cell? ⟨nb, K, none⟩ = some (.int .i64 (usedL (K : Int) L : Int)) := (HN2.out.at_ hK6).1
            have f0 := (HN2.out.at_ hK6).2
            have HE2 : Hid (oF (useL (K : Int) x L) = oF L) := Lib.hid (by funext q; unfold oF; rw [(HX.out q).2])
            clear h2 k2 HF
            cases x with
            | true =>
              have FIN : Hid (RH w w0 p nb ob (j + 1) ((W2.setCell ⟨nb, K, none⟩ (.int .i64 (max (usedL (K : Int) L : Int) 1))).setCell ⟨nb, K, none⟩ (.int .i64 2))) := Lib.hid ⟨_, ⟨(HT2.out.set_ (.inl (.inr rfl)) K _).set_ (.inl (.inr rfl)) K _, by
                  have h1 := (HN2.out.set_ hK6 (fun i => if i = K then .int .i64 (max (usedL (K : Int) L : Int) 1) else nF L i) fun i => by
                    by_cases e1 : i = K
                    · rw [if_pos e1, if_pos e1, if_pos rfl]
                    · rw [if_neg e1, if_neg e1])
                  rw [if_pos rfl] at h1
                  have h2 := h1.set_ hK6 (nF (useL (K : Int) true L)) fun i => by
                    by_cases e1 : i = K
                    · rw [if_pos e1, e1]
                    · rw [if_neg e1, if_neg e1]; unfold nF; rw [(HX.out i).1, if_neg (by omega)]
                  have e3 : nF (useL (K : Int) true L) K = .int .i64 2 := by unfold nF; rw [(HX.out K).1, if_pos rfl]; rfl
                  rwa [e3] at h2, by
                  rw [HE2.out]; exact (HO2.out.far (p := ⟨nb, K, none⟩) (fun e => HH.out.ne e.symm) _).far (p := ⟨nb, K, none⟩) (fun e => HH.out.ne e.symm) _, HH.out.ne, HSX.out, HHL.out, HB2.out.trans ((((Keep.refl (fun k => k < w.heap.size) W2).set_ (b := nb) (by have := HLO.out; omega) K _).set_ (b := nb) (by have := HLO.out; omega) K _).below fun _ hk => hk), HH.out.b1⟩, by have := HGL.out; have := HLN.out; omega⟩
              generalize (usedL (K : Int) L : Int) = us at x0 FIN
              clear HN2 HO2 HT2 HB2 HX HE2 HH
              go_wp2_with fail
              go_meet
              exact FIN.out
            | false =>
              have FIN : Hid (RH w w0 p nb ob (j + 1) (W2.setCell ⟨nb, K, none⟩ (.int .i64 (max (usedL (K : Int) L : Int) 1)))) := Lib.hid ⟨_, ⟨HT2.out.set_ (.inl (.inr rfl)) K _, by
                  have h2 := HN2.out.set_ hK6 (nF (useL (K : Int) false L)) fun i => by
                    by_cases e1 : i = K
                    · rw [if_pos e1, e1]
                    · rw [if_neg e1]; unfold nF; rw [(HX.out i).1, if_neg (by omega)]
                  have e3 : nF (useL (K : Int) false L) K = .int .i64 (max (usedL (K : Int) L : Int) 1) := by unfold nF; rw [(HX.out K).1, if_pos rfl]; simp; omega
                  rwa [e3] at h2, by
                  rw [HE2.out]; exact HO2.out.far (p := ⟨nb, K, none⟩) (fun e => HH.out.ne e.symm) _, HH.out.ne, HSX.out, HHL.out, HB2.out.trans (((Keep.refl (fun k => k < w.heap.size) W2).set_ (b := nb) (by have := HLO.out; omega) K _).below fun _ hk => hk), HH.out.b1⟩, by have := HGL.out; have := HLN.out; omega⟩
              generalize (usedL (K : Int) L : Int) = us at x0 FIN
              clear HN2 HO2 HT2 HB2 HX HE2 HH
              go_wp2_with fail
              go_meet
              exact FIN.out
      have n2 : (kd == 2) = false := by simpa using k2
      by_cases k3 : kd = 3
      · subst k3
        as_aux_lemma =>
          have HF := Lib.hid (call_any p _ L (K : Int) x wr HH.out.tq hsm hn1)
          have HHL := Lib.hid (held_call HH.out.hl (K : Int) x)
          have HSX := Lib.hid (six_call HH.out.six (K : Int) x)
          have HGL := Lib.hid (call_len (K : Int) x L)
          have HX := Lib.hid (uw_call HUP.out (K : Int) x)
          rcases call_says (K : Int) x (L := L) with he | ⟨he, h0⟩ | ⟨he, h0⟩ | ⟨he, h0⟩
          · generalize hus : usedL (K : Int) L = us at x0
            have HUS := Lib.hid hus
            clear hus
            have HU : Hid (∀ q : Int, usedL q (callL (K : Int) x L) = usedL q L ∧ (0 < waitL q (callL (K : Int) x L) ↔ 0 < waitL q L)) := Lib.hid fun q => ⟨(HX.out q).1, by rw [(HX.out q).2]; simp [he]⟩
            rw [he] at HF
            clear he HX HUP
            go_wp2_with fail
            refine HF.out.mono ?_
            rintro e W2 ⟨rfl, h2, k2⟩
            have HH2 := Lib.hid (HH.out.keep h2 k2 HSX.out HHL.out HU.out)
            obtain ⟨z0, -, -, -⟩ := HH2.out.cells hK6
            rw [(HU.out K).1] at z0
            rw [HUS.out] at z0
            have FIN : Hid (RH w w0 p nb ob (j + 1) W2) := Lib.hid ⟨_, HH2.out, by have := HGL.out; have := HLN.out; omega⟩
            clear h2 k2 HF HH HH2 HU x0 f0 y0 g0
            go_wp2_with fail
            go_meet
            exact FIN.out
          · have HUS := Lib.hid h0
            clear h0
            have HU : Hid (∀ q : Int, usedL q (callL (K : Int) x L) = usedL q L ∧ (0 < waitL q (callL (K : Int) x L) ↔ 0 < waitL q L)) := Lib.hid fun q => ⟨(HX.out q).1, by rw [(HX.out q).2]; simp [he]⟩
            rw [he] at HF
            clear he HX HUP
            go_wp2_with fail
            refine HF.out.mono ?_
            rintro e W2 ⟨rfl, h2, k2⟩
            have HH2 := Lib.hid (HH.out.keep h2 k2 HSX.out HHL.out HU.out)
            obtain ⟨z0, -, -, -⟩ := HH2.out.cells hK6
            rw [(HU.out K).1] at z0
            rw [HUS.out] at z0
            change W2.cell? ⟨nb, K, none⟩ = some (.int .i64 0) at z0
            have FIN : Hid (RH w w0 p nb ob (j + 1) W2) := Lib.hid ⟨_, HH2.out, by have := HGL.out; have := HLN.out; omega⟩
            clear h2 k2 HF HH HH2 HU x0 f0 y0 g0
            go_wp2_with fail
            go_meet
            exact FIN.out
          · have hd : ((usedL (K : Int) L : Int) == 2) = false := by rw [beq_eq_false_iff_ne]; omega
            clear h0
            have HU : Hid (∀ q : Int, usedL q (callL (K : Int) x L) = usedL q L ∧ (0 < waitL q (callL (K : Int) x L) ↔ 0 < waitL q L)) := Lib.hid fun q => ⟨(HX.out q).1, by rw [(HX.out q).2]; simp [he]⟩
            rw [he] at HF
            clear he HX HUP
            go_wp2_with fail
            refine HF.out.mono ?_
            rintro e W2 ⟨rfl, h2, k2⟩
            have HH2 := Lib.hid (HH.out.keep h2 k2 HSX.out HHL.out HU.out)
            obtain ⟨z0, -, -, -⟩ := HH2.out.cells hK6
            rw [(HU.out K).1] at z0
            generalize usedL (K : Int) L = us at z0 hd
            have FIN : Hid (RH w w0 p nb ob (j + 1) W2) := Lib.hid ⟨_, HH2.out, by have := HGL.out; have := HLN.out; omega⟩
            clear h2 k2 HF HH HH2 HU x0 f0 y0 g0
            go_wp2_with fail
            go_meet
            exact FIN.out
          · have hd : ((usedL (K : Int) L : Int) == 0) = false := by rw [beq_eq_false_iff_ne]; omega
            rw [he] at HF
            have HU : Hid (∀ q : Int, usedL q (callL (K : Int) x L) = usedL q L ∧ (0 < waitL q (callL (K : Int) x L) ↔ q = (K : Int) ∨ 0 < waitL q L)) := Lib.hid fun q => ⟨(HX.out q).1, by rw [(HX.out q).2]; simp [he]⟩
            clear he HX HUP h0
            go_wp2_with fail
            refine HF.out.mono ?_
            rintro e W2 ⟨rfl, h2, k2⟩
            have HN2 := Lib.hid (HH.out.nd.keep k2 (.inl (.inr rfl)))
            have HO2 := Lib.hid (HH.out.ow.keep k2 (.inr rfl))
            have z0 : W2.cell? ⟨nb, K, none⟩ = some (.int .i64 (usedL (K : Int) L : Int)) := (HN2.out.at_ hK6).1
            obtain ⟨z1, z2⟩ := HO2.out.at_ hK6
            dsimp only [oF] at z1
            have hne : ¬ ob = nb := fun e => HH.out.ne e.symm
            have hne2 : ¬ nb = ob := HH.out.ne
            have FIN : Hid (RH w w0 p nb ob (j + 1) (W2.setCell ⟨ob, K, none⟩ (.bool true))) := Lib.hid ⟨_, ⟨h2.set_ (.inr rfl) K _, by
                have e : nF (callL (K : Int) x L) = nF L := by funext q; unfold nF; rw [(HU.out q).1]
                rw [e]; exact HN2.out.far (p := ⟨ob, K, none⟩) (fun e => HH.out.ne e) _, by
                have h3 := HO2.out.set_ hK6 (oF (callL (K : Int) x L)) fun i => by
                  by_cases e1 : i = K
                  · rw [if_pos e1, e1]
                  · rw [if_neg e1]; unfold oF
                    have : (0 < waitL (i : Int) (callL (K : Int) x L)) ↔ 0 < waitL (i : Int) L := by rw [(HU.out i).2]; exact ⟨fun h => h.resolve_left (by omega), .inr⟩
                    rw [decide_eq_decide.2 this]
                have e3 : oF (callL (K : Int) x L) K = .bool true := by unfold oF; rw [decide_eq_true ((HU.out K).2.2 (.inl rfl))]
                rwa [e3] at h3, HH.out.ne, HSX.out, HHL.out, (HH.out.bel.trans (k2.below fun _ hk => .inl (.inl (Nat.lt_of_lt_of_le hk HH.out.b1)))).trans (((Keep.refl (fun k => k < w.heap.size) W2).set_ (b := ob) (by have := HLO.out; omega) K _).below fun _ hk => hk), HH.out.b1⟩, by have := HGL.out; have := HLN.out; omega⟩
            generalize (usedL (K : Int) L : Int) = us at z0 hd
            generalize decide (0 < waitL (K : Int) L) = ww at z1
            clear h2 k2 HF HH HU HN2 HO2 x0 f0 y0 g0
            go_wp2_with fail
            go_meet
            exact FIN.out
      have n3 : (kd == 3) = false := by simpa using k3
      by_cases k4 : kd = 4
      · subst k4
        as_aux_lemma =>
          have HF := Lib.hid (end_any p _ L wr HH.out.tq hn1)
          clear x0 f0 y0 g0
          go_wp2_with fail
          refine HF.out.mono ?_
          rintro e W2 ⟨v, rfl, ho, h2, k2⟩
          have hge := own_ge ho
          have HE0 : Hid (EAt w w0 p nb ob L v 0 W2) := Lib.hid {
            tq := h2
            os := own_low ho (Nat.zero_le _)
            nd := by simpa using HH.out.nd.keep k2 (.inl (.inr rfl))
            ow := by simpa using HH.out.ow.keep k2 (.inr rfl)
            ne := ⟨HH.out.ne, fun e => by have := hge _ e; have := HH.out.nd.lt; omega, fun e => by have := hge _ e; have := HH.out.ow.lt; omega⟩
            bel := HH.out.bel.trans (k2.below fun _ hk => .inl (.inl (Nat.lt_of_lt_of_le hk HH.out.b1))) }
          have hne : ¬ ob = nb := fun e => HH.out.ne e.symm
          have hne2 : ¬ nb = ob := HH.out.ne
          have HEL := Lib.hid (end_len L)
          obtain ⟨av, cv, rfl⟩ := own_shape ho
          have HEW : Hid (∀ k, k = 6 → waits L k 0 = (endO L).length) := Lib.hid fun k e => by rw [e]; exact (end_waits HUP.out.1 HH.out.six).symm
          have HMO : Hid (∀ (pg : Int) (kp : Bool), (pg, kp) ∈ endO L → hasL pg true (endL L) = false ∧ hasL pg false (endL L) = kp ∧ Sm pg) := Lib.hid fun pg kp hm => by
            have h1 := mem_endO HUP.out hm
            refine ⟨h1.1, h1.2, ?_⟩
            obtain ⟨k, hk, e⟩ := List.mem_filterMap.1 hm
            unfold letF at e
            split at e
            · cases e
            · injection e with e
              injection e with e _
              have := HH.out.six k hk
              exact sm_of (by omega)
          have HSI := Lib.hid HH.out.six
          have HB1 := Lib.hid HH.out.b1
          have hlob : (endO L).length ≤ 1000000 := Nat.le_trans (List.length_filterMap_le _ _) hn1
          generalize hlo : (endO L).length = lo at HEW HE0 hlob
          have HLOO := Lib.hid hlo
          clear ho h2 k2 HF hge HH hlo
          go_wp2_with fail
          go_loopw [11, 12] (fun vn i wq => ∃ k : Nat, k ≤ 6 ∧ i = .int .i64 (k : Int) ∧ vn = .int .i64 (waits L k 0 : Int) ∧ Hid (EAt w w0 p nb ob L (.slice av lo cv) k wq)) (fun _ i _ => 6 - (intOf i).toNat)
          case atStart => exact ⟨0, Nat.zero_le _, rfl, rfl, Lib.hid HE0.out⟩
          case round =>
            obtain ⟨k, hk, rfl, rfl, HE⟩ := hrel
            clear HE0
            by_cases hk6 : k < 6
            · obtain ⟨z0, z1, z2, z3⟩ := HE.out.cells hk6
              have HE2 := Lib.hid (HE.out.next hk6 HLO.out)
              have hws := waits_snoc L k 0
              rw [Int.zero_add] at hws
              have hwl := waits_le L k 0
              dsimp only [nF, oF] at z0 z2
              generalize (usedL (k : Int) L : Int) = us at z0
              have HWS := Lib.hid hws
              clear hws HE
              by_cases hw : 0 < waitL (k : Int) L
              · have HW2 : Hid (waits L (k + 1) 0 = waits L k 0 + 1) := Lib.hid (by rw [HWS.out, if_pos hw])
                rw [decide_eq_true hw] at z2
                clear HWS hw
                generalize waits L k 0 = ct at hwl HW2
                go_wp2
                go_roundw
                case rel => exact ⟨k + 1, by omega, by go_num, by rw [HW2.out]; go_num, HE2⟩
                case measure => simp [intOf]; omega
              · have HW2 : Hid (waits L (k + 1) 0 = waits L k 0) := Lib.hid (by rw [HWS.out, if_neg hw, Nat.add_zero])
                rw [decide_eq_false hw] at z2
                clear HWS hw
                generalize waits L k 0 = ct at hwl HW2
                go_wp2
                go_roundw
                case rel => exact ⟨k + 1, by omega, by go_num, by rw [HW2.out], HE2⟩
                case measure => simp [intOf]; omega
            · rw [HEW.out k (by omega)]
              obtain rfl : k = 6 := by omega
              have HFIN := Lib.hid (HE.out.done HUP.out HSI.out HB1.out)
              have HOS := Lib.hid HE.out.os
              clear HE HEW
              go_wp2_with fail
              go_loopw [13] (fun i wq => ∃ k : Nat, k ≤ lo ∧ i = .int .i64 (k : Int) ∧ Hid (HAt w w0 p nb ob (endL L) wq ∧ wq.ownsRow 0 50 2 (.slice av lo cv) (endO L).length (letsV (endO L)))) (fun i _ => lo - (intOf i).toNat)
              case atStart => exact ⟨0, Nat.zero_le _, rfl, Lib.hid ⟨HFIN.out, HOS.out⟩⟩
              case round =>
                obtain ⟨k, hk2, rfl, HK9⟩ := hrel
                by_cases hkl : k < lo
                · have hx : (endO L)[k]? = some ((endO L)[k]'(by rw [HLOO.out]; exact hkl)) := List.getElem?_eq_getElem _
                  generalize (endO L)[k]'(by rw [HLOO.out]; exact hkl) = y at hx
                  obtain ⟨pgy, kpy⟩ := y
                  obtain ⟨m1, m2, m3⟩ := HMO.out pgy kpy (List.mem_of_getElem? hx)
                  obtain ⟨g, cap, e, -, -, z0, z1⟩ := let_at HK9.out.2 hx
                  injection e with e1 e2 e3
                  subst e1
                  have cA := fun q => HK9.out.1.lhas m3 true q
                  have cB := fun q => HK9.out.1.lhas m3 false q
                  rw [m1] at cA
                  rw [m2] at cB
                  dsimp only at z0 z1
                  clear hx m1 m2 e2 e3
                  go_wp2_with fail
                  go_quiet (first | (go_at_call 19; with_reducible exact cA _) | (go_at_call 19; with_reducible exact cB _))
                  have HQ2 : Hid (HAt w w0 p nb ob (endL L) (wr.drewN nq) ∧ (wr.drewN nq).ownsRow 0 50 2 (.slice (some ⟨g, 0, none⟩) lo cv) (endO L).length (letsV (endO L))) := Lib.hid ⟨HK9.out.1.quiet nq, own_same HK9.out.2 fun g _ => rfl⟩
                  obtain ⟨W2', hW2⟩ : ∃ W2', wr.drewN nq = W2' := ⟨_, rfl⟩
                  rw [hW2] at HQ2 ⊢
                  clear hW2 z0 z1 cA cB HK9
                  go_wp2
                  go_roundw
                  case rel => exact ⟨k + 1, by omega, by go_num, HQ2⟩
                  case measure => simp [intOf]; omega
                · obtain rfl : k = lo := by omega
                  have FIN : Hid (RH w w0 p nb ob (j + 1) wr) := Lib.hid ⟨_, HK9.out.1, by have := HEL.out; have := HLN.out; omega⟩
                  clear HK9
                  go_wp2_with fail
                  go_meet
                  exact FIN.out
      have n4 : (kd == 4) = false := by simpa using k4
      have FIN : Hid (RH w w0 p nb ob (j + 1) wr) := Lib.hid ⟨_, HH.out, by have := HLN.out; omega⟩
      clear k1 k2 k3 k4 HH x0 f0 y0 g0 HUP
      go_wp2_with fail
      go_meet
      exact FIN.out
    case rest =>
      obtain ⟨L2, hH2, hL2⟩ := hcut
      have HH2 := Lib.hid hH2
      have HL2 := Lib.hid hL2
      clear hH2 hL2 HH HLN x0 f0 y0 g0 HUP hn1
      go_wp2_with fail
      go_loopw [14] (fun i wq => ∃ k : Nat, k ≤ 6 ∧ i = .int .i64 (k : Int) ∧ Hid (HAt w w0 p nb ob L2 wq)) (fun i _ => 6 - (intOf i).toNat)
      case atStart => exact ⟨0, Nat.zero_le _, rfl, HH2⟩
      case round =>
        obtain ⟨k, hk, rfl, HE⟩ := hrel
        clear HH2
        by_cases hk6 : k < 6
        · obtain ⟨z0, -, -, -⟩ := HE.out.cells hk6
          have hsk : Sm (k : Int) := sm_of (by omega)
          have hul := used_le HE.out.tq.ok (k : Int)
          have cU := fun q => HE.out.lused hsk q
          have hhn := has_of_need HE.out.hl (k : Int)
          have cH := fun x q => HE.out.lhas hsk x q
          generalize usedL (k : Int) L2 = us at z0 hul cU hhn
          obtain rfl | rfl | rfl : us = 0 ∨ us = 1 ∨ us = 2 := by omega
          · clear hhn hul
            change wr.cell? ⟨nb, k, none⟩ = some (.int .i64 0) at z0
            change ∀ q, Calls _ _ _ _ fun e w' => e = .returned (.int .i64 0) ∧ _ at cU
            go_wp2_with fail
            go_quiet (first | (go_at_call 21; exact cU _))
            have HE2 := Lib.hid (HE.out.quiet nq)
            obtain ⟨W6, hW6⟩ : ∃ W6, wr.drewN nq = W6 := ⟨_, rfl⟩
            rw [hW6] at HE2 ⊢
            clear hW6 z0 cU cH HE
            go_wp2
            go_roundw
            case rel => exact ⟨k + 1, by omega, by go_num, HE2⟩
            case measure => simp [intOf]; omega
          · have cH1 := cH false
            rw [show hasL (k : Int) false L2 = true from hhn (by omega)] at cH1
            clear hhn hul
            change wr.cell? ⟨nb, k, none⟩ = some (.int .i64 1) at z0
            change ∀ q, Calls _ _ _ _ fun e w' => e = .returned (.int .i64 1) ∧ _ at cU
            go_wp2_with fail
            go_quiet (first | (go_at_call 21; exact cU _) | (go_at_call 19; exact cH1 _))
            have HE2 := Lib.hid (HE.out.quiet nq)
            obtain ⟨W6, hW6⟩ : ∃ W6, wr.drewN nq = W6 := ⟨_, rfl⟩
            rw [hW6] at HE2 ⊢
            clear hW6 z0 cU cH cH1 HE
            go_wp2
            go_roundw
            case rel => exact ⟨k + 1, by omega, by go_num, HE2⟩
            case measure => simp [intOf]; omega
          · have cH1 := cH true
            rw [show hasL (k : Int) true L2 = true from hhn (by omega)] at cH1
            clear hhn hul
            change wr.cell? ⟨nb, k, none⟩ = some (.int .i64 2) at z0
            change ∀ q, Calls _ _ _ _ fun e w' => e = .returned (.int .i64 2) ∧ _ at cU
            go_wp2_with fail
            go_quiet (first | (go_at_call 21; exact cU _) | (go_at_call 19; exact cH1 _))
            have HE2 := Lib.hid (HE.out.quiet nq)
            obtain ⟨W6, hW6⟩ : ∃ W6, wr.drewN nq = W6 := ⟨_, rfl⟩
            rw [hW6] at HE2 ⊢
            clear hW6 z0 cU cH cH1 HE
            go_wp2
            go_roundw
            case rel => exact ⟨k + 1, by omega, by go_num, HE2⟩
            case measure => simp [intOf]; omega
        · obtain rfl : k = 6 := by omega
          have HN : Hid (RH w w0 p nb ob (j + 1) wr) := Lib.hid ⟨L2, HE.out, HL2.out⟩
          clear HE
          go_wp2
          go_roundw
          case rel => exact ⟨j + 1, by omega, by omega, by go_num, HN⟩
          case measure => simp [intOf]; omega
end Go.Proofs.Ytlalehoncclnaaa.Latch
