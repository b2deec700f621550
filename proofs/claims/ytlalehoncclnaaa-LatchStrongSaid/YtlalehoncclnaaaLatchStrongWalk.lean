/- The walk of the statement LatchStrong. -/
import Derived.Test.YtlalehoncclnaaaLatchLaw0
import Derived.Test.YtlalehoncclnaaaBools
namespace Go.Proofs.Ytlalehoncclnaaa.Latch
set_option maxRecDepth 100000
open Go.RowKit
open Go.Proofs.Ytlalehoncclnaaa.Mem
open Go.Maps
/-- which call waits behind j of them -/
def wtS (j : Nat) (al : Bool) : Nat := if j = 0 then 0 else if al = true then 2 else 1
theorem wtS_step (j : Nat) (al b : Bool) (h : j = 0 → al = false) : (if b = true then 2 else if wtS j al = 0 then 1 else wtS j al) = wtS (j + 1) (al || b) := by
  unfold wtS
  rw [if_neg (show ¬ j + 1 = 0 by omega)]
  by_cases e : j = 0
  · rw [if_pos e, h e]; cases b <;> rfl
  · rw [if_neg e]; cases b <;> cases al <;> rfl
def SL (p : Int) (wt : Nat) : LS := [⟨p, true, 2, wt⟩]
theorem SL_has (p : Int) (wt : Nat) : hasL p true (SL p wt) = true := by
  unfold hasL SL
  rw [at_cons, if_pos rfl]
  rfl
structure WAt (p : Nat) (pg : Int) (w w1 : World) (wt : Nat) (W : World) : Prop where
  tq : TQ W p (fun k => k < w1.heap.size) (SL pg wt)
  bel : Below w.heap.size w W
  b1 : w.heap.size ≤ w1.heap.size
section
variable {p : Nat} {pg : Int} {w w1 W : World} {wt : Nat}
theorem WAt.call (h : WAt p pg w w1 wt W) (hs : Sm pg) (b : Bool) : Calls Try.prog 13 #[.pointer (some ⟨p, 0, none⟩), .int .i64 pg, .bool b] W fun e w' => e = .returned (.int .i64 3) ∧ WAt p pg w w1 (if b = true then 2 else if wt = 0 then 1 else wt) w' := by
  obtain ⟨e1, e2⟩ := strong_call pg wt b
  have := call_any p _ (SL pg wt) pg b W h.tq hs (by simp [SL])
  unfold SL at this
  rw [e1, e2] at this
  exact this.mono fun _ _ ⟨he, ht, k⟩ => ⟨he, ht, h.bel.trans (k.below fun _ hk => Nat.lt_of_lt_of_le hk h.b1), h.b1⟩
theorem WAt.has (h : WAt p pg w w1 wt W) (hs : Sm pg) : Calls Try.prog 19 #[.pointer (some ⟨p, 0, none⟩), .int .i64 pg, .bool true] W fun e w' => e = .returned (.bool true) ∧ WAt p pg w w1 wt w' := by
  have := has_tq (x := true) h.tq hs
  rw [SL_has] at this
  exact this.mono fun _ _ ⟨he, ht, hb⟩ => ⟨he, ht, h.bel.trans (hb.mono h.bel.size), h.b1⟩
def SEnd (p : Nat) (w : World) (L : List (Int × Bool)) (L2 : LS) (e : Ending) (W : World) : Prop :=
  ∃ v M, e = .returned v ∧ W.ownsRow 0 50 2 v L.length (letsV L) ∧ TQ W p M L2 ∧ Below w.heap.size w W
theorem WAt.end_ (h : WAt p pg w w1 wt W) : Calls Try.prog 16 #[.pointer (some ⟨p, 0, none⟩)] W (SEnd p w (endO (SL pg wt)) (endL (SL pg wt))) :=
  (end_any p _ (SL pg wt) W h.tq (by simp [SL])).mono fun _ _ ⟨v, he, ho, ht, k⟩ => ⟨v, _, he, own_low ho (Nat.zero_le _), ht, h.bel.trans (k.below fun _ hk => Nat.lt_of_lt_of_le hk h.b1)⟩
end
theorem has_end {p : Nat} {M : Nat → Prop} {L : LS} {pg : Int} {x : Bool} {w W : World} (h : TQ W p M L) (hb : Below w.heap.size w W) (hx : Sm pg) :
    Calls Try.prog 19 #[.pointer (some ⟨p, 0, none⟩), .int .i64 pg, .bool x] W fun e w' => e = .returned (.bool (hasL pg x L)) ∧ (TQ w' p M L ∧ Below W.heap.size W w') ∧ Below w.heap.size w w' :=
  (has_tq h hx).mono fun _ _ ⟨he, ht, h2⟩ => ⟨he, ⟨ht, h2⟩, hb.trans (h2.mono hb.size)⟩
set_option maxRecDepth 100000 in
set_option maxHeartbeats 16000000 in
theorem strong_walk (pg : Int) (a : Option Addr) (n c : Nat) (xs : List Bool) (w : World) (hp : -9223372036854775808 ≤ pg ∧ pg ≤ 9223372036854775807) (hA : Bools w a n xs) :
    Calls Try.prog 6 #[.int .i64 pg, .slice a n c] w fun e w' => e = .returned (.bool true) ∧ Below w.heap.size w w' := by
  have HA := Lib.hid hA
  have hsm := Lib.hid (sm_of hp)
  clear hA hp
  go_enter Try.func6, Try.ntmps6
  go_wp2_with fail
  refine (awake_any w).mono ?_
  rintro e w0 ⟨rfl, b0⟩
  have HB0 := Lib.hid b0
  clear b0
  go_wp2_with fail
  refine (new_any w0).mono ?_
  rintro e w1 ⟨p, rfl, _, h1, b1⟩
  have HG := Lib.hid (grant_any p _ [] pg true w1 h1 hsm.out (by decide))
  have HB1 := Lib.hid (HB0.out.trans (b1.mono HB0.out.size))
  rw [(strong_start pg).1] at HG
  clear h1 b1
  go_wp2_with fail
  refine HG.out.mono ?_
  rintro e w2 ⟨rfl, h2, k2⟩
  have HU := Lib.hid (use_any p _ _ pg true w2 h2 hsm.out (by simp))
  rw [(strong_start pg).2.1, (strong_start pg).2.2] at HU
  have HB2 := Lib.hid (HB1.out.trans (k2.below fun _ hk => Nat.lt_of_lt_of_le hk HB0.out.size))
  clear h2 k2 HG HB1
  go_wp2_with fail
  refine HU.out.mono ?_
  rintro e w3 ⟨rfl, h3, k3⟩
  have HI0 : Hid (WAt p pg w w0 (wtS 0 false) w3) := Lib.hid ⟨h3, HB2.out.trans (k3.below fun _ hk => Nat.lt_of_lt_of_le hk HB0.out.size), HB0.out.size⟩
  clear h3 k3 HU HB2 HB0
  go_wp2_with fail
  go_loopw [6, 7, 8] (fun al m i wr => ∃ (j : Nat) (b : Bool), j ≤ n ∧ j ≤ 20 ∧ i = .int .i64 (j : Int) ∧ m = .int .i64 (j : Int) ∧ al = .bool b ∧ Hid ((j = 0 → b = false) ∧ WAt p pg w w0 (wtS j b) wr)) (fun _ _ i _ => 20 - (intOf i).toNat)
  case atStart => exact ⟨0, false, Nat.zero_le _, by omega, rfl, rfl, rfl, Lib.hid ⟨fun _ => rfl, HI0.out⟩⟩
  case round =>
    obtain ⟨j, al, hj, hj2, rfl, rfl, rfl, HI⟩ := hrel
    clear HI0
    by_cases hlt : j < n
    rotate_left
    · obtain rfl : j = n := by omega
      have HE := Lib.hid HI.out.2.end_
      by_cases h0 : j = 0
      · have hw : wtS j al = 0 := by unfold wtS; rw [if_pos h0]
        rw [hw, show SL pg 0 = [⟨pg, true, 2, 0⟩] from rfl, (strong_none pg).1] at HE
        have hz : ((j : Int) == 0) = true := by rw [h0]; rfl
        have HN := Lib.hid (strong_none pg).2
        clear h0 hw HI
        go_wp2_with fail
        refine HE.out.mono ?_
        rintro e w5 ⟨v, M5, rfl, ho, ht, hb⟩
        have HH := Lib.hid (has_end (x := true) ht hb hsm.out)
        rw [HN.out] at HH
        obtain ⟨av, cv, rfl⟩ := own_shape ho
        dsimp only [List.length]
        clear ho ht hb HE
        go_wp2_with fail
        refine HH.out.mono ?_
        rintro e w6 ⟨rfl, _, hb6⟩
        have HF := Lib.hid hb6
        clear hb6 HH
        go_wp2
        go_ret
        exact ⟨rfl, HF.out⟩
      · have hw : wtS j al = 1 ∨ wtS j al = 2 := by unfold wtS; rw [if_neg h0]; cases al <;> simp
        have hw2 : (wtS j al == 1) = !al := by unfold wtS; rw [if_neg h0]; cases al <;> rfl
        obtain ⟨s1, s2, s3⟩ := strong_end pg _ hw
        rw [hw2] at s1 s2
        rw [show SL pg (wtS j al) = [⟨pg, true, 2, wtS j al⟩] from rfl, s1] at HE
        have hz : ((j : Int) == 0) = false := by simpa using h0
        have HS2 := Lib.hid s2
        have HS3 := Lib.hid s3
        clear h0 hw hw2 s1 s2 s3 HI
        generalize endL [⟨pg, true, 2, wtS j al⟩] = L9 at HE HS2 HS3
        go_wp2_with fail
        refine HE.out.mono ?_
        rintro e w5 ⟨v, M5, rfl, ho, ht, hb⟩
        have HH := Lib.hid (has_end (x := false) ht hb hsm.out)
        rw [HS2.out] at HH
        obtain ⟨g, cap, rfl, -, -, c0, c1⟩ := let_at (i := 0) ho rfl
        have e1 := fun W => run_eq_let (pg, !al) (pg, !al) W
        have s1 : sameL (pg, !al) (pg, !al) = true := by simp [sameL]
        rw [s1] at e1
        have hgd := fun op A B xs ys W => run_guard_let op A B xs ys W
        dsimp only [List.length] at e1 c0 c1 ⊢
        clear ho ht hb HE s1
        cases al
        all_goals
          dsimp only [Bool.not_true, Bool.not_false, Bool.not] at e1 c0 c1 HH
          go_wp2_with fail
          refine HH.out.mono ?_
          rintro e w6 ⟨rfl, ⟨ht6, _⟩, hb6⟩
          have HH2 := Lib.hid (has_end (x := true) ht6 hb6 hsm.out)
          rw [HS3.out] at HH2
          clear ht6 hb6 HH c0 c1
          go_wp2_with fail
          refine HH2.out.mono ?_
          rintro e w7 ⟨rfl, _, hb7⟩
          have HF := Lib.hid hb7
          clear hb7 HH2
          go_wp2
          go_ret
          exact ⟨rfl, HF.out⟩
    by_cases hlt2 : j < 20
    rotate_left
    · obtain rfl : j = 20 := by omega
      have HE := Lib.hid HI.out.2.end_
      have h0 : ¬ (20 : Nat) = 0 := by omega
      · have hw : wtS 20 al = 1 ∨ wtS 20 al = 2 := by unfold wtS; rw [if_neg h0]; cases al <;> simp
        have hw2 : (wtS 20 al == 1) = !al := by unfold wtS; rw [if_neg h0]; cases al <;> rfl
        obtain ⟨s1, s2, s3⟩ := strong_end pg _ hw
        rw [hw2] at s1 s2
        rw [show SL pg (wtS 20 al) = [⟨pg, true, 2, wtS 20 al⟩] from rfl, s1] at HE
        have hz : ((20 : Int) == 0) = false := by decide
        have HS2 := Lib.hid s2
        have HS3 := Lib.hid s3
        clear h0 hw hw2 s1 s2 s3 HI
        generalize endL [⟨pg, true, 2, wtS 20 al⟩] = L9 at HE HS2 HS3
        go_wp2_with fail
        refine HE.out.mono ?_
        rintro e w5 ⟨v, M5, rfl, ho, ht, hb⟩
        have HH := Lib.hid (has_end (x := false) ht hb hsm.out)
        rw [HS2.out] at HH
        obtain ⟨g, cap, rfl, -, -, c0, c1⟩ := let_at (i := 0) ho rfl
        have e1 := fun W => run_eq_let (pg, !al) (pg, !al) W
        have s1 : sameL (pg, !al) (pg, !al) = true := by simp [sameL]
        rw [s1] at e1
        have hgd := fun op A B xs ys W => run_guard_let op A B xs ys W
        dsimp only [List.length] at e1 c0 c1 ⊢
        clear ho ht hb HE s1
        cases al
        all_goals
          dsimp only [Bool.not_true, Bool.not_false, Bool.not] at e1 c0 c1 HH
          go_wp2_with fail
          refine HH.out.mono ?_
          rintro e w6 ⟨rfl, ⟨ht6, _⟩, hb6⟩
          have HH2 := Lib.hid (has_end (x := true) ht6 hb6 hsm.out)
          rw [HS3.out] at HH2
          clear ht6 hb6 HH c0 c1
          go_wp2_with fail
          refine HH2.out.mono ?_
          rintro e w7 ⟨rfl, _, hb7⟩
          have HF := Lib.hid hb7
          clear hb7 HH2
          go_wp2
          go_ret
          exact ⟨rfl, HF.out⟩
    obtain ⟨x, hx⟩ : ∃ x, xs.getD j false = x := ⟨_, rfl⟩
    have HX := Lib.hid hx
    clear hx
    obtain ⟨b, off, rfl, hb, c0⟩ := (HA.out.below HI.out.2.bel).at_ hlt
    rw [HX.out] at c0
    have HC := Lib.hid (HI.out.2.call hsm.out x)
    rw [wtS_step j al x HI.out.1] at HC
    clear hb
    go_wp2_with fail
    refine HC.out.mono ?_
    rintro e w5 ⟨rfl, h5⟩
    have HH := Lib.hid (h5.has hsm.out)
    clear h5 HC HI c0
    go_wp2_with fail
    refine HH.out.mono ?_
    rintro e w6 ⟨rfl, h6⟩
    have HI2 : Hid ((j + 1 = 0 → (al || x) = false) ∧ WAt p pg w w0 (wtS (j + 1) (al || x)) w6) := Lib.hid ⟨fun h => absurd h (by omega), h6⟩
    obtain ⟨b', off', e', _, c0⟩ := (HA.out.below h6.bel).at_ hlt
    rw [HX.out] at c0
    injection e' with e1
    injection e1 with e1 e2 e3
    subst e1 e2
    clear h6 HH e3
    cases al
    all_goals
      go_wp2
      go_roundw
      case rel => exact ⟨j + 1, _, by omega, by omega, by go_num, by go_num, by simp, HI2⟩
      case measure => simp [intOf]; omega
end Go.Proofs.Ytlalehoncclnaaa.Latch
