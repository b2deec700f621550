/- The walk of the statement LatchIdle. -/
import Derived.Test.YtlalehoncclnaaaLatchLaw0
namespace Go.Proofs.Ytlalehoncclnaaa.Latch
set_option maxRecDepth 100000
open Go.RowKit
open Go.Proofs.Ytlalehoncclnaaa.Mem
open Go.Maps
def MW (w : World) (k : Nat) : Prop := k < w.heap.size
/-- between two rounds -/
structure IAt (p : Nat) (w w1 : World) (L : LS) (j : Nat) (wr : World) : Prop where
  tq : TQ wr p (MW w1) L
  id : Idle L
  ln : L.length ≤ j
  bel : Below w.heap.size w wr
  b1 : w.heap.size ≤ w1.heap.size
def IRes (w : World) (e : Ending) (w' : World) : Prop := e = .returned (.bool true) ∧ Below w.heap.size w w'
section
variable {p : Nat} {w w1 wr W W2 : World} {L L' : LS} {j : Nat}
theorem IAt.box (h : IAt p w w1 L j wr) (o : Obj) : TQ (wr.alloc o) p (fun k => MW w1 k ∨ k = wr.heap.size) L ∧ Below w.heap.size w (wr.alloc o) :=
  ⟨h.tq.alloc o, h.bel.alloc h.bel.size o⟩
end
def MB (w : World) (b : Nat) (k : Nat) : Prop := k < w.heap.size ∨ k = b
/-- within a round: the call lies in a box -/
structure ISt (p : Nat) (w w1 : World) (b : Nat) (y : Act) (L : LS) (W : World) : Prop where
  tq : TQ W p (MB w1 b) L
  bk : Blk W b 31 #[.int .i64 y.kind, .int .i64 y.pg, .bool y.x]
  bel : Below w.heap.size w W
  b1 : w.heap.size ≤ w1.heap.size
  sm : Sm y.pg
section
variable {p b : Nat} {w w1 wr W : World} {L : LS} {j : Nat} {y : Act}
theorem IAt.open_ (h : IAt p w w1 L j wr) (hs : Sm y.pg) : ISt p w w1 wr.heap.size y L (wr.alloc (.cells #[.int .i64 y.kind, .int .i64 y.pg, .bool y.x] 31)) :=
  ⟨h.tq.alloc _, Blk.new wr _ _, h.bel.alloc h.bel.size _, h.b1, hs⟩
theorem ISt.shut (h : ISt p w w1 b y L W) (hi : Idle L) (hn : L.length ≤ j) : IAt p w w1 L j W := ⟨h.tq.mono fun _ hk => .inl hk, hi, hn, h.bel, h.b1⟩
theorem ISt.cells (h : ISt p w w1 b y L W) : W.cell? ⟨b, 0, none⟩ = some (.int .i64 y.kind) ∧ W.cell? ⟨b, 1, none⟩ = some (.int .i64 y.pg) ∧ W.cell? ⟨b, 2, none⟩ = some (.bool y.x) := ⟨h.bk.cell 0, h.bk.cell 1, h.bk.cell 2⟩
theorem ISt.has (h : ISt p w w1 b y L W) (x : Bool) : Calls Try.prog 19 #[.pointer (some ⟨p, 0, none⟩), .int .i64 y.pg, .bool x] W fun e w' => e = .returned (.bool (hasL y.pg x L)) ∧ ISt p w w1 b y L w' :=
  (has_tq h.tq h.sm).mono fun _ _ ⟨he, ht, hb⟩ => ⟨he, ht, h.bk.below hb h.bk.lt, h.bel.trans (hb.mono h.bel.size), h.b1, h.sm⟩
theorem ISt.keep {L' : LS} {W' : World} (h : ISt p w w1 b y L W) (ht : TQ W' p (MB w1 b) L') (k : Keep (MB w1 b) W W') : ISt p w w1 b y L' W' :=
  ⟨ht, k.blk h.bk (.inr rfl), h.bel.trans (k.below fun _ hk => .inl (Nat.lt_of_lt_of_le hk h.b1)), h.b1, h.sm⟩
theorem ISt.call (h : ISt p w w1 b y L W) (hn : L.length ≤ 1000) : Calls Try.prog 13 #[.pointer (some ⟨p, 0, none⟩), .int .i64 y.pg, .bool y.x] W fun e w' => e = .returned (.int .i64 (callE y.pg y.x L)) ∧ ISt p w w1 b y (callL y.pg y.x L) w' :=
  (call_any p _ L y.pg y.x W h.tq h.sm (by omega)).mono fun _ _ ⟨he, ht, k⟩ => ⟨he, h.keep ht k⟩
theorem ISt.grant (h : ISt p w w1 b y L W) (hn : L.length ≤ 1000) : Calls Try.prog 9 #[.pointer (some ⟨p, 0, none⟩), .int .i64 y.pg, .bool y.x] W fun e w' => e = .returned (.tuple #[]) ∧ ISt p w w1 b y (grantL y.pg y.x L) w' :=
  (grant_any p _ L y.pg y.x W h.tq h.sm (by omega)).mono fun _ _ ⟨he, ht, k⟩ => ⟨he, h.keep ht k⟩
end
set_option maxRecDepth 100000 in
set_option maxHeartbeats 32000000 in
theorem idle_walk (a : Option Addr) (n c : Nat) (xs : List Act) (w : World) (hA : Acts w a n xs) :
    Calls Try.prog 5 #[.slice a n c] w fun e w' => e = .returned (.bool true) ∧ Below w.heap.size w w' := by
  have HA := Lib.hid hA
  clear hA
  go_enter Try.func5, Try.ntmps5
  go_wp2_with fail
  refine (awake_any w).mono ?_
  rintro e w0 ⟨rfl, b0⟩
  have HB0 := Lib.hid b0
  clear b0
  go_wp2_with fail
  refine (new_any w0).mono ?_
  rintro e w1 ⟨p, rfl, _, h1, b1⟩
  have HI0 : Hid (IAt p w w0 [] 0 w1) := Lib.hid ⟨h1, idle_nil, Nat.le_refl _, HB0.out.trans (b1.mono HB0.out.size), HB0.out.size⟩
  clear h1 b1 HB0
  go_wp2_with fail
  go_loopw [4] (fun i wr => ∃ (j : Nat) (L : LS), j ≤ n ∧ j ≤ 200 ∧ i = .int .i64 (j : Int) ∧ Hid (IAt p w w0 L j wr)) (fun i _ => 200 - (intOf i).toNat)
  case atStart => exact ⟨0, [], Nat.zero_le _, by omega, rfl, HI0⟩
  case round =>
    obtain ⟨j, L, hj, hj2, rfl, HI⟩ := hrel
    clear HI0
    by_cases hlt : j < n
    rotate_left
    · obtain rfl : j = n := by omega
      have HE := Lib.hid (end_any p _ L wr HI.out.tq (by have := HI.out.ln; omega))
      have HL := Lib.hid (idle_end HI.out.id)
      go_wp2_with fail
      refine HE.out.mono ?_
      rintro e w9 ⟨v, rfl, ho, h9, k9⟩
      rw [HL.out] at ho
      obtain ⟨av, cv, rfl⟩ := own_shape ho
      have HF := Lib.hid (HI.out.bel.trans (k9.below (B := w.heap.size) fun k hk => Nat.lt_of_lt_of_le hk HI.out.b1))
      clear ho h9 k9
      dsimp only [List.length]
      go_wp2
      go_ret
      exact ⟨rfl, HF.out⟩
    by_cases hlt2 : j < 200
    rotate_left
    · obtain rfl : j = 200 := by omega
      have HE := Lib.hid (end_any p _ L wr HI.out.tq (by have := HI.out.ln; omega))
      have HL := Lib.hid (idle_end HI.out.id)
      go_wp2_with fail
      refine HE.out.mono ?_
      rintro e w9 ⟨v, rfl, ho, h9, k9⟩
      rw [HL.out] at ho
      obtain ⟨av, cv, rfl⟩ := own_shape ho
      have HF := Lib.hid (HI.out.bel.trans (k9.below (B := w.heap.size) fun k hk => Nat.lt_of_lt_of_le hk HI.out.b1))
      clear ho h9 k9
      dsimp only [List.length]
      go_wp2
      go_ret
      exact ⟨rfl, HF.out⟩
    obtain ⟨b, off, x, rfl, hb, -, ⟨c0, c1, c2⟩, hg⟩ := (HA.out.below HI.out.bel).at_ hlt
    have HS := Lib.hid (HI.out.open_ (y := x) (sm_of ⟨hg.2.2.1, hg.2.2.2⟩))
    have HLN := Lib.hid HI.out.ln
    have HID := Lib.hid HI.out.id
    have HUP := Lib.hid HI.out.tq.ok.1
    clear HI hg
    go_upto_region 8 with (fail)
    obtain ⟨B, hB⟩ : ∃ B, B = wr.heap.size := ⟨_, rfl⟩
    rw [← hB] at HS ⊢
    clear c0 c1 c2 hb hB
    generalize wr.alloc (.cells #[.int .i64 x.kind, .int .i64 x.pg, .bool x.x] 31) = W1 at HS ⊢
    obtain ⟨d0, d1, d2⟩ := HS.out.cells
    by_cases hk : x.kind = 1
    · obtain ⟨kind, pg, all⟩ := x
      dsimp only at hk d0 d1 d2 ⊢
      subst hk
      go_wp2_with fail
      refine (HS.out.grant (by have := HLN.out; omega)).mono ?_
      rintro e w2 ⟨rfl, h2⟩
      have HI2 : Hid (IAt p w w0 (grantL pg all L) (j + 1) w2) := Lib.hid (h2.shut (idle_grant HID.out pg all) (Nat.le_trans (grant_len _ _ L) (Nat.succ_le_succ HLN.out)))
      clear h2 HS d0 d1 d2
      go_wp2
      go_roundw
      case rel => exact ⟨j + 1, _, by omega, by omega, by go_num, HI2⟩
      case measure => simp [intOf]; omega
    · have hk2 : (x.kind == 1) = false := by simpa using hk
      obtain ⟨s1, s2, s3, s4⟩ := idle_says HUP.out HID.out x.pg x.x
      have HCE := Lib.hid s1
      have HC1 := Lib.hid s2
      have HC2 := Lib.hid s3
      have HC3 := Lib.hid s4
      have HID2 := Lib.hid (idle_call HID.out x.pg x.x)
      have HLN2 : Hid ((callL x.pg x.x L).length ≤ j + 1) := Lib.hid (by have := call_len x.pg x.x L; have := HLN.out; omega)
      clear hk s1 s2 s3 s4 HUP
      go_wp2_with fail
      refine (HS.out.has false).mono ?_
      rintro e w2 ⟨rfl, h2⟩
      have HS2 := Lib.hid h2
      obtain ⟨e0, e1, e2⟩ := h2.cells
      clear h2 HS d0 d1 d2
      generalize hasL x.pg false L = f1 at HCE HC3 ⊢
      go_wp2_with fail
      refine (HS2.out.has true).mono ?_
      rintro e w3 ⟨rfl, h3⟩
      have HS3 := Lib.hid h3
      obtain ⟨d0, d1, d2⟩ := h3.cells
      clear h3 HS2 e0 e1 e2
      generalize hasL x.pg true L = f2 at HCE ⊢
      go_wp2_with fail
      refine (HS3.out.call (by have := HLN.out; omega)).mono ?_
      rintro e w4 ⟨rfl, h4⟩
      have HS4 := Lib.hid h4
      obtain ⟨e0, e1, e2⟩ := h4.cells
      clear h4 HS3 d0 d1 d2
      rw [HCE.out]
      clear HCE
      obtain ⟨kind, pg, all⟩ := x
      dsimp only at e0 e1 e2 HC1 HC2 HC3 HS4 HID2 HLN2 ⊢
      have HFIN : Hid (∀ W, ISt p w w0 B ⟨kind, pg, all⟩ (callL pg all L) W → IAt p w w0 (callL pg all L) (j + 1) W) := Lib.hid fun W h => h.shut HID2.out HLN2.out
      clear HID2 HLN2 HID HLN hk2
      generalize callL pg all L = L2 at HC1 HC2 HC3 HS4 HFIN ⊢
      cases all with
      | true =>
        have h0 : hasL pg false L2 = false := HC1.out rfl
        have HA1 := Lib.hid (HS4.out.has false)
        rw [h0] at HA1
        clear HC1 HC3 h0
        have hw : (if f2 = true ∧ true = false then (2 : Int) else if f1 = true ∧ true = true then 1 else 0) = if f1 = true then 1 else 0 := by simp
        rw [hw]
        clear hw
        cases f1 <;> cases f2
        all_goals
          try dsimp only [if_true, Bool.false_eq_true, if_false]
          go_wp2_with fail
          refine HA1.out.mono ?_
          rintro e w5 ⟨rfl, h5⟩
          have HA2 := Lib.hid (h5.has true)
          rw [HC2.out] at HA2
          obtain ⟨d0, d1, d2⟩ := h5.cells
          clear h5 HA1 HS4 e0 e1 e2
          try dsimp only at d0 d1 d2
          go_wp2_with fail
          refine HA2.out.mono ?_
          rintro e w6 ⟨rfl, h6⟩
          have HI2 := Lib.hid (HFIN.out w6 h6)
          obtain ⟨e0, e1, e2⟩ := h6.cells
          clear h6 HA2 d0 d1 d2
          try dsimp only at e0 e1 e2
          go_wp2
          go_roundw
          case rel => exact ⟨j + 1, _, by omega, by omega, by go_num, HI2⟩
          case measure => simp [intOf]; omega
      | false =>
        have HA1 := Lib.hid (HS4.out.has true)
        rw [HC2.out] at HA1
        have hc3 := HC3.out rfl
        have HC := Lib.hid hc3
        clear HC1 HC3 hc3
        have hw : (if f2 = true ∧ false = false then (2 : Int) else if f1 = true ∧ false = true then 1 else 0) = if f2 = true then 2 else 0 := by simp
        rw [hw]
        clear hw
        cases f1 <;> cases f2
        all_goals
          try dsimp only [if_true, Bool.false_eq_true, if_false]
          go_wp2_with fail
          refine HA1.out.mono ?_
          rintro e w5 ⟨rfl, h5⟩
          have HA2 := Lib.hid (h5.has false)
          rw [HC.out] at HA2
          obtain ⟨d0, d1, d2⟩ := h5.cells
          clear h5 HA1 HS4 e0 e1 e2
          try dsimp only at d0 d1 d2
          go_wp2_with fail
          refine HA2.out.mono ?_
          rintro e w6 ⟨rfl, h6⟩
          have HI2 := Lib.hid (HFIN.out w6 h6)
          clear h6 HA2 d0 d1 d2
          go_wp2
          go_roundw
          case rel => exact ⟨j + 1, _, by omega, by omega, by go_num, HI2⟩
          case measure => simp [intOf]; omega
end Go.Proofs.Ytlalehoncclnaaa.Latch
