/- awake: the answers that the document fixes by number; == of what is let go. -/
import Derived.Test.YtlalehoncclnaaaLatchEnd
namespace Go.Proofs.Ytlalehoncclnaaa.Latch
set_option maxRecDepth 100000
open Go.RowKit
open Go.Proofs.Ytlalehoncclnaaa.Mem
open Go.Maps
def sameL (x y : Int × Bool) : Bool := (x.1 == y.1) && (x.2 == y.2)
set_option maxRecDepth 100000 in
set_option maxHeartbeats 800000 in
theorem run_eq_let (x y : Int × Bool) (w : World) : (binOp .eql 50 (.agg #[.int .i64 x.1, .bool x.2]) (.agg #[.int .i64 y.1, .bool y.2])).run Try.prog w = .ok (.bool (sameL x y)) w := by
  have u3 := Try.underlying4
  have u4 := Try.underlying3
  have a3 := Try.isAgg4
  have z3 := Try.sizeOf4
  have a4 := Try.isAgg3
  have z4 := Try.sizeOf3
  have hS : Try.prog.underlying 50 = some (.struct (Try.prog.fieldsOf 50)) := by kernel_rfl
  have hp : Try.prog.stoodInHeld 50 = false := by kernel_rfl
  rw [run_eql_struct, show (10000 : Nat) = 9999 + 1 from rfl, run_equalIn_agg w 9999 50 _ _ hS hp]
  clear hS hp
  simp only [Program.fieldsOf, Try.underlying50]
  go_simp
  unfold sameL
  by_cases h0 : x.1 = y.1
  rotate_left
  · simp [h0]
  by_cases h1 : x.2 = y.2
  rotate_left
  · simp [h0, h1]
  simp [h0, h1]
theorem run_ne_let (x y : Int × Bool) (w : World) : (binOp .neq 50 (.agg #[.int .i64 x.1, .bool x.2]) (.agg #[.int .i64 y.1, .bool y.2])).run Try.prog w = .ok (.bool (!sameL x y)) w := by
  have h := run_eq_let x y w
  simp only [binOp] at h ⊢
  simp only [Sem.run_bind] at h ⊢
  generalize (Op.equal 50 (.agg #[.int .i64 x.1, .bool x.2]) (.agg #[.int .i64 y.1, .bool y.2])).run Try.prog w = r at h ⊢
  cases r with
  | ok b w1 => simp at h ⊢; obtain ⟨rfl, rfl⟩ := h; exact ⟨rfl, rfl⟩
  | halt x w1 => simp at h
theorem run_guard_let (op : BinOp) (A B : Operand) (xs ys : Array Value) (w : World) : (eqGuard op 50 A B (.agg xs) (.agg ys)).run Try.prog w = .ok () w := run_eqGuard_agg w op 50 A B xs ys (by kernel_rfl)
/-- one in a row -/
theorem let_at {w : World} {B i : Nat} {v : Value} {L : List (Int × Bool)} {x : Int × Bool} (h : w.ownsRow B 50 2 v L.length (letsV L)) (hi : L[i]? = some x) :
    ∃ g cap, v = .slice (some ⟨g, 0, none⟩) L.length cap ∧ v.ownBlock = some g ∧ g < w.heap.size ∧ w.cell? ⟨g, i * 2, none⟩ = some (.int .i64 x.1) ∧ w.cell? ⟨g, i * 2 + 1, none⟩ = some (.bool x.2) := by
  have hlt := (List.getElem?_eq_some_iff.1 hi).1
  obtain ⟨g, cap, e, e2, e3, hc⟩ := own_pos h (by omega)
  have k := lets_at L i x hi
  exact ⟨g, cap, e, e2, e3, (hc _ (by omega)).trans k.1, (hc _ (by omega)).trans k.2⟩
def A1 : LS := [⟨3, true, 0, 0⟩]
def A2 : LS := [⟨3, true, 1, 0⟩]
def A3 : LS := [⟨3, false, 1, 0⟩]
def A4 : LS := [⟨3, false, 1, 2⟩]
theorem g1 : grantL 3 true [] = A1 := by rfl
theorem g2 : useE 3 false A1 = 0 ∧ useL 3 false A1 = A2 := by decide
theorem g3 : callE 3 false A2 = 2 ∧ callL 3 false A2 = A3 := by decide
theorem g4 : callE 3 true A3 = 3 ∧ callL 3 true A3 = A4 := by decide
theorem g5 : endO A4 = [(3, false)] ∧ endL A4 = [] := by decide
theorem g6 : hasL 3 false [] = false ∧ useE 3 false [] = 12 ∧ useL 3 false [] = [] := by decide
theorem sm3 : Sm 3 := sm_of (by decide)
set_option maxRecDepth 100000 in
set_option maxHeartbeats 4000000 in
theorem awake_any (w : World) : Calls Try.prog 7 #[] w fun e w' => e = .returned (.bool true) ∧ Below w.heap.size w w' := by
  go_enter Try.func7, Try.ntmps7
  go_wp2_with fail
  refine (new_any w).mono ?_
  rintro e w1 ⟨p, rfl, _, h1, b1⟩
  have HA := Lib.hid (grant_any p _ [] 3 true w1 h1 sm3 (by decide))
  rw [g1] at HA
  have HB := Lib.hid b1
  have qn := run_neq' p
  clear h1 b1
  go_wp2_with fail
  refine HA.out.mono ?_
  rintro e w2 ⟨rfl, h2, k2⟩
  have HA2 := Lib.hid (use_any p _ A1 3 false w2 h2 sm3 (by decide))
  rw [g2.1, g2.2] at HA2
  have HB2 := Lib.hid (HB.out.trans (k2.below fun _ h => h))
  clear h2 k2 HA HB
  go_wp2_with fail
  refine HA2.out.mono ?_
  rintro e w3 ⟨rfl, h3, k3⟩
  have HA3 := Lib.hid (call_any p _ A2 3 false w3 h3 sm3 (by decide))
  rw [g3.1, g3.2] at HA3
  have HB3 := Lib.hid (HB2.out.trans (k3.below fun _ h => h))
  clear h3 k3 HA2 HB2
  go_wp2_with fail
  refine HA3.out.mono ?_
  rintro e w4 ⟨rfl, h4, k4⟩
  have HA4 := Lib.hid (call_any p _ A3 3 true w4 h4 sm3 (by decide))
  rw [g4.1, g4.2] at HA4
  have HB4 := Lib.hid (HB3.out.trans (k4.below fun _ h => h))
  clear h4 k4 HA3 HB3
  go_wp2_with fail
  refine HA4.out.mono ?_
  rintro e w5 ⟨rfl, h5, k5⟩
  have HA5 := Lib.hid (end_any p _ A4 w5 h5 (by decide))
  have HB5 := Lib.hid (HB4.out.trans (k5.below fun _ h => h))
  clear h5 k5 HA4 HB4
  go_wp2_with fail
  refine HA5.out.mono ?_
  rintro e w6 ⟨v6, rfl, ho6, h6, k6⟩
  rw [g5.1] at ho6
  rw [g5.2] at h6
  obtain ⟨g, cap, rfl, -, -, c0, c1⟩ := let_at (i := 0) ho6 rfl
  have HB6 := Lib.hid (HB5.out.trans (k6.below fun _ h => h))
  obtain ⟨hb, ub, hT⟩ := h6
  have HH := Lib.hid (has_any p hb ub _ [] 3 false w6 hT sm3)
  rw [g6.1] at HH
  have HU : Hid (∀ q, Calls Try.prog 11 #[.pointer (some ⟨p, 0, none⟩), .int .i64 3, .bool false] (w6.drewN q) fun e w' => e = .returned (.int .i64 12) ∧ Below w.heap.size w w') := Lib.hid fun q => by
    have := use_any p _ [] 3 false (w6.drewN q) ⟨hb, ub, hT.drewN q⟩ sm3 (by decide)
    rw [g6.2.1] at this
    refine this.mono ?_
    rintro e w' ⟨rfl, _, k⟩
    exact ⟨rfl, HB6.out.trans ((((Keep.refl _ w6).drewN q).trans k).below fun _ h => .inl h)⟩
  have e1 := fun W => run_eq_let (3, false) (3, false) W
  have s1 : sameL (3, false) (3, false) = true := rfl
  rw [s1] at e1
  have hgd := fun op A B xs ys W => run_guard_let op A B xs ys W
  clear hT k6 HA5 HB5 ho6 s1
  dsimp only [List.length, Bool.not] at e1 c0 c1 ⊢
  go_wp2_with fail
  refine HH.out.mono ?_
  rintro e w7 ⟨rfl, q, rfl⟩
  clear HH
  go_wp2_with fail
  refine (HU.out q).mono ?_
  rintro e w8 ⟨rfl, b8⟩
  have HF := Lib.hid b8
  clear b8 HU
  go_wp2
  go_ret
  exact ⟨rfl, HF.out⟩
end Go.Proofs.Ytlalehoncclnaaa.Latch
