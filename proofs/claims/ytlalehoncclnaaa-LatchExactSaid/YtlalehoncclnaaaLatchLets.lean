/- lets: whether two rows are the same. -/
import Derived.Test.YtlalehoncclnaaaLatchRef4
namespace Go.Proofs.Ytlalehoncclnaaa.LRef
set_option maxRecDepth 100000
open Go.RowKit
open Go.Proofs.Ytlalehoncclnaaa.Mem
open Go.Proofs.Ytlalehoncclnaaa.Latch
set_option maxRecDepth 100000 in
set_option maxHeartbeats 2000000 in
theorem lets_any (va vb : Value) (L : List (Int × Bool)) (w : World) (ha : w.ownsRow 0 50 2 va L.length (letsV L)) (hb : w.ownsRow 0 50 2 vb L.length (letsV L)) (hn : L.length ≤ 1000000) :
    Calls Try.prog 15 #[va, vb] w fun e w' => e = .returned (.bool true) ∧ ∃ q, w' = w.drewN q := by
  obtain ⟨a1, c1, rfl⟩ := own_shape ha
  obtain ⟨a2, c2, rfl⟩ := own_shape hb
  have HA := Lib.hid ha
  have HB := Lib.hid hb
  clear ha hb
  have hgd := fun op A B xs ys W => run_guard_let op A B xs ys W
  go_enter Try.func15, Try.ntmps15
  go_wp2
  go_loopw [5] (fun i wr => ∃ j : Nat, j ≤ L.length ∧ i = .int .i64 (j : Int) ∧ Hid (∃ q, wr = w.drewN q)) (fun i _ => L.length - (intOf i).toNat)
  case atStart => exact ⟨0, Nat.zero_le _, rfl, Lib.hid ⟨0, rfl⟩⟩
  case round =>
    obtain ⟨j, hj, rfl, HW⟩ := hrel
    by_cases hlt : j < L.length
    · have hx : L[j]? = some L[j] := List.getElem?_eq_getElem hlt
      generalize L[j] = x at hx
      have H2 := Lib.hid (show wr.ownsRow 0 50 2 (.slice a1 L.length c1) L.length (letsV L) ∧ wr.ownsRow 0 50 2 (.slice a2 L.length c2) L.length (letsV L) by
        obtain ⟨q, rfl⟩ := HW.out
        exact ⟨own_same HA.out fun g _ => rfl, own_same HB.out fun g _ => rfl⟩)
      obtain ⟨g, cap, e, -, -, x0, x1⟩ := let_at H2.out.1 hx
      obtain ⟨g2, cap2, e', -, -, y0, y1⟩ := let_at H2.out.2 hx
      injection e with e1 e2 e3
      injection e' with e4 e5 e6
      subst e1 e3 e4 e6
      clear e2 e5 H2 hx
      have ne := fun W => run_ne_let x x W
      have s1 : sameL x x = true := by simp [sameL]
      rw [s1] at ne
      have ne2 := ne; simp only [Bool.not_true] at ne2
      obtain ⟨pg, kp⟩ := x
      go_wp2_with fail
      go_quiet (fail)
      have HW2 : Hid (∃ q, wr.drewN nq = w.drewN q) := Lib.hid (by
        obtain ⟨q, rfl⟩ := HW.out
        exact drewN_drewN w q nq)
      obtain ⟨W2, hW2⟩ : ∃ W2, wr.drewN nq = W2 := ⟨_, rfl⟩
      rw [hW2] at HW2 ⊢
      clear hW2 x0 x1 y0 y1
      go_wp2
      go_roundw
      case rel => exact ⟨j + 1, by omega, by go_num, HW2⟩
      case measure => simp [intOf]; omega
    · obtain rfl : j = L.length := by omega
      go_wp2
      go_ret
      exact ⟨rfl, HW.out⟩
end Go.Proofs.Ytlalehoncclnaaa.LRef
