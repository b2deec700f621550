/- The walk of the statement CordOrder. -/
import Derived.Test.YtbbikibkijncgaaCordTalked
namespace Go.Proofs.Ytbbikibkijncgaa.Cord
set_option maxRecDepth 100000
open Go.RowKit
open Go.Proofs.Ytbbikibkijncgaa.Mem
set_option maxRecDepth 100000 in
set_option maxHeartbeats 4000000 in
theorem order_walk (ep : Int) (a : Option Addr) (n c : Nat) (xs : List Ev) (w : World) (_he : -9223372036854775808 ≤ ep ∧ ep ≤ 9223372036854775807) (hI : Evs w a n xs) :
    Calls Try.prog 4 #[.int .i64 ep, .slice a n c] w fun e w' => e = .returned (.bool true) ∧ Below w.heap.size w w' := by
  have HI := Lib.hid hI
  clear hI
  obtain ⟨K, hKe, hK⟩ := cut_of ep 1000 (by omega) (by omega)
  have hw1 : IntKind.i64.wrap (1 + (K : Int)) = 1 + (K : Int) := by rw [IntKind.wrap_i64]; omega
  go_enter Try.func4, Try.ntmps4
  go_wp2_with fail
  refine (awake_any w).mono ?_
  rintro e w1 ⟨rfl, b1⟩
  have HB1 : Hid (Below w.heap.size w w1 ∧ ∀ j, j < 0 → (xs.getD j noEv).text.size ≤ 1024) := Lib.hid ⟨b1, fun j h => absurd h (Nat.not_lt_zero _)⟩
  clear b1
  go_wp2_with fail
  go_loopw [5] (fun i wr => ∃ k : Nat, k ≤ n ∧ k ≤ 120 ∧ i = .int .i64 (k : Int) ∧ Hid (Below w.heap.size w wr ∧ ∀ j, j < k → (xs.getD j noEv).text.size ≤ 1024)) (fun i _ => 120 - (intOf i).toNat)
  case atStart => exact ⟨0, Nat.zero_le _, Nat.zero_le _, rfl, HB1⟩
  case round =>
    obtain ⟨k, hkn, hk, rfl, HK⟩ := hrel
    clear HB1
    by_cases hlt : k < n ∧ k < 120
    · obtain ⟨h1, h2⟩ := hlt
      have h1i : (k : Int) < 120 := by omega
      have h1d : decide ((k : Int) < 120) = true := decide_eq_true h1i
      obtain ⟨bz, off, x, rfl, hbz, hxe, hx, hg⟩ := HI.out.at_ h1
      obtain ⟨zk, zn, zt⟩ := x
      obtain ⟨_, _, x2⟩ := hx
      simp only at x2
      have x2 := (HK.out.1.cell (p := ⟨bz, off + k * 3 + 1 + 1, none⟩) hbz).trans x2
      have g5 : zt.size ≤ 140737488351232 := hg.2.2.2.2
      clear hg
      by_cases hz : zt.size ≤ 1024
      · have hzi : ¬ (1024 : Int) < (zt.size : Int) := by omega
        have HK2 : Hid (Below w.heap.size w wr ∧ ∀ j, j < k + 1 → (xs.getD j noEv).text.size ≤ 1024) := Lib.hid ⟨HK.out.1, fun j hj => by
          rcases Nat.lt_succ_iff_lt_or_eq.1 hj with h | rfl
          · exact HK.out.2 j h
          · rw [hxe]; exact hz⟩
        clear HK hxe
        go_wp2_with fail
        go_roundw
        case rel => exact ⟨k + 1, by omega, by omega, by go_num, HK2⟩
        case measure => simp [intOf]; omega
      · have hzi : (1024 : Int) < (zt.size : Int) := by omega
        have HB := Lib.hid HK.out.1
        clear HK hxe HI
        go_wp2_with fail
        go_ret
        exact ⟨rfl, HB.out⟩
    · have HT : Hid (Calls Try.prog 23 #[.int .i64 (1 + (K : Int)), .slice a n c] wr fun r w' => ∃ tp, r = .returned (.tuple #[.pointer (some ⟨tp, 0, none⟩), .bool true]) ∧ Below w.heap.size w w') := Lib.hid
        ((talked_any (1 + (K : Int)) a n c xs wr (HI.out.below HK.out.1) ⟨by omega, by omega⟩ (fun j h1 h2 => HK.out.2 j (by omega))).mono fun r w' ⟨tp, pa, pb, V, t, hr, hq, _⟩ => ⟨tp, hr, HK.out.1.trans (hq.bel.mono HK.out.1.size)⟩)
      clear HK HI
      have h1i : ¬ (k : Int) < (n : Int) ∨ ((k : Int) < (n : Int) ∧ ¬ (k : Int) < 120) := by omega
      rcases h1i with h1i | ⟨h0i, h1i⟩
      all_goals
        go_wp2_with fail
        refine HT.out.mono ?_
        rintro r w2 ⟨tp, rfl, b2⟩
        have HB := Lib.hid b2
        clear b2 HT
        go_wp2_with fail
        go_ret
        exact ⟨rfl, HB.out⟩
end Go.Proofs.Ytbbikibkijncgaa.Cord
