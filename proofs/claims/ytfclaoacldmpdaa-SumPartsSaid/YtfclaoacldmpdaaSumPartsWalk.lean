/- The walk of the statement SumParts. -/
import Derived.Test.YtfclaoacldmpdaaSumTellsWalk
import Derived.RegionCalls
import Derived.Deep.RegionWith
import Derived.Deep.RegionHeld3
namespace Go.Proofs.Ytfclaoacldmpdaa.Sum
open Go.RowKit

theorem cut_of (x : Int) (n : Int) (hn : 1 ≤ n) (hm : n ≤ 9223372036854775807) : ∃ K : Nat, wrap64 ((IntKind.u64.wrap x).tmod n) = (K : Int) ∧ (K : Int) < n := by
  have h0 : 0 ≤ IntKind.u64.wrap x := by rw [IntKind.wrap_u64]; omega
  rw [Int.tmod_eq_emod_of_nonneg h0]
  have h1 := Int.emod_nonneg (IntKind.u64.wrap x) (b := n) (by omega)
  have h2 := Int.emod_lt_of_pos (IntKind.u64.wrap x) (b := n) (by omega)
  generalize IntKind.u64.wrap x % n = z at h1 h2 ⊢
  exact ⟨z.toNat, by unfold wrap64; omega, by omega⟩

theorem of_same (s : ByteArray) (b n c : Nat) (ss : List ByteArray) (W : World) (hn : n = ss.length) (hf : flat ss = s.data.toList) (h : Texts W b 0 ss) :
    Calls Try.prog 8 #[.slice (some ⟨b, 0, none⟩) n c] W fun e w' => e = .returned (.int .u32 ((check s.data.toList).toNat : Int)) ∧ W = w' := by
  subst hn
  rw [← hf]
  exact of_any b 0 c ss W h
theorem of_one (s : ByteArray) (b : Nat) (W : World) (hs : s.size ≤ 9223372036854775807) (h : W.cell? ⟨b, 0, none⟩ = some (.string s)) :
    Calls Try.prog 8 #[.slice (some ⟨b, 0, none⟩) 1 1] W fun e w' => e = .returned (.int .u32 ((check s.data.toList).toNat : Int)) ∧ W = w' := by
  refine of_same s b 1 1 [s] W rfl (by simp [flat]) ⟨fun i hi => ?_, fun i hi => ?_, by simp⟩
  all_goals
    obtain rfl : i = 0 := by simpa using hi
    assumption
theorem of_three (s x y z : ByteArray) (b : Nat) (W : World) (hf : x.data.toList ++ y.data.toList ++ z.data.toList = s.data.toList) (hs : s.size ≤ 9223372036854775807)
    (h0 : W.cell? ⟨b, 0, none⟩ = some (.string x)) (h1 : W.cell? ⟨b, 1, none⟩ = some (.string y)) (h2 : W.cell? ⟨b, 2, none⟩ = some (.string z)) :
    Calls Try.prog 8 #[.slice (some ⟨b, 0, none⟩) 3 3] W fun e w' => e = .returned (.int .u32 ((check s.data.toList).toNat : Int)) ∧ W = w' := by
  have hl := congrArg List.length hf
  simp at hl
  refine of_same s b 3 3 [x, y, z] W rfl (by simpa [flat] using hf) ⟨fun i hi => ?_, fun i hi => ?_, by simp⟩
  · rcases i with _ | _ | _ | i
    · exact h0
    · exact h1
    · exact h2
    · simp at hi; omega
  · rcases i with _ | _ | _ | i
    · show x.size ≤ _; omega
    · show y.size ≤ _; omega
    · show z.size ≤ _; omega
    · simp at hi; omega
theorem three_cut (s : ByteArray) (k n : Nat) (h1 : k ≤ n) : (s.extract 0 k).data.toList ++ (s.extract k n).data.toList ++ (s.extract n s.size).data.toList = s.data.toList := by
  simp only [Lib.extract_data]
  rw [List.take_of_length_le (l := s.data.toList.drop n) (by simp), List.drop_zero, Nat.sub_zero]
  have e : n = k + (n - k) := by omega
  conv => lhs; rhs; rw [e, ← List.drop_drop]
  rw [List.append_assoc, List.take_append_drop, List.take_append_drop]

set_option maxRecDepth 100000 in
set_option maxHeartbeats 4000000 in
theorem parts_walk (s : ByteArray) (cut other : Int) (w : World) (hs : s.size ≤ 140737488351232) (_hc : -9223372036854775808 ≤ cut ∧ cut ≤ 9223372036854775807) (_ho : -9223372036854775808 ≤ other ∧ other ≤ 9223372036854775807) :
    Calls Try.prog 4 #[.string s, .int .i64 cut, .int .i64 other] w fun e w' => e = .returned (.bool true) ∧ Below w.heap.size w w' := by
  by_cases hlong : 65536 < s.size
  · go_enter Try.func4, Try.ntmps4
    go_wp2_with fail
    refine (awake_any _).mono ?_
    rintro e w1 ⟨rfl, b1⟩
    go_wp2
    go_ret
    exact ⟨rfl, b1⟩
  · obtain ⟨K, hK, hKl⟩ := cut_of cut (s.size + 1) (by omega) (by omega)
    obtain ⟨M, hM, hMl⟩ := cut_of other (s.size - K + 1) (by omega) (by omega)
    go_enter Try.func4, Try.ntmps4
    go_wp2_with fail
    refine (awake_any _).mono ?_
    rintro e w1 ⟨rfl, b1⟩
    go_wp2
    rw [hK]
    obtain ⟨n, hn⟩ : ∃ n : Nat, (K : Int) + M = (n : Int) := ⟨K + M, by omega⟩
    rw [hn]
    have k1 : (K : Int) ≤ (n : Int) := by omega
    have k2 : (n : Int) ≤ (s.size : Int) := by omega
    have k3 : (K : Int) ≤ (s.size : Int) := by omega
    have HT := Lib.hid (three_cut s K n (by omega))
    clear hK hM hn hKl hMl _hc _ho
    go_region_held3 (fun _ => True) (trivial) (first
      | (go_at_call 8; (with_reducible refine (of_one s _ _ ?_ ?_).mono ?_); (omega); (focus (go_simp; done)); rintro e w' ⟨rfl, rfl⟩)
      | (go_at_call 8; (with_reducible refine (of_three s (s.extract 0 K) (s.extract K n) (s.extract n s.size) _ _ HT.out ?_ ?_ ?_ ?_).mono ?_); (omega); (focus (go_simp; done)); (focus (go_simp; done)); (focus (go_simp; done)); rintro e w' ⟨rfl, rfl⟩)
      | (go_at_call 8; (with_reducible refine (of_three s ⟨#[]⟩ s ⟨#[]⟩ _ _ ?_ ?_ ?_ ?_ ?_).mono ?_); (focus (simp; done)); (omega); (focus (go_simp; done)); (focus (go_simp; done)); (focus (go_simp; done)); rintro e w' ⟨rfl, rfl⟩))
    all_goals
      have hb := b1.size
      go_wp2
      go_ret
      refine ⟨rfl, Below.drew ?_⟩
      repeat (first | exact b1 | refine Below.alloc ?_ (by first | omega | (simp only [World.size_alloc]; omega)) _)
end Go.Proofs.Ytfclaoacldmpdaa.Sum
