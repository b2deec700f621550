/- The walks of the statements SumExact, SumRest. -/
import Derived.Test.YtfclaoacldmpdaaSumAwake
namespace Go.Proofs.Ytfclaoacldmpdaa.Sum
open Go.RowKit

set_option maxRecDepth 100000 in
set_option maxHeartbeats 400000 in
theorem exact_walk (s : ByteArray) (w : World) (hs : s.size ≤ 140737488351232) :
    Calls Try.prog 3 #[.string s] w fun e w' => e = .returned (.bool true) ∧ Below w.heap.size w w' := by
  go_enter Try.func3, Try.ntmps3
  go_wp2_with fail
  refine (awake_any _).mono ?_
  rintro e w1 ⟨rfl, b1⟩
  go_wp2_with fail
  refine (of_new _ _ _ [s] _ _ _ rfl rfl (by simp) (by simp; omega) rfl).mono ?_
  rintro e w2 ⟨rfl, b2⟩
  go_wp2_with fail
  refine (ref_any _ _ (by omega)).mono ?_
  rintro e w3 ⟨rfl, rfl⟩
  have e : check (flat [s]) = check s.data.toList := by simp [flat]
  go_wp2
  go_ret
  exact ⟨rfl, below_next b1 b2⟩

/-- a check's bytes as the walk spells them -/
theorem conv4 (w : World) (x0 x1 x2 x3 : Int) : (convert 30 9 (.slice (some ⟨w.heap.size, 0, none⟩) 4 4)).run Try.prog (w.alloc (.cells #[.int .u8 x0, .int .u8 x1, .int .u8 x2, .int .u8 x3] 5)) =
    .ok (.string (strOfNums [x0, x1, x2, x3])) (w.alloc (.cells #[.int .u8 x0, .int .u8 x1, .int .u8 x2, .int .u8 x3] 5)) :=
  run_convert_bytes_arg _ _ 5 Try.underlying30 Try.underlying5 _ 0 4 4 [x0, x1, x2, x3] rfl (fun i hi => by
    rw [Nat.zero_add, World.cell?_alloc_new]
    rcases i with _ | _ | _ | _ | i
    · rfl
    · rfl
    · rfl
    · rfl
    · omega) _ Try.underlying9
theorem quad_int (c : BitVec 32) : (strOfNums [(c.toNat : Int) % 256, (c.toNat : Int) / 256 % 256, (c.toNat : Int) / 65536 % 256, (c.toNat : Int) / 16777216]).data.toList = quad c := by
  have hc := c.isLt
  rw [strOfNums_data]
  unfold quad
  have e0 : ((c.toNat : Int) % 256).toNat = c.toNat % 256 := by omega
  have e1 : ((c.toNat : Int) / 256 % 256).toNat = c.toNat / 256 % 256 := by omega
  have e2 : ((c.toNat : Int) / 65536 % 256).toNat = c.toNat / 65536 % 256 := by omega
  have e3 : ((c.toNat : Int) / 16777216).toNat = c.toNat / 16777216 % 256 := by omega
  simp only [List.map_cons, List.map_nil, e0, e1, e2, e3]
set_option maxRecDepth 100000 in
set_option maxHeartbeats 400000 in
theorem rest_walk (s : ByteArray) (w : World) (hs : s.size ≤ 140737488351232) :
    Calls Try.prog 6 #[.string s] w fun e w' => e = .returned (.bool true) ∧ Below w.heap.size w w' := by
  by_cases hlong : 65536 < s.size
  · go_enter Try.func6, Try.ntmps6
    go_wp2_with fail
    refine (awake_any _).mono ?_
    rintro e w1 ⟨rfl, b1⟩
    go_wp2
    go_ret
    exact ⟨rfl, b1⟩
  · have hc := (check s.data.toList).isLt
    have HQ := Lib.hid (quad_int (check s.data.toList))
    have HR := Lib.hid (rest s.data.toList)
    go_enter Try.func6, Try.ntmps6
    go_wp2_with fail
    refine (awake_any _).mono ?_
    rintro e w1 ⟨rfl, b1⟩
    go_wp2_with fail
    refine (of_new _ _ _ [s] _ _ ((check s.data.toList).toNat : Int) rfl rfl (by simp) (by simp; omega) (by simp [flat])).mono ?_
    rintro e w2 ⟨rfl, b2⟩
    have hconv := conv4
    go_wp2_with fail
    clear hconv
    refine (of_at _ _ _ _ [s, strOfNums _] _ _ 558161692 (by simp) rfl rfl (by simp) (by simp [strOfNums_size]; omega) ?_).mono ?_
    · simp only [flat, List.flatMap_cons, List.flatMap_nil, List.append_nil]
      rw [HQ.out, HR.out]; rfl
    rintro e w3 ⟨rfl, b3⟩
    go_wp2
    go_ret
    exact ⟨rfl, below_next (below_next b1 b2) (below_next ((Below.refl _ _).alloc (Nat.le_refl _) _) b3)⟩
end Go.Proofs.Ytfclaoacldmpdaa.Sum
