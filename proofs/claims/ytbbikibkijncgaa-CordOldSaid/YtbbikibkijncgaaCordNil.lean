/- No end: what its functions answer. -/
import Derived.Test.YtbbikibkijncgaaCordTwo
namespace Go.Proofs.Ytbbikibkijncgaa.Cord
set_option maxRecDepth 100000
open Go.RowKit
open Go.Proofs.Ytbbikibkijncgaa.Mem
theorem epoch_nil (w : World) : Calls Try.prog 22 #[.pointer none] w fun r w' => r = .returned (.int .i64 0) ∧ w = w' := by
  go_enter Try.func22, Try.ntmps22
  go_wp2
  go_ret
  exact ⟨rfl, rfl⟩
theorem got_nil (w : World) : Calls Try.prog 21 #[.pointer none] w fun r w' => r = .returned (.int .i64 0) ∧ w = w' := by
  go_enter Try.func21, Try.ntmps21
  go_wp2
  go_ret
  exact ⟨rfl, rfl⟩
theorem open_nil (w : World) : Calls Try.prog 20 #[.pointer none] w fun r w' => r = .returned (.int .i64 0) ∧ w = w' := by
  go_enter Try.func20, Try.ntmps20
  go_wp2
  go_ret
  exact ⟨rfl, rfl⟩
theorem owes_nil (w : World) : Calls Try.prog 13 #[.pointer none] w fun r w' => r = .returned (.bool false) ∧ w = w' := by
  go_enter Try.func13, Try.ntmps13
  go_wp2
  go_ret
  exact ⟨rfl, rfl⟩
theorem send_nil (s : ByteArray) (w : World) : Calls Try.prog 11 #[.pointer none, .string s] w fun r w' => r = .returned (.int .i64 2) ∧ w = w' := by
  go_enter Try.func11, Try.ntmps11
  go_wp2
  go_ret
  exact ⟨rfl, rfl⟩
set_option maxRecDepth 100000 in
theorem out_nil (w : World) : Calls Try.prog 15 #[.pointer none] w fun r w' => r = .returned (.slice none 0 0) ∧ w = w' := by
  go_enter Try.func15, Try.ntmps15
  go_wp2_with fail
  refine (owes_nil w).mono ?_
  rintro r w' ⟨rfl, rfl⟩
  go_wp2
  go_ret
  exact ⟨rfl, rfl⟩
set_option maxRecDepth 100000 in
theorem check_nil (g : Gm) (w : World) : Calls Try.prog 26 #[.pointer none, .agg (gmV g)] w fun r w' => r = .returned (.int .i64 2) ∧ Below w.heap.size w w' := by
  have hb := below_box w (.cells (gmV g) 29)
  obtain ⟨cl, up, gep, sq, ak, bd⟩ := g
  unfold gmV at *
  dsimp only at *
  go_enter Try.func26, Try.ntmps26
  go_upto_region 1 with (fail)
  generalize hGen : w.alloc (.cells #[.int .i64 cl, .bool up, .int .i64 gep, .int .i64 sq, .int .i64 ak, .string bd] 29) = W at hb ⊢
  clear hGen
  have HB := Lib.hid hb
  clear hb
  go_wp2
  go_ret
  exact ⟨rfl, HB.out⟩
set_option maxRecDepth 100000 in
theorem take_nil (g : Gm) (w : World) : Calls Try.prog 17 #[.pointer none, .agg (gmV g)] w fun r w' => r = .returned (.tuple #[.slice none 0 0, .int .i64 2]) ∧ Below w.heap.size w w' := by
  have hb := below_box w (.cells (gmV g) 29)
  have hM := Blk.new w 29 (gmV g)
  have HC : Hid (∀ W, Calls Try.prog 26 #[.pointer none, .agg (gmV g)] W fun r w' => r = .returned (.int .i64 2) ∧ Below W.heap.size W w') := Lib.hid fun W => check_nil g W
  obtain ⟨cl, up, gep, sq, ak, bd⟩ := g
  unfold gmV at *
  dsimp only at *
  go_enter Try.func17, Try.ntmps17
  go_upto_region 1 with (fail)
  generalize hGen : w.alloc (.cells #[.int .i64 cl, .bool up, .int .i64 gep, .int .i64 sq, .int .i64 ak, .string bd] 29) = W at hb hM ⊢
  clear hGen
  have m0 : W.cell? ⟨w.heap.size, 0, none⟩ = some (.int .i64 cl) := hM.cell 0
  have m1 : W.cell? ⟨w.heap.size, 1, none⟩ = some (.bool up) := hM.cell 1
  have m2 : W.cell? ⟨w.heap.size, 2, none⟩ = some (.int .i64 gep) := hM.cell 2
  have m3 : W.cell? ⟨w.heap.size, 3, none⟩ = some (.int .i64 sq) := hM.cell 3
  have m4 : W.cell? ⟨w.heap.size, 4, none⟩ = some (.int .i64 ak) := hM.cell 4
  have m5 : W.cell? ⟨w.heap.size, 5, none⟩ = some (.string bd) := hM.cell 5
  have HB := Lib.hid hb
  clear hM hb
  go_wp2_with fail
  refine (HC.out W).mono ?_
  rintro r w2 ⟨rfl, b2⟩
  have HB2 : Hid (Below w.heap.size w w2) := Lib.hid (HB.out.trans (b2.mono HB.out.size))
  clear HB b2 HC
  go_wp2
  refine bodyPost_ret (v := .tuple #[.slice none 0 0, .int .i64 2]) (by simp [results, Try.results17, go_sem]) rfl ?_
  exact ⟨rfl, HB2.out⟩
end Go.Proofs.Ytbbikibkijncgaa.Cord
