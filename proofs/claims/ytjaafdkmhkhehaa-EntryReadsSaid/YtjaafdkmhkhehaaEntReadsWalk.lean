/- The walk of the statement EntryReads. -/
import Derived.Test.YtjaafdkmhkhehaaEntLaws
import Derived.Test.YtjaafdkmhkhehaaEntRefDec
namespace Go.Proofs.Ytjaafdkmhkhehaa.Ent
open Go.RowKit
open Go.Proofs.Ytjaafdkmhkhehaa.Slab (Blk)
open Go.Proofs.Ytjaafdkmhkhehaa.Nib (below_next below_drew)
set_option maxRecDepth 100000 in
set_option maxHeartbeats 4000000 in
theorem reads_walk (s : ByteArray) (w : World) (hs : s.size ≤ 140737488351232) :
    Calls Try.prog 7 #[.string s] w fun e w' => e = .returned (.bool true) ∧ Below w.heap.size w w' := by
  have hD : ∀ w, Calls Try.prog 34 #[.string s] w fun e w' => e = .returned (.tuple #[.agg #[.int .i64 (decX s.data.toList).kind, .int .i64 (decX s.data.toList).cl, .int .i64 (decX s.data.toList).ep, .int .i64 (decX s.data.toList).n, .int .i64 (decX s.data.toList).lsn, .int .i64 (decX s.data.toList).prev, .int .i64 (decX s.data.toList).page, .int .i64 (decX s.data.toList).slot, .bool (decX s.data.toList).wu, .string (decX s.data.toList).wd, .bool (decX s.data.toList).iu, .string (decX s.data.toList).id, .int .i64 (decX s.data.toList).next], .string (arr (decT s.data.toList)), .int .i64 (decC s.data.toList)]) ∧ Below w.heap.size w w' := fun w => decode_any s _ rfl w hs
  have hR : ∀ w, Calls Try.prog 35 #[.string s] w fun e w' => e = .returned (.tuple #[.agg #[.int .i64 (decX s.data.toList).kind, .int .i64 (decX s.data.toList).cl, .int .i64 (decX s.data.toList).ep, .int .i64 (decX s.data.toList).n, .int .i64 (decX s.data.toList).lsn, .int .i64 (decX s.data.toList).prev, .int .i64 (decX s.data.toList).page, .int .i64 (decX s.data.toList).slot, .bool (decX s.data.toList).wu, .string (decX s.data.toList).wd, .bool (decX s.data.toList).iu, .string (decX s.data.toList).id, .int .i64 (decX s.data.toList).next], .string (arr (decT s.data.toList)), .int .i64 (decC s.data.toList)]) ∧ Below w.heap.size w w' := fun w => by
    have := rdecode_any s.data.toList w (by simpa using hs)
    rw [list_arr] at this
    exact this
  generalize decX s.data.toList = x at hD hR
  generalize arr (decT s.data.toList) = t at hD hR
  generalize decC s.data.toList = c at hD hR
  have HD := Lib.hid hD
  have HR := Lib.hid hR
  have hq := fun w => run_eq_ent x x w
  simp only [sameE_refl] at hq
  have hgd := fun (A B : Operand) xs ys w => run_guard_ent .eql A B xs ys w
  clear hD hR
  go_enter Try.func7, Try.ntmps7
  go_wp2_with fail
  refine (awake_any _).mono ?_
  rintro e w1 ⟨rfl, b1⟩
  go_wp2_with fail
  refine (HD.out _).mono ?_
  rintro e w2 ⟨rfl, b2⟩
  have hb2 := below_next (below_next b1 b2) (below_box w2 (.cells #[.int .i64 x.kind, .int .i64 x.cl, .int .i64 x.ep, .int .i64 x.n, .int .i64 x.lsn, .int .i64 x.prev, .int .i64 x.page, .int .i64 x.slot, .bool x.wu, .string x.wd, .bool x.iu, .string x.id, .int .i64 x.next] 47))
  have hX := Blk.new w2 47 #[.int .i64 x.kind, .int .i64 x.cl, .int .i64 x.ep, .int .i64 x.n, .int .i64 x.lsn, .int .i64 x.prev, .int .i64 x.page, .int .i64 x.slot, .bool x.wu, .string x.wd, .bool x.iu, .string x.id, .int .i64 x.next]
  clear b1 b2
  go_upto_region 4 with (fail)
  generalize hGen : w2.alloc (.cells #[.int .i64 x.kind, .int .i64 x.cl, .int .i64 x.ep, .int .i64 x.n, .int .i64 x.lsn, .int .i64 x.prev, .int .i64 x.page, .int .i64 x.slot, .bool x.wu, .string x.wd, .bool x.iu, .string x.id, .int .i64 x.next] 47) = W2 at hb2 hX ⊢
  clear hGen
  generalize hGen : w2.heap.size = g2 at hX ⊢
  clear hGen
  have HX := Lib.hid hX
  have HB := Lib.hid hb2
  have hl := hX.lt
  clear hX hb2
  go_wp2_with fail
  refine (HR.out _).mono ?_
  rintro e w3 ⟨rfl, b3⟩
  have hb3 := below_next (below_next HB.out b3) (below_box w3 (.cells #[.int .i64 x.kind, .int .i64 x.cl, .int .i64 x.ep, .int .i64 x.n, .int .i64 x.lsn, .int .i64 x.prev, .int .i64 x.page, .int .i64 x.slot, .bool x.wu, .string x.wd, .bool x.iu, .string x.id, .int .i64 x.next] 47))
  have hX3 := (HX.out.below b3 hl).alloc (.cells #[.int .i64 x.kind, .int .i64 x.cl, .int .i64 x.ep, .int .i64 x.n, .int .i64 x.lsn, .int .i64 x.prev, .int .i64 x.page, .int .i64 x.slot, .bool x.wu, .string x.wd, .bool x.iu, .string x.id, .int .i64 x.next] 47)
  have hY := Blk.new w3 47 #[.int .i64 x.kind, .int .i64 x.cl, .int .i64 x.ep, .int .i64 x.n, .int .i64 x.lsn, .int .i64 x.prev, .int .i64 x.page, .int .i64 x.slot, .bool x.wu, .string x.wd, .bool x.iu, .string x.id, .int .i64 x.next]
  clear b3
  go_upto_region 5 with (fail)
  generalize hGen : w3.alloc (.cells #[.int .i64 x.kind, .int .i64 x.cl, .int .i64 x.ep, .int .i64 x.n, .int .i64 x.lsn, .int .i64 x.prev, .int .i64 x.page, .int .i64 x.slot, .bool x.wu, .string x.wd, .bool x.iu, .string x.id, .int .i64 x.next] 47) = W3 at hb3 hX3 hY ⊢
  clear hGen
  generalize hGen : w3.heap.size = g3 at hY ⊢
  clear hGen
  have HB3 := Lib.hid hb3
  obtain ⟨c0, c1, c2, c3, c4, c5, c6, c7, c8, c9, c10, c11, c12⟩ := ent_cells hX3
  obtain ⟨d0, d1, d2, d3, d4, d5, d6, d7, d8, d9, d10, d11, d12⟩ := ent_cells hY
  clear hb3
  go_wp2
  go_ret
  exact ⟨rfl, HB3.out⟩
end Go.Proofs.Ytjaafdkmhkhehaa.Ent
