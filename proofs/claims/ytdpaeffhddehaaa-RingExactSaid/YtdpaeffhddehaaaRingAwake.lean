/- The walk of awake. -/
import Derived.Test.YtdpaeffhddehaaaRingSAll
import Derived.Lib.QuietBelow
namespace Go.Proofs.Ytdpaeffhddehaaa.RingS
set_option maxRecDepth 100000
open Go.RowKit Go.Shelf
open Go.Proofs.Ytdpaeffhddehaaa.Mem
open Go.Proofs.Ytdpaeffhddehaaa.Ring
attribute [local go_sem] Oper.semAt_some

def zS : ByteArray := ⟨#[]⟩
def a1 : RState := (putR zS (newR 2) 1 ⟨#[97]⟩).2.2
def a2 : RState := (putR zS a1 2 ⟨#[98]⟩).2.2
def a3 : RState := (putR zS a2 3 ⟨#[99]⟩).2.2
def a4 : RState := (putR zS a3 4 ⟨#[100]⟩).2.2
theorem p1 : putR zS (newR 2) 1 ⟨#[97]⟩ = (⟨0, zS, false⟩, true, a1) := by kernel_rfl
theorem p2 : putR zS a1 2 ⟨#[98]⟩ = (⟨0, zS, false⟩, true, a2) := by kernel_rfl
theorem p3 : putR zS a2 3 ⟨#[99]⟩ = (⟨1, ⟨#[97]⟩, true⟩, true, a3) := by kernel_rfl
theorem p4 : putR zS a3 4 ⟨#[100]⟩ = (⟨2, ⟨#[98]⟩, true⟩, true, a4) := by kernel_rfl
def a5 : RState := (getR zS a4 4).2.2
theorem p5 : getR zS a4 4 = (⟨#[100]⟩, true, a5) := by kernel_rfl
theorem p6 : (thingsR a5).length = 2 := by kernel_rfl
theorem put_to {p : Nat} {M : Nat → Prop} {S S2 : RState} {k : Int} {v : ByteArray} {o : Ou ByteArray} {b : Bool} (w : World) (h : RQ w p M S) (e : putR zS S k v = (o, b, S2)) :
    Calls Try.prog 11 #[.pointer (some ⟨p, 0, none⟩), .int .i64 k, .string v] w fun e w' => e = .returned (.tuple #[.agg #[.int .i64 o.key, .string o.val, .bool o.gone], .bool b]) ∧ RQ w' p M S2 ∧ Keep M w w' := by
  refine (put_any k v w h).mono ?_
  rintro e' w' ⟨h1, h2⟩
  rw [show putR (⟨#[]⟩ : ByteArray) S k v = putR zS S k v from rfl, e] at h1 h2
  exact ⟨h1, h2.1, h2.2⟩
set_option maxHeartbeats 4000000 in
theorem awake_any (w : World) :
    Calls Try.prog 8 #[] w fun e w' => e = .returned (.bool true) ∧ Below w.heap.size w w' := by
  go_enter Try.func8, Try.ntmps8
  go_wp2_with fail
  refine (new_any w 2 (by omega)).mono ?_
  rintro e w1 ⟨p, rfl, r1, b1, -⟩
  rw [show clampN 2 = 2 from rfl] at r1
  have K1 := Lib.hid b1
  go_wp2_with fail
  refine (put_to w1 r1 p1).mono ?_
  simp only
  rintro e w2 ⟨rfl, r2, k2⟩
  have r3 := r2.alloc (.cells #[.int .i64 0, .string zS, .bool false] 31)
  have o1 := Blk.new w2 31 #[.int .i64 0, .string zS, .bool false]
  have KK1 := Lib.hid ((K1.out.trans (k2.below (fun k h => h))).alloc (Nat.le_trans K1.out.size k2.size) (.cells #[.int .i64 0, .string zS, .bool false] 31))
  clear r1 r2 k2 K1 b1
  go_wp2_with fail
  generalize hGen : w2.alloc (.cells #[.int .i64 0, .string zS, .bool false] 31) = v1 at r3 o1 KK1 ⊢
  clear hGen
  generalize w2.heap.size = g1 at o1 r3 ⊢
  refine (put_to v1 r3 p2).mono ?_
  simp only
  rintro e u2 ⟨rfl, rr2, kk2⟩
  have o1 := (kk2.blk o1 (.inr rfl)).alloc (.cells #[.int .i64 0, .string zS, .bool false] 31)
  have o2 := Blk.new u2 31 #[.int .i64 0, .string zS, .bool false]
  have KK2 := Lib.hid ((KK1.out.trans (kk2.below (fun k h => by omega))).alloc (Nat.le_trans KK1.out.size kk2.size) (.cells #[.int .i64 0, .string zS, .bool false] 31))
  have r2' := rr2.alloc (.cells #[.int .i64 0, .string zS, .bool false] 31)
  clear r3 rr2 kk2 KK1
  go_wp2_with fail
  generalize hGen : u2.alloc (.cells #[.int .i64 0, .string zS, .bool false] 31) = v2 at r2' o1 o2 KK2 ⊢
  clear hGen
  generalize u2.heap.size = g2 at o2 r2' ⊢
  refine (put_to v2 r2' p3).mono ?_
  simp only
  rintro e u3 ⟨rfl, rr3, kk3⟩
  have o1 := (kk3.blk o1 (.inl (.inr rfl))).alloc (.cells #[.int .i64 1, .string ⟨#[97]⟩, .bool true] 31)
  have o2 := (kk3.blk o2 (.inr rfl)).alloc (.cells #[.int .i64 1, .string ⟨#[97]⟩, .bool true] 31)
  have o3 := Blk.new u3 31 #[.int .i64 1, .string ⟨#[97]⟩, .bool true]
  have KK3 := Lib.hid ((KK2.out.trans (kk3.below (fun k h => by omega))).alloc (Nat.le_trans KK2.out.size kk3.size) (.cells #[.int .i64 1, .string ⟨#[97]⟩, .bool true] 31))
  have r3' := rr3.alloc (.cells #[.int .i64 1, .string ⟨#[97]⟩, .bool true] 31)
  clear r2' rr3 kk3 KK2
  go_wp2_with fail
  generalize hGen : u3.alloc (.cells #[.int .i64 1, .string ⟨#[97]⟩, .bool true] 31) = v3 at r3' o1 o2 o3 KK3 ⊢
  clear hGen
  generalize u3.heap.size = g3 at o3 r3' ⊢
  refine (put_to v3 r3' p4).mono ?_
  simp only
  rintro e u4 ⟨rfl, rr4, kk4⟩
  have o1 := (kk4.blk o1 (.inl (.inl (.inr rfl)))).alloc (.cells #[.int .i64 2, .string ⟨#[98]⟩, .bool true] 31)
  have o2 := (kk4.blk o2 (.inl (.inr rfl))).alloc (.cells #[.int .i64 2, .string ⟨#[98]⟩, .bool true] 31)
  have o3 := (kk4.blk o3 (.inr rfl)).alloc (.cells #[.int .i64 2, .string ⟨#[98]⟩, .bool true] 31)
  have o4 := Blk.new u4 31 #[.int .i64 2, .string ⟨#[98]⟩, .bool true]
  have KK4 := Lib.hid ((KK3.out.trans (kk4.below (fun k h => by omega))).alloc (Nat.le_trans KK3.out.size kk4.size) (.cells #[.int .i64 2, .string ⟨#[98]⟩, .bool true] 31))
  have r4' := rr4.alloc (.cells #[.int .i64 2, .string ⟨#[98]⟩, .bool true] 31)
  clear r3' rr4 kk4 KK3
  go_wp2_with fail
  generalize hGen : u4.alloc (.cells #[.int .i64 2, .string ⟨#[98]⟩, .bool true] 31) = v4 at r4' o1 o2 o3 o4 KK4 ⊢
  clear hGen
  generalize u4.heap.size = g4 at o4 r4' ⊢
  obtain ⟨fb, ad, ra⟩ := r4'
  have HG := get_any 4 v4 ra
  rw [show getR (⟨#[]⟩ : ByteArray) a4 4 = getR zS a4 4 from rfl, p5] at HG
  refine HG.mono ?_
  simp only
  rintro e u5 ⟨rfl, rr5, kk5⟩
  have o1 := kk5.blk o1 (.inl (.inl (.inl (.inr rfl))))
  have o2 := kk5.blk o2 (.inl (.inl (.inr rfl)))
  have o3 := kk5.blk o3 (.inl (.inr rfl))
  have o4 := kk5.blk o4 (.inr rfl)
  have KK5 := Lib.hid (KK4.out.trans (kk5.below (fun k h => by omega)))
  obtain ⟨fb2, ad2, ra5⟩ := rr5
  have HL := len_any u5 ra5
  rw [p6] at HL
  have HLL := Lib.hid HL
  have q10 := o1.cell 0
  have q11 := o1.cell 1
  have q12 := o1.cell 2
  have q20 := o2.cell 0
  have q21 := o2.cell 1
  have q22 := o2.cell 2
  have q30 := o3.cell 0
  have q31 := o3.cell 1
  have q32 := o3.cell 2
  have q40 := o4.cell 0
  have q41 := o4.cell 1
  have q42 := o4.cell 2
  clear HL HG ra ra5 o1 o2 o3 o4 kk5 KK4
  go_wp2_with fail
  refine HLL.out.mono ?_
  rintro e u6 ⟨rfl, b6⟩
  go_wp2
  go_ret
  exact ⟨rfl, KK5.out.trans (b6.mono KK5.out.size)⟩
end Go.Proofs.Ytdpaeffhddehaaa.RingS
