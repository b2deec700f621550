/- The walk of the statement SlabReads. -/
import Derived.Test.YtjaafdkmhkhehaaSlabRDec
import Derived.Test.YtjaafdkmhkhehaaSlabBackWalk
namespace Go.Proofs.Ytjaafdkmhkhehaa.Slab
open Go.RowKit Go.Sort

set_option maxRecDepth 100000 in
set_option maxHeartbeats 4000000 in
theorem reads_walk (s : ByteArray) (w : World) (_hs : s.size ≤ 140737488351232) :
    Calls Try.prog 3 #[.string s] w fun e w' => e = .returned (.bool true) ∧ Below w.heap.size w w' := by
  obtain ⟨l, z, c, hd, hz⟩ : ∃ (l : Int) (z : List Slot) (c : Int), decR s.data.toList = (l, z, c) ∧ z.length ≤ 32 := by
    rcases dec_is s.data.toList with ⟨L, z, h, hg, _⟩ | h
    · exact ⟨_, z, _, h, (good_parts hg).2.2.1⟩
    · exact ⟨_, [], _, h, by simp⟩
  have hr : ∀ w, Calls Try.prog 14 #[.string s] w (PageRes l z c w) := fun w => by
    have := rdecode_any s w
    rw [hd] at this
    exact this
  have HD := Lib.hid hd
  have HR := Lib.hid hr
  clear hd hr
  go_enter Try.func3, Try.ntmps3
  go_wp2_with fail
  refine (awake_any _).mono ?_
  rintro e w1 ⟨rfl, b1⟩
  go_wp2_with fail
  refine (decode_to HD.out _).mono ?_
  rintro e w2 ⟨a2, n2, c2, rfl, s2, b2, _⟩
  have H2 := (Hold.nil (b1.trans (b2.mono b1.size))).box2 (.int .i64 l) (.slice a2 n2 c2) 25
  have S2 := Lib.hid (s2.below ((Below.refl _ _).alloc (Nat.le_refl _) (.cells #[.int .i64 l, .slice a2 n2 c2] 25)))
  have hn2 : n2 ≤ 32 := by have := s2.len; omega
  clear s2 b2 b1
  go_upto_region 4 with (fail)
  generalize hGen : w2.alloc (.cells #[.int .i64 l, .slice a2 n2 c2] 25) = X2 at H2 S2 ⊢
  clear hGen
  generalize hGen : w2.heap.size = g2 at H2 ⊢
  clear hGen
  go_wp2_with fail
  refine (HR.out _).mono ?_
  rintro e w3 ⟨a3, n3, c3, rfl, s3, b3, _⟩
  have H3 := (H2.next b3).box2 (.int .i64 l) (.slice a3 n3 c3) 25
  have S3 := Lib.hid (s3.below ((Below.refl _ _).alloc (Nat.le_refl _) (.cells #[.int .i64 l, .slice a3 n3 c3] 25)))
  have S2b := Lib.hid ((S2.out.below b3).below ((Below.refl _ _).alloc (Nat.le_refl _) (.cells #[.int .i64 l, .slice a3 n3 c3] 25)))
  clear s3 b3 H2
  go_upto_region 5 with (fail)
  generalize hGen : w3.alloc (.cells #[.int .i64 l, .slice a3 n3 c3] 25) = X3 at H3 S3 S2b ⊢
  clear hGen
  generalize hGen : w3.heap.size = g3 at H3 ⊢
  clear hGen
  obtain ⟨G0, G1, F0, F1⟩ := H3.get4
  go_wp2_with fail
  refine (same_any l l a2 a3 n2 n3 c2 c3 z z true _ S2b.out S3.out (by omega) (by simp)).mono ?_
  rintro e w4 ⟨rfl, b4⟩
  go_wp2
  go_ret
  exact ⟨rfl, (H3.next b4).b⟩
end Go.Proofs.Ytjaafdkmhkhehaa.Slab
