/- The walk of the statement PatchAll. -/
import Derived.Test.YtmmeemffiibndaaPatchAwake
import Derived.Test.YtmmeemffiibndaaPatchRAll
import Derived.Test.YtmmeemffiibndaaSlabKeepsWalk
namespace Go.Proofs.Ytmmeemffiibndaa.Patch
open Go.RowKit Go.Sort
open Go.Proofs.Ytmmeemffiibndaa.Slab (Slot nos atL putN putZ putL putCode sameB Blk Slots PageRes sameB_refl ret_bool' page_cells)
open Go.Proofs.Ytmmeemffiibndaa.Ent (Ent noE longB SmallE Small ent_cells alloc_lt below_box Ents EntAt)
open Go.Proofs.Ytmmeemffiibndaa.Nib (below_next below_drew)
set_option maxRecDepth 100000 in
set_option maxHeartbeats 8000000 in
theorem law_walk (lsn : Int) (a : Option Addr) (n c : Nat) (zs : List Slot) (page : Int) (la : Option Addr) (ln lc : Nat) (xs : List Ent) (w : World) (_hl : -9223372036854775808 ≤ lsn ∧ lsn ≤ 9223372036854775807) (h : Slots w a n zs) (_hp : -9223372036854775808 ≤ page ∧ page ≤ 9223372036854775807) (hl : Ents w la ln xs) :
    Calls Try.prog 6 #[.agg #[.int .i64 lsn, .slice a n c], .int .i64 page, .slice la ln lc] w fun e w' => e = .returned (.bool true) ∧ Below w.heap.size w w' := by
  have hb0 := below_box w (.cells #[.int .i64 lsn, .slice a n c] 24)
  have hP := Blk.new w 24 #[.int .i64 lsn, .slice a n c]
  have hz := alloc_lt w (.cells #[.int .i64 lsn, .slice a n c] 24)
  have HS := Lib.hid h
  have HL := Lib.hid hl
  clear h hl
  go_enter Try.func6, Try.ntmps6
  go_wp2_with fail
  generalize hGen : w.alloc (.cells #[.int .i64 lsn, .slice a n c] 24) = W at hb0 hP hz ⊢
  clear hGen
  refine (awake_any _).mono ?_
  rintro e w1 ⟨rfl, b1⟩
  have hb1 := below_next hb0 b1
  have hP1 := hP.below b1 hz
  have hz1 := Nat.lt_of_lt_of_le hz b1.size
  clear hb0 hP hz b1
  have p0 := hP1.cell 0
  have p1 := hP1.cell 1
  go_wp2_with fail
  refine (great_any lsn a n c zs la ln lc xs _ (HS.out.below hb1) (HL.out.next hb1)).mono ?_
  rintro e w2 ⟨G, rfl, hG, b2⟩
  have hb2 := below_next hb1 b2
  have hP2 := hP1.below b2 hz1
  have hz2 := Nat.lt_of_lt_of_le hz1 b2.size
  clear p0 p1 hb1 hP1 hz1 b2
  cases G with
  | true =>
    go_wp2
    go_ret
    exact ⟨rfl, hb2⟩
  | false =>
    obtain ⟨hn, hln⟩ := hG rfl
    clear hG
    have p0 := hP2.cell 0
    have p1 := hP2.cell 1
    go_wp2_with fail
    have k1 := all_any lsn a n c zs page la ln lc xs w2 (HS.out.below hb2) (by omega) (HL.out.next hb2) (by omega)
    have k2 := fun W (hs : Slots W a n zs) (hl : Ents W la ln xs) => rall_any lsn a n c zs page la ln lc xs W hs (by omega) hl (by omega)
    have hlen := allR_len page lsn zs xs
    generalize allR page lsn zs xs = A at k1 k2 hlen
    obtain ⟨cd, N, Z⟩ := A
    dsimp only at k1 k2 hlen
    have HLEN := Lib.hid hlen
    have K2 := Lib.hid k2
    refine k1.mono ?_
    clear k1 k2 hlen
    rintro e w3 ⟨a3, n3, cc3, rfl, s3, b3, _⟩
    have bQ := below_next b3 (below_box w3 (.cells #[.int .i64 N, .slice a3 n3 cc3] 24))
    have hb3 := below_next hb2 bQ
    have hP3 := hP2.below bQ hz2
    have S3 := s3.below (below_box w3 (.cells #[.int .i64 N, .slice a3 n3 cc3] 24))
    have hQ := Blk.new w3 24 #[.int .i64 N, .slice a3 n3 cc3]
    clear p0 p1 hb2 hP2 hz2 s3 b3
    go_upto_region 6 with (fail)
    generalize hGen : w3.alloc (.cells #[.int .i64 N, .slice a3 n3 cc3] 24) = W3 at bQ hb3 hP3 S3 hQ ⊢
    clear hGen
    generalize hGen : w3.heap.size = gq at hQ ⊢
    clear hGen
    clear bQ
    have p0 := hP3.cell 0
    have p1 := hP3.cell 1
    go_wp2_with fail
    refine (K2.out _ (HS.out.below hb3) (HL.out.next hb3)).mono ?_
    rintro e w4 ⟨a4, n4, cc4, rfl, s4, b4⟩
    have bQ := below_next b4 (below_box w4 (.cells #[.int .i64 N, .slice a4 n4 cc4] 24))
    have hb4 := below_next hb3 bQ
    have hQ4 := hQ.below bQ hQ.lt
    have S34 := S3.below bQ
    have S4 := s4.below (below_box w4 (.cells #[.int .i64 N, .slice a4 n4 cc4] 24))
    have hR := Blk.new w4 24 #[.int .i64 N, .slice a4 n4 cc4]
    clear p0 p1 hb3 hP3 hQ S3 s4 b4
    go_upto_region 7 with (fail)
    generalize hGen : w4.alloc (.cells #[.int .i64 N, .slice a4 n4 cc4] 24) = W4 at bQ hb4 hQ4 S34 S4 hR ⊢
    clear hGen
    generalize hGen : w4.heap.size = gr at hR ⊢
    clear hGen
    clear bQ
    have q0 := hQ4.cell 0
    have q1 := hQ4.cell 1
    have r0 := hR.cell 0
    have r1 := hR.cell 1
    go_wp2_with fail
    refine (Slab.same_any N N a3 a4 n3 n4 cc3 cc4 Z Z true _ S34 S4 (by have h1 := S34.len; have h2 := HLEN.out; omega) (by simp)).mono ?_
    rintro e w5 ⟨rfl, b5⟩
    have HB := Lib.hid (below_next hb4 b5)
    clear q0 q1 r0 r1 b5
    go_wp2
    go_ret
    exact ⟨rfl, HB.out⟩
end Go.Proofs.Ytmmeemffiibndaa.Patch
