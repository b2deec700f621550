/- The walk of the statement PatchOnce. -/
import Derived.Test.YtmmeemffiibndaaPatchAwake
import Derived.Test.YtmmeemffiibndaaPatchCut
import Derived.Test.YtmmeemffiibndaaSlabKeepsWalk
namespace Go.Proofs.Ytmmeemffiibndaa.Patch
open Go.RowKit Go.Sort
open Go.Proofs.Ytmmeemffiibndaa.Slab (Slot nos atL putN putZ putL putCode sameB Blk Slots PageRes sameB_refl ret_bool' page_cells cut_of box_elim_d box_fresh box_written)
open Go.Proofs.Ytmmeemffiibndaa.Ent (Ent noE longB SmallE Small ent_cells alloc_lt below_box Ents EntAt)
open Go.Proofs.Ytmmeemffiibndaa.Nib (below_next below_drew)
set_option maxRecDepth 100000 in
set_option maxHeartbeats 8000000 in
theorem once_walk (lsn : Int) (a : Option Addr) (n c : Nat) (zs : List Slot) (la : Option Addr) (ln lc : Nat) (xs : List Ent) (fr : Int) (w : World) (_hl : -9223372036854775808 ≤ lsn ∧ lsn ≤ 9223372036854775807) (h : Slots w a n zs) (hl : Ents w la ln xs) (hcap : ln ≤ lc) (_hf : -9223372036854775808 ≤ fr ∧ fr ≤ 9223372036854775807) :
    Calls Try.prog 7 #[.agg #[.int .i64 lsn, .slice a n c], .slice la ln lc, .int .i64 fr] w fun e w' => e = .returned (.bool true) ∧ Below w.heap.size w w' := by
  have hb0 := below_box w (.cells #[.int .i64 lsn, .slice a n c] 24)
  have hP := Blk.new w 24 #[.int .i64 lsn, .slice a n c]
  have hz := alloc_lt w (.cells #[.int .i64 lsn, .slice a n c] 24)
  have HS := Lib.hid h
  have HL := Lib.hid hl
  have HC := Lib.hid hcap
  clear h hl hcap
  go_enter Try.func7, Try.ntmps7
  go_wp2_with fail
  generalize hGen : w.alloc (.cells #[.int .i64 lsn, .slice a n c] 24) = W at hb0 hP hz ⊢
  clear hGen
  refine (awake_any _).mono ?_
  rintro e w1 ⟨rfl, b1⟩
  have hb1 := below_next hb0 b1
  have hP1 := hP.below b1 hz
  have hz1 := Nat.lt_of_lt_of_le hz b1.size
  clear hb0 hP hz b1
  have p0 := hP1.cell 0
  have p1 := hP1.cell 1
  go_wp2_with fail
  refine (great_any lsn a n c zs la ln lc xs _ (HS.out.below hb1) (HL.out.next hb1)).mono ?_
  rintro e w2 ⟨G, rfl, hG, b2⟩
  have hb2 := below_next hb1 b2
  have hP2 := hP1.below b2 hz1
  have hz2 := Nat.lt_of_lt_of_le hz1 b2.size
  clear p0 p1 hb1 hP1 hz1 b2
  cases G with
  | true =>
    go_wp2
    go_ret
    exact ⟨rfl, hb2⟩
  | false =>
    obtain ⟨hn, hln⟩ := hG rfl
    clear hG
    have p0 := hP2.cell 0
    have p1 := hP2.cell 1
    go_wp2_with fail
    have k1 := all_any lsn a n c zs 0 la ln lc xs w2 (HS.out.below hb2) (by omega) (HL.out.next hb2) (by omega)
    have herr := allR_err (page := 0) (lsn := lsn) (l := zs) (xs := xs)
    have honce := fun h k => allR_once (page := 0) (lsn := lsn) (l := zs) (xs := xs) h k
    have hlen := allR_len 0 lsn zs xs
    generalize allR 0 lsn zs xs = A at k1 herr honce hlen
    obtain ⟨cd, N, Z⟩ := A
    dsimp only at k1 herr honce hlen
    have HER := Lib.hid herr
    have HON := Lib.hid honce
    have HLEN := Lib.hid hlen
    refine k1.mono ?_
    clear k1 herr honce hlen
    rintro e w3 ⟨a3, n3, cc3, rfl, s3, b3, _⟩
    have hn3 : n3 ≤ 32 := by have h1 := s3.len; have h2 := HLEN.out; omega
    have bQ := below_next b3 (below_box w3 (.cells #[.int .i64 N, .slice a3 n3 cc3] 24))
    have hb3 := below_next hb2 bQ
    have hP3 := hP2.below bQ hz2
    have S3 := s3.below (below_box w3 (.cells #[.int .i64 N, .slice a3 n3 cc3] 24))
    have hQ := Blk.new w3 24 #[.int .i64 N, .slice a3 n3 cc3]
    clear p0 p1 hb2 hP2 hz2 s3 b3
    go_upto_region 6 with (fail)
    generalize hGen : w3.alloc (.cells #[.int .i64 N, .slice a3 n3 cc3] 24) = W3 at bQ hb3 hP3 S3 hQ ⊢
    clear hGen
    generalize hGen : w3.heap.size = gq at hQ ⊢
    clear hGen
    clear bQ
    have q0 := hQ.cell 0
    have q1 := hQ.cell 1
    by_cases hc : cd = 0
    rotate_left
    · have hne : (cd != 0) = true := by rw [bne_iff_ne]; exact hc
      have he := HER.out hc
      simp only [Prod.mk.injEq] at he
      obtain ⟨rfl, rfl⟩ := he
      clear hc
      have hn0 : n3 = 0 := S3.len.symm
      subst hn0
      go_wp2_with fail
      refine (Slab.same_any 0 0 a3 none 0 0 cc3 0 [] [] true _ (Slots.nil _ _) (Slots.nil _ _) (by omega) (by simp)).mono ?_
      rintro e w5 ⟨rfl, b5⟩
      go_wp2
      go_ret
      exact ⟨rfl, below_next hb3 b5⟩
    subst hc
    obtain ⟨K, hK, hKl⟩ := cut_of fr (ln + 1) (by omega) (by omega)
    have hKn : K ≤ ln := by omega
    obtain ⟨o1, o2⟩ := HON.out rfl K
    have hpb : ∀ W, Below W3.heap.size W3 W → Calls Try.prog 27 #[.agg #[.int .i64 N, .slice a3 n3 cc3], .int .i64 0, .slice (tailA la lc K) (ln - K) (lc - K)] W (PageRes N Z 0 W) := fun W hW => by
      have := all_any N a3 n3 cc3 Z 0 (tailA la lc K) (ln - K) (lc - K) (xs.drop K) W (S3.below hW) (by omega) (ents_tail ((HL.out.next hb3).next hW) hKn HC.out) (by omega)
      rw [o1] at this
      exact this
    have hsl := run_tail la ln lc K hKn
    have HPB := Lib.hid hpb
    have HO2 := Lib.hid o2
    have HKN := Lib.hid hKn
    generalize tailA la lc K = tA at hsl HPB
    generalize ln - K = tn at hsl HPB
    generalize lc - K = tc at hsl HPB
    have HSL := Lib.hid hsl
    clear hpb o1 o2 hKn hsl
    go_upto_region 9 with (fail)
    rw [hK]
    have hKl2 : (K : Int) ≤ (ln : Int) := by omega
    clear hK hKl
    have hsl := HSL.out
    have hgq := hQ.lt
    have hz0 : W3.cell? ⟨gq, 0, none⟩ = some (.int .i64 N) ∧ W3.cell? ⟨gq, 1, none⟩ = some (.slice a3 n3 cc3) ∧ Below W3.heap.size W3 W3 := ⟨q0, q1, Below.refl _ _⟩
    go_region_with (first
      | (go_at_call 27
         (with_reducible refine (HPB.out _ ?_).mono ?_)
         · first
           | exact (Below.refl W3.heap.size W3).drew
           | exact ((Below.refl W3.heap.size W3).alloc (Nat.le_refl _) _).drew
         rintro e wP ⟨a7, n7, c7, rfl, s7, bq, f7⟩
         have hz4 : wP.cell? ⟨gq, 0, none⟩ = some (.int .i64 N) ∧ wP.cell? ⟨gq, 1, none⟩ = some (.slice a3 n3 cc3) ∧ Below W3.heap.size W3 wP := by
           refine Slab.held2 (w := W3) hz0 ?_
           first
           | exact Slab.below_next' ((Below.refl W3.heap.size W3).drew) bq (by simp)
           | exact Slab.below_next' (((Below.refl W3.heap.size W3).alloc (Nat.le_refl _) _).drew) bq (by simp)
         first | (refine box_elim_d bq ?_; rintro ⟨e0, e1, g0, g1⟩) | skip))
    all_goals
      first
      | ((with_reducible show Exit.then _ _ _ _ (wP.alloc (.cells #[.int .i64 N, .slice a7 n7 c7] 24)))
         obtain ⟨E0, E1⟩ : (wP.alloc (.cells #[.int .i64 N, .slice a7 n7 c7] 24)).cell? ⟨wP.heap.size, 0, none⟩ = some (.int .i64 N) ∧ (wP.alloc (.cells #[.int .i64 N, .slice a7 n7 c7] 24)).cell? ⟨wP.heap.size, 1, none⟩ = some (.slice a7 n7 c7) := box_fresh
         have S7 := Lib.hid (show Slots (wP.alloc (.cells #[.int .i64 N, .slice a7 n7 c7] 24)) a7 n7 Z from s7.below ((Below.refl _ _).alloc (Nat.le_refl _) _))
         have BZ : Below W3.heap.size W3 (wP.alloc (.cells #[.int .i64 N, .slice a7 n7 c7] 24)) := hz4.2.2.alloc hz4.2.2.size _
         clear bq s7 f7 hz4 hz0 q0 q1
         generalize hGen : wP.alloc (.cells #[.int .i64 N, .slice a7 n7 c7] 24) = X at BZ E0 E1 S7 ⊢
         clear hGen
         generalize hGen : wP.heap.size = g at E0 E1 ⊢
         clear hGen
         skip)
      | ((with_reducible show Exit.then _ _ _ _ ((wP.setCell ⟨W3.heap.size, 0, none⟩ (.int .i64 N)).setCell ⟨W3.heap.size, 1, none⟩ (.slice a7 n7 c7)))
         obtain ⟨E0, E1⟩ : ((wP.setCell ⟨W3.heap.size, 0, none⟩ (.int .i64 N)).setCell ⟨W3.heap.size, 1, none⟩ (.slice a7 n7 c7)).cell? ⟨W3.heap.size, 0, none⟩ = some (.int .i64 N) ∧ ((wP.setCell ⟨W3.heap.size, 0, none⟩ (.int .i64 N)).setCell ⟨W3.heap.size, 1, none⟩ (.slice a7 n7 c7)).cell? ⟨W3.heap.size, 1, none⟩ = some (.slice a7 n7 c7) := box_written e0 e1
         have S7 := Lib.hid (show Slots ((wP.setCell ⟨W3.heap.size, 0, none⟩ (.int .i64 N)).setCell ⟨W3.heap.size, 1, none⟩ (.slice a7 n7 c7)) a7 n7 Z from (s7.setCell _ (fun b off e _ => by have h1 := f7 _ _ _ e; simp at h1; omega)).setCell _ (fun b off e _ => by have h1 := f7 _ _ _ e; simp at h1; omega))
         have BZ : Below W3.heap.size W3 ((wP.setCell ⟨W3.heap.size, 0, none⟩ (.int .i64 N)).setCell ⟨W3.heap.size, 1, none⟩ (.slice a7 n7 c7)) := (hz4.2.2.setCell (p := ⟨W3.heap.size, 0, none⟩) (by simp) _).setCell (p := ⟨W3.heap.size, 1, none⟩) (by simp) _
         clear bq s7 f7 hz4 hz0 q0 q1
         generalize hGen : (wP.setCell ⟨W3.heap.size, 0, none⟩ (.int .i64 N)).setCell ⟨W3.heap.size, 1, none⟩ (.slice a7 n7 c7) = X at BZ E0 E1 S7 ⊢
         clear hGen
         generalize hGen : W3.heap.size = g at E0 E1 ⊢
         clear hGen
         skip)
      have hQX := hQ.below BZ hQ.lt
      have hPX := hP3.below BZ hP3.lt
      have hbX := below_next hb3 BZ
      have q0 := hQX.cell 0
      have q1 := hQX.cell 1
      have S3X := Lib.hid (S3.below BZ)
      go_wp2_with fail
      refine (Slab.same_any N N a7 a3 n7 n3 c7 cc3 Z Z true _ S7.out S3X.out (by have h1 := S7.out.len; have h2 := HLEN.out; omega) (by simp)).mono ?_
      rintro e w9 ⟨rfl, b9⟩
      have hQ9 := hQX.below b9 hQX.lt
      have hP9 := hPX.below b9 hPX.lt
      have HB9 := Lib.hid (below_next hbX b9)
      have r0 := hQ9.cell 0
      have p0 := hP9.cell 0
      have ho2 : lsn ≤ N := HO2.out
      clear q0 q1 E0 E1 BZ b9
      go_wp2
      go_ret
      exact ⟨rfl, HB9.out⟩
end Go.Proofs.Ytmmeemffiibndaa.Patch
