/- The walk of the statement PatchParts. -/
import Derived.Test.YtmmeemffiibndaaPatchAwake
import Derived.Test.YtmmeemffiibndaaPatchCut
import Derived.Test.YtmmeemffiibndaaSlabKeepsWalk
namespace Go.Proofs.Ytmmeemffiibndaa.Patch
open Go.RowKit Go.Sort
open Go.Proofs.Ytmmeemffiibndaa.Slab (Slot nos atL putN putZ putL putCode sameB Blk Slots PageRes sameB_refl ret_bool' page_cells cut_of box_elim_d box_fresh box_written)
open Go.Proofs.Ytmmeemffiibndaa.Ent (Ent noE longB SmallE Small ent_cells alloc_lt below_box Ents EntAt)
open Go.Proofs.Ytmmeemffiibndaa.Nib (below_next below_drew)
set_option maxRecDepth 100000 in
set_option maxHeartbeats 8000000 in
theorem parts_walk (lsn : Int) (a : Option Addr) (n c : Nat) (zs : List Slot) (la : Option Addr) (ln lc : Nat) (xs : List Ent) (cut : Int) (w : World) (_hl : -9223372036854775808 ≤ lsn ∧ lsn ≤ 9223372036854775807) (h : Slots w a n zs) (hl : Ents w la ln xs) (hcap : ln ≤ lc) (_hf : -9223372036854775808 ≤ cut ∧ cut ≤ 9223372036854775807) :
    Calls Try.prog 9 #[.agg #[.int .i64 lsn, .slice a n c], .slice la ln lc, .int .i64 cut] w fun e w' => e = .returned (.bool true) ∧ Below w.heap.size w w' := by
  have hb0 := below_box w (.cells #[.int .i64 lsn, .slice a n c] 24)
  have hP := Blk.new w 24 #[.int .i64 lsn, .slice a n c]
  have hz := alloc_lt w (.cells #[.int .i64 lsn, .slice a n c] 24)
  have HS := Lib.hid h
  have HL := Lib.hid hl
  have HC := Lib.hid hcap
  clear h hl hcap
  go_enter Try.func9, Try.ntmps9
  go_wp2_with fail
  generalize hGen : w.alloc (.cells #[.int .i64 lsn, .slice a n c] 24) = W at hb0 hP hz ⊢
  clear hGen
  refine (awake_any _).mono ?_
  rintro e w1 ⟨rfl, b1⟩
  have hb1 := below_next hb0 b1
  have hP1 := hP.below b1 hz
  have hz1 := Nat.lt_of_lt_of_le hz b1.size
  clear hb0 hP hz b1
  have p0 := hP1.cell 0
  have p1 := hP1.cell 1
  go_wp2_with fail
  refine (great_any lsn a n c zs la ln lc xs _ (HS.out.below hb1) (HL.out.next hb1)).mono ?_
  rintro e w2 ⟨G, rfl, hG, b2⟩
  have hb2 := below_next hb1 b2
  have hP2 := hP1.below b2 hz1
  have hz2 := Nat.lt_of_lt_of_le hz1 b2.size
  clear p0 p1 hb1 hP1 hz1 b2
  cases G with
  | true =>
    go_wp2
    go_ret
    exact ⟨rfl, hb2⟩
  | false =>
    obtain ⟨hn, hln⟩ := hG rfl
    clear hG
    obtain ⟨K, hK, hKl⟩ := cut_of cut (ln + 1) (by omega) (by omega)
    go_upto_region 6 with (fail)
    rw [hK]
    have hKl2 : (K : Int) ≤ (ln : Int) := by omega
    have HKN := Lib.hid (show K ≤ ln by omega)
    clear hK hKl
    have p0 := hP2.cell 0
    have p1 := hP2.cell 1
    go_wp2_with fail
    have k1 := all_any lsn a n c zs 0 la ln lc xs w2 (HS.out.below hb2) (by omega) (HL.out.next hb2) (by omega)
    have k2 := fun W (hs : Slots W a n zs) hl => all_any lsn a n c zs 0 (headA la lc) K lc (xs.take K) W hs (by omega) hl (by omega)
    have hcut := allR_cut (page := 0) (lsn := lsn) (l := zs) (xs := xs) K
    have hpart := allR_parts (page := 0) (lsn := lsn) (l := zs) (xs := xs) K
    have hlen := allR_len 0 lsn zs xs
    have hlen2 := allR_len 0 lsn zs (xs.take K)
    have hhd := fun W (h : Ents W la ln xs) => ents_head (c := lc) h HKN.out
    have hrh := run_head la ln lc K (Nat.le_trans HKN.out HC.out)
    have htl := fun W (h : Ents W la ln xs) => ents_tail h HKN.out HC.out
    have hrt := run_tail la ln lc K HKN.out
    generalize allR 0 lsn zs xs = A at k1 hcut hpart hlen
    obtain ⟨cd, N, Z⟩ := A
    generalize allR 0 lsn zs (xs.take K) = B at k2 hcut hpart hlen2
    obtain ⟨fd, M, Y⟩ := B
    dsimp only at k1 k2 hcut hpart hlen hlen2
    generalize headA la lc = hA at k2 hhd hrh
    generalize tailA la lc K = tA at htl hrt
    have htn : ln - K ≤ 1000000 := by omega
    generalize ln - K = tn at htl hrt htn
    generalize lc - K = tc at hrt
    have HCUT := Lib.hid hcut
    have HPART := Lib.hid hpart
    have HLEN := Lib.hid hlen
    have HLEN2 := Lib.hid hlen2
    have HHD := Lib.hid hhd
    have HTL := Lib.hid htl
    have HRT := Lib.hid hrt
    have HRH := Lib.hid hrh
    have K2 := Lib.hid k2
    refine k1.mono ?_
    clear k1 k2 hcut hpart hlen hlen2 hhd htl hrt hrh
    rintro e w3 ⟨a3, n3, cc3, rfl, s3, b3, _⟩
    have hn3 : n3 ≤ 32 := by have h1 := s3.len; have h2 := HLEN.out; omega
    have bQ := below_next b3 (below_box w3 (.cells #[.int .i64 N, .slice a3 n3 cc3] 24))
    have hb3 := below_next hb2 bQ
    have hP3 := hP2.below bQ hz2
    have S3 := s3.below (below_box w3 (.cells #[.int .i64 N, .slice a3 n3 cc3] 24))
    have hQ := Blk.new w3 24 #[.int .i64 N, .slice a3 n3 cc3]
    clear p0 p1 hb2 hP2 hz2 s3 b3
    go_upto_region 7 with (fail)
    generalize hGen : w3.alloc (.cells #[.int .i64 N, .slice a3 n3 cc3] 24) = W3 at bQ hb3 hP3 S3 hQ ⊢
    clear hGen
    generalize hGen : w3.heap.size = gq at hQ ⊢
    clear hGen
    clear bQ
    have hpw := hP3.lt
    have q0a := hP3.cell 0
    have q1a := hP3.cell 1
    have S3 := Lib.hid S3
    have hpb : ∀ W, Below W3.heap.size W3 W → Calls Try.prog 27 #[.agg #[.int .i64 lsn, .slice a n c], .int .i64 0, .slice hA K lc] W (PageRes M Y fd W) := fun W hW => K2.out W (HS.out.below (below_next hb3 hW)) (HHD.out W (HL.out.next (below_next hb3 hW)))
    have HPB := Lib.hid hpb
    clear hpb
    have hrh := HRH.out
    have hz0a : W3.cell? ⟨w.heap.size, 0, none⟩ = some (.int .i64 lsn) ∧ W3.cell? ⟨w.heap.size, 1, none⟩ = some (.slice a n c) ∧ Below W3.heap.size W3 W3 := ⟨q0a, q1a, Below.refl _ _⟩
    go_region_with (first
      | (go_at_call 27
         (with_reducible refine (HPB.out _ ?_).mono ?_)
         · first
           | exact (Below.refl W3.heap.size W3).drew
           | exact ((Below.refl W3.heap.size W3).alloc (Nat.le_refl _) _).drew
         rintro e wPa ⟨a7a, n7a, c7a, rfl, s7, bq, f7⟩
         have hz4 : wPa.cell? ⟨w.heap.size, 0, none⟩ = some (.int .i64 lsn) ∧ wPa.cell? ⟨w.heap.size, 1, none⟩ = some (.slice a n c) ∧ Below W3.heap.size W3 wPa := by
           refine Slab.held2 (w := W3) hz0a ?_
           first
           | exact Slab.below_next' ((Below.refl W3.heap.size W3).drew) bq (by simp)
           | exact Slab.below_next' (((Below.refl W3.heap.size W3).alloc (Nat.le_refl _) _).drew) bq (by simp)
         first | (refine box_elim_d bq ?_; rintro ⟨e0, e1, g0, g1⟩) | skip))
    all_goals
      first
      | ((with_reducible show Exit.then _ _ _ _ (wPa.alloc (.cells #[.int .i64 M, .slice a7a n7a c7a] 24)))
         obtain ⟨E0a, E1a⟩ : (wPa.alloc (.cells #[.int .i64 M, .slice a7a n7a c7a] 24)).cell? ⟨wPa.heap.size, 0, none⟩ = some (.int .i64 M) ∧ (wPa.alloc (.cells #[.int .i64 M, .slice a7a n7a c7a] 24)).cell? ⟨wPa.heap.size, 1, none⟩ = some (.slice a7a n7a c7a) := box_fresh
         have S7a := Lib.hid (show Slots (wPa.alloc (.cells #[.int .i64 M, .slice a7a n7a c7a] 24)) a7a n7a Y from s7.below ((Below.refl _ _).alloc (Nat.le_refl _) _))
         have BZa : Below W3.heap.size W3 (wPa.alloc (.cells #[.int .i64 M, .slice a7a n7a c7a] 24)) := hz4.2.2.alloc hz4.2.2.size _
         clear bq s7 f7 hz4 hz0a q0a q1a
         generalize hGen : wPa.alloc (.cells #[.int .i64 M, .slice a7a n7a c7a] 24) = X at BZa E0a E1a S7a ⊢
         clear hGen
         generalize hGen : wPa.heap.size = gx at E0a E1a ⊢
         clear hGen
         skip)
      | ((with_reducible show Exit.then _ _ _ _ ((wPa.setCell ⟨W3.heap.size, 0, none⟩ (.int .i64 M)).setCell ⟨W3.heap.size, 1, none⟩ (.slice a7a n7a c7a)))
         obtain ⟨E0a, E1a⟩ : ((wPa.setCell ⟨W3.heap.size, 0, none⟩ (.int .i64 M)).setCell ⟨W3.heap.size, 1, none⟩ (.slice a7a n7a c7a)).cell? ⟨W3.heap.size, 0, none⟩ = some (.int .i64 M) ∧ ((wPa.setCell ⟨W3.heap.size, 0, none⟩ (.int .i64 M)).setCell ⟨W3.heap.size, 1, none⟩ (.slice a7a n7a c7a)).cell? ⟨W3.heap.size, 1, none⟩ = some (.slice a7a n7a c7a) := box_written e0 e1
         have S7a := Lib.hid (show Slots ((wPa.setCell ⟨W3.heap.size, 0, none⟩ (.int .i64 M)).setCell ⟨W3.heap.size, 1, none⟩ (.slice a7a n7a c7a)) a7a n7a Y from (s7.setCell _ (fun b off e _ => by have h1 := f7 _ _ _ e; simp at h1; omega)).setCell _ (fun b off e _ => by have h1 := f7 _ _ _ e; simp at h1; omega))
         have BZa : Below W3.heap.size W3 ((wPa.setCell ⟨W3.heap.size, 0, none⟩ (.int .i64 M)).setCell ⟨W3.heap.size, 1, none⟩ (.slice a7a n7a c7a)) := (hz4.2.2.setCell (p := ⟨W3.heap.size, 0, none⟩) (by simp) _).setCell (p := ⟨W3.heap.size, 1, none⟩) (by simp) _
         clear bq s7 f7 hz4 hz0a q0a q1a
         generalize hGen : (wPa.setCell ⟨W3.heap.size, 0, none⟩ (.int .i64 M)).setCell ⟨W3.heap.size, 1, none⟩ (.slice a7a n7a c7a) = X at BZa E0a E1a S7a ⊢
         clear hGen
         generalize hGen : W3.heap.size = gx at E0a E1a ⊢
         clear hGen
         skip)
      have hbX := below_next hb3 BZa
      have hQX := hQ.below BZa hQ.lt
      have S3X := Lib.hid (S3.out.below BZa)
      have BZX := Lib.hid BZa
      clear BZa hrh
      by_cases hfd : fd = 0
      rotate_left
      · have hcd : cd = fd := HCUT.out hfd
        subst hcd
        have hne : (cd != 0) = true := by rw [bne_iff_ne]; exact hfd
        clear hfd
        go_wp2
        go_ret
        exact ⟨rfl, hbX⟩
      subst hfd
      have hpt := HPART.out rfl
      have hnx : n7a ≤ 32 := by have h1 := S7a.out.len; have h2 := HLEN2.out; omega
      have hpb : ∀ W, Below X.heap.size X W → Calls Try.prog 27 #[.agg #[.int .i64 M, .slice a7a n7a c7a], .int .i64 0, .slice tA tn tc] W (PageRes N Z cd W) := fun W hW => by
        have := all_any M a7a n7a c7a Y 0 tA tn tc (xs.drop K) W (S7a.out.below hW) (by omega) (HTL.out W (HL.out.next (below_next hbX hW))) htn
        rw [hpt] at this
        exact this
      have HPB2 := Lib.hid hpb
      have hrt := HRT.out
      clear hpb hpt
      have q0b := E0a
      have q1b := E1a
      clear E0a E1a
      have hgx : gx < X.heap.size := World.block_lt_of_cell? _ ⟨gx, 0, none⟩ q0b
      go_upto_region 10 with (fail)
      have hz0b : X.cell? ⟨gx, 0, none⟩ = some (.int .i64 M) ∧ X.cell? ⟨gx, 1, none⟩ = some (.slice a7a n7a c7a) ∧ Below X.heap.size X X := ⟨q0b, q1b, Below.refl _ _⟩
      go_region_with (first
        | (go_at_call 27
           (with_reducible refine (HPB2.out _ ?_).mono ?_)
           · first
             | exact (Below.refl X.heap.size X).drew
             | exact ((Below.refl X.heap.size X).alloc (Nat.le_refl _) _).drew
           rintro e wPb ⟨a7b, n7b, c7b, rfl, s7, bq, f7⟩
           have hz4 : wPb.cell? ⟨gx, 0, none⟩ = some (.int .i64 M) ∧ wPb.cell? ⟨gx, 1, none⟩ = some (.slice a7a n7a c7a) ∧ Below X.heap.size X wPb := by
             refine Slab.held2 (w := X) hz0b ?_
             first
             | exact Slab.below_next' ((Below.refl X.heap.size X).drew) bq (by simp)
             | exact Slab.below_next' (((Below.refl X.heap.size X).alloc (Nat.le_refl _) _).drew) bq (by simp)
           first | (refine box_elim_d bq ?_; rintro ⟨e0, e1, g0, g1⟩) | skip))
      all_goals
        first
        | ((with_reducible show Exit.then _ _ _ _ (wPb.alloc (.cells #[.int .i64 N, .slice a7b n7b c7b] 24)))
           obtain ⟨E0b, E1b⟩ : (wPb.alloc (.cells #[.int .i64 N, .slice a7b n7b c7b] 24)).cell? ⟨wPb.heap.size, 0, none⟩ = some (.int .i64 N) ∧ (wPb.alloc (.cells #[.int .i64 N, .slice a7b n7b c7b] 24)).cell? ⟨wPb.heap.size, 1, none⟩ = some (.slice a7b n7b c7b) := box_fresh
           have S7b := Lib.hid (show Slots (wPb.alloc (.cells #[.int .i64 N, .slice a7b n7b c7b] 24)) a7b n7b Z from s7.below ((Below.refl _ _).alloc (Nat.le_refl _) _))
           have BZb : Below X.heap.size X (wPb.alloc (.cells #[.int .i64 N, .slice a7b n7b c7b] 24)) := hz4.2.2.alloc hz4.2.2.size _
           clear bq s7 f7 hz4 hz0b q0b q1b
           generalize hGen : wPb.alloc (.cells #[.int .i64 N, .slice a7b n7b c7b] 24) = X2 at BZb E0b E1b S7b ⊢
           clear hGen
           generalize hGen : wPb.heap.size = gy at E0b E1b ⊢
           clear hGen
           skip)
        | ((with_reducible show Exit.then _ _ _ _ ((wPb.setCell ⟨X.heap.size, 0, none⟩ (.int .i64 N)).setCell ⟨X.heap.size, 1, none⟩ (.slice a7b n7b c7b)))
           obtain ⟨E0b, E1b⟩ : ((wPb.setCell ⟨X.heap.size, 0, none⟩ (.int .i64 N)).setCell ⟨X.heap.size, 1, none⟩ (.slice a7b n7b c7b)).cell? ⟨X.heap.size, 0, none⟩ = some (.int .i64 N) ∧ ((wPb.setCell ⟨X.heap.size, 0, none⟩ (.int .i64 N)).setCell ⟨X.heap.size, 1, none⟩ (.slice a7b n7b c7b)).cell? ⟨X.heap.size, 1, none⟩ = some (.slice a7b n7b c7b) := box_written e0 e1
           have S7b := Lib.hid (show Slots ((wPb.setCell ⟨X.heap.size, 0, none⟩ (.int .i64 N)).setCell ⟨X.heap.size, 1, none⟩ (.slice a7b n7b c7b)) a7b n7b Z from (s7.setCell _ (fun b off e _ => by have h1 := f7 _ _ _ e; simp at h1; omega)).setCell _ (fun b off e _ => by have h1 := f7 _ _ _ e; simp at h1; omega))
           have BZb : Below X.heap.size X ((wPb.setCell ⟨X.heap.size, 0, none⟩ (.int .i64 N)).setCell ⟨X.heap.size, 1, none⟩ (.slice a7b n7b c7b)) := (hz4.2.2.setCell (p := ⟨X.heap.size, 0, none⟩) (by simp) _).setCell (p := ⟨X.heap.size, 1, none⟩) (by simp) _
           clear bq s7 f7 hz4 hz0b q0b q1b
           generalize hGen : (wPb.setCell ⟨X.heap.size, 0, none⟩ (.int .i64 N)).setCell ⟨X.heap.size, 1, none⟩ (.slice a7b n7b c7b) = X2 at BZb E0b E1b S7b ⊢
           clear hGen
           generalize hGen : X.heap.size = gy at E0b E1b ⊢
           clear hGen
           skip)
        have hbX2 := below_next hbX BZb
        have hQ2 := hQX.below BZb hQX.lt
        have S32 := Lib.hid (S3X.out.below BZb)
        clear BZb
        have r0 := hQ2.cell 0
        have r1 := hQ2.cell 1
        go_wp2_with fail
        refine (Slab.same_any N N a7b a3 n7b n3 c7b cc3 Z Z true _ S7b.out S32.out (by have h1 := S7b.out.len; have h2 := HLEN.out; omega) (by simp)).mono ?_
        rintro e w9 ⟨rfl, b9⟩
        have HB9 := Lib.hid (below_next hbX2 b9)
        clear r0 r1 E0b E1b b9
        go_wp2
        go_ret
        exact ⟨rfl, HB9.out⟩
end Go.Proofs.Ytmmeemffiibndaa.Patch
