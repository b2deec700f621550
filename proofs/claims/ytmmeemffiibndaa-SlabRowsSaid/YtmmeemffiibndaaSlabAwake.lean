/- The walk of the statements' own beginning. -/
import Derived.Test.YtmmeemffiibndaaSlabEnc
namespace Go.Proofs.Ytmmeemffiibndaa.Slab
open Go.RowKit Go.Sort
def AB : Slot := ⟨true, ⟨#[97, 98]⟩⟩
theorem put_ab (w : World) : Calls Try.prog 15 #[.agg #[.int .i64 0, .slice none 0 0], .int .i64 1, .agg #[.bool true, .string ⟨#[97, 98]⟩]] w (PageRes 0 [nos, AB] 0 w) := by
  have h := put_any 0 none 0 0 [] 1 true ⟨#[97, 98]⟩ w (Slots.nil _ _) (by omega) (by decide)
  have h1 : putCode 0 [] 1 ⟨true, ⟨#[97, 98]⟩⟩ = 0 := by decide +kernel
  have h2 : putZ 0 [] 1 ⟨true, ⟨#[97, 98]⟩⟩ = [nos, AB] := by rfl
  have h3 : putN 0 [] 1 ⟨true, ⟨#[97, 98]⟩⟩ = 0 := by decide +kernel
  rw [h1, h2, h3] at h
  exact h
theorem put_back (a : Option Addr) (c : Nat) (w : World) (h : Slots w a 2 [nos, AB]) : Calls Try.prog 15 #[.agg #[.int .i64 0, .slice a 2 c], .int .i64 1, .agg #[.bool false, .string ⟨#[]⟩]] w (PageRes 0 [] 0 w) := by
  have h := put_any 0 a 2 c [nos, AB] 1 false ⟨#[]⟩ w h (by omega) (by decide)
  have h1 : putCode 0 [nos, AB] 1 ⟨false, ⟨#[]⟩⟩ = 0 := by decide +kernel
  have h2 : putZ 0 [nos, AB] 1 ⟨false, ⟨#[]⟩⟩ = [] := by rfl
  have h3 : putN 0 [nos, AB] 1 ⟨false, ⟨#[]⟩⟩ = 0 := by decide +kernel
  rw [h1, h2, h3] at h
  exact h
theorem enc_ab : (encS' 0 [nos, AB]).size = 240 ∧ (encS' 0 [nos, AB]).extract 8 13 = ⟨#[2, 255, 2, 97, 98]⟩ ∧ encCode 0 [nos, AB] = 0 := by decide +kernel
theorem vac_ab : vacV 0 [nos, AB] 5 = 0 ∧ vacCode 0 [nos, AB] 5 = 0 := by decide +kernel
theorem good_ab : sizeV 0 [nos, AB] = 13 ∧ goodB 0 [] = true := by decide +kernel

set_option maxRecDepth 100000 in
set_option maxHeartbeats 4000000 in
theorem awake_any (w : World) :
    Calls Try.prog 11 #[] w fun e w' => e = .returned (.bool true) ∧ Below w.heap.size w w' := by
  obtain ⟨S, hS⟩ : ∃ S, S = encS' 0 [nos, AB] := ⟨_, rfl⟩
  have hS1 : S.size = 240 := by rw [hS]; exact enc_ab.1
  have hS2 : S.extract 8 13 = ⟨#[2, 255, 2, 97, 98]⟩ := by rw [hS]; exact enc_ab.2.1
  have hs8 : (13 : Int) ≤ (S.size : Int) := by omega
  have HS := Lib.hid hS
  have HS1 := Lib.hid hS1
  have HS2 := Lib.hid hS2
  clear hS hS1 hS2
  go_enter Try.func11, Try.ntmps11
  go_wp2_with fail
  refine (put_ab _).mono ?_
  rintro e w1 ⟨a1, n1, c1, rfl, s1, b1, f1⟩
  have hn1 : n1 = 2 := s1.len.symm
  subst hn1
  obtain ⟨bk1, off1, u1, d1, rfl, hbl, hx, x0, x1, _⟩ := s1.at_ (k := 0) (by omega)
  have hu : u1 = false := by simp [nos] at hx; exact hx.1
  subst hu
  rw [Nat.zero_mul, Nat.add_zero] at x0
  clear hx x1
  have S1 := Lib.hid s1
  clear s1
  go_wp2_with fail
  have hA : Below w1.heap.size w1 (w1.alloc (.cells #[.int .i64 0, .slice (some ⟨bk1, off1, none⟩) 2 c1] 24)) := (Below.refl _ _).alloc (Nat.le_refl _) _
  obtain ⟨p0, p1⟩ := page_cells w1 (.int .i64 0) (.slice (some ⟨bk1, off1, none⟩) 2 c1) 24
  have hz : w1.heap.size < (w1.alloc (.cells #[.int .i64 0, .slice (some ⟨bk1, off1, none⟩) 2 c1] 24)).heap.size := by simp
  have SA := Lib.hid (S1.out.below hA)
  have xA := (hA.cell (p := ⟨bk1, off1, none⟩) hbl).trans x0
  have hblA : bk1 < (w1.alloc (.cells #[.int .i64 0, .slice (some ⟨bk1, off1, none⟩) 2 c1] 24)).heap.size := Nat.lt_of_lt_of_le hbl hA.size
  have bA := below_next' b1 hA b1.size
  generalize hGen : w1.alloc (.cells #[.int .i64 0, .slice (some ⟨bk1, off1, none⟩) 2 c1] 24) = W at hA p0 p1 hz SA xA hblA bA ⊢
  clear hGen
  have he := enc_any 0 (some ⟨bk1, off1, none⟩) 2 c1 [nos, AB] W SA.out (by omega)
  rw [← HS.out, enc_ab.2.2] at he
  refine he.mono ?_
  clear he
  rintro e w2 ⟨rfl, b2⟩
  have p0b := (b2.cell (p := ⟨w1.heap.size, 0, none⟩) hz).trans p0
  have p1b := (b2.cell (p := ⟨w1.heap.size, 1, none⟩) hz).trans p1
  have xB := (b2.cell (p := ⟨bk1, off1, none⟩) hblA).trans xA
  have hzB := Nat.lt_of_lt_of_le hz b2.size
  have hblB := Nat.lt_of_lt_of_le hblA b2.size
  have SB := Lib.hid (SA.out.below b2)
  have bB := below_next' bA b2 bA.size
  clear p0 p1 xA hz hblA SA bA
  go_wp2_with fail
  refine (put_back _ _ _ SB.out).mono ?_
  rintro e w3 ⟨a3, n3, c3, rfl, s3, b3, f3⟩
  have hn3 : n3 = 0 := s3.len.symm
  subst hn3
  have p0c := (b3.cell (p := ⟨w1.heap.size, 0, none⟩) hzB).trans p0b
  have p1c := (b3.cell (p := ⟨w1.heap.size, 1, none⟩) hzB).trans p1b
  have xC := (b3.cell (p := ⟨bk1, off1, none⟩) hblB).trans xB
  have hzC := Nat.lt_of_lt_of_le hzB b3.size
  have hblC := Nat.lt_of_lt_of_le hblB b3.size
  have SC := Lib.hid (SB.out.below b3)
  have S3 := Lib.hid s3
  have bC := below_next' bB b3 bB.size
  clear p0b p1b xB hzB hblB SB bB s3
  go_wp2_with fail
  have hA3 : Below w3.heap.size w3 (w3.alloc (.cells #[.int .i64 0, .slice a3 0 c3] 24)) := (Below.refl _ _).alloc (Nat.le_refl _) _
  obtain ⟨q0, q1⟩ := page_cells w3 (.int .i64 0) (.slice a3 0 c3) 24
  have hy : w3.heap.size < (w3.alloc (.cells #[.int .i64 0, .slice a3 0 c3] 24)).heap.size := by simp
  have p0d := (hA3.cell (p := ⟨w1.heap.size, 0, none⟩) hzC).trans p0c
  have p1d := (hA3.cell (p := ⟨w1.heap.size, 1, none⟩) hzC).trans p1c
  have xD := (hA3.cell (p := ⟨bk1, off1, none⟩) hblC).trans xC
  have hzD := Nat.lt_of_lt_of_le hzC hA3.size
  have hblD := Nat.lt_of_lt_of_le hblC hA3.size
  have SD := Lib.hid (SC.out.below hA3)
  have S3D := Lib.hid (S3.out.below hA3)
  have bD := below_next' bC hA3 bC.size
  clear p0c p1c xC hzC hblC SC bC
  generalize hGen : w3.alloc (.cells #[.int .i64 0, .slice a3 0 c3] 24) = V at hA3 q0 q1 hy p0d p1d xD hzD hblD SD S3D bD ⊢
  clear hGen
  have hv := vac_any 0 (some ⟨bk1, off1, none⟩) 2 c1 [nos, AB] 5 V SD.out (by omega)
  rw [vac_ab.1, vac_ab.2] at hv
  refine hv.mono ?_
  clear hv
  rintro e w4 ⟨rfl, b4⟩
  have p0e := (b4.cell (p := ⟨w1.heap.size, 0, none⟩) hzD).trans p0d
  have p1e := (b4.cell (p := ⟨w1.heap.size, 1, none⟩) hzD).trans p1d
  have xE := (b4.cell (p := ⟨bk1, off1, none⟩) hblD).trans xD
  have q0e := (b4.cell (p := ⟨w3.heap.size, 0, none⟩) hy).trans q0
  have q1e := (b4.cell (p := ⟨w3.heap.size, 1, none⟩) hy).trans q1
  have hyE := Nat.lt_of_lt_of_le hy b4.size
  have SE := Lib.hid (SD.out.below b4)
  have S3E := Lib.hid (S3D.out.below b4)
  have bE := below_next' bD b4 bD.size
  clear p0d p1d xD hzD hblD q0 q1 hy SD S3D bD
  go_wp2_with fail
  have hs := sizes_any 0 (some ⟨bk1, off1, none⟩) 2 c1 [nos, AB] w4 SE.out (by omega)
  rw [good_ab.1] at hs
  refine hs.mono ?_
  clear hs
  rintro e w5 ⟨rfl, b5⟩
  have q0f := (b5.cell (p := ⟨w3.heap.size, 0, none⟩) hyE).trans q0e
  have q1f := (b5.cell (p := ⟨w3.heap.size, 1, none⟩) hyE).trans q1e
  have S3F := Lib.hid (S3E.out.below b5)
  have bF := below_next' bE b5 bE.size
  have hsz := HS1.out
  have hcut := HS2.out
  go_wp2_with fail
  have hg := good_any 0 a3 0 c3 [] w5 S3F.out (by omega)
  rw [good_ab.2] at hg
  refine hg.mono ?_
  clear hg
  rintro e w6 ⟨rfl, b6⟩
  go_wp2
  go_ret
  exact ⟨rfl, below_next' bF b6 bF.size⟩
end Go.Proofs.Ytmmeemffiibndaa.Slab
