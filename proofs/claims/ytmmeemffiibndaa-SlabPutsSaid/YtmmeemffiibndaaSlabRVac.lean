/- The walk of the document's own Vacant. -/
import Derived.Test.YtmmeemffiibndaaSlabRVacA
import Derived.Test.YtmmeemffiibndaaSlabRVacB
namespace Go.Proofs.Ytmmeemffiibndaa.Slab
open Go.RowKit Go.Sort
set_option maxRecDepth 100000 in
set_option maxHeartbeats 8000000 in
theorem rvac_any (lsn : Int) (a : Option Addr) (n c : Nat) (zs : List Slot) (m : Int) (w : World) (h : Slots w a n zs) (hn : n ≤ 1000000) :
    Calls Try.prog 19 #[.agg #[.int .i64 lsn, .slice a n c], .int .i64 m] w fun e w' => e = .returned (.tuple #[.int .i64 (vacV lsn zs m), .int .i64 (vacCode lsn zs m)]) ∧ Below w.heap.size w w' := by
  have H0 := (Hold.nil (Below.refl w.heap.size w)).box2 (.int .i64 lsn) (.slice a n c) 24
  have HO := Lib.hid h
  clear h
  have hsz : w.heap.size < (w.alloc (.cells #[.int .i64 lsn, .slice a n c] 24)).heap.size := by simp
  cases hg : goodB lsn zs with
  | false =>
    have HC : vacCode lsn zs m = 1 := by unfold vacCode; rw [if_pos (.inl hg)]
    have HC := Lib.hid HC
    have HG := Lib.hid hg
    clear hg
    go_enter Try.func19, Try.ntmps19
    go_wp2_with fail
    generalize hGen : w.alloc (.cells #[.int .i64 lsn, .slice a n c] 24) = W at H0 hsz ⊢
    clear hGen
    refine (rgood_any lsn a n c zs _ (HO.out.below H0.b) (by omega)).mono ?_
    rw [HG.out]
    rintro e w1 ⟨rfl, b1⟩
    go_wp2
    go_ret2
    exact ⟨ret2 (by unfold vacV; rw [HC.out]; rfl) HC.out.symm, (H0.next b1).b⟩
  | true =>
    have hs : n ≤ 32 := by have := HO.out.len; simp [goodB] at hg; omega
    by_cases m0 : m < 0
    · have HC : vacCode lsn zs m = 1 := by unfold vacCode; rw [if_pos (.inr m0)]
      have HC := Lib.hid HC
      have HG := Lib.hid hg
      clear hg
      go_enter Try.func19, Try.ntmps19
      go_wp2_with fail
      generalize hGen : w.alloc (.cells #[.int .i64 lsn, .slice a n c] 24) = W at H0 hsz ⊢
      clear hGen
      refine (rgood_any lsn a n c zs _ (HO.out.below H0.b) (by omega)).mono ?_
      rw [HG.out]
      rintro e w1 ⟨rfl, b1⟩
      go_wp2
      go_ret2
      exact ⟨ret2 (by unfold vacV; rw [HC.out]; rfl) HC.out.symm, (H0.next b1).b⟩
    · have hng : ¬ (goodB lsn zs = false ∨ m < 0) := by rw [hg]; simp; omega
      by_cases m1 : 200 < m
      · have HC : vacCode lsn zs m = 5 := by unfold vacCode; rw [if_neg hng, if_pos m1]
        have HC := Lib.hid HC
        have HG := Lib.hid hg
        clear hg hng
        go_enter Try.func19, Try.ntmps19
        go_wp2_with fail
        generalize hGen : w.alloc (.cells #[.int .i64 lsn, .slice a n c] 24) = W at H0 hsz ⊢
        clear hGen
        refine (rgood_any lsn a n c zs _ (HO.out.below H0.b) (by omega)).mono ?_
        rw [HG.out]
        rintro e w1 ⟨rfl, b1⟩
        go_wp2
        go_ret2
        exact ⟨ret2 (by unfold vacV; rw [HC.out]; rfl) HC.out.symm, (H0.next b1).b⟩
      · obtain ⟨q, rfl⟩ := Int.eq_ofNat_of_zero_le (show 0 ≤ m by omega)
        have hq : q ≤ 200 := by omega
        by_cases hv : vacS zs < n
        · exact rvac_in lsn a n c zs q w HO.out hn hg hq hv
        · exact rvac_out lsn a n c zs q w HO.out hn hg hq hv
end Go.Proofs.Ytmmeemffiibndaa.Slab
