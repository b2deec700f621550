/- The walk of slab.Vacant. -/
import Derived.Test.YtmmeemffiibndaaSlabPut
namespace Go.Proofs.Ytmmeemffiibndaa.Slab
open Go.RowKit Go.Sort

def unusedB (x : Slot) : Bool := !x.u
/-- the first slot that is not used -/
def vacS (l : List Slot) : Nat := firstN (fun x => !x.u) l
def vacNeed (l : List Slot) (n : Int) : Int := if l.any (fun x => !x.u) then n else n + 1
def vacCode (lsn : Int) (l : List Slot) (n : Int) : Int :=
  if goodB lsn l = false ∨ n < 0 then 1 else if 200 < n then 5 else if vacS l = 32 ∨ 240 < ((9 + sz l : Nat) : Int) + vacNeed l n then 22 else 0
def vacV (lsn : Int) (l : List Slot) (n : Int) : Int := if vacCode lsn l n = 0 then (vacS l : Int) else 0
theorem vacS_le (l : List Slot) : vacS l ≤ l.length := by unfold vacS firstN; exact List.findIdx_le_length
theorem vacS_all {l : List Slot} (h : l.any (fun x => !x.u) = false) : vacS l = l.length := by
  unfold vacS firstN
  rw [List.findIdx_eq_length]
  exact fun x hx => by simpa using List.any_eq_false.1 h x hx
theorem vacS_some {l : List Slot} (h : l.any (fun x => !x.u) = true) : vacS l < l.length := by
  unfold vacS firstN
  rw [List.findIdx_lt_length]
  simpa using h
theorem ret2 {a b : Int} {c d : Int} (h1 : a = b) (h2 : c = d) : Ending.returned (.tuple #[.int .i64 a, .int .i64 c]) = .returned (.tuple #[.int .i64 b, .int .i64 d]) := by rw [h1, h2]

set_option maxRecDepth 100000 in
set_option maxHeartbeats 4000000 in
theorem vac_any (lsn : Int) (a : Option Addr) (n c : Nat) (zs : List Slot) (m : Int) (w : World) (h : Slots w a n zs) (hn : n ≤ 1000000) :
    Calls Try.prog 18 #[.agg #[.int .i64 lsn, .slice a n c], .int .i64 m] w fun e w' => e = .returned (.tuple #[.int .i64 (vacV lsn zs m), .int .i64 (vacCode lsn zs m)]) ∧ Below w.heap.size w w' := by
  have hb0 : Below w.heap.size w (w.alloc (.cells #[.int .i64 lsn, .slice a n c] 24)) := (Below.refl _ _).alloc (Nat.le_refl _) _
  have HZ := Lib.hid h.len
  have HS := Lib.hid (h.below hb0)
  clear h
  have hsz : w.heap.size < (w.alloc (.cells #[.int .i64 lsn, .slice a n c] 24)).heap.size := by simp
  obtain ⟨c0, c1⟩ := page_cells w (.int .i64 lsn) (.slice a n c) 24
  cases hg : goodB lsn zs with
  | false =>
    have HC : vacCode lsn zs m = 1 := by unfold vacCode; rw [if_pos (.inl hg)]
    have HC := Lib.hid HC
    have HG := Lib.hid hg
    clear hg
    go_enter Try.func18, Try.ntmps18
    go_wp2_with fail
    generalize hGen : w.alloc (.cells #[.int .i64 lsn, .slice a n c] 24) = W at c0 c1 hb0 HS hsz ⊢
    clear hGen
    refine (good_any lsn a n c zs _ HS.out (by omega)).mono ?_
    rw [HG.out]
    rintro e w1 ⟨rfl, b1⟩
    go_wp2
    go_ret2
    exact ⟨ret2 (by unfold vacV; rw [HC.out]; rfl) HC.out.symm, hb0.trans (b1.mono hb0.size)⟩
  | true =>
    have hs : sz zs ≤ 231 ∧ n ≤ 32 := by have := HZ.out; simp [goodB] at hg; omega
    obtain ⟨hs1, hs2⟩ := hs
    have HG := Lib.hid hg
    clear hg
    by_cases m0 : m < 0
    · have HC : vacCode lsn zs m = 1 := by unfold vacCode; rw [if_pos (.inr m0)]
      have HC := Lib.hid HC
      go_enter Try.func18, Try.ntmps18
      go_wp2_with fail
      generalize hGen : w.alloc (.cells #[.int .i64 lsn, .slice a n c] 24) = W at c0 c1 hb0 HS hsz ⊢
      clear hGen
      refine (good_any lsn a n c zs _ HS.out (by omega)).mono ?_
      rw [HG.out]
      rintro e w1 ⟨rfl, b1⟩
      go_wp2
      go_ret2
      exact ⟨ret2 (by unfold vacV; rw [HC.out]; rfl) HC.out.symm, hb0.trans (b1.mono hb0.size)⟩
    · have hng : ¬ (goodB lsn zs = false ∨ m < 0) := by rw [HG.out]; simp; omega
      by_cases m1 : 200 < m
      · have HC : vacCode lsn zs m = 5 := by unfold vacCode; rw [if_neg hng, if_pos m1]
        have HC := Lib.hid HC
        clear hng
        go_enter Try.func18, Try.ntmps18
        go_wp2_with fail
        generalize hGen : w.alloc (.cells #[.int .i64 lsn, .slice a n c] 24) = W at c0 c1 hb0 HS hsz ⊢
        clear hGen
        refine (good_any lsn a n c zs _ HS.out (by omega)).mono ?_
        rw [HG.out]
        rintro e w1 ⟨rfl, b1⟩
        go_wp2
        go_ret2
        exact ⟨ret2 (by unfold vacV; rw [HC.out]; rfl) HC.out.symm, hb0.trans (b1.mono hb0.size)⟩
      · have hu : vacCode lsn zs m = if vacS zs = 32 ∨ 240 < ((9 + sz zs : Nat) : Int) + vacNeed zs m then 22 else 0 := by unfold vacCode; rw [if_neg hng, if_neg m1]
        have HCU := Lib.hid hu
        clear hu hng
        cases ha : zs.any (fun x => !x.u) with
        | true =>
          have hv := vacS_some ha
          rw [HZ.out] at hv
          have hi : idxV (fun x => !x.u) zs = (vacS zs : Int) := by unfold idxV; rw [if_pos ha]; rfl
          have hne : vacNeed zs m = m := by unfold vacNeed; rw [ha]; rfl
          have HI := Lib.hid hi
          have HNE := Lib.hid hne
          clear ha hi hne
          obtain ⟨v, hvv⟩ : ∃ v, v = vacS zs := ⟨_, rfl⟩
          rw [← hvv] at hv
          have HVV := Lib.hid hvv
          clear hvv
          have hv32 : ((v : Int) == 32) = false := by simp; omega
          have v0 : (0 : Int) ≤ (v : Int) := by omega
          go_enter Try.func18, Try.ntmps18
          go_wp2_with fail
          generalize hGen : w.alloc (.cells #[.int .i64 lsn, .slice a n c] 24) = W at c0 c1 hb0 HS hsz ⊢
          clear hGen
          refine (good_any lsn a n c zs _ HS.out (by omega)).mono ?_
          rw [HG.out]
          rintro e w1 ⟨rfl, b1⟩
          have c1b := (b1.cell (p := ⟨w.heap.size, 1, none⟩) hsz).trans c1
          have hb1 := hb0.trans (b1.mono hb0.size)
          go_wp2_with fail
          have hx := vacant_any a n c zs w1 (HS.out.below b1) (by omega)
          rw [HI.out, ← HVV.out] at hx
          refine hx.mono ?_
          clear hx
          rintro e w2 ⟨rfl, b2⟩
          have c1c := (b2.cell (p := ⟨w.heap.size, 1, none⟩) (Nat.lt_of_lt_of_le hsz b1.size)).trans c1b
          have hb2 := hb1.trans (b2.mono hb1.size)
          go_wp2_with fail
          refine (size_any a n c zs _ ((HS.out.below b1).below b2) (by omega) (by omega)).mono ?_
          rintro e w3 ⟨rfl, b3⟩
          have hb3 := hb2.trans (b3.mono hb2.size)
          go_wp2
          · have ht : (240 : Int) < 9 + (sz zs : Int) + m := by assumption
            have hc : vacCode lsn zs m = 22 := by rw [HCU.out, if_pos (.inr (by rw [HNE.out]; omega))]
            go_ret2
            exact ⟨ret2 (by unfold vacV; rw [hc]; rfl) (by rw [hc]), hb3⟩
          · have ht : 9 + (sz zs : Int) + m ≤ 240 := by assumption
            have hc : vacCode lsn zs m = 0 := by rw [HCU.out, if_neg (by rw [HNE.out, ← HVV.out]; omega)]
            go_ret2
            exact ⟨ret2 (by unfold vacV; rw [hc, ← HVV.out]; rfl) (by rw [hc]), hb3⟩
        | false =>
          have hv := vacS_all ha
          rw [HZ.out] at hv
          have hi : idxV (fun x => !x.u) zs = -1 := by unfold idxV; rw [ha]; rfl
          have hne : vacNeed zs m = m + 1 := by unfold vacNeed; rw [ha]; rfl
          have HI := Lib.hid hi
          have HNE := Lib.hid hne
          have HVV := Lib.hid hv
          clear ha hi hne hv
          by_cases h32 : n = 32
          · have hv32 : ((n : Int) == 32) = true := by simp; omega
            have hc : vacCode lsn zs m = 22 := by rw [HCU.out, if_pos (.inl (by rw [HVV.out]; exact h32))]
            have HC := Lib.hid hc
            have H32 := Lib.hid h32
            clear hc h32
            go_enter Try.func18, Try.ntmps18
            go_wp2_with fail
            generalize hGen : w.alloc (.cells #[.int .i64 lsn, .slice a n c] 24) = W at c0 c1 hb0 HS hsz ⊢
            clear hGen
            refine (good_any lsn a n c zs _ HS.out (by omega)).mono ?_
            rw [HG.out]
            rintro e w1 ⟨rfl, b1⟩
            have c1b := (b1.cell (p := ⟨w.heap.size, 1, none⟩) hsz).trans c1
            have hb1 := hb0.trans (b1.mono hb0.size)
            go_wp2_with fail
            have hx := vacant_any a n c zs w1 (HS.out.below b1) (by omega)
            rw [HI.out] at hx
            refine hx.mono ?_
            clear hx
            rintro e w2 ⟨rfl, b2⟩
            have c1c := (b2.cell (p := ⟨w.heap.size, 1, none⟩) (Nat.lt_of_lt_of_le hsz b1.size)).trans c1b
            have hb2 := hb1.trans (b2.mono hb1.size)
            go_wp2
            go_ret2
            exact ⟨ret2 (by unfold vacV; rw [HC.out]; rfl) (by rw [HC.out]), hb2⟩
          · have hv32 : ((n : Int) == 32) = false := by simp; omega
            go_enter Try.func18, Try.ntmps18
            go_wp2_with fail
            generalize hGen : w.alloc (.cells #[.int .i64 lsn, .slice a n c] 24) = W at c0 c1 hb0 HS hsz ⊢
            clear hGen
            refine (good_any lsn a n c zs _ HS.out (by omega)).mono ?_
            rw [HG.out]
            rintro e w1 ⟨rfl, b1⟩
            have c1b := (b1.cell (p := ⟨w.heap.size, 1, none⟩) hsz).trans c1
            have hb1 := hb0.trans (b1.mono hb0.size)
            go_wp2_with fail
            have hx := vacant_any a n c zs w1 (HS.out.below b1) (by omega)
            rw [HI.out] at hx
            refine hx.mono ?_
            clear hx
            rintro e w2 ⟨rfl, b2⟩
            have c1c := (b2.cell (p := ⟨w.heap.size, 1, none⟩) (Nat.lt_of_lt_of_le hsz b1.size)).trans c1b
            have hb2 := hb1.trans (b2.mono hb1.size)
            go_wp2_with fail
            refine (size_any a n c zs _ ((HS.out.below b1).below b2) (by omega) (by omega)).mono ?_
            rintro e w3 ⟨rfl, b3⟩
            have hb3 := hb2.trans (b3.mono hb2.size)
            go_wp2
            · have ht : (240 : Int) < 9 + (sz zs : Int) + (m + 1) := by assumption
              have hc : vacCode lsn zs m = 22 := by rw [HCU.out, if_pos (.inr (by rw [HNE.out]; omega))]
              go_ret2
              exact ⟨ret2 (by unfold vacV; rw [hc]; rfl) (by rw [hc]), hb3⟩
            · have ht : 9 + (sz zs : Int) + (m + 1) ≤ 240 := by assumption
              have hc : vacCode lsn zs m = 0 := by rw [HCU.out, if_neg (by rw [HNE.out, HVV.out]; omega)]
              go_ret2
              exact ⟨ret2 (by unfold vacV; rw [hc, HVV.out]; rfl) (by rw [hc]), hb3⟩
end Go.Proofs.Ytmmeemffiibndaa.Slab
