/- The walks of the document's own Good and of both Sizes. -/
import Derived.Test.YtmmeemffiibndaaSlabRef
namespace Go.Proofs.Ytmmeemffiibndaa.Slab
open Go.RowKit Go.Sort

theorem usedN_le_of {l : List Slot} {k : Nat} (h : ∀ y ∈ l.drop k, y.u = false) : usedN l ≤ k := by
  induction l generalizing k with
  | nil => simp [usedN]
  | cons x r ih =>
    cases k with
    | zero => rw [usedN_none (by simpa using h)]; exact Nat.le_refl _
    | succ k =>
      have := ih (k := k) (by simpa using h)
      rw [usedN]; split <;> (try split) <;> omega
theorem used_at_end {l : List Slot} {m : Nat} {x : Slot} (hl : l.length = m + 1) (h : l[m]? = some x) : (l.length = usedN l) ↔ x.u = true := by
  have hd : l.drop m = [x] := by
    obtain ⟨hm, rfl⟩ := List.getElem?_eq_some_iff.1 h
    rw [List.drop_eq_getElem_cons hm, List.drop_of_length_le (by omega)]
  cases hu : x.u with
  | true =>
    rw [usedN_last h hu (by rw [List.drop_of_length_le (by omega)]; simp)]
    simp [hl]
  | false =>
    have := usedN_le_of (l := l) (k := m) (by rw [hd]; simpa using hu)
    simp; omega
theorem good_big {lsn : Int} {l : List Slot} (h : 240 < 9 + rsz l) : goodB lsn l = false := by
  cases hw : l.any wrongB with
  | true => simp [goodB, hw]
  | false =>
    rw [rsz_eq hw] at h
    have : ¬ (9 + sz l ≤ 240) := by omega
    simp [goodB, this]
theorem good_wrong {lsn : Int} {l : List Slot} (h : l.any wrongB = true) : goodB lsn l = false := by simp [goodB, h]
theorem good_rest {lsn : Int} {l : List Slot} (h0 : 0 ≤ lsn) (h1 : lsn ≤ 1099511627776) (h2 : l.length ≤ 32) (h3 : 9 + rsz l ≤ 240) (h4 : l.any wrongB = false) : goodB lsn l = decide (l.length = usedN l) := by
  rw [rsz_eq h4] at h3
  simp [goodB, h0, h1, h2, h3, h4]

set_option maxRecDepth 100000 in
set_option maxHeartbeats 2000000 in
theorem rgood_any (lsn : Int) (a : Option Addr) (n c : Nat) (zs : List Slot) (w : World) (h : Slots w a n zs) (hn : n ≤ 1000000) :
    Calls Try.prog 32 #[.agg #[.int .i64 lsn, .slice a n c]] w fun e w' => e = .returned (.bool (goodB lsn zs)) ∧ Below w.heap.size w w' := by
  have hb0 : Below w.heap.size w (w.alloc (.cells #[.int .i64 lsn, .slice a n c] 24)) := (Below.refl _ _).alloc (Nat.le_refl _) _
  have HZ := Lib.hid h.len
  have HS := Lib.hid (h.below hb0)
  clear h
  obtain ⟨c0, c1⟩ := page_cells w (.int .i64 lsn) (.slice a n c) 24
  by_cases h0 : lsn < 0
  · go_enter Try.func32, Try.ntmps32
    go_wp2
    go_ret
    exact ⟨ret_bool' (by simp [goodB]; omega), hb0⟩
  · by_cases h1 : 1099511627776 < lsn
    · go_enter Try.func32, Try.ntmps32
      go_wp2
      go_ret
      exact ⟨ret_bool' (by simp [goodB]; omega), hb0⟩
    · by_cases h2 : 32 < n
      · go_enter Try.func32, Try.ntmps32
        go_wp2
        go_ret
        exact ⟨ret_bool' (by have := HZ.out; simp [goodB]; omega), hb0⟩
      · by_cases h3 : 240 < 9 + rsz zs
        · have hr := rsz_le zs
          have hr2 : rsz zs ≤ 40000 := by have := HZ.out; omega
          have HG := Lib.hid (good_big (lsn := lsn) h3)
          clear hr
          go_enter Try.func32, Try.ntmps32
          go_wp2_with fail
          generalize hGen : w.alloc (.cells #[.int .i64 lsn, .slice a n c] 24) = W at c0 c1 hb0 HS ⊢
          clear hGen
          refine (rsize_any lsn a n c zs _ HS.out (by omega)).mono ?_
          rintro e w1 ⟨rfl, b1⟩
          go_wp2
          go_ret
          exact ⟨ret_bool' HG.out.symm, hb0.trans (b1.mono hb0.size)⟩
        · have hr2 : rsz zs ≤ 231 := by omega
          go_enter Try.func32, Try.ntmps32
          go_wp2_with fail
          have hsz : w.heap.size < (w.alloc (.cells #[.int .i64 lsn, .slice a n c] 24)).heap.size := by simp
          generalize hGen : w.alloc (.cells #[.int .i64 lsn, .slice a n c] 24) = W at c0 c1 hb0 HS hsz ⊢
          clear hGen
          refine (rsize_any lsn a n c zs _ HS.out (by omega)).mono ?_
          rintro e w1 ⟨rfl, b1⟩
          have c1' := (b1.cell (p := ⟨w.heap.size, 1, none⟩) hsz).trans c1
          have hb1 := hb0.trans (b1.mono hb0.size)
          have HS1 := Lib.hid (HS.out.below b1)
          clear c0 c1 hb0 HS
          go_wp2
          go_loopw [3] (fun i wr => ∃ k : Nat, k ≤ n ∧ i = .int .i64 k ∧ Hid ((zs.take k).any wrongB = false) ∧ Below w1.heap.size w1 wr) (fun i _ => n - (intOf i).toNat)
          case atStart => exact ⟨0, Nat.zero_le _, rfl, Lib.hid rfl, Below.refl _ _⟩
          case round =>
            obtain ⟨k, hk, rfl, hnw, hbel⟩ := hrel
            have c1r := (hbel.cell (p := ⟨w.heap.size, 1, none⟩) (Nat.lt_of_lt_of_le hsz b1.size)).trans c1'
            by_cases hlt : k < n
            · obtain ⟨b, off, u, d, rfl, hbl, hg, c2, c3, hd⟩ := (HS1.out.below hbel).at_ hlt
              have HG := Lib.hid hg
              clear hg hbl
              have HN : ∀ v, wrongB ⟨u, d⟩ = v → (zs.take (k + 1)).any wrongB = v := fun v hv => by rw [any_take_next HG.out hnw.out, hv]
              have HN := Lib.hid HN
              have HW : wrongB ⟨u, d⟩ = true → goodB lsn zs = false := fun hv => good_wrong (any_mem_hit HG.out hv)
              have HW := Lib.hid HW
              cases u with
              | true =>
                by_cases hbig : 200 < d.size
                · go_wp2
                  go_ret
                  exact ⟨ret_bool' (HW.out (by simp [wrongB, hbig])).symm, hb1.trans ((hbel.alloc hbel.size _).mono hb1.size)⟩
                · go_wp2
                  go_roundw
                  case rel => exact ⟨k + 1, by omega, by go_num, Lib.hid (HN.out _ (by simp [wrongB]; omega)), hbel.alloc hbel.size _⟩
                  case measure => simp [intOf]; omega
              | false =>
                by_cases h4 : d.size = 0
                · obtain rfl := size_zero h4
                  go_wp2
                  go_roundw
                  case rel => exact ⟨k + 1, by omega, by go_num, Lib.hid (HN.out _ (by rfl)), hbel.alloc hbel.size _⟩
                  case measure => simp [intOf]; omega
                · have hl := list_ne h4
                  go_wp2
                  go_ret
                  exact ⟨ret_bool' (HW.out (by simp [wrongB, h4])).symm, hb1.trans ((hbel.alloc hbel.size _).mono hb1.size)⟩
            · obtain rfl : k = n := by omega
              have hany : zs.any wrongB = false := by have := hnw.out; rw [take_all HZ.out] at this; exact this
              have HG := Lib.hid (good_rest (lsn := lsn) (l := zs) (by omega) (by omega) (by rw [HZ.out]; omega) (by omega) hany)
              clear hany hnw
              have hbb := hb1.trans (hbel.mono hb1.size)
              cases k with
              | zero =>
                go_wp2
                go_ret
                exact ⟨ret_bool' (by rw [HG.out, Slots.zero HS1.out]; rfl), hbb⟩
              | succ m =>
                obtain ⟨b, off, u, d, rfl, hbl, hg, c2, c3, hd⟩ := (HS1.out.below hbel).at_ (k := m) (by omega)
                have HE := Lib.hid (used_at_end HZ.out hg)
                clear hg hbl
                have h5 : ((((m + 1 : Nat) : Int)) == 0) = false := by simp; omega
                go_wp2
                go_ret
                refine ⟨ret_bool' ?_, hbb⟩
                rw [HG.out]
                have := HE.out
                cases u with
                | true => simp at this ⊢; exact this
                | false => simp at this; simp [this]; omega

set_option maxRecDepth 100000 in
set_option maxHeartbeats 1000000 in
theorem sizes_any (lsn : Int) (a : Option Addr) (n c : Nat) (zs : List Slot) (w : World) (h : Slots w a n zs) (hn : n ≤ 1000000) :
    Calls Try.prog 30 #[.agg #[.int .i64 lsn, .slice a n c]] w fun e w' => e = .returned (.int .i64 (sizeV lsn zs)) ∧ Below w.heap.size w w' := by
  have hb0 : Below w.heap.size w (w.alloc (.cells #[.int .i64 lsn, .slice a n c] 24)) := (Below.refl _ _).alloc (Nat.le_refl _) _
  have HZ := Lib.hid h.len
  have HS := Lib.hid (h.below hb0)
  clear h
  have hsz : w.heap.size < (w.alloc (.cells #[.int .i64 lsn, .slice a n c] 24)).heap.size := by simp
  obtain ⟨c0, c1⟩ := page_cells w (.int .i64 lsn) (.slice a n c) 24
  cases hg : goodB lsn zs with
  | false =>
    have HG := Lib.hid hg
    clear hg
    go_enter Try.func30, Try.ntmps30
    go_wp2_with fail
    generalize hGen : w.alloc (.cells #[.int .i64 lsn, .slice a n c] 24) = W at c0 c1 hb0 HS hsz ⊢
    clear hGen
    refine (good_any lsn a n c zs _ HS.out (by omega)).mono ?_
    rw [HG.out]
    rintro e w1 ⟨rfl, b1⟩
    go_wp2
    go_ret
    exact ⟨ret_int' (by unfold sizeV; rw [HG.out]; rfl), hb0.trans (b1.mono hb0.size)⟩
  | true =>
    have hs : sz zs ≤ 1000000 := by simp [goodB] at hg; omega
    have HG := Lib.hid hg
    clear hg
    go_enter Try.func30, Try.ntmps30
    go_wp2_with fail
    generalize hGen : w.alloc (.cells #[.int .i64 lsn, .slice a n c] 24) = W at c0 c1 hb0 HS hsz ⊢
    clear hGen
    refine (good_any lsn a n c zs _ HS.out (by omega)).mono ?_
    rw [HG.out]
    rintro e w1 ⟨rfl, b1⟩
    have c1' := (b1.cell (p := ⟨w.heap.size, 1, none⟩) hsz).trans c1
    go_wp2_with fail
    refine (size_any a n c zs _ (HS.out.below b1) hs (by omega)).mono ?_
    rintro e w2 ⟨rfl, b2⟩
    go_wp2
    go_ret
    exact ⟨ret_int' (by unfold sizeV; rw [HG.out]; rfl), hb0.trans ((b1.trans (b2.mono b1.size)).mono hb0.size)⟩
end Go.Proofs.Ytmmeemffiibndaa.Slab
