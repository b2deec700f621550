/- The walks of cmp.Compare, slices.BinarySearchFunc and find; a purse in memory. -/
import Derived.Test.YtoiakenepmbalaaPurseRow
import Derived.Deep.LoopGhost
namespace Go.Proofs.Ytoiakenepmbalaa.Purse
set_option maxRecDepth 100000
open Go.RowKit
open Go.Proofs.Ytoiakenepmbalaa.Mem
theorem below_next {a b c : World} (h : Below a.heap.size a b) (h' : Below b.heap.size b c) : Below a.heap.size a c := h.trans (h'.mono h.size)
def sgn (x k : Int) : Int := if x < k then -1 else if k < x then 1 else 0
set_option maxRecDepth 100000 in
theorem isnan_any (x : Int) (w : World) : Calls Try.prog 29 #[.int .i64 x] w fun e w' => e = .returned (.bool false) ∧ w = w' := by
  go_enter Try.func29, Try.ntmps29
  go_wp2
  go_ret
  exact ⟨rfl, rfl⟩
set_option maxRecDepth 100000 in
theorem compare_any (x k : Int) (w : World) : Calls Try.prog 26 #[.int .i64 x, .int .i64 k] w fun e w' => e = .returned (.int .i64 (sgn x k)) ∧ w = w' := by
  have hs : sgn x k = if x < k then -1 else if k < x then 1 else 0 := rfl
  generalize sgn x k = s at hs ⊢
  by_cases h1 : x < k
  · rw [if_pos h1] at hs
    subst hs
    go_enter Try.func26, Try.ntmps26
    go_wp2_with fail
    refine (isnan_any _ _).mono ?_; rintro e w1 ⟨rfl, rfl⟩
    go_wp2_with fail
    refine (isnan_any _ _).mono ?_; rintro e w1 ⟨rfl, rfl⟩
    go_wp2
    go_ret
    exact ⟨rfl, rfl⟩
  · by_cases h2 : k < x
    · rw [if_neg h1, if_pos h2] at hs
      subst hs
      go_enter Try.func26, Try.ntmps26
      go_wp2_with fail
      refine (isnan_any _ _).mono ?_; rintro e w1 ⟨rfl, rfl⟩
      go_wp2_with fail
      refine (isnan_any _ _).mono ?_; rintro e w1 ⟨rfl, rfl⟩
      go_wp2
      go_ret
      exact ⟨rfl, rfl⟩
    · rw [if_neg h1, if_neg h2] at hs
      subst hs
      go_enter Try.func26, Try.ntmps26
      go_wp2_with fail
      refine (isnan_any _ _).mono ?_; rintro e w1 ⟨rfl, rfl⟩
      go_wp2_with fail
      refine (isnan_any _ _).mono ?_; rintro e w1 ⟨rfl, rfl⟩
      go_wp2
      go_ret
      exact ⟨rfl, rfl⟩
set_option maxRecDepth 100000 in
theorem less_any (x y k : Int) (w : World) : Calls Try.prog 25 #[.agg #[.int .i64 x, .int .i64 y], .int .i64 k] w fun e w' => e = .returned (.int .i64 (sgn x k)) ∧ Below w.heap.size w w' := by
  go_enter Try.func25, Try.ntmps25
  go_wp2_with fail
  refine (compare_any _ _ _).mono ?_; rintro e w1 ⟨rfl, rfl⟩
  go_wp2
  go_ret
  exact ⟨rfl, (Below.refl w.heap.size w).alloc (Nat.le_refl _) _⟩

theorem sgn_low {x k : Int} : sgn x k < 0 ↔ x < k := by unfold sgn; split <;> (try split) <;> omega
theorem sgn_eq {x k : Int} : sgn x k = 0 ↔ x = k := by unfold sgn; split <;> (try split) <;> omega
/-- where the halves end -/
theorem posL_is {L : List Due} (hs : L.Pairwise (fun a b => a.1 < b.1)) {k : Int} {i : Nat} (hi : i ≤ L.length) (h1 : ∀ t x, t < i → L[t]? = some x → x.1 < k) (h2 : ∀ t x, i ≤ t → L[t]? = some x → k ≤ x.1) : i = posL L k := by
  have hp := posL_le L k
  rcases Nat.lt_trichotomy i (posL L k) with h | h | h
  · have hlt : i < L.length := by omega
    have e : L[i]? = some L[i] := List.getElem?_eq_getElem hlt
    have a := posL_low L k i _ h e
    have b := h2 i _ (Nat.le_refl _) e
    omega
  · exact h
  · have hlt : posL L k < L.length := by omega
    have e : L[posL L k]? = some L[posL L k] := List.getElem?_eq_getElem hlt
    have a := posL_high hs (k := k) _ _ (Nat.le_refl _) e
    have b := h1 _ _ h e
    omega
def FindRes (L : List Due) (k : Int) (w : World) (e : Ending) (w' : World) : Prop :=
  e = .returned (.tuple #[.int .i64 (posL L k : Nat), .bool (hasL L k)]) ∧ Below w.heap.size w w'
set_option maxRecDepth 100000 in
set_option maxHeartbeats 4000000 in
theorem search_some (g c n : Nat) (L : List Due) (k : Int) (w : World) (hL : L.length = n) (hg : g < w.heap.size) (hcs : ∀ t x, L[t]? = some x → w.cell? ⟨g, t * 2, none⟩ = some (.int .i64 x.1) ∧ w.cell? ⟨g, t * 2 + 1, none⟩ = some (.int .i64 x.2)) (hs : L.Pairwise (fun a b => a.1 < b.1)) (hn : n ≤ 4611686018427387904) :
    Calls Try.prog 24 #[.slice (some ⟨g, 0, none⟩) n c, .int .i64 k, .func (.func 25) #[] #[]] w (FindRes L k w) := by
  have HL := Lib.hid hL
  have HC := Lib.hid hcs
  have HS := Lib.hid hs
  have HG := Lib.hid hg
  clear hL hcs hs hg
  go_enter Try.func24, Try.ntmps24
  go_wp2
  go_loopg [9, 10] n (fun kx s9 s10 wr => ∃ lo hi : Nat, s9 = .int .i64 lo ∧ s10 = .int .i64 hi ∧ lo ≤ hi ∧ hi ≤ n ∧ hi - lo ≤ kx ∧ Hid (Below w.heap.size w wr) ∧
    Hid ((∀ t x, t < lo → L[t]? = some x → x.1 < k) ∧ (∀ t x, hi ≤ t → L[t]? = some x → k ≤ x.1)))
  case atStart => exact ⟨0, n, rfl, rfl, Nat.zero_le _, Nat.le_refl _, by omega, Lib.hid (Below.refl _ _), Lib.hid ⟨fun t x ht => absurd ht (Nat.not_lt_zero _), fun t x h1 h2 => absurd (List.getElem?_eq_some_iff.1 h2).1 (by have := HL.out; omega)⟩⟩
  case round =>
    obtain ⟨lo, hi, rfl, rfl, hlh, hin, hgm, HB, HI⟩ := hrel
    have cells : ∀ t, t < n → ∃ x : Due, L[t]? = some x ∧ wr.cell? ⟨g, t * 2, none⟩ = some (.int .i64 x.1) ∧ wr.cell? ⟨g, t * 2 + 1, none⟩ = some (.int .i64 x.2) := fun t ht => by
      have hlt : t < L.length := by have := HL.out; omega
      have e : L[t]? = some L[t] := List.getElem?_eq_getElem hlt
      have c1 := HC.out t _ e
      exact ⟨_, e, (HB.out.cell (p := ⟨g, t * 2, none⟩) HG.out).trans c1.1, (HB.out.cell (p := ⟨g, t * 2 + 1, none⟩) HG.out).trans c1.2⟩
    by_cases hlt : lo < hi
    · obtain ⟨x, ex, c1, c2⟩ := cells ((lo + hi) / 2) (by omega)
      have EX := Lib.hid ex
      clear ex cells
      by_cases hyx : sgn x.1 k < 0
      · go_wp2_with fail
        refine (less_any _ _ _ _).mono ?_; rintro e w1 ⟨rfl, b1⟩
        have B1 := Lib.hid b1
        clear b1
        go_wp2_with fail
        go_roundg (hi - ((lo + hi) / 2 + 1))
        case measure => omega
        case rel =>
          refine ⟨(lo + hi) / 2 + 1, hi, by rw [show ((lo : Int) + (hi : Int)) / 2 + 1 = (((lo + hi) / 2 + 1 : Nat) : Int) by omega], rfl, by omega, hin, Nat.le_refl _, Lib.hid (below_next HB.out B1.out), Lib.hid ⟨fun t y ht hy => ?_, HI.out.2⟩⟩
          rcases Nat.lt_or_ge t ((lo + hi) / 2) with h | h
          · have hxm : x.1 < k := sgn_low.1 hyx
            have := List.pairwise_iff_getElem.1 HS.out t ((lo + hi) / 2) (List.getElem?_eq_some_iff.1 hy).1 (List.getElem?_eq_some_iff.1 EX.out).1 h
            rw [(List.getElem?_eq_some_iff.1 hy).2, (List.getElem?_eq_some_iff.1 EX.out).2] at this
            omega
          · obtain rfl : t = (lo + hi) / 2 := by omega
            have e2 : some x = some y := EX.out.symm.trans hy
            cases e2
            exact sgn_low.1 hyx
      · go_wp2_with fail
        refine (less_any _ _ _ _).mono ?_; rintro e w1 ⟨rfl, b1⟩
        have B1 := Lib.hid b1
        clear b1
        go_wp2_with fail
        go_roundg ((lo + hi) / 2 - lo)
        case measure => omega
        case rel =>
          refine ⟨lo, (lo + hi) / 2, rfl, by rw [show ((lo : Int) + (hi : Int)) / 2 = (((lo + hi) / 2 : Nat) : Int) by omega], by omega, by omega, Nat.le_refl _, Lib.hid (below_next HB.out B1.out), Lib.hid ⟨HI.out.1, fun t y ht hy => ?_⟩⟩
          have hxm : ¬ x.1 < k := fun h => by have := sgn_low.2 h; omega
          rcases Nat.eq_or_lt_of_le ht with h | h
          · subst h
            have e2 : some x = some y := EX.out.symm.trans hy
            cases e2
            omega
          · have := List.pairwise_iff_getElem.1 HS.out ((lo + hi) / 2) t (List.getElem?_eq_some_iff.1 EX.out).1 (List.getElem?_eq_some_iff.1 hy).1 h
            rw [(List.getElem?_eq_some_iff.1 hy).2, (List.getElem?_eq_some_iff.1 EX.out).2] at this
            omega
    · obtain rfl : hi = lo := by omega
      have hpos : hi = posL L k := posL_is HS.out (by have := HL.out; omega) HI.out.1 HI.out.2
      have HP := Lib.hid hpos
      clear hpos
      by_cases hnn : hi < n
      · obtain ⟨x, ex, c1, c2⟩ := cells hi hnn
        have EX := Lib.hid ex
        clear ex cells
        by_cases hyx : sgn x.1 k = 0
        · have fin : hasL L k = true := by
            cases hh : hasL L k with
            | true => rfl
            | false => exact absurd (sgn_eq.1 hyx) (hasL_not L k hh x (by rw [← HP.out]; exact EX.out))
          have FI := Lib.hid fin
          clear fin
          go_wp2_with fail
          refine (less_any _ _ _ _).mono ?_; rintro e w1 ⟨rfl, b1⟩
          have B1 := Lib.hid b1
          clear b1
          go_wp2
          go_ret2
          exact ⟨by rw [FI.out, HP.out]; rfl, below_next HB.out B1.out⟩
        · have fin : hasL L k = false := by
            cases hh : hasL L k with
            | false => rfl
            | true =>
              have := hasL_get L k hh
              rw [← HP.out, EX.out] at this
              cases this
              exact absurd (sgn_eq.2 rfl) hyx
          have FI := Lib.hid fin
          clear fin
          go_wp2_with fail
          refine (less_any _ _ _ _).mono ?_; rintro e w1 ⟨rfl, b1⟩
          have B1 := Lib.hid b1
          clear b1
          have hb : (sgn x.1 k == 0) = false := by simpa using hyx
          go_wp2
          go_ret2
          exact ⟨by rw [FI.out, HP.out]; rfl, below_next HB.out B1.out⟩
      · have fin : hasL L k = false := by
          cases hh : hasL L k with
          | false => rfl
          | true => exact absurd (hasL_lt hh) (by rw [← HP.out, HL.out]; omega)
        have FI := Lib.hid fin
        clear fin
        go_wp2
        go_ret2
        exact ⟨by rw [FI.out, HP.out]; rfl, HB.out⟩
end Go.Proofs.Ytoiakenepmbalaa.Purse
