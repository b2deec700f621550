/- Texts of equal rows; begins. -/
import Derived.Test.YtbbikibkijncgaaCordTwo
namespace Go.Proofs.Ytbbikibkijncgaa.Cord
set_option maxRecDepth 100000
open Go.RowKit
open Go.Proofs.Ytbbikibkijncgaa.Mem
/-- a row of texts that is read -/
def Strs (w : World) (a : Option Addr) (n : Nat) (l : List ByteArray) : Prop :=
  l.length = n ∧ (0 < n → ∃ g, a = some ⟨g, 0, none⟩ ∧ g < w.heap.size ∧ ∀ i s, l[i]? = some s → w.cell? ⟨g, i, none⟩ = some (.string s))
theorem strs_of {w : World} {base n c : Nat} {a : Option Addr} {l : List ByteArray} (h : w.ownsRow base 9 1 (.slice a n c) l.length (strsV l)) (hn : n = l.length) : Strs w a n l := by
  subst hn
  refine ⟨rfl, fun h0 => ?_⟩
  obtain ⟨g, cap, e, hb, hl, hc⟩ := own_pos h h0
  injection e with e1 e2 e3
  subst e1
  refine ⟨g, rfl, hl, fun i s hi => ?_⟩
  have hlt := (List.getElem?_eq_some_iff.1 hi).1
  rw [hc i (by omega)]
  exact strs_get hi
theorem Strs.take {w : World} {a : Option Addr} {n k : Nat} {l : List ByteArray} (h : Strs w a n l) (hk : k ≤ n) : Strs w a k (l.take k) := by
  obtain ⟨h1, h2⟩ := h
  refine ⟨by simp; omega, fun h0 => ?_⟩
  obtain ⟨g, e, hl, hc⟩ := h2 (by omega)
  refine ⟨g, e, hl, fun i s hi => hc i s ?_⟩
  have hlt := (List.getElem?_eq_some_iff.1 hi).1
  rw [List.getElem?_take_of_lt (by simp at hlt; omega)] at hi
  exact hi
theorem Strs.below {w w' : World} {a : Option Addr} {n : Nat} {l : List ByteArray} (h : Strs w a n l) (hb : Below w.heap.size w w') : Strs w' a n l := by
  refine ⟨h.1, fun h0 => ?_⟩
  obtain ⟨g, e, hl, hc⟩ := h.2 h0
  exact ⟨g, e, Nat.lt_of_lt_of_le hl hb.size, fun i s hi => (hb.cell (p := ⟨g, i, none⟩) hl).trans (hc i s hi)⟩
set_option maxRecDepth 100000 in
set_option maxHeartbeats 4000000 in
theorem texts_same (a b : Option Addr) (n c d : Nat) (l : List ByteArray) (w : World) (h1 : Strs w a n l) (h2 : Strs w b n l) (hn : n ≤ 1000000) :
    Calls Try.prog 19 #[.slice a n c, .slice b n d] w fun r w' => r = .returned (.bool true) ∧ Below w.heap.size w w' := by
  have H1 := Lib.hid h1
  have H2 := Lib.hid h2
  clear h1 h2
  have hnn : (((n : Int) == (n : Int)) = true) := by simp
  have HB : Hid (Below w.heap.size w w) := Lib.hid (Below.refl _ _)
  go_enter Try.func19, Try.ntmps19
  go_wp2_with fail
  go_loopw [5] (fun i wr => ∃ j : Nat, j ≤ n ∧ i = .int .i64 (j : Int) ∧ Hid (Below w.heap.size w wr)) (fun i _ => n - (intOf i).toNat)
  case atStart => exact ⟨0, Nat.zero_le _, rfl, HB⟩
  case round =>
    obtain ⟨j, hj, rfl, HK⟩ := hrel
    clear HB
    by_cases hlt : j < n
    · have hl := H1.out.1
      have hx : l[j]? = some l[j] := List.getElem?_eq_getElem (by omega)
      generalize l[j] = s at hx
      obtain ⟨g1, e1, l1, c1⟩ := (H1.out.below HK.out).2 (by omega)
      obtain ⟨g2, e2, l2, c2⟩ := (H2.out.below HK.out).2 (by omega)
      subst e1; subst e2
      have d1 := c1 j s hx
      have d2 := c2 j s hx
      have hss : (s.toList == s.toList) = true := beq_self_eq_true _
      clear c1 c2 hx hl
      go_wp2_with fail
      go_quiet (fail)
      have HK2 : Hid (Below w.heap.size w (wr.drewN nq)) := Lib.hid (below_drewN HK.out nq)
      clear HK
      go_wp2
      go_roundw
      case rel => exact ⟨j + 1, by omega, by go_num, HK2⟩
      case measure => simp [intOf]; omega
    · obtain rfl : j = n := by omega
      go_wp2
      go_ret
      exact ⟨rfl, HK.out⟩
set_option maxRecDepth 100000 in
set_option maxHeartbeats 4000000 in
theorem begins_same (a b : Option Addr) (n m c d : Nat) (l : List ByteArray) (w : World) (h1 : Strs w a n (l.take n)) (h2 : Strs w b m l) (hm : n ≤ m) (hd : m ≤ d) (hn : m ≤ 1000000) :
    Calls Try.prog 31 #[.slice a n c, .slice b m d] w fun r w' => r = .returned (.bool true) ∧ Below w.heap.size w w' := by
  have H1 := Lib.hid h1
  have H2 := Lib.hid (h2.take hm)
  clear h1 h2
  have hi : (n : Int) ≤ (m : Int) := by omega
  have hi2 : (n : Int) ≤ (d : Int) := by omega
  go_enter Try.func31, Try.ntmps31
  go_wp2_with fail
  refine (texts_same a b n c d (l.take n) w H1.out H2.out (by omega)).mono ?_
  rintro r w1 ⟨rfl, b1⟩
  have B1 := Lib.hid b1
  clear b1 H1 H2
  go_wp2
  go_ret
  exact ⟨rfl, B1.out⟩
end Go.Proofs.Ytbbikibkijncgaa.Cord
