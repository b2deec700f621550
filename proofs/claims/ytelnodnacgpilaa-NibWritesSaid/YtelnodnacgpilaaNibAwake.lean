/- The walk of the statements' own beginning: the document's fixed answers. -/
import Derived.Test.YtelnodnacgpilaaNibTake
namespace Go.Proofs.Ytelnodnacgpilaa.Nib
open Go.RowKit
open Go.Lib (zigzag uvarint uvarint_small uvarint_big)

theorem takeStr_is (s : ByteArray) (most : Int) (v : Value) (w : World) (hs : s.size ≤ 9223372036854775807) (h : takeStrVal s.data.toList most = v) :
    Calls Try.prog 18 #[.string s, .int .i64 most] w fun e w' => e = .returned v ∧ ∃ q, w' = w.drewN q :=
  (takeStr_any s most w hs).mono fun _ _ ⟨he, hq⟩ => ⟨by rw [he, h], hq⟩
theorem int_is (n : Int) (r : ByteArray) (w : World) (hn : Fits n) (h : enc n = r.data.toList) :
    Calls Try.prog 12 #[.int .i64 n] w fun e w' => e = .returned (.string r) ∧ Below w.heap.size w w' :=
  (int_any n w hn).mono fun _ _ ⟨he, hq⟩ => ⟨by rw [he, h], hq⟩
theorem str_is (s r : ByteArray) (w : World) (hs : s.size ≤ 140737488351232) (h : encStr s.data.toList = r.data.toList) :
    Calls Try.prog 14 #[.string s] w fun e w' => e = .returned (.string r) ∧ Below w.heap.size w w' :=
  (str_any s w hs).mono fun _ _ ⟨he, hq⟩ => ⟨by rw [he, h], hq⟩

theorem below_next {W w w' : World} (h : Below W.heap.size W w) (h' : Below w.heap.size w w') : Below W.heap.size W w' := h.trans (h'.mono h.size)
theorem below_drew {W w : World} (h : Below W.heap.size W w) (q : Nat) : Below W.heap.size W (w.drewN q) := below_drewN h q

theorem c1 : takeInt [128, 1, 120] = (64, [120], true) := by decide
theorem c2 : takeStr [4, 104, 105] 2 = ([104, 105], [], true) := by decide
theorem c3 : takeInt [128, 0] = (0, [], false) := by decide
theorem e0 : enc 0 = [0] := by unfold enc; rw [show zigzag 0 = 0 from rfl, uvarint_small (by omega)]; rfl
theorem e1 : enc (-1) = [1] := by unfold enc; rw [show zigzag (-1) = 1 from rfl, uvarint_small (by omega)]; rfl
theorem e2 : enc 2 = [4] := by unfold enc; rw [show zigzag 2 = 4 from rfl, uvarint_small (by omega)]; rfl
theorem e64 : enc 64 = [128, 1] := by unfold enc; rw [show zigzag 64 = 128 from rfl, uvarint_big (by omega), uvarint_small (by omega)]; rfl
theorem eHi : encStr [104, 105] = [4, 104, 105] := by unfold encStr; rw [show (([104, 105] : List UInt8).length : Int) = 2 from rfl, e2]; rfl

set_option maxRecDepth 100000 in
set_option maxHeartbeats 400000 in
theorem awake_any (w : World) :
    Calls Try.prog 11 #[] w fun e w' => e = .returned (.bool true) ∧ Below w.heap.size w w' := by
  go_enter Try.func11, Try.ntmps11
  go_wp2_with fail
  refine (takeInt_yes ⟨#[128, 1, 120]⟩ ⟨#[120]⟩ 64 _ (by decide) c1).mono ?_
  rintro e w1 ⟨rfl, q1, rfl⟩
  go_wp2_with fail
  refine (takeStr_is ⟨#[4, 104, 105]⟩ 2 (.tuple #[.string ⟨#[104, 105]⟩, .string ⟨#[]⟩, .bool true]) _ (by decide) (by unfold takeStrVal; rw [c2])).mono ?_
  rintro e w2 ⟨rfl, q2, rfl⟩
  go_wp2_with fail
  refine (takeInt_not ⟨#[128, 0]⟩ _ (by decide) c3).mono ?_
  rintro e w3 ⟨rfl, q3, rfl⟩
  go_wp2_with fail
  refine (int_is 0 ⟨#[0]⟩ _ (fits_mk (by decide) (by decide)) e0).mono ?_
  rintro e w4 ⟨rfl, b4⟩
  go_wp2_with fail
  refine (int_is (-1) ⟨#[1]⟩ _ (fits_mk (by decide) (by decide)) e1).mono ?_
  rintro e w5 ⟨rfl, b5⟩
  go_wp2_with fail
  refine (int_is 64 ⟨#[128, 1]⟩ _ (fits_mk (by decide) (by decide)) e64).mono ?_
  rintro e w6 ⟨rfl, b6⟩
  go_wp2_with fail
  refine (str_is ⟨#[104, 105]⟩ ⟨#[4, 104, 105]⟩ _ (by decide) eHi).mono ?_
  rintro e w7 ⟨rfl, b7⟩
  go_wp2
  go_ret
  exact ⟨rfl, below_next (below_next (below_next (below_next (below_drew (Below.refl _ _) _) b4) b5) b6) b7⟩
end Go.Proofs.Ytelnodnacgpilaa.Nib
