/- The statement's own example (awake) is true. -/
import Derived.Test.YtoiakenepmbalaaPurseCalls
namespace Go.Proofs.Ytoiakenepmbalaa.Purse
set_option maxRecDepth 100000
open Go.RowKit
open Go.Proofs.Ytoiakenepmbalaa.Mem
theorem ask_is {p : Nat} {M : Nat → Prop} {L L' : List Due} {k n room : Int} {b : Bool} {w : World} (h : PQ w p M L) (hn : L.length ≤ 999999) (hr : room ≤ 9223372036854775807) (hb : askB L n room = b) (hl : askL L k n room = L') :
    Calls Try.prog 9 #[.pointer (some ⟨p, 0, none⟩), .int .i64 k, .int .i64 n, .int .i64 room] w fun e w' => e = .returned (.bool b) ∧ PQ w' p M L' ∧ Keep M w w' := by
  subst hb; subst hl
  exact ask_any p M L k n room w h hn hr
theorem take_is {p : Nat} {M : Nat → Prop} {L L' : List Due} {k n m : Int} {w : World} (h : PQ w p M L) (hn : L.length ≤ 1000000) (hb : takeN L k n = m) (hl : takeL L k n = L') :
    Calls Try.prog 11 #[.pointer (some ⟨p, 0, none⟩), .int .i64 k, .int .i64 n] w fun e w' => e = .returned (.int .i64 m) ∧ PQ w' p M L' ∧ Keep M w w' := by
  subst hb; subst hl
  exact take_any p M L k n w h hn
theorem of_is {p : Nat} {M : Nat → Prop} {L : List Due} {k m : Int} {w : World} (h : PQ w p M L) (hn : L.length ≤ 1000000) (hb : ofL L k = m) :
    Calls Try.prog 13 #[.pointer (some ⟨p, 0, none⟩), .int .i64 k] w fun e w' => e = .returned (.int .i64 m) ∧ Below w.heap.size w w' := by
  subst hb
  exact of_any p M L k w h hn
theorem sum_is {p : Nat} {M : Nat → Prop} {L : List Due} {m : Int} {w : World} (h : PQ w p M L) (hb : total L = m) :
    Calls Try.prog 15 #[.pointer (some ⟨p, 0, none⟩)] w fun e w' => e = .returned (.int .i64 m) ∧ w = w' := by
  subst hb
  exact sum_any p M L w h
set_option maxRecDepth 100000 in
set_option maxHeartbeats 1000000 in
theorem awake_any (w : World) : Calls Try.prog 7 #[] w fun e w' => e = .returned (.bool true) ∧ Below w.heap.size w w' := by
  go_enter Try.func7, Try.ntmps7
  go_wp2_with fail
  refine (new_any w).mono ?_
  rintro e w1 ⟨rfl, h1, b1⟩
  have B1 := Lib.hid b1
  clear b1
  go_wp2_with fail
  refine (ask_is (k := 1) (b := true) (L' := [(1, 5)]) h1 (by decide) (by decide) (by decide) (by decide)).mono ?_
  rintro e w2 ⟨rfl, h2, k2⟩
  have K2 := Lib.hid k2
  clear k2 h1
  go_wp2_with fail
  refine (ask_is (k := 2) (b := false) (L' := [(1, 5)]) h2 (by decide) (by decide) (by decide) (by decide)).mono ?_
  rintro e w3 ⟨rfl, h3, k3⟩
  have K3 := Lib.hid (K2.out.trans k3)
  clear k3 h2 K2
  go_wp2_with fail
  refine (take_is (k := 1) (m := 3) (L' := [(1, 2)]) h3 (by decide) (by decide) (by decide)).mono ?_
  rintro e w4 ⟨rfl, h4, k4⟩
  have K4 := Lib.hid (K3.out.trans k4)
  clear k4 h3 K3
  go_wp2_with fail
  refine (ask_is (k := 2) (b := true) (L' := [(1, 2), (2, 4)]) h4 (by decide) (by decide) (by decide) (by decide)).mono ?_
  rintro e w5 ⟨rfl, h5, k5⟩
  have K5 := Lib.hid (K4.out.trans k5)
  clear k5 h4 K4
  go_wp2_with fail
  refine (take_is (k := 1) (m := 2) (L' := [(2, 4)]) h5 (by decide) (by decide) (by decide)).mono ?_
  rintro e w6 ⟨rfl, h6, k6⟩
  have B6 := Lib.hid (B1.out.trans ((K5.out.trans k6).below (fun _ hk => hk)))
  clear k6 h5 K5 B1
  go_wp2_with fail
  refine (sum_is (m := 4) h6 (by decide)).mono ?_
  rintro e w7 ⟨rfl, rfl⟩
  go_wp2_with fail
  refine (of_is (m := 4) h6 (by decide) (by decide)).mono ?_
  rintro e w8 ⟨rfl, b8⟩
  have h8 := h6.below b8
  have B8 := Lib.hid (B6.out.trans (b8.mono B6.out.size))
  clear b8 h6 B6
  go_wp2_with fail
  refine (of_is (m := 0) h8 (by decide) (by decide)).mono ?_
  rintro e w9 ⟨rfl, b9⟩
  have B9 := Lib.hid (B8.out.trans (b9.mono B8.out.size))
  clear b9 h8 B8
  go_wp2
  go_ret
  exact ⟨rfl, B9.out⟩
end Go.Proofs.Ytoiakenepmbalaa.Purse
