/- The walks of the statements NibWrites, NibReads, NibBack. -/
import Derived.Test.YtelnodnacgpilaaNibRefInt
namespace Go.Proofs.Ytelnodnacgpilaa.Nib
open Go.RowKit
open Go.Lib (zigzag uvarint uvarint_small uvarint_big)

def strB (s : ByteArray) : ByteArray := ⟨(encStr s.data.toList).toArray⟩
theorem strB_list (s : ByteArray) : (strB s).data.toList = encStr s.data.toList := by simp [strB]
theorem strB_size {s : ByteArray} (h : s.size ≤ 140737488351232) : (strB s).size ≤ s.size + 10 := by
  have e : (strB s).size = (encStr s.data.toList).length := rfl
  have hl := enc_le (n := ((s.data.toList).length : Int)) (fits_mk (by omega) (by simp; omega))
  have hs : s.data.toList.length = s.size := by simp
  rw [e]; unfold encStr; rw [List.length_append]; omega
theorem strN (s : ByteArray) (w : World) (h : s.size ≤ 140737488351232) :
    Calls Try.prog 14 #[.string s] w fun e w' => e = .returned (.string (strB s)) ∧ Below w.heap.size w w' := str_any s w h
theorem strR (s : ByteArray) (w : World) (h : s.size ≤ 140737488351232) :
    Calls Try.prog 15 #[.string s] w fun e w' => e = .returned (.string (strB s)) ∧ Below w.heap.size w w' := refStr s w h

set_option maxRecDepth 100000 in
set_option maxHeartbeats 400000 in
theorem writes_walk (n : Int) (s : ByteArray) (w : World) (hn : Fits n) (hs : s.size ≤ 140737488351232) :
    Calls Try.prog 3 #[.int .i64 n, .string s] w fun e w' => e = .returned (.bool true) ∧ Below w.heap.size w w' := by
  go_enter Try.func3, Try.ntmps3
  go_wp2_with fail
  refine (awake_any _).mono ?_
  rintro e w1 ⟨rfl, b1⟩
  go_wp2_with fail
  refine (intB n _ hn).mono ?_
  rintro e w2 ⟨rfl, b2⟩
  go_wp2_with fail
  refine (refInt n _ hn).mono ?_
  rintro e w3 ⟨rfl, b3⟩
  go_wp2_with fail
  refine (strN s _ hs).mono ?_
  rintro e w4 ⟨rfl, b4⟩
  go_wp2_with fail
  refine (strR s _ hs).mono ?_
  rintro e w5 ⟨rfl, b5⟩
  go_wp2
  go_ret
  exact ⟨rfl, below_next (below_next (below_next (below_next b1 b2) b3) b4) b5⟩

/-- what TakeInt, TakeStr answer, by parts -/
theorem takeVal_parts (l : List UInt8) : ∃ (n : Int) (r : ByteArray) (b : Bool), takeVal l = .tuple #[.int .i64 n, .string r, .bool b] := ⟨_, _, _, rfl⟩
theorem takeStrVal_parts (l : List UInt8) (m : Int) : ∃ (t r : ByteArray) (b : Bool), takeStrVal l m = .tuple #[.string t, .string r, .bool b] := ⟨_, _, _, rfl⟩
theorem takeInt_v (s : ByteArray) (v : Value) (w : World) (hs : s.size ≤ 9223372036854775807) (h : takeVal s.data.toList = v) :
    Calls Try.prog 16 #[.string s] w fun e w' => e = .returned v ∧ ∃ q, w' = w.drewN q := by subst h; exact takeInt_any s w hs
theorem refTakeInt_v (s : ByteArray) (v : Value) (w : World) (hs : s.size ≤ 9223372036854775807) (h : takeVal s.data.toList = v) :
    Calls Try.prog 17 #[.string s] w fun e w' => e = .returned v ∧ ∃ q, w' = w.drewN q := by subst h; exact refTakeInt s w hs
theorem refTakeStr_v (s : ByteArray) (most : Int) (v : Value) (w : World) (hs : s.size ≤ 9223372036854775807) (h : takeStrVal s.data.toList most = v) :
    Calls Try.prog 19 #[.string s, .int .i64 most] w fun e w' => e = .returned v ∧ ∃ q, w' = w.drewN q := by subst h; exact refTakeStr s most w hs

set_option maxRecDepth 100000 in
set_option maxHeartbeats 400000 in
theorem reads_walk (s : ByteArray) (most : Int) (w : World) (hs : s.size ≤ 140737488351232) (_hm : Fits most) :
    Calls Try.prog 4 #[.string s, .int .i64 most] w fun e w' => e = .returned (.bool true) ∧ Below w.heap.size w w' := by
  obtain ⟨n, r, b, hv⟩ := takeVal_parts s.data.toList
  obtain ⟨t, r2, b2, hv2⟩ := takeStrVal_parts s.data.toList most
  have HV := Lib.hid hv
  have HV2 := Lib.hid hv2
  clear hv hv2
  cases b <;> cases b2
  all_goals
    go_enter Try.func4, Try.ntmps4
    go_wp2_with fail
    refine (awake_any _).mono ?_
    rintro e w1 ⟨rfl, b1⟩
    go_wp2_with fail
    refine (takeInt_v s _ _ (by omega) HV.out).mono ?_
    rintro e w2 ⟨rfl, q2, rfl⟩
    go_wp2_with fail
    refine (refTakeInt_v s _ _ (by omega) HV.out).mono ?_
    rintro e w3 ⟨rfl, q3, rfl⟩
    go_wp2_with fail
    refine (takeStr_is s most _ _ (by omega) HV2.out).mono ?_
    rintro e w4 ⟨rfl, q4, rfl⟩
    go_wp2_with fail
    refine (refTakeStr_v s most _ _ (by omega) HV2.out).mono ?_
    rintro e w5 ⟨rfl, q5, rfl⟩
    go_wp2
    go_ret
    exact ⟨rfl, by first | exact below_drew b1 _ | exact below_drew (below_drew b1 _) _⟩

theorem app_list (a b : ByteArray) : (a ++ b).data.toList = a.data.toList ++ b.data.toList := by simp
set_option maxRecDepth 100000 in
set_option maxHeartbeats 400000 in
theorem back_walk (n : Int) (s z : ByteArray) (w : World) (hn : Fits n) (hs : s.size ≤ 140737488351232) (hz : z.size ≤ 140737488351232) :
    Calls Try.prog 5 #[.int .i64 n, .string s, .string z] w fun e w' => e = .returned (.bool true) ∧ Below w.heap.size w w' := by
  by_cases c1 : 1048576 < s.size
  · go_enter Try.func5, Try.ntmps5
    go_wp2_with ((with_reducible refine (awake_any _).mono ?_); rintro e w1 ⟨rfl, b1⟩)
    go_ret
    exact ⟨rfl, b1⟩
  · by_cases c2 : 1048576 < z.size
    · go_enter Try.func5, Try.ntmps5
      go_wp2_with ((with_reducible refine (awake_any _).mono ?_); rintro e w1 ⟨rfl, b1⟩)
      go_ret
      exact ⟨rfl, b1⟩
    · have lx := encB_le hn
      have ly := strB_size hs
      have hT : takeInt (encB n ++ strB s ++ z).data.toList = (n, (strB s ++ z).data.toList, true) := by
        rw [app_list, app_list, app_list, ← encB_list, List.append_assoc]
        exact takeInt_enc hn _
      have hsl : s.data.toList.length = s.size := by simp
      have hS : takeStrVal (strB s ++ z).data.toList (s.size : Int) = .tuple #[.string s, .string z, .bool true] := by
        unfold takeStrVal
        rw [app_list, strB_list, takeStr_enc (by omega) _ (by omega)]
      have hL : takeStrVal (strB s ++ z).data.toList ((s.size : Int) - 1) = .tuple #[.string ⟨#[]⟩, .string ⟨#[]⟩, .bool false] := by
        unfold takeStrVal
        rw [app_list, strB_list, takeStr_less (by omega) _ (by omega)]
      have HT := Lib.hid hT
      have HS := Lib.hid hS
      have HL := Lib.hid hL
      clear hT hS hL
      have hyz : (strB s ++ z).size ≤ 9223372036854775807 := by rw [ByteArray.size_append]; omega
      have hxyz : (encB n ++ strB s ++ z).size ≤ 9223372036854775807 := by rw [ByteArray.size_append, ByteArray.size_append]; omega
      have hxy : (encB n ++ strB s).size ≤ 140737488351232 := by rw [ByteArray.size_append]; omega
      have HX := Lib.hid hxyz
      have HY := Lib.hid hyz
      clear hxyz hyz hsl
      go_enter Try.func5, Try.ntmps5
      go_wp2_with fail
      refine (awake_any _).mono ?_
      rintro e w1 ⟨rfl, b1⟩
      go_wp2_with fail
      refine (intB n _ hn).mono ?_
      rintro e w2 ⟨rfl, b2⟩
      go_wp2_with fail
      refine (strN s _ hs).mono ?_
      rintro e w3 ⟨rfl, b3⟩
      go_wp2_with fail
      refine (takeInt_yes _ _ n _ HX.out HT.out).mono ?_
      rintro e w4 ⟨rfl, q4, rfl⟩
      go_wp2_with fail
      refine (takeStr_is _ _ _ _ HY.out HS.out).mono ?_
      rintro e w5 ⟨rfl, q5, rfl⟩
      go_wp2_with fail
      refine (strN s _ hs).mono ?_
      rintro e w6 ⟨rfl, b6⟩
      go_wp2_with fail
      refine (takeStr_is _ _ _ _ HY.out HL.out).mono ?_
      rintro e w7 ⟨rfl, q7, rfl⟩
      go_wp2
      go_ret
      exact ⟨rfl, below_drew (below_next (below_drew (below_next (below_next b1 b2) b3) _) b6) _⟩
end Go.Proofs.Ytelnodnacgpilaa.Nib
