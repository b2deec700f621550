/- The walks of strings.Trim at zero bytes, and of strings.CutSuffix. -/
import Derived.Test.YtnnppdjgmjgjhaaDoorTwinMath
import Derived.Lib.QuietBelow
namespace Go.Proofs.YtnnppdjgmjgjhaaDoor.Twin
set_option maxRecDepth 100000
open Go.RowKit Go.Sort
open Go.Proofs.YtnnppdjgmjgjhaaDoor.Mem

theorem ret_str' {a b : ByteArray} (h : a = b) : Ending.returned (.string a) = .returned (.string b) := by rw [h]
def strLen : Value → Nat
  | .string t => t.size
  | _ => 0
def isZ (x : UInt8) : Bool := decide (x = 0)
def leftT (s : ByteArray) : ByteArray := ⟨(s.data.toList.dropWhile isZ).toArray⟩
def rightT (s : ByteArray) : ByteArray := ⟨(s.data.toList.reverse.dropWhile isZ).reverse.toArray⟩
theorem bytes_ext {a b : ByteArray} (h : a.data.toList = b.data.toList) : a = b := ByteArray.ext (Array.toList_inj.1 h)
theorem left_more {t : ByteArray} (h : 0 < t.size) (h0 : (t[0]'h).toNat = 0) : leftT (t.extract 1 t.size) = leftT t := by
  have e0 : t[0]'h = 0 := UInt8.toNat_inj.1 (by simpa using h0)
  unfold leftT
  rw [Lib.extract_data, List.take_of_length_le (by simp)]
  have hl : t.data.toList = t[0]'h :: t.data.toList.drop 1 := by
    have := List.drop_eq_getElem_cons (l := t.data.toList) (i := 0) (by simpa using h)
    rw [show t[0]'h = t.data[0]'h from rfl]
    simpa using this
  conv => rhs; rw [hl]
  rw [e0, List.dropWhile_cons_of_pos (by decide)]
theorem left_stop {t : ByteArray} (h : 0 < t.size) (h0 : (t[0]'h).toNat ≠ 0) : leftT t = t := by
  apply bytes_ext
  unfold leftT
  have hl : t.data.toList = t[0]'h :: t.data.toList.drop 1 := by
    have := List.drop_eq_getElem_cons (l := t.data.toList) (i := 0) (by simpa using h)
    rw [show t[0]'h = t.data[0]'h from rfl]
    simpa using this
  rw [hl, List.dropWhile_cons_of_neg (by simp [isZ]; intro e; exact h0 (by rw [e]; rfl))]
theorem last_of {t : ByteArray} (h : t.size - 1 < t.size) : t.data.toList = t.data.toList.take (t.size - 1) ++ [t[t.size - 1]'h] := by
  have := List.take_succ_eq_append_getElem (l := t.data.toList) (i := t.size - 1) (by simpa using h)
  rw [show t.size - 1 + 1 = t.size by omega, List.take_of_length_le (by simp)] at this
  rw [show t[t.size - 1]'h = t.data[t.size - 1]'h from rfl]
  simpa using this
theorem right_more {t : ByteArray} (h : t.size - 1 < t.size) (h0 : (t[t.size - 1]'h).toNat = 0) : rightT (t.extract 0 (t.size - 1)) = rightT t := by
  have e0 : t[t.size - 1]'h = 0 := UInt8.toNat_inj.1 (by simpa using h0)
  unfold rightT
  rw [Lib.extract_data, List.drop_zero]
  conv => rhs; rw [last_of h]
  rw [e0, List.reverse_append, List.reverse_singleton, List.singleton_append, List.dropWhile_cons_of_pos (by decide), Nat.sub_zero]
theorem right_stop {t : ByteArray} (h : t.size - 1 < t.size) (h0 : (t[t.size - 1]'h).toNat ≠ 0) : rightT t = t := by
  apply bytes_ext
  unfold rightT
  rw [last_of h, List.reverse_append, List.reverse_singleton, List.singleton_append, List.dropWhile_cons_of_neg (by simp [isZ]; intro e; exact h0 (by rw [e]; rfl))]
  simp
theorem empty_of {t : ByteArray} (h : ¬ 0 < t.size) : leftT t = t ∧ rightT t = t := by
  have : t.data.toList = [] := List.eq_nil_of_length_eq_zero (by rw [Array.length_toList]; show t.size = 0; omega)
  constructor <;> (apply bytes_ext; simp [leftT, rightT, this])
theorem drop_all (l : List UInt8) : (l.dropWhile isZ).isEmpty = l.all isZ ∧ (l.dropWhile isZ).all isZ = l.all isZ := by
  induction l with
  | nil => exact ⟨rfl, rfl⟩
  | cons x r ih =>
    by_cases h : isZ x = true
    · rw [List.dropWhile_cons_of_pos h, List.all_cons, h]; simpa using ih
    · rw [List.dropWhile_cons_of_neg h]; simp [h]
theorem trim_zero (s : ByteArray) : (leftT (rightT s)).toList.isEmpty = zeroB s := by
  rw [ByteArray.toList_eq]
  unfold leftT rightT
  simp only [(drop_all _).1]
  rw [List.all_reverse, (drop_all _).2, List.all_reverse]
  rfl
set_option maxHeartbeats 1000000 in
theorem left_any (s : ByteArray) (w : World) (hs : s.size ≤ 140737488351232) :
    Calls Tryd.prog 69 #[.string s, .int .u8 0] w fun e w' => e = .returned (.string (leftT s)) ∧ Below w.heap.size w w' := by
  go_enter Tryd.func69, Tryd.ntmps69
  go_wp2
  go_loopw [0] (fun x wr => ∃ t : ByteArray, x = .string t ∧ t.size ≤ 140737488351232 ∧ Hid (leftT t = leftT s) ∧ w = wr) (fun x _ => strLen x)
  case atStart => exact ⟨s, rfl, hs, Lib.hid rfl, rfl⟩
  case round =>
    obtain ⟨t, rfl, ht, hz, rfl⟩ := hrel
    by_cases h : 0 < t.size
    · obtain ⟨cnt, hc⟩ : ∃ cnt, cnt = (t[0]'h).toNat := ⟨_, rfl⟩
      have hb : ∀ h : 0 < t.size, (t[0]'h).toNat = cnt := fun _ => hc.symm
      by_cases h0 : cnt = 0
      · have HL := Lib.hid (left_more h (by rw [hb, h0]))
        subst h0
        clear hc
        go_wp2
        go_roundw
        case rel => exact ⟨_, rfl, by simp; omega, Lib.hid (HL.out.trans hz.out), trivial⟩
        case measure => simp [strLen]; omega
      · have HN := Lib.hid (left_stop h (by rw [hb]; exact h0))
        have h0' : ((cnt : Int) == 0) = false := by simp; omega
        clear hc
        go_wp2
        go_ret
        exact ⟨ret_str' (HN.out.symm.trans hz.out), Below.refl _ _⟩
    · have HN := Lib.hid (empty_of h).1
      go_wp2
      go_ret
      exact ⟨ret_str' (HN.out.symm.trans hz.out), Below.refl _ _⟩
set_option maxHeartbeats 1000000 in
theorem right_any (s : ByteArray) (w : World) (hs : s.size ≤ 140737488351232) :
    Calls Tryd.prog 70 #[.string s, .int .u8 0] w fun e w' => e = .returned (.string (rightT s)) ∧ Below w.heap.size w w' := by
  go_enter Tryd.func70, Tryd.ntmps70
  go_wp2
  go_loopw [0] (fun x wr => ∃ t : ByteArray, x = .string t ∧ t.size ≤ 140737488351232 ∧ Hid (rightT t = rightT s) ∧ w = wr) (fun x _ => strLen x)
  case atStart => exact ⟨s, rfl, hs, Lib.hid rfl, rfl⟩
  case round =>
    obtain ⟨t, rfl, ht, hz, rfl⟩ := hrel
    by_cases h : 0 < t.size
    · have hi : t.size - 1 < t.size := by omega
      obtain ⟨cnt, hc⟩ : ∃ cnt, cnt = (t[t.size - 1]'hi).toNat := ⟨_, rfl⟩
      by_cases h0 : cnt = 0
      · have HL := Lib.hid (right_more hi (by rw [← hc, h0]))
        obtain ⟨m, hm⟩ : ∃ m, m = t.size - 1 := ⟨_, rfl⟩
        have hm' : (t.size : Int) - 1 = (m : Int) := by omega
        have hb : ∀ h : m < t.size, (t[m]'h).toNat = cnt := fun h => by subst hm; exact hc.symm
        rw [← hm] at HL
        subst h0
        have hml : (m : Int) < t.size := by omega
        clear hc hm hi
        go_wp2
        go_roundw
        case rel => exact ⟨_, rfl, by simp; omega, Lib.hid (HL.out.trans hz.out), trivial⟩
        case measure => simp [strLen]; omega
      · have HN := Lib.hid (right_stop hi (by rw [← hc]; exact h0))
        obtain ⟨m, hm⟩ : ∃ m, m = t.size - 1 := ⟨_, rfl⟩
        have hm' : (t.size : Int) - 1 = (m : Int) := by omega
        have hb : ∀ h : m < t.size, (t[m]'h).toNat = cnt := fun h => by subst hm; exact hc.symm
        have h0' : ((cnt : Int) == 0) = false := by simp; omega
        have hml : (m : Int) < t.size := by omega
        clear hc hm hi
        go_wp2
        go_ret
        exact ⟨ret_str' (HN.out.symm.trans hz.out), Below.refl _ _⟩
    · have HN := Lib.hid (empty_of h).2
      go_wp2
      go_ret
      exact ⟨ret_str' (HN.out.symm.trans hz.out), Below.refl _ _⟩
theorem rightT_size (s : ByteArray) : (rightT s).size ≤ s.size := by
  show (List.toArray _).size ≤ _
  have := (List.dropWhile_suffix (l := s.data.toList.reverse) isZ).length_le
  simpa using this
set_option maxHeartbeats 1000000 in
/-- what Trim leaves of zero bytes -/
theorem trim_any (s : ByteArray) (w : World) (hs : s.size ≤ 140737488351232) (h0 : 0 < s.size) :
    Calls Tryd.prog 54 #[.string s, .string ⟨#[0]⟩] w fun e w' => e = .returned (.string (leftT (rightT s))) ∧ Below w.heap.size w w' := by
  have cR : ∀ d os, Calls Tryd.prog 70 #[.string s, .int .u8 0] (grow (redrawn w d) os) fun e w'' => e = .returned (.string (rightT s)) ∧ ∃ p : Regrown, w'' = grow (redrawn w p.d) p.os := fun d os => Calls.regrown_of (right_any s _ hs)
  have cL : ∀ d os, Calls Tryd.prog 69 #[.string (rightT s), .int .u8 0] (grow (redrawn w d) os) fun e w'' => e = .returned (.string (leftT (rightT s))) ∧ ∃ p : Regrown, w'' = grow (redrawn w p.d) p.os := fun d os => Calls.regrown_of (left_any (rightT s) _ (by have := rightT_size s; omega))
  have hne := Slab.list_ne (d := s) (by omega)
  generalize rightT s = u at cR cL ⊢
  have hz0 : ∀ h : 0 < (⟨#[0]⟩ : ByteArray).size, ((⟨#[0]⟩ : ByteArray)[0]'h).toNat = 0 := fun _ => rfl
  go_enter Tryd.func54, Tryd.ntmps54
  go_wp2_with fail
  refine wp_region_quiet_below (by kernel_rfl) (by kernel_rfl) ?_
  repeat (go_big_quiet_step ((first | with_reducible exact cR _ _ | with_reducible exact cL _ _)))
  refine wpQuiet_nil ?_
  intro _ hw'
  obtain ⟨⟨dq, osq⟩, hw''⟩ := hw'
  subst hw''
  have b1 := below_regrown w dq osq
  generalize grow (redrawn w dq) osq = W1 at b1 ⊢
  go_wp2
  go_ret
  exact ⟨rfl, b1⟩
def sufB (s t : ByteArray) : Bool := Lib.hasSuffix s.data.toList t.data.toList
theorem suf_size {s t : ByteArray} (h : sufB s t = true) : t.size ≤ s.size := by
  have := (List.isSuffixOf_iff_suffix.1 h).length_le
  simpa using this
set_option maxHeartbeats 1000000 in
theorem cut_any (s t : ByteArray) (w : World) (hs : s.size ≤ 140737488351232) (ht : t.size ≤ 140737488351232) :
    Calls Tryd.prog 76 #[.string s, .string t] w fun e w' => e = .returned (.tuple #[.string (if sufB s t then s.extract 0 (s.size - t.size) else s), .bool (sufB s t)]) ∧ Below w.heap.size w w' := by
  have hS := Tryd.stringslite_HasSuffix s t w (by omega)
  have hI : Calls Tryd.prog 86 #[.string s, .string t] w fun e w' => e = .returned (.tuple #[.string (if sufB s t then s.extract 0 (s.size - t.size) else s), .bool (sufB s t)]) ∧ Below w.heap.size w w' := by
    cases hb : sufB s t with
    | true =>
      have hle := suf_size hb
      rw [show Lib.hasSuffix s.data.toList t.data.toList = true from hb] at hS
      obtain ⟨m, hm⟩ : ∃ m, m = s.size - t.size := ⟨_, rfl⟩
      have hm' : (s.size : Int) - (t.size : Int) = (m : Int) := by omega
      have hml : (m : Int) ≤ (s.size : Int) := by omega
      rw [← hm]
      have HS := Lib.hid hS
      clear hb hm hS
      go_enter Tryd.func86, Tryd.ntmps86
      go_wp2_with fail
      refine HS.out.mono ?_
      rintro e w1 ⟨rfl, rfl⟩
      go_wp2
      go_ret2
      exact ⟨rfl, Below.refl _ _⟩
    | false =>
      rw [show Lib.hasSuffix s.data.toList t.data.toList = false from hb] at hS
      have HS := Lib.hid hS
      clear hb hS
      go_enter Tryd.func86, Tryd.ntmps86
      go_wp2_with fail
      refine HS.out.mono ?_
      rintro e w1 ⟨rfl, rfl⟩
      go_wp2
      go_ret2
      exact ⟨rfl, Below.refl _ _⟩
  generalize (if sufB s t = true then s.extract 0 (s.size - t.size) else s) = X at hI ⊢
  generalize sufB s t = Y at hI ⊢
  have HI := Lib.hid hI
  clear hI hS
  go_enter Tryd.func76, Tryd.ntmps76
  go_wp2_with fail
  refine HI.out.mono ?_
  rintro e w1 ⟨rfl, b1⟩
  go_wp2
  go_ret2
  exact ⟨rfl, b1⟩
end Go.Proofs.YtnnppdjgmjgjhaaDoor.Twin
