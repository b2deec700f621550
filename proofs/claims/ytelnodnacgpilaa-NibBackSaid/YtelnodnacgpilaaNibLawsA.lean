/- The walks of the statements NibOne, NibApart, NibShort, NibGrows. -/
import Derived.Test.YtelnodnacgpilaaNibAwake
namespace Go.Proofs.Ytelnodnacgpilaa.Nib
open Go.RowKit
open Go.Lib (zigzag uvarint uvarint_small uvarint_big)

set_option maxRecDepth 100000 in
set_option maxHeartbeats 400000 in
theorem one_walk (s : ByteArray) (w : World) (hs : s.size ≤ 140737488351232) :
    Calls Try.prog 6 #[.string s] w fun e w' => e = .returned (.bool true) ∧ Below w.heap.size w w' := by
  cases hok : (takeInt s.data.toList).2.2 with
  | false =>
    have H0 := Lib.hid (takeInt_no hok)
    clear hok
    go_enter Try.func6, Try.ntmps6
    go_wp2_with fail
    refine (awake_any _).mono ?_
    rintro e w1 ⟨rfl, b1⟩
    go_wp2_with fail
    refine (takeInt_not s _ (by omega) H0.out).mono ?_
    rintro e w2 ⟨rfl, q, rfl⟩
    go_wp2
    go_ret
    exact ⟨rfl, below_drew b1 _⟩
  | true =>
    obtain ⟨n, r, hnr⟩ : ∃ (n : Int) (r : ByteArray), takeInt s.data.toList = (n, r.data.toList, true) := ⟨(takeInt s.data.toList).1, ⟨(takeInt s.data.toList).2.1.toArray⟩, by rw [list_of, ← hok]⟩
    have hlt : r.size < s.size := by have := takeInt_shorter hok; rw [hnr] at this; simpa using this
    have hf := (takeInt_form hok).2
    have hform := (takeInt_form hok).1
    rw [hnr] at hf hform
    have hl := enc_le hf
    obtain ⟨x, hx⟩ : ∃ x : ByteArray, enc n = x.data.toList := ⟨⟨(enc n).toArray⟩, by simp⟩
    have hxs : x.size ≤ 10 := by rw [hx] at hl; simpa using hl
    have hcat : x ++ r = s := by
      apply ByteArray.ext
      apply Array.toList_inj.1
      simp only at hform
      rw [hform, hx]; simp
    have HC := Lib.hid hcat
    have HX := Lib.hid hx
    have H0 := Lib.hid hnr
    clear hcat hx hnr hok hform
    go_enter Try.func6, Try.ntmps6
    go_wp2_with fail
    refine (awake_any _).mono ?_
    rintro e w1 ⟨rfl, b1⟩
    go_wp2_with fail
    refine (takeInt_yes s r n _ (by omega) H0.out).mono ?_
    rintro e w2 ⟨rfl, q, rfl⟩
    go_wp2_with fail
    refine (int_is n x _ hf HX.out).mono ?_
    rintro e w3 ⟨rfl, b3⟩
    have hcat := HC.out
    go_wp2
    go_ret
    exact ⟨rfl, below_next (below_drew b1 _) b3⟩

/-- the bytes of a number, as a text -/
def encB (n : Int) : ByteArray := ⟨(enc n).toArray⟩
theorem encB_list (n : Int) : enc n = (encB n).data.toList := by simp [encB]
theorem encB_size (n : Int) : (encB n).size = (enc n).length := by unfold encB; rfl
theorem encB_le {n : Int} (h : Fits n) : (encB n).size ≤ 10 := by rw [encB_size]; exact enc_le h
theorem encB_pos (n : Int) : 1 ≤ (encB n).size := by rw [encB_size]; exact enc_pos n
theorem intB (n : Int) (w : World) (h : Fits n) :
    Calls Try.prog 12 #[.int .i64 n] w fun e w' => e = .returned (.string (encB n)) ∧ Below w.heap.size w w' := int_is n _ w h (encB_list n)

theorem len_grows {a b : Int} (h : (0 ≤ a ∧ a ≤ b) ∨ (b ≤ a ∧ a < 0)) : (encB a).size ≤ (encB b).size := by
  rw [encB_size, encB_size]; unfold enc
  apply uv_mono
  unfold zigzag
  split <;> split <;> omega

set_option maxRecDepth 100000 in
set_option maxHeartbeats 400000 in
theorem grows_same (a b : Int) (w : World) (ha : Fits a) (hb : Fits b) (hs : decide (a < 0) = decide (b < 0)) :
    Calls Try.prog 10 #[.int .i64 a, .int .i64 b] w fun e w' => e = .returned (.bool true) ∧ Below w.heap.size w w' := by
  have la := encB_le ha
  have lb := encB_le hb
  have hcase : (∃ (d1 : decide (a < 0) = true) (d2 : decide (b < 0) = true) (d3 : decide (a < b) = true) (d4 : (a != b) = true), (encB b).size ≤ (encB a).size) ∨
      (∃ (d1 : decide (a < 0) = true) (d2 : decide (b < 0) = true) (d3 : decide (a < b) = false), (encB a).size ≤ (encB b).size) ∨
      (∃ (d1 : decide (a < 0) = false) (d2 : decide (b < 0) = false) (d3 : decide (a < b) = false) (d4 : (a != b) = true), (encB b).size ≤ (encB a).size) ∨
      (∃ (d1 : decide (a < 0) = false) (d2 : decide (b < 0) = false) (d3 : decide (a < b) = false) (d4 : (a != b) = false), (encB a).size ≤ (encB b).size) ∨
      (∃ (d1 : decide (a < 0) = false) (d2 : decide (b < 0) = false) (d3 : decide (a < b) = true), (encB a).size ≤ (encB b).size) := by
    by_cases c1 : a < 0
    · have c2 : b < 0 := by simpa [c1] using hs
      by_cases c3 : a < b
      · exact .inl ⟨by simpa using c1, by simpa using c2, by simpa using c3, by simp; omega, len_grows (.inr ⟨by omega, by omega⟩)⟩
      · exact .inr (.inl ⟨by simpa using c1, by simpa using c2, by simpa using c3, len_grows (.inr ⟨by omega, by omega⟩)⟩)
    · have c2 : ¬ b < 0 := by simpa [c1] using hs
      by_cases c3 : a < b
      · exact .inr (.inr (.inr (.inr ⟨by simpa using c1, by simpa using c2, by simpa using c3, len_grows (.inl ⟨by omega, by omega⟩)⟩)))
      · by_cases c4 : a = b
        · exact .inr (.inr (.inr (.inl ⟨by simpa using c1, by simpa using c2, by simpa using c3, by simpa using c4, len_grows (.inl ⟨by omega, by omega⟩)⟩)))
        · exact .inr (.inr (.inl ⟨by simpa using c1, by simpa using c2, by simpa using c3, by simpa using c4, len_grows (.inl ⟨by omega, by omega⟩)⟩))
  clear hs
  rcases hcase with ⟨d1, d2, d3, d4, hle⟩ | ⟨d1, d2, d3, hle⟩ | ⟨d1, d2, d3, d4, hle⟩ | ⟨d1, d2, d3, d4, hle⟩ | ⟨d1, d2, d3, hle⟩
  all_goals
    go_enter Try.func10, Try.ntmps10
    go_wp2_with fail
    refine (awake_any _).mono ?_
    rintro e w1 ⟨rfl, b1⟩
    go_wp2_with fail
    refine (intB a _ ha).mono ?_
    rintro e w2 ⟨rfl, b2⟩
    go_wp2_with fail
    refine (intB b _ hb).mono ?_
    rintro e w3 ⟨rfl, b3⟩
    go_wp2
    go_ret
    exact ⟨rfl, below_next (below_next b1 b2) b3⟩

set_option maxRecDepth 100000 in
set_option maxHeartbeats 400000 in
theorem grows_walk (a b : Int) (w : World) (ha : Fits a) (hb : Fits b) :
    Calls Try.prog 10 #[.int .i64 a, .int .i64 b] w fun e w' => e = .returned (.bool true) ∧ Below w.heap.size w w' := by
  by_cases c : decide (a < 0) = decide (b < 0)
  · exact grows_same a b w ha hb c
  · have hcase : (decide (a < 0) = true ∧ decide (b < 0) = false) ∨ (decide (a < 0) = false ∧ decide (b < 0) = true) := by
      cases h1 : decide (a < 0) <;> cases h2 : decide (b < 0) <;> simp_all
    clear c
    rcases hcase with ⟨d1, d2⟩ | ⟨d1, d2⟩
    all_goals
      go_enter Try.func10, Try.ntmps10
      go_wp2_with fail
      refine (awake_any _).mono ?_
      rintro e w1 ⟨rfl, b1⟩
      go_wp2
      go_ret
      exact ⟨rfl, b1⟩

theorem extract_list (x : ByteArray) (k : Nat) : (x.extract 0 k).data.toList = x.data.toList.take k := by rw [Lib.extract_data]; simp
theorem apart_lists {a b : Int} (ha : Fits a) (hb : Fits b) (h : a ≠ b) : ¬ (encB a = (encB b).extract 0 (encB a).size) := by
  intro e
  have e1 : enc a = (enc b).take (encB a).size := by
    have := congrArg (fun s : ByteArray => s.data.toList) e
    simp only [extract_list] at this
    rw [encB_list a, encB_list b]; exact this
  have e2 : enc b = enc a ++ (enc b).drop (encB a).size := by
    conv => lhs; rw [← List.take_append_drop (encB a).size (enc b), ← e1]
  exact h (enc_apart hb ha e2).symm

set_option maxRecDepth 100000 in
set_option maxHeartbeats 400000 in
theorem apart_walk (a b c : Int) (w : World) (ha : Fits a) (hb : Fits b) (_hc : Fits c) :
    Calls Try.prog 7 #[.int .i64 a, .int .i64 b, .int .i64 c] w fun e w' => e = .returned (.bool true) ∧ Below w.heap.size w w' := by
  have la := encB_le ha
  have lb := encB_le hb
  have pa := encB_pos a
  have pb := encB_pos b
  obtain ⟨K, hK, hKl⟩ : ∃ K : Nat, wrap64 ((IntKind.u64.wrap c).tmod ((encB a).size : Int)) = (K : Int) ∧ K < (encB a).size := by
    have h0 : 0 ≤ IntKind.u64.wrap c := by rw [IntKind.wrap_u64]; omega
    rw [Int.tmod_eq_emod_of_nonneg h0]
    have h1 := Int.emod_nonneg (IntKind.u64.wrap c) (b := ((encB a).size : Int)) (by omega)
    have h2 := Int.emod_lt_of_pos (IntKind.u64.wrap c) (b := ((encB a).size : Int)) (by omega)
    generalize IntKind.u64.wrap c % ((encB a).size : Int) = z at h1 h2 ⊢
    exact ⟨z.toNat, by unfold wrap64; omega, by omega⟩
  have hT : takeInt ((encB a).extract 0 K).data.toList = (0, [], false) := by
    rw [extract_list, ← encB_list]
    exact takeInt_no (enc_cut ha (by rw [← encB_size]; exact hKl))
  have HT := Lib.hid hT
  have hna : ¬ encB a = ByteArray.empty := by intro e; rw [e] at pa; exact absurd pa (by decide)
  have hnb : ¬ encB b = ByteArray.empty := by intro e; rw [e] at pb; exact absurd pb (by decide)
  have ea : (((encB a).size : Int) == 0) = false := by simp; omega
  have eb : (((encB b).size : Int) == 0) = false := by simp; omega
  clear hT
  by_cases hab : a = b
  · subst hab
    go_enter Try.func7, Try.ntmps7
    go_wp2_with fail
    refine (awake_any _).mono ?_
    rintro e w1 ⟨rfl, b1⟩
    go_wp2_with fail
    refine (intB a _ ha).mono ?_
    rintro e w2 ⟨rfl, b2⟩
    go_wp2_with fail
    refine (intB a _ ha).mono ?_
    rintro e w3 ⟨rfl, b3⟩
    go_wp2_with fail
    refine (takeInt_not _ _ (by rw [ByteArray.size_extract]; omega) HT.out).mono ?_
    rintro e w4 ⟨rfl, q, rfl⟩
    go_wp2
    go_quiet (fail)
    go_wp2
    go_ret
    exact ⟨rfl, below_drew (below_drew (below_next (below_next b1 b2) b3) _) _⟩
  · have hne : (a == b) = false := by simpa using hab
    have hcase : (∃ (d : ¬ (encB b).size < (encB a).size), ((encB a).toList == ((encB b).extract 0 (encB a).size).toList) = false) ∨ (∃ (d : (encB b).size < (encB a).size), (((encB a).extract 0 (encB b).size).toList == (encB b).toList) = false) := by
      by_cases d : (encB b).size < (encB a).size
      · exact .inr ⟨d, str_ne fun e => apart_lists hb ha (Ne.symm hab) e.symm⟩
      · exact .inl ⟨d, str_ne (apart_lists ha hb hab)⟩
    clear hab
    rcases hcase with ⟨d, hx⟩ | ⟨d, hx⟩
    all_goals
      go_enter Try.func7, Try.ntmps7
      go_wp2_with fail
      refine (awake_any _).mono ?_
      rintro e w1 ⟨rfl, b1⟩
      go_wp2_with fail
      refine (intB a _ ha).mono ?_
      rintro e w2 ⟨rfl, b2⟩
      go_wp2_with fail
      refine (intB b _ hb).mono ?_
      rintro e w3 ⟨rfl, b3⟩
      go_wp2_with fail
      refine (takeInt_not _ _ (by rw [ByteArray.size_extract]; omega) HT.out).mono ?_
      rintro e w4 ⟨rfl, q, rfl⟩
      go_wp2
      go_quiet (fail)
      go_wp2
      go_ret
      exact ⟨rfl, below_drew (below_drew (below_next (below_next b1 b2) b3) _) _⟩
end Go.Proofs.Ytelnodnacgpilaa.Nib
