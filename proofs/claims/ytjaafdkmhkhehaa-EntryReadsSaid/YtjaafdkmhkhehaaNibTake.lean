/- The walks of nib.Str, nib.TakeInt, nib.TakeStr. -/
import Derived.Test.YtjaafdkmhkhehaaNibInt
import Derived.Lib.Strings
namespace Go.Proofs.Ytjaafdkmhkhehaa.Nib
open Go.RowKit
open Go.Lib (zigzag uvarint uvarint_small uvarint_big)
/-- a text as a list: the parts that Go cuts -/
theorem str_drop (s : ByteArray) (k : Nat) : (⟨(s.data.toList.drop k).toArray⟩ : ByteArray) = s.extract k s.size := by
  apply ByteArray.ext
  apply Array.toList_inj.1
  rw [Lib.extract_data, List.take_of_length_le (by simp)]
theorem str_take (s : ByteArray) (k : Nat) : (⟨(s.data.toList.take k).toArray⟩ : ByteArray) = s.extract 0 k := by
  apply ByteArray.ext
  apply Array.toList_inj.1
  rw [Lib.extract_data]
  simp
theorem str_inj {a b : ByteArray} (h : a.data.toList = b.data.toList) : a = b := ByteArray.ext (Array.toList_inj.1 h)
/-- Go's '==' on texts, as the walk spells it -/
theorem str_ne {a b : ByteArray} (h : ¬ a = b) : (a.toList == b.toList) = false := by
  rw [ByteArray.toList_eq, ByteArray.toList_eq]
  exact beq_eq_false_iff_ne.2 fun e => h (str_inj e)
theorem str_same {a b : ByteArray} (h : a = b) : (a.toList == b.toList) = true := by subst h; exact beq_self_eq_true _
theorem quiet_left {P : Program} {f : FuncId} {args : Array Value} {w : World} {n : Nat} {v : Value}
    (h : Calls P f args (w.drewN n) fun e w' => e = .returned v ∧ w.drewN n = w') : Calls P f args (w.drewN n) fun e w'' => e = .returned v ∧ ∃ m, w'' = w.drewN m :=
  h.mono fun _ _ ⟨he, hm⟩ => ⟨he, n, hm.symm⟩

/-- what the round's bit work comes to -/
def orShl (v b k : Nat) : Int := bits .or .u64 (v : Int) (IntKind.u64.wrap (IntKind.u64.wrap (bits .andNot .u8 (b : Int) 128) * 2 ^ (k * 7)))
theorem u8_not128 : ∀ b : Fin 256, bits .andNot .u8 (b.val : Int) 128 = ((b.val % 128 : Nat) : Int) := by decide +kernel
theorem orShl_range (v b k : Nat) : ∃ V : Nat, orShl v b k = V ∧ V < 18446744073709551616 := by
  unfold orShl
  generalize IntKind.u64.wrap (IntKind.u64.wrap (bits .andNot .u8 (b : Int) 128) * 2 ^ (k * 7)) = y
  have : bits .or .u64 (v : Int) y = IntKind.u64.wrap ((BitVec.ofInt 64 (v : Int) ||| BitVec.ofInt 64 y).toNat : Int) := rfl
  rw [this, IntKind.wrap_u64]
  generalize ((BitVec.ofInt 64 (v : Int) ||| BitVec.ofInt 64 y).toNat : Int) = x
  exact ⟨(x % 18446744073709551616).toNat, by omega, by omega⟩
theorem orShl_eq {v b k : Nat} (hb : b < 256) (hk : k ≤ 9) (hv : v < 128 ^ k) (hl : b % 128 * 128 ^ k < 18446744073709551616) : orShl v b k = ((v + b % 128 * 128 ^ k : Nat) : Int) := by
  have h1 : bits .andNot .u8 (b : Int) 128 = ((b % 128 : Nat) : Int) := u8_not128 ⟨b, hb⟩
  have hp : (2 : Nat) ^ (k * 7) = 128 ^ k := by rw [Nat.mul_comm, Nat.pow_mul]
  have e1 : IntKind.u64.wrap ((b % 128 : Nat) : Int) = ((b % 128 : Nat) : Int) := by rw [IntKind.wrap_u64]; omega
  have e2 : ((b % 128 : Nat) : Int) * 2 ^ (k * 7) = ((b % 128 * 128 ^ k : Nat) : Int) := by
    rw [Int.natCast_mul, ← hp]; simp
  have e3 : IntKind.u64.wrap ((b % 128 * 128 ^ k : Nat) : Int) = ((b % 128 * 128 ^ k : Nat) : Int) := by rw [IntKind.wrap_u64]; omega
  unfold orShl
  rw [h1, e1, e2, e3]
  have hv64 : v < 18446744073709551616 := Nat.lt_of_lt_of_le hv (Nat.le_trans (Nat.pow_le_pow_right (by decide) hk) (by decide))
  have ep : ((2 : Int) ^ (k * 7)) = ((128 ^ k : Nat) : Int) := by rw [← hp]; simp
  have hj := bits_join_low .u64 64 (by decide) wraps_u64 (k * 7) (v : Int) ((b % 128 * 128 ^ k : Nat) : Int) (by omega) (by rw [ep]; omega) (by omega) (by omega)
    (by rw [ep]; exact_mod_cast Nat.mul_mod_left _ _) (by omega)
  rw [hj]; omega

/-- behind k rounds -/
def TakeAt (l : List UInt8) (k v : Nat) : Prop := v < 18446744073709551616 ∧ (k < 10 → v < 128 ^ k ∧ tk 0 0 l = tk k v (l.drop k)) ∧ (k = 10 → tk 0 0 l = none)

theorem TakeAt.zero (l : List UInt8) : TakeAt l 0 0 := ⟨by omega, fun _ => ⟨by decide, rfl⟩, fun h => absurd h (by omega)⟩
theorem pow9 {k : Nat} (h : k ≤ 8) {b : Nat} (hb : b < 128) : b * 128 ^ k < 128 ^ (k + 1) ∧ 128 ^ (k + 1) ≤ 9223372036854775808 := by
  refine ⟨?_, Nat.le_trans (Nat.pow_le_pow_right (by decide) (show k + 1 ≤ 9 by omega)) (by decide)⟩
  rw [Nat.pow_succ, Nat.mul_comm (128 ^ k) 128]
  exact Nat.mul_lt_mul_of_pos_right hb (Nat.pow_pos (by decide))
theorem drop_at {s : ByteArray} {k : Nat} (h : k < s.size) : s.data.toList.drop k = s[k] :: s.data.toList.drop (k + 1) := by
  rw [List.drop_eq_getElem_cons (by simpa using h)]; rfl
theorem TakeAt.go {s : ByteArray} {k v : Nat} (h : TakeAt s.data.toList k v) (hk : k < 10) (hl : k < s.size) (hb : 128 ≤ (s[k]).toNat) : ∃ V : Nat, orShl v (s[k]).toNat k = V ∧ TakeAt s.data.toList (k + 1) V := by
  obtain ⟨_, h1, _⟩ := h
  obtain ⟨hv, ht⟩ := h1 hk
  rw [drop_at hl, tk_go hk hb] at ht
  have hb2 := (s[k]).toNat_lt
  by_cases h9 : k = 9
  · subst h9
    obtain ⟨V, e, hV⟩ := orShl_range v (s[9]).toNat 9
    refine ⟨V, e, hV, fun h => absurd h (by omega), fun _ => ?_⟩
    rw [ht]; exact tk_ten _ _
  · have hp := pow9 (k := k) (by omega) (b := (s[k]).toNat % 128) (by omega)
    refine ⟨_, orShl_eq hb2 (by omega) hv (by omega), ?_, fun _ => ⟨?_, ht⟩, fun h => absurd h (by omega)⟩
    · have : 128 ^ k ≤ 128 ^ (k + 1) := Nat.pow_le_pow_right (by decide) (by omega)
      omega
    · have e : 128 ^ (k + 1) = 128 ^ k * 128 := Nat.pow_succ ..
      have h2 : (s[k]).toNat % 128 * 128 ^ k ≤ 127 * 128 ^ k := Nat.mul_le_mul_right _ (by omega)
      omega
theorem TakeAt.end_ {s : ByteArray} {k v : Nat} (h : TakeAt s.data.toList k v) (hk : k < 10) (hl : k < s.size) (hb : (s[k]).toNat < 128) (hc : canEnd k (s[k]).toNat = true) :
    ∃ V : Nat, orShl v (s[k]).toNat k = V ∧ V < 18446744073709551616 ∧ takeInt s.data.toList = (zag V, s.data.toList.drop (k + 1), true) := by
  obtain ⟨_, h1, _⟩ := h
  obtain ⟨hv, ht⟩ := h1 hk
  unfold canEnd at hc
  have hc := of_decide_eq_true hc
  rw [drop_at hl, tk_end hk hb hc] at ht
  have hm : (s[k]).toNat % 128 = (s[k]).toNat := by omega
  have hle : (s[k]).toNat * 128 ^ k < 9223372036854775809 := by
    by_cases h9 : k = 9
    · subst h9
      have : (s[9]).toNat = 1 := by omega
      rw [this]; decide
    · have hp := pow9 (k := k) (by omega) hb
      omega
  have hv9 : v < 9223372036854775808 := Nat.lt_of_lt_of_le hv (Nat.le_trans (Nat.pow_le_pow_right (by decide) (show k ≤ 9 by omega)) (by decide))
  refine ⟨_, orShl_eq (by omega) (by omega) hv (by rw [hm]; omega), by rw [hm]; omega, ?_⟩
  unfold takeInt
  rw [ht, hm]
theorem TakeAt.none_ {s : ByteArray} {k v : Nat} (h : TakeAt s.data.toList k v) (hk : k < 10) (hl : k < s.size) (hb : (s[k]).toNat < 128) (hc : canEnd k (s[k]).toNat = false) : takeInt s.data.toList = (0, [], false) := by
  obtain ⟨_, h1, _⟩ := h
  obtain ⟨hv, ht⟩ := h1 hk
  unfold canEnd at hc
  have hc := of_decide_eq_false hc
  rw [drop_at hl, tk_no hb hc] at ht
  unfold takeInt; rw [ht]
theorem TakeAt.over {s : ByteArray} {k v : Nat} (h : TakeAt s.data.toList k v) (hk : k ≤ 10) (he : ¬ (k < s.size ∧ k < 10)) : takeInt s.data.toList = (0, [], false) := by
  obtain ⟨_, h1, h2⟩ := h
  have ht : tk 0 0 s.data.toList = none := by
    by_cases h10 : k = 10
    · exact h2 h10
    · rw [(h1 (by omega)).2, List.drop_of_length_le (by simp; omega)]; rfl
  unfold takeInt; rw [ht]

set_option maxRecDepth 100000 in
set_option maxHeartbeats 400000 in
theorem str_any (s : ByteArray) (w : World) (h : s.size ≤ 140737488351232) :
    Calls Try.prog 73 #[.string s] w fun e w' => e = .returned (.string ⟨(encStr s.data.toList).toArray⟩) ∧ Below w.heap.size w w' := by
  have hl : (enc (s.size : Int)).length ≤ 10 := enc_le (fits_mk (by omega) (by omega))
  go_enter Try.func73, Try.ntmps73
  go_wp2_with ((with_reducible refine (int_any _ _ (fits_mk (by omega) (by omega))).mono ?_); rintro e w' ⟨rfl, hb⟩)
  go_ret
  refine ⟨?_, hb⟩
  unfold encStr
  congr 2

def takeVal (l : List UInt8) : Value := .tuple #[.int .i64 (takeInt l).1, .string ⟨(takeInt l).2.1.toArray⟩, .bool (takeInt l).2.2]
theorem takeVal_no {l : List UInt8} (h : takeInt l = (0, [], false)) : takeVal l = .tuple #[.int .i64 0, .string ⟨#[]⟩, .bool false] := by unfold takeVal; rw [h]
theorem takeVal_yes {s : ByteArray} {V k : Nat} (h : takeInt s.data.toList = (zag V, s.data.toList.drop k, true)) : takeVal s.data.toList = .tuple #[.int .i64 (zag V), .string (s.extract k s.size), .bool true] := by
  unfold takeVal; rw [h]; rw [str_drop]

set_option maxRecDepth 100000 in
set_option maxHeartbeats 400000 in
theorem takeInt_any (s : ByteArray) (w : World) (h : s.size ≤ 9223372036854775807) :
    Calls Try.prog 77 #[.string s] w fun e w' => e = .returned (takeVal s.data.toList) ∧ ∃ q, w' = w.drewN q := by
  by_cases h10 : s.size ≤ 10
  all_goals
    go_enter Try.func77, Try.ntmps77
    go_wp2
    go_loop [5, 11] (fun u i => ∃ (k v : Nat), i = .int .i64 k ∧ u = .int .u64 v ∧ k ≤ s.size ∧ k ≤ 10 ∧ TakeAt s.data.toList k v) (fun _ i => 10 - (intOf i).toNat)
    case atStart => exact ⟨0, 0, rfl, rfl, by omega, by omega, TakeAt.zero _⟩
    case round =>
      obtain ⟨k, v, rfl, rfl, hk, hk10, hv⟩ := hrel
      have HV := Lib.hid hv
      clear hv
      by_cases hlt : k < s.size ∧ k < 10
      · obtain ⟨hlt1, hlt2⟩ := hlt
        by_cases hb : 128 ≤ (s[k]).toNat
        · obtain ⟨V, hV, hT⟩ := HV.out.go hlt2 hlt1 hb
          unfold orShl at hV
          have HT := Lib.hid hT
          clear hT
          go_wp2
          go_round
          case rel => exact ⟨k + 1, V, by go_num, rfl, by omega, by omega, HT.out⟩
          case measure => simp [intOf]; omega
        · have hb256 : (s[k]).toNat < 256 := (s[k]).toNat_lt
          cases hc : canEnd k (s[k]).toNat with
          | true =>
            obtain ⟨V, hV, hV64, hT⟩ := HV.out.end_ hlt2 hlt1 (by omega) hc
            unfold orShl at hV
            have HT := Lib.hid (takeVal_yes hT)
            have H64 := Lib.hid hV64
            clear hT hV64
            go_wp2_with (go_at_call 88; (with_reducible refine (ends_any _ _ _ hlt2 hb256).mono ?_); rintro e w' ⟨rfl, rfl⟩)
            go_quiet ((go_at_call 89; exact quiet_left (unfold_any V _ H64.out)))
            go_wp2
            go_ret3
            exact ⟨by rw [HT.out]; rfl, _, rfl⟩
          | false =>
            have HT := Lib.hid (takeVal_no (HV.out.none_ hlt2 hlt1 (by omega) hc))
            go_wp2_with (go_at_call 88; (with_reducible refine (ends_any _ _ _ hlt2 hb256).mono ?_); rintro e w' ⟨rfl, rfl⟩)
            go_ret3
            exact ⟨by rw [HT.out]; rfl, 0, rfl⟩
      · have HT := Lib.hid (takeVal_no (HV.out.over hk10 hlt))
        go_wp2
        go_ret3
        exact ⟨by rw [HT.out]; rfl, 0, rfl⟩

theorem list_of (l : List UInt8) : (⟨l.toArray⟩ : ByteArray).data.toList = l := by simp
theorem takeInt_yes (s r : ByteArray) (n : Int) (w : World) (hs : s.size ≤ 9223372036854775807) (h : takeInt s.data.toList = (n, r.data.toList, true)) :
    Calls Try.prog 77 #[.string s] w fun e w' => e = .returned (.tuple #[.int .i64 n, .string r, .bool true]) ∧ ∃ q, w' = w.drewN q :=
  (takeInt_any s w hs).mono fun _ _ ⟨he, hq⟩ => ⟨by rw [he]; unfold takeVal; rw [h], hq⟩
theorem takeInt_not (s : ByteArray) (w : World) (hs : s.size ≤ 9223372036854775807) (h : takeInt s.data.toList = (0, [], false)) :
    Calls Try.prog 77 #[.string s] w fun e w' => e = .returned (.tuple #[.int .i64 0, .string ⟨#[]⟩, .bool false]) ∧ ∃ q, w' = w.drewN q :=
  (takeInt_any s w hs).mono fun _ _ ⟨he, hq⟩ => ⟨by rw [he, takeVal_no h], hq⟩

def takeStrVal (l : List UInt8) (most : Int) : Value := .tuple #[.string ⟨(takeStr l most).1.toArray⟩, .string ⟨(takeStr l most).2.1.toArray⟩, .bool (takeStr l most).2.2]
theorem takeStrVal_no {l : List UInt8} {most : Int} (h : takeStr l most = ([], [], false)) : takeStrVal l most = .tuple #[.string ⟨#[]⟩, .string ⟨#[]⟩, .bool false] := by unfold takeStrVal; rw [h]
theorem takeStrVal_yes {l : List UInt8} {r : ByteArray} {n : Nat} {most : Int} (h : takeStr l most = (r.data.toList.take n, r.data.toList.drop n, true)) : takeStrVal l most = .tuple #[.string (r.extract 0 n), .string (r.extract n r.size), .bool true] := by
  unfold takeStrVal; rw [h, str_take, str_drop]

set_option maxRecDepth 100000 in
set_option maxHeartbeats 400000 in
theorem takeStr_any (s : ByteArray) (most : Int) (w : World) (hs : s.size ≤ 9223372036854775807) :
    Calls Try.prog 90 #[.string s, .int .i64 most] w fun e w' => e = .returned (takeStrVal s.data.toList most) ∧ ∃ q, w' = w.drewN q := by
  cases hok : (takeInt s.data.toList).2.2 with
  | false =>
    have h0 := takeInt_no hok
    have HT := Lib.hid (takeStrVal_no (most := most) (show takeStr s.data.toList most = ([], [], false) by unfold takeStr; rw [h0]; simp))
    have H0 := Lib.hid h0
    clear h0 hok
    go_enter Try.func90, Try.ntmps90
    go_wp2_with ((with_reducible refine (takeInt_not s _ hs H0.out).mono ?_); rintro e w' ⟨rfl, q, rfl⟩)
    go_ret3
    exact ⟨by rw [HT.out]; rfl, _, rfl⟩
  | true =>
    obtain ⟨n, r, hnr⟩ : ∃ (n : Int) (r : ByteArray), takeInt s.data.toList = (n, r.data.toList, true) := ⟨(takeInt s.data.toList).1, ⟨(takeInt s.data.toList).2.1.toArray⟩, by rw [list_of, ← hok]⟩
    have hrl : r.size ≤ s.size := by have := takeInt_len s.data.toList; rw [hnr] at this; simpa using this
    have hf := takeInt_fits s.data.toList
    rw [hnr] at hf
    obtain ⟨f1, f2⟩ := hf
    have hT : takeStr s.data.toList most = if 0 ≤ n ∧ n ≤ most ∧ n ≤ (r.size : Int) then (r.data.toList.take n.toNat, r.data.toList.drop n.toNat, true) else ([], [], false) := by
      unfold takeStr; rw [hnr]; simp
    have H0 := Lib.hid hnr
    clear hnr hok
    by_cases hc : 0 ≤ n ∧ n ≤ most ∧ n ≤ (r.size : Int)
    · rw [if_pos hc] at hT
      have HT := Lib.hid (takeStrVal_yes hT)
      obtain ⟨c1, c2, c3⟩ := hc
      clear hT
      obtain ⟨m, rfl⟩ := Int.eq_ofNat_of_zero_le c1
      go_enter Try.func90, Try.ntmps90
      go_wp2_with ((with_reducible refine (takeInt_yes s r _ _ hs H0.out).mono ?_); rintro e w' ⟨rfl, q, rfl⟩)
      go_quiet (fail)
      go_wp2
      go_ret3
      exact ⟨by rw [HT.out]; rfl, _, World.drewN_drewN ..⟩
    · rw [if_neg hc] at hT
      have HT := Lib.hid (takeStrVal_no hT)
      clear hT
      by_cases c1 : n < 0
      · go_enter Try.func90, Try.ntmps90
        go_wp2_with ((with_reducible refine (takeInt_yes s r _ _ hs H0.out).mono ?_); rintro e w' ⟨rfl, q, rfl⟩)
        go_ret3
        exact ⟨by rw [HT.out]; rfl, _, rfl⟩
      · by_cases c2 : most < n
        · go_enter Try.func90, Try.ntmps90
          go_wp2_with ((with_reducible refine (takeInt_yes s r _ _ hs H0.out).mono ?_); rintro e w' ⟨rfl, q, rfl⟩)
          go_ret3
          exact ⟨by rw [HT.out]; rfl, _, rfl⟩
        · have c3 : (r.size : Int) < n := by omega
          go_enter Try.func90, Try.ntmps90
          go_wp2_with ((with_reducible refine (takeInt_yes s r _ _ hs H0.out).mono ?_); rintro e w' ⟨rfl, q, rfl⟩)
          go_ret3
          exact ⟨by rw [HT.out]; rfl, _, rfl⟩
end Go.Proofs.Ytjaafdkmhkhehaa.Nib
