/- The walks of the document's own answers for layer 1: fold, TakeInt, TakeStr. -/
import Derived.Test.YtjaafdkmhkhehaaNibUse
namespace Go.Proofs.Ytjaafdkmhkhehaa.Nib
open Go.RowKit
open Go.Lib (zigzag uvarint uvarint_small uvarint_big)

set_option maxRecDepth 100000 in
set_option maxHeartbeats 400000 in
theorem refFold (n : Int) (w : World) (h : Fits n) :
    Calls Try.prog 74 #[.int .i64 n] w fun e w' => e = .returned (.int .u64 (zigzag n : Nat)) ∧ w = w' := by
  obtain ⟨h1, h2⟩ := h
  by_cases c : n < 0
  · have e : 2 * -(n + 1) + 1 = ((zigzag n : Nat) : Int) := by
      unfold zigzag; rw [if_neg (by omega)]; omega
    have E := Lib.hid e
    clear e
    go_enter Try.func74, Try.ntmps74
    go_wp2
    go_ret
    exact ⟨ret_int' E.out, rfl⟩
  · have e : 2 * n = ((zigzag n : Nat) : Int) := by
      unfold zigzag; rw [if_pos (by omega)]; omega
    have E := Lib.hid e
    clear e
    go_enter Try.func74, Try.ntmps74
    go_wp2
    go_ret
    exact ⟨ret_int' E.out, rfl⟩

/-- what the reference's round comes to -/
def addShl (v b k : Nat) : Int := IntKind.u64.wrap ((v : Int) + IntKind.u64.wrap ((b : Int) % 128 * 2 ^ (7 * k)))
theorem addShl_range (v b k : Nat) : ∃ V : Nat, addShl v b k = V ∧ V < 18446744073709551616 := by
  unfold addShl
  rw [IntKind.wrap_u64]
  generalize (v : Int) + IntKind.u64.wrap ((b : Int) % 128 * 2 ^ (7 * k)) = x
  exact ⟨(x % 18446744073709551616).toNat, by omega, by omega⟩
theorem addShl_eq {v b k : Nat} (hl : v + b % 128 * 128 ^ k < 18446744073709551616) : addShl v b k = ((v + b % 128 * 128 ^ k : Nat) : Int) := by
  unfold addShl
  have hp : (2 : Nat) ^ (7 * k) = 128 ^ k := by rw [Nat.pow_mul]
  have e2 : (b : Int) % 128 * 2 ^ (7 * k) = ((b % 128 * 128 ^ k : Nat) : Int) := by
    rw [Int.natCast_mul, ← hp]; simp
  rw [e2, IntKind.wrap_u64, IntKind.wrap_u64]
  omega
theorem TakeAt.bound {l : List UInt8} {k v : Nat} (h : TakeAt l k v) (hk : k < 10) (b : Nat) (hb : k ≤ 8 ∨ b = 1) (hb' : b < 128) : v + b * 128 ^ k < 18446744073709551616 := by
  have hv := (h.2.1 hk).1
  have hv9 : v < 9223372036854775808 := Nat.lt_of_lt_of_le hv (Nat.le_trans (Nat.pow_le_pow_right (by decide) (show k ≤ 9 by omega)) (by decide))
  by_cases h9 : k = 9
  · subst h9
    have : b = 1 := by omega
    subst this
    have h3 : (1 : Nat) * 128 ^ 9 = 9223372036854775808 := by decide
    omega
  · have hp := pow9 (k := k) (by omega) (b := b) hb'
    omega
theorem TakeAt.go2 {s : ByteArray} {k v : Nat} (h : TakeAt s.data.toList k v) (hk : k < 10) (hl : k < s.size) {b : Nat} (he : (s[k]).toNat = b) (hb : 128 ≤ b) : ∃ V : Nat, addShl v b k = V ∧ TakeAt s.data.toList (k + 1) V := by
  subst he
  by_cases h9 : k = 9
  · obtain ⟨V, e, hV⟩ := addShl_range v (s[k]).toNat k
    obtain ⟨V', _, hT⟩ := h.go hk hl hb
    exact ⟨V, e, hV, fun h => absurd h (by omega), hT.2.2⟩
  · obtain ⟨V', e', hT⟩ := h.go hk hl hb
    have hb2 := (s[k]).toNat_lt
    have hbd := h.bound hk ((s[k]).toNat % 128) (.inl (by omega)) (Nat.mod_lt _ (by decide))
    have e2 := orShl_eq (v := v) (b := (s[k]).toNat) (k := k) hb2 (by omega) (h.2.1 hk).1 (by omega)
    refine ⟨V', ?_, hT⟩
    rw [addShl_eq hbd, ← e2, e']
theorem TakeAt.end2 {s : ByteArray} {k v : Nat} (h : TakeAt s.data.toList k v) (hk : k < 10) (hl : k < s.size) {b : Nat} (he : (s[k]).toNat = b) (hb : b < 128) (hc : canEnd k b = true) :
    ∃ V : Nat, addShl v b k = V ∧ V < 18446744073709551616 ∧ takeInt s.data.toList = (zag V, s.data.toList.drop (k + 1), true) := by
  subst he
  obtain ⟨V, e, hV, hT⟩ := h.end_ hk hl hb hc
  have hc' := of_decide_eq_true hc
  have hm : (s[k]).toNat % 128 = (s[k]).toNat := by omega
  have hbd := h.bound hk (s[k]).toNat (by omega) hb
  have e2 := orShl_eq (v := v) (b := (s[k]).toNat) (k := k) (by omega) (by omega) (h.2.1 hk).1 (by rw [hm]; omega)
  refine ⟨V, ?_, hV, hT⟩
  rw [addShl_eq (by rw [hm]; exact hbd), ← e2, e]
theorem TakeAt.none2 {s : ByteArray} {k v : Nat} (h : TakeAt s.data.toList k v) (hk : k < 10) (hl : k < s.size) {b : Nat} (he : (s[k]).toNat = b) (hb : b < 128) (hc : canEnd k b = false) : takeInt s.data.toList = (0, [], false) := by
  subst he; exact h.none_ hk hl hb hc
theorem TakeAt.nine {s : ByteArray} {k v : Nat} (h : TakeAt s.data.toList k v) (hk : k = 9) (hl : k < s.size) {b : Nat} (he : (s[k]).toNat = b) (hb : 1 < b % 128) : takeInt s.data.toList = (0, [], false) := by
  by_cases hc : b < 128
  · exact h.none2 (by omega) hl he hc (by unfold canEnd; simp; omega)
  · obtain ⟨V, _, hT⟩ := h.go2 (by omega) hl he (by omega)
    unfold takeInt
    rw [hT.2.2 (by omega)]

set_option maxRecDepth 100000 in
set_option maxHeartbeats 400000 in
theorem refTakeInt (s : ByteArray) (w : World) (h : s.size ≤ 9223372036854775807) :
    Calls Try.prog 60 #[.string s] w fun e w' => e = .returned (takeVal s.data.toList) ∧ ∃ q, w' = w.drewN q := by
  go_enter Try.func60, Try.ntmps60
  go_wp2
  go_loop [5, 6] (fun u i => ∃ (k v : Nat), i = .int .i64 k ∧ u = .int .u64 v ∧ k ≤ s.size ∧ k ≤ 10 ∧ TakeAt s.data.toList k v) (fun _ i => 10 - (intOf i).toNat)
  case atStart => exact ⟨0, 0, rfl, rfl, by omega, by omega, TakeAt.zero _⟩
  case round =>
    obtain ⟨k, v, rfl, rfl, hk, hk10, hv⟩ := hrel
    have HV := Lib.hid hv
    clear hv
    by_cases hlt : k < s.size ∧ k < 10
    · obtain ⟨hlt1, hlt2⟩ := hlt
      obtain ⟨b, hbe⟩ : ∃ b, (s[k]).toNat = b := ⟨_, rfl⟩
      have hb256 : b < 256 := by have := (s[k]).toNat_lt; omega
      by_cases h9 : k = 9 ∧ 1 < b % 128
      · obtain ⟨c1, c2⟩ := h9
        have HT := Lib.hid (takeVal_no (HV.out.nine c1 hlt1 hbe c2))
        have t9 : ((k : Int) == 9) = true := by simp; omega
        clear c1
        go_wp2
        go_ret3
        exact ⟨by rw [HT.out]; rfl, 0, rfl⟩
      · have hcase : (∃ (t9 : ((k : Int) == 9) = false), True) ∨ (∃ (t9 : ((k : Int) == 9) = true), b % 128 ≤ 1) := by
          by_cases c : k = 9
          · exact .inr ⟨by simp; omega, by omega⟩
          · exact .inl ⟨by simp; omega, trivial⟩
        clear h9
        by_cases hb : 128 ≤ b
        · obtain ⟨V, hV, hT⟩ := HV.out.go2 hlt2 hlt1 hbe hb
          unfold addShl at hV
          have HT := Lib.hid hT
          clear hT
          rcases hcase with ⟨t9, _⟩ | ⟨t9, t1⟩
          all_goals
            go_wp2
            go_round
            case rel => exact ⟨k + 1, V, by go_num, rfl, by omega, by omega, HT.out⟩
            case measure => simp [intOf]; omega
        · have hm : (b : Int) % 128 = (b : Int) := by omega
          cases hc : canEnd k b with
          | true =>
            obtain ⟨V, hV, hV64, hT⟩ := HV.out.end2 hlt2 hlt1 hbe (by omega) hc
            unfold addShl at hV
            rw [hm] at hV
            have HT := Lib.hid (takeVal_yes hT)
            have hc' := of_decide_eq_true hc
            clear hT hc
            have hz : (∃ (t0 : ((b : Int) == 0) = false), True) ∨ (∃ (t0 : ((b : Int) == 0) = true), decide (0 < k) = false) := by
              by_cases c : b = 0
              · exact .inr ⟨by simp; omega, by simp; omega⟩
              · exact .inl ⟨by simp; omega, trivial⟩
            clear hc'
            by_cases hp : V % 2 = 1
            · have tp : ((V : Int) % 2 == 1) = true := by simp; omega
              have HP := Lib.hid (show zag V = -((V : Int) / 2) - 1 by unfold zag; rw [if_pos hp]; omega)
              rcases hcase with ⟨t9, _⟩ | ⟨t9, t1⟩ <;> rcases hz with ⟨t0, _⟩ | ⟨t0, tk⟩
              all_goals
                go_wp2
                go_quiet (fail)
                go_wp2
                go_ret3
                exact ⟨by rw [HT.out, HP.out]; rfl, _, rfl⟩
            · have tp : ((V : Int) % 2 == 1) = false := by simp; omega
              have HP := Lib.hid (show zag V = (V : Int) / 2 by unfold zag; rw [if_neg hp]; omega)
              rcases hcase with ⟨t9, _⟩ | ⟨t9, t1⟩ <;> rcases hz with ⟨t0, _⟩ | ⟨t0, tk⟩
              all_goals
                go_wp2
                go_quiet (fail)
                go_wp2
                go_ret3
                exact ⟨by rw [HT.out, HP.out]; rfl, _, rfl⟩
          | false =>
            have HT := Lib.hid (takeVal_no (HV.out.none2 hlt2 hlt1 hbe (by omega) hc))
            have hc' := of_decide_eq_false hc
            have hb0 : b = 0 ∧ 0 < k := by
              rcases hcase with ⟨t9, _⟩ | ⟨t9, t1⟩
              · have : k ≠ 9 := by simp at t9; omega
                omega
              · omega
            obtain ⟨rfl, hk0⟩ := hb0
            clear hc' hc
            rcases hcase with ⟨t9, _⟩ | ⟨t9, t1⟩
            all_goals
              go_wp2
              go_ret3
              exact ⟨by rw [HT.out]; rfl, 0, rfl⟩
    · have HT := Lib.hid (takeVal_no (HV.out.over hk10 hlt))
      by_cases hs : k < s.size
      · have hk' : ¬ k < 10 := by omega
        go_wp2
        go_ret3
        exact ⟨by rw [HT.out]; rfl, 0, rfl⟩
      · go_wp2
        go_ret3
        exact ⟨by rw [HT.out]; rfl, 0, rfl⟩
theorem refTakeInt_yes (s r : ByteArray) (n : Int) (w : World) (hs : s.size ≤ 9223372036854775807) (h : takeInt s.data.toList = (n, r.data.toList, true)) :
    Calls Try.prog 60 #[.string s] w fun e w' => e = .returned (.tuple #[.int .i64 n, .string r, .bool true]) ∧ ∃ q, w' = w.drewN q :=
  (refTakeInt s w hs).mono fun _ _ ⟨he, hq⟩ => ⟨by rw [he]; unfold takeVal; rw [h], hq⟩
theorem refTakeInt_not (s : ByteArray) (w : World) (hs : s.size ≤ 9223372036854775807) (h : takeInt s.data.toList = (0, [], false)) :
    Calls Try.prog 60 #[.string s] w fun e w' => e = .returned (.tuple #[.int .i64 0, .string ⟨#[]⟩, .bool false]) ∧ ∃ q, w' = w.drewN q :=
  (refTakeInt s w hs).mono fun _ _ ⟨he, hq⟩ => ⟨by rw [he, takeVal_no h], hq⟩

set_option maxRecDepth 100000 in
set_option maxHeartbeats 400000 in
theorem refTakeStr (s : ByteArray) (most : Int) (w : World) (hs : s.size ≤ 9223372036854775807) :
    Calls Try.prog 80 #[.string s, .int .i64 most] w fun e w' => e = .returned (takeStrVal s.data.toList most) ∧ ∃ q, w' = w.drewN q := by
  cases hok : (takeInt s.data.toList).2.2 with
  | false =>
    have h0 := takeInt_no hok
    have HT := Lib.hid (takeStrVal_no (most := most) (show takeStr s.data.toList most = ([], [], false) by unfold takeStr; rw [h0]; simp))
    have H0 := Lib.hid h0
    clear h0 hok
    go_enter Try.func80, Try.ntmps80
    go_wp2_with ((with_reducible refine (refTakeInt_not s _ hs H0.out).mono ?_); rintro e w' ⟨rfl, q, rfl⟩)
    go_ret3
    exact ⟨by rw [HT.out]; rfl, _, rfl⟩
  | true =>
    obtain ⟨n, r, hnr⟩ : ∃ (n : Int) (r : ByteArray), takeInt s.data.toList = (n, r.data.toList, true) := ⟨(takeInt s.data.toList).1, ⟨(takeInt s.data.toList).2.1.toArray⟩, by rw [list_of, ← hok]⟩
    have hrl : r.size ≤ s.size := by have := takeInt_len s.data.toList; rw [hnr] at this; simpa using this
    have hf := takeInt_fits s.data.toList
    rw [hnr] at hf
    obtain ⟨f1, f2⟩ := hf
    have hT : takeStr s.data.toList most = if 0 ≤ n ∧ n ≤ most ∧ n ≤ (r.size : Int) then (r.data.toList.take n.toNat, r.data.toList.drop n.toNat, true) else ([], [], false) := by
      unfold takeStr; rw [hnr]; simp
    have H0 := Lib.hid hnr
    clear hnr hok
    by_cases hc : 0 ≤ n ∧ n ≤ most ∧ n ≤ (r.size : Int)
    · rw [if_pos hc] at hT
      have HT := Lib.hid (takeStrVal_yes hT)
      obtain ⟨c1, c2, c3⟩ := hc
      clear hT
      obtain ⟨m, rfl⟩ := Int.eq_ofNat_of_zero_le c1
      go_enter Try.func80, Try.ntmps80
      go_wp2_with ((with_reducible refine (refTakeInt_yes s r _ _ hs H0.out).mono ?_); rintro e w' ⟨rfl, q, rfl⟩)
      go_quiet (fail)
      go_wp2
      go_ret3
      exact ⟨by rw [HT.out]; rfl, _, World.drewN_drewN ..⟩
    · rw [if_neg hc] at hT
      have HT := Lib.hid (takeStrVal_no hT)
      clear hT
      by_cases c1 : n < 0
      · go_enter Try.func80, Try.ntmps80
        go_wp2_with ((with_reducible refine (refTakeInt_yes s r _ _ hs H0.out).mono ?_); rintro e w' ⟨rfl, q, rfl⟩)
        go_ret3
        exact ⟨by rw [HT.out]; rfl, _, rfl⟩
      · by_cases c2 : most < n
        · go_enter Try.func80, Try.ntmps80
          go_wp2_with ((with_reducible refine (refTakeInt_yes s r _ _ hs H0.out).mono ?_); rintro e w' ⟨rfl, q, rfl⟩)
          go_ret3
          exact ⟨by rw [HT.out]; rfl, _, rfl⟩
        · have c3 : (r.size : Int) < n := by omega
          go_enter Try.func80, Try.ntmps80
          go_wp2_with ((with_reducible refine (refTakeInt_yes s r _ _ hs H0.out).mono ?_); rintro e w' ⟨rfl, q, rfl⟩)
          go_ret3
          exact ⟨by rw [HT.out]; rfl, _, rfl⟩
end Go.Proofs.Ytjaafdkmhkhehaa.Nib
