/- The walk of the statement KeyShares. -/
import Derived.Test.YthkgmfgchgoafaaKeyAwake
import Derived.Test.YthkgmfgchgoafaaKeySafeMath
import Derived.Test.YthkgmfgchgoafaaKeyActs
import Derived.Test.YthkgmfgchgoafaaArr
namespace Go.Proofs.Ythkgmfgchgoafaa.Key
set_option maxRecDepth 100000
open Go.RowKit
open Go.Proofs.Ythkgmfgchgoafaa.Mem
open Go.Maps
/-- locks shared alone -/
def SInv (S : KS) : Prop := S.wf ∧ (∀ p c l, S.L p c = some l → l.has = 1) ∧ (∀ p, S.Q p = []) ∧ S.said = []
theorem sinv_new : SInv newK := ⟨new_wf, (fun _ _ _ h => by cases h), fun _ => rfl, rfl⟩
theorem settle_nil {S : KS} {p : Int} (h : S.Q p = []) : settleK S p = S := by
  unfold settleK settleN
  rw [h]
theorem ask_new {S : KS} {c p : Int} (hL : ∀ q d l, S.L q d = some l → l.has = 1) :
    settleK (setQ S p [⟨c, 1⟩]) p = grantK (setQ S p [⟨c, 1⟩]) p ⟨c, 1⟩ := by
  have hQ : (setQ S p [⟨c, 1⟩]).Q p = [⟨c, 1⟩] := if_pos rfl
  have hw : ways (setQ S p [⟨c, 1⟩]) p ⟨c, 1⟩ = [] := by
    unfold ways
    rw [List.filter_eq_nil_iff]
    intro d _ hd
    unfold inB at hd
    have e : (setQ S p [⟨c, 1⟩]).L p d = S.L p d := rfl
    rw [e] at hd
    cases hl : S.L p d with
    | none => rw [hl] at hd; cases hd
    | some l =>
      rw [hl] at hd
      have := hL p d l hl
      simp [barsB, this] at hd
  unfold settleK
  rw [hQ]
  unfold settleN
  rw [hQ]
  dsimp only
  rw [if_pos hw]
  dsimp only [List.length]
  unfold settleN
  have e : (grantK (setQ S p [⟨c, 1⟩]) p ⟨c, 1⟩).Q p = [] := by
    rw [grant_Q, if_pos rfl, hQ]
    simp [notR]
  rw [e]
theorem shares_ask {S : KS} (h : SInv S) {c p : Int} (hc : 1 ≤ c ∧ c ≤ 8) (hp : 0 ≤ p ∧ p < 1024) :
    askX S c p = 0 ∧ (askK S c p false).said = [⟨false, c, p, false⟩] ∧ holdsS (askK S c p false) c p = 1 ∧ SInv { askK S c p false with said := [] } := by
  have hx : askX S c p = 0 := by
    unfold askX
    rw [if_neg (by omega), h.2.2.1 p]
    rfl
  have hw := h.1.ask c p false
  refine ⟨hx, ?_⟩
  by_cases h1 : wantI false ≤ holdsS S c p
  · have e : askK S c p false = sayK S false c p (holdsS S c p) := by unfold askK; rw [if_pos hx, if_pos h1]
    have h2 : holdsS S c p = 1 := by
      unfold holdsS at h1 ⊢
      cases hl : S.L p c with
      | none => rw [hl] at h1; exact absurd h1 (by decide)
      | some l => exact h.2.1 p c l hl
    rw [e, h2] at hw ⊢
    refine ⟨?_, h2, ⟨h.1.lk, h.1.rq, h.1.nd⟩, h.2.1, h.2.2.1, rfl⟩
    show S.said ++ _ = _
    rw [h.2.2.2]
    rfl
  · have h0 : holdsS S c p = 0 := by
      have := holds_or h.1 c p
      have e : wantI false = 1 := rfl
      omega
    have e : askK S c p false = grantK (setQ S p [⟨c, 1⟩]) p ⟨c, 1⟩ := by
      unfold askK
      rw [if_pos hx, if_neg h1, h.2.2.1 p]
      exact ask_new h.2.1
    have hk : hasK (setQ S p [⟨c, 1⟩]) ⟨c, 1⟩ p = 1 := by
      show max 1 (holdsS S c p) = 1
      rw [h0]
      rfl
    rw [e] at hw ⊢
    refine ⟨?_, ?_, ⟨hw.lk, hw.rq, hw.nd⟩, fun q d l hl => ?_, fun q => ?_, rfl⟩
    · rw [grant_S, hk]
      show S.said ++ _ = _
      rw [h.2.2.2]
      rfl
    · unfold holdsS
      rw [grant_L, if_pos ⟨rfl, rfl⟩, hk]
    · have hl : (grantK (setQ S p [⟨c, 1⟩]) p ⟨c, 1⟩).L q d = some l := hl
      rw [grant_L, hk] at hl
      split at hl
      · injection hl with hl; subst hl; rfl
      · exact h.2.1 q d l hl
    · show (grantK (setQ S p [⟨c, 1⟩]) p ⟨c, 1⟩).Q q = []
      rw [grant_Q]
      split
      · show ((if p = p then [(⟨c, 1⟩ : Rq)] else S.Q p)).filter _ = []
        rw [if_pos rfl]
        simp [notR]
      · rename_i hq
        show (if q = p then _ else S.Q q) = []
        rw [if_neg hq]
        exact h.2.2.1 q
theorem shares_free {S : KS} (h : SInv S) (c p : Int) (keep : Bool) : SInv (freeK S c p keep) := by
  have hw := h.1.free c p keep
  unfold freeK at hw ⊢
  split at hw
  · rename_i h0; rw [if_pos h0]; exact h
  · rename_i h0
    rw [if_neg h0]
    have e : settleK (setK S p c (if keep = true then some ⟨1, 0, false⟩ else none)) p = setK S p c (if keep = true then some ⟨1, 0, false⟩ else none) := settle_nil (h.2.2.1 p)
    rw [e] at hw ⊢
    refine ⟨hw, fun q d l hl => ?_, h.2.2.1, h.2.2.2⟩
    unfold setK at hl
    dsimp only at hl
    split at hl
    · cases keep with
      | true => rw [if_pos rfl] at hl; injection hl with hl; subst hl; rfl
      | false => rw [if_neg (by simp)] at hl; cases hl
    · exact h.2.1 q d l hl
theorem no_edge {S : KS} (h : ∀ p, S.Q p = []) {a b : Int} : ¬ EdgeOf S a b := by
  rintro ⟨x, ⟨r, hr, _⟩, _⟩
  rw [h x] at hr
  cases hr
theorem waits_none (p : Nat) (M : Nat → Prop) (S : KS) (w : World) (h : TQ w p M S) (hq : ∀ p, S.Q p = []) :
    Calls Try.prog 24 #[.pointer (some ⟨p, 0, none⟩)] w fun e w' => (∃ a c, e = .returned (.slice a 0 c)) ∧ Below w.heap.size w w' := by
  refine (waits_any p M S w h).mono ?_
  rintro e w' ⟨v, E, rfl, ho, hE, hb⟩
  cases E with
  | cons r E => exact absurd (hE r List.mem_cons_self) (no_edge hq)
  | nil =>
    obtain ⟨a, c, rfl⟩ := own_shape ho
    exact ⟨⟨a, c, rfl⟩, hb⟩
def Kh (w : World) (p : Nat) (W : World) : Prop := ∃ S, SInv S ∧ TQ W p (fun k => k < w.heap.size) S ∧ Below w.heap.size w W
set_option maxRecDepth 100000 in
set_option maxHeartbeats 4000000 in
theorem shares_walk (a : Option Addr) (n cc : Nat) (zs : List Act) (w : World) (hI : Acts w a n zs) :
    Calls Try.prog 7 #[.slice a n cc] w fun e w' => e = .returned (.bool true) ∧ Below w.heap.size w w' := by
  have HI := Lib.hid hI
  clear hI
  go_enter Try.func7, Try.ntmps7
  go_wp2_with fail
  refine (awake_any w).mono ?_
  rintro e w1 ⟨rfl, b1⟩
  have HB1 := Lib.hid b1
  clear b1
  go_wp2_with fail
  refine (new_any w1).mono ?_
  rintro e w3 ⟨p, rfl, _, hn, b3⟩
  have ST : Hid (Kh w p w3) := Lib.hid ⟨newK, sinv_new, hn.mono (fun k hk => Nat.lt_of_lt_of_le hk HB1.out.size), HB1.out.trans (b3.mono HB1.out.size)⟩
  clear hn b3 HB1
  go_wp2_with fail
  go_loopw [4] (fun ti wr => ∃ k : Nat, k ≤ 150 ∧ k ≤ n ∧ ti = .int .i64 (k : Int) ∧ Hid (Kh w p wr)) (fun ti _ => 150 - (intOf ti).toNat)
  case atStart => exact ⟨0, Nat.zero_le _, Nat.zero_le _, rfl, ST⟩
  case round =>
    obtain ⟨k, hk, hkn, rfl, HK⟩ := hrel
    clear ST
    by_cases hin : k < n ∧ k < 150
    · obtain ⟨hlt, hlt2⟩ := hin
      obtain ⟨S, hC, hT, hB⟩ := HK.out
      obtain ⟨b, off, ⟨kd, cl, pg, xx⟩, rfl, -, hz, ⟨c0, c1, c2, c3⟩, hg⟩ := (HI.out.below hB).at_ hlt
      dsimp only at c0 c1 c2 c3
      obtain ⟨K, hKe, hK⟩ := cut_of cl 8 (by omega) (by omega)
      obtain ⟨P, hPe, hP⟩ := cut_of pg 1024 (by omega) (by omega)
      have hsP : Sm (P : Int) := sm_of (by omega)
      have hsC : Sm (1 + (K : Int)) := sm_of (by omega)
      have HT := Lib.hid hT
      have HB := Lib.hid hB
      have HC := Lib.hid hC
      have HKE := Lib.hid hKe
      have HPE := Lib.hid hPe
      clear hC hT hB hz hg HK hKe hPe
      go_upto_region 8 with (fail)
      rw [HKE.out, show wrap64 (1 + (K : Int)) = 1 + (K : Int) by unfold wrap64; omega]
      go_upto_region 9 with (fail)
      rw [HPE.out]
      generalize hck : (1 : Int) + (K : Int) = C at *
      have hC8 : 1 ≤ C ∧ C ≤ 8 := by omega
      clear HKE HPE c1 c2
      by_cases k2 : kd = 2
      · subst k2
        have HF := Lib.hid (free_any p _ S C (P : Int) xx wr HT.out hsP hsC (by rw [HC.out.2.2.2]; simp))
        go_wp2_with fail
        refine HF.out.mono ?_
        rintro e W2 ⟨rfl, h2, k2⟩
        have FIN : Hid (Kh w p W2) := Lib.hid ⟨_, shares_free HC.out C P xx, h2, HB.out.trans (k2.below fun _ h => h)⟩
        clear h2 k2 HF HT HB HC c0 c3
        go_wp2
        go_roundw
        case rel => exact ⟨k + 1, by omega, by omega, by go_num, FIN⟩
        case measure => simp [intOf]; omega
      · have n2 : (kd == 2) = false := by simpa using k2
        obtain ⟨f1, f2, f3, f4⟩ := shares_ask HC.out hC8 (show 0 ≤ (P : Int) ∧ (P : Int) < 1024 by omega)
        have HA := Lib.hid (ask_any p _ S C (P : Int) false wr HT.out hsP hsC (by rw [HC.out.2.2.2]; simp))
        rw [f1] at HA
        clear f1 k2
        go_wp2_with fail
        refine HA.out.mono ?_
        rintro e W2 ⟨rfl, h2, k2⟩
        have HB2 := Lib.hid (HB.out.trans (k2.below fun _ h => h))
        have HTK := Lib.hid (take_any p _ _ W2 h2)
        clear h2 k2 HA HT HB HC c0 c3 n2
        generalize askK S C (P : Int) false = S2 at *
        have F4 := Lib.hid f4
        clear f4
        go_wp2_with fail
        refine HTK.out.mono ?_
        rintro e w5 ⟨v5, rfl, ho5, hv5, h5, k5⟩
        rw [f2] at ho5
        obtain ⟨g, cap, rfl, -, c0, c1, c2, c3⟩ := word_at (i := 0) ho5 rfl
        have e1 := fun W => run_ne_word ⟨false, C, P, false⟩ ⟨false, C, P, false⟩ W
        have s1 : sameW ⟨false, C, P, false⟩ ⟨false, C, P, false⟩ = true := by simp [sameW]
        rw [s1] at e1
        have hgd := fun op A B xs ys W => run_guard_word op A B xs ys W
        have HB5 := Lib.hid (HB2.out.trans (k5.below fun _ h => h))
        obtain ⟨G5, hT5⟩ := h5
        have HH := Lib.hid (holds_any p _ G5 _ C (P : Int) w5 hT5 hsP hsC)
        have f3 : holdsS { S2 with said := [] } C (P : Int) = 1 := f3
        rw [f3] at HH
        have HW := Lib.hid (waits_none p _ _ w5 ⟨G5, hT5⟩ F4.out.2.2.1)
        have HT5 : Hid (TQ w5 p (fun k => k < w.heap.size) { S2 with said := [] }) := Lib.hid ((show TQ w5 p _ _ from ⟨G5, hT5⟩).mono fun k hk => .inl hk)
        clear hT5 hv5 ho5 k5 HTK HB2 f2 f3 s1
        dsimp only [List.length, Bool.not] at e1 c0 c1 c2 c3 ⊢
        go_wp2_with fail
        refine HH.out.mono ?_
        rintro e w6 ⟨rfl, rfl⟩
        clear c0 c1 c2 c3 e1 hgd HH
        go_wp2_with fail
        refine HW.out.mono ?_
        rintro e w6 ⟨⟨aw, cw, rfl⟩, b6⟩
        have FIN : Hid (Kh w p w6) := Lib.hid ⟨_, F4.out, HT5.out.below b6, HB5.out.trans (b6.mono HB5.out.size)⟩
        clear b6 HT5 HB5 F4 HW
        go_wp2
        go_roundw
        case rel => exact ⟨k + 1, by omega, by omega, by go_num, FIN⟩
        case measure => simp [intOf]; omega
    · have FIN : Hid (Kh w p wr) := HK
      obtain ⟨S, hC, hT, hB⟩ := FIN.out
      have HTK := Lib.hid (take_any p _ S wr hT)
      have HC := Lib.hid hC
      have HB := Lib.hid hB
      clear hT hC hB HK FIN
      rcases (show (k < n ∧ k = 150) ∨ k = n by omega) with ⟨hlt, h⟩ | h
      all_goals
        subst h
        clear hin
        go_wp2_with fail
        refine HTK.out.mono ?_
        rintro e w5 ⟨v5, rfl, ho5, -, -, k5⟩
        rw [HC.out.2.2.2] at ho5
        obtain ⟨a5, c5, rfl⟩ := own_shape ho5
        have HB5 := Lib.hid (HB.out.trans (k5.below fun _ h => h))
        clear HTK HC HB ho5 k5
        go_wp2
        go_ret
        exact ⟨rfl, HB5.out⟩
end Go.Proofs.Ythkgmfgchgoafaa.Key
