/- The walk of the statement KeyShares. -/
import Derived.Test.YthodggkpkjfggaaKeyAwake
import Derived.Test.YthodggkpkjfggaaKeySafeMath
import Derived.Test.YthodggkpkjfggaaKeyActs
import Derived.Test.YthodggkpkjfggaaArr
namespace Go.Proofs.Ythodggkpkjfggaa.Key
set_option maxRecDepth 100000
open Go.RowKit
open Go.Proofs.Ythodggkpkjfggaa.Mem
open Go.Maps
/-- locks shared alone -/
def SInv (S : KS) : Prop := S.wf ∧ (∀ p c l, S.L p c = some l → l.has = 1) ∧ (∀ p, S.Q p = []) ∧ S.said = []
theorem sinv_new : SInv newK := ⟨new_wf, (fun _ _ _ h => by cases h), fun _ => rfl, rfl⟩
theorem settle_nil {S : KS} {p : Int} (h : S.Q p = []) : settleK S p = S := by
  unfold settleK settleN
  rw [h]
theorem ask_new {S : KS} {c p : Int} (hL : ∀ q d l, S.L q d = some l → l.has = 1) :
    settleK (setQ S p [⟨c, 1⟩]) p = grantK (setQ S p [⟨c, 1⟩]) p ⟨c, 1⟩ := by
  have hQ : (setQ S p [⟨c, 1⟩]).Q p = [⟨c, 1⟩] := if_pos rfl
  have hw : ways (setQ S p [⟨c, 1⟩]) p ⟨c, 1⟩ = [] := by
    unfold ways
    rw [List.filter_eq_nil_iff]
    intro d _ hd
    unfold inB at hd
    have e : (setQ S p [⟨c, 1⟩]).L p d = S.L p d := rfl
    rw [e] at hd
    cases hl : S.L p d with
    | none => rw [hl] at hd; cases hd
    | some l =>
      rw [hl] at hd
      have := hL p d l hl
      simp [barsB, this] at hd
  unfold settleK
  rw [hQ]
  unfold settleN
  rw [hQ]
  dsimp only
  rw [if_pos hw]
  dsimp only [List.length]
  unfold settleN
  have e : (grantK (setQ S p [⟨c, 1⟩]) p ⟨c, 1⟩).Q p = [] := by
    rw [grant_Q, if_pos rfl, hQ]
    simp [notR]
  rw [e]
theorem shares_ask {S : KS} (h : SInv S) {c p : Int} (hc : 1 ≤ c ∧ c ≤ 8) (hp : 0 ≤ p ∧ p < 1024) :
    askX S c p = 0 ∧ (askK S c p false).said = [⟨false, c, p, false⟩] ∧ holdsS (askK S c p false) c p = 1 ∧ SInv { askK S c p false with said := [] } := by
  have hx : askX S c p = 0 := by
    unfold askX
    rw [if_neg (by omega), h.2.2.1 p]
    rfl
  have hw := h.1.ask c p false
  refine ⟨hx, ?_⟩
  by_cases h1 : wantI false ≤ holdsS S c p
  · have e : askK S c p false = sayK S false c p (holdsS S c p) := by unfold askK; rw [if_pos hx, if_pos h1]
    have h2 : holdsS S c p = 1 := by
      unfold holdsS at h1 ⊢
      cases hl : S.L p c with
      | none => rw [hl] at h1; exact absurd h1 (by decide)
      | some l => exact h.2.1 p c l hl
    rw [e, h2] at hw ⊢
    refine ⟨?_, h2, ⟨h.1.lk, h.1.rq, h.1.nd⟩, h.2.1, h.2.2.1, rfl⟩
    show S.said ++ _ = _
    rw [h.2.2.2]
    rfl
  · have h0 : holdsS S c p = 0 := by
      have := holds_or h.1 c p
      have e : wantI false = 1 := rfl
      omega
    have e : askK S c p false = grantK (setQ S p [⟨c, 1⟩]) p ⟨c, 1⟩ := by
      unfold askK
      rw [if_pos hx, if_neg h1, h.2.2.1 p]
      exact ask_new h.2.1
    have hk : hasK (setQ S p [⟨c, 1⟩]) ⟨c, 1⟩ p = 1 := by
      show max 1 (holdsS S c p) = 1
      rw [h0]
      rfl
    rw [e] at hw ⊢
    refine ⟨?_, ?_, ⟨hw.lk, hw.rq, hw.nd⟩, fun q d l hl => ?_, fun q => ?_, rfl⟩
    · rw [grant_S, hk]
      show S.said ++ _ = _
      rw [h.2.2.2]
      rfl
    · unfold holdsS
      rw [grant_L, if_pos ⟨rfl, rfl⟩, hk]
    · have hl : (grantK (setQ S p [⟨c, 1⟩]) p ⟨c, 1⟩).L q d = some l := hl
      rw [grant_L, hk] at hl
      split at hl
      · injection hl with hl; subst hl; rfl
      · exact h.2.1 q d l hl
    · show (grantK (setQ S p [⟨c, 1⟩]) p ⟨c, 1⟩).Q q = []
      rw [grant_Q]
      split
      · show ((if p = p then [(⟨c, 1⟩ : Rq)] else S.Q p)).filter _ = []
        rw [if_pos rfl]
        simp [notR]
      · rename_i hq
        show (if q = p then _ else S.Q q) = []
        rw [if_neg hq]
        exact h.2.2.1 q
theorem shares_free {S : KS} (h : SInv S) (c p : Int) (keep : Bool) : SInv (freeK S c p keep) := by
  have hw := h.1.free c p keep
  unfold freeK at hw ⊢
  split at hw
  · rename_i h0; rw [if_pos h0]; exact h
  · rename_i h0
    rw [if_neg h0]
    have e : settleK (setK S p c (if keep = true then some ⟨1, 0, false⟩ else none)) p = setK S p c (if keep = true then some ⟨1, 0, false⟩ else none) := settle_nil (h.2.2.1 p)
    rw [e] at hw ⊢
    refine ⟨hw, fun q d l hl => ?_, h.2.2.1, h.2.2.2⟩
    unfold setK at hl
    dsimp only at hl
    split at hl
    · cases keep with
      | true => rw [if_pos rfl] at hl; injection hl with hl; subst hl; rfl
      | false => rw [if_neg (by simp)] at hl; cases hl
    · exact h.2.1 q d l hl
theorem no_edge {S : KS} (h : ∀ p, S.Q p = []) {a b : Int} : ¬ EdgeOf S a b := by
  rintro ⟨x, ⟨r, hr, _⟩, _⟩
  rw [h x] at hr
  cases hr
theorem waits_none (p : Nat) (M : Nat → Prop) (S : KS) (w : World) (h : TQ w p M S) (hq : ∀ p, S.Q p = []) :
    Calls Try.prog 14 #[.pointer (some ⟨p, 0, none⟩)] w fun e w' => (∃ a c, e = .returned (.slice a 0 c)) ∧ Below w.heap.size w w' := by
  refine (waits_any p M S w h).mono ?_
  rintro e w' ⟨v, E, rfl, ho, hE, hb⟩
  cases E with
  | cons r E => exact absurd (hE r List.mem_cons_self) (no_edge hq)
  | nil =>
    obtain ⟨a, c, rfl⟩ := own_shape ho
    exact ⟨⟨a, c, rfl⟩, hb⟩
def Kh (w : World) (p : Nat) (W : World) : Prop := ∃ S, SInv S ∧ TQ W p (fun k => k < w.heap.size) S ∧ Below w.heap.size w W
end Go.Proofs.Ythodggkpkjfggaa.Key
