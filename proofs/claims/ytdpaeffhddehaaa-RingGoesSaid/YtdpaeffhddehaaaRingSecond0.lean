/- The plain side of RingSecond and RingRoom. -/
import Derived.Test.YtdpaeffhddehaaaRingKin
namespace Go.Proofs.Ytdpaeffhddehaaa.Ring
set_option maxRecDepth 100000
open Go.RowKit
/-- the keys below i put into a ring of N frames -/
def fillS (N i : Nat) : RS Int := ⟨N, fun j => if j < i then some ⟨j, j, 0, true⟩ else none, 0⟩
theorem fill_zero (N : Nat) : newR N = fillS N 0 := rs_ext rfl (by funext j; simp [newR, fillS]) rfl
theorem fill_put {N i : Nat} (hi : i < N) : putR (0 : Int) (fillS N i) i i = (noOu 0, true, fillS N (i + 1)) := by
  have h1 : atS (fillS N i) (i : Int) = none := atS_none (fun j t _ ht => by
    simp only [fillS] at ht
    split at ht
    · cases ht; simp; omega
    · cases ht)
  have h2 : vacS (fillS N i) = some i := vac_some hi (by simp [fillS]) (fun j hj => ⟨_, by simp [fillS, hj]; rfl⟩)
  unfold putR
  rw [h1, h2]
  simp only
  congr 2
  refine rs_ext rfl ?_ rfl
  funext j
  rw [putAt_at]
  simp only [fillS]
  by_cases e : j = i
  · subst e; simp
  · rw [if_neg e]
    by_cases h : j < i
    · rw [if_pos h, if_pos (by omega)]
    · rw [if_neg h, if_neg (by omega)]
/-- the hand goes round -/
def tiredS (N j : Nat) : RS Int := ⟨N, fun i => if i < N then some ⟨i, i, 0, decide (j ≤ i)⟩ else none, j % N⟩
theorem tired_zero (N : Nat) : fillS N N = tiredS N 0 := rs_ext rfl (by funext j; simp [fillS, tiredS]) (by simp [fillS, tiredS])
theorem tired_turns {N : Nat} (hN : 1 ≤ N) : ∀ d j, j + d = N → Turns d (tiredS N j) (0, { tiredS N N with hand := 1 % N })
  | 0, j, h => by
    obtain rfl : j = N := by omega
    have h0 : (tiredS j j).hand = 0 := Nat.mod_self j
    have := Turns.stop (tiredS j j) ⟨0, 0, 0, false⟩ (by rw [h0]; simp [tiredS]; omega) rfl rfl
    rw [h0] at this
    have e : nx (tiredS j j) = 1 % j := by unfold nx; rw [h0]; simp [tiredS]
    rw [e] at this
    exact this
  | d + 1, j, h => by
    have hj : j % N = j := Nat.mod_eq_of_lt (by omega)
    have hh : (tiredS N j).hand = j := hj
    have hf : (tiredS N j).f (tiredS N j).hand = some ⟨j, j, 0, true⟩ := by rw [hh]; simp [tiredS]; omega
    refine Turns.on (tiredS N j) _ d _ hf (by simp) ?_
    have e : tire (tiredS N j) ⟨j, j, 0, true⟩ = tiredS N (j + 1) := by
      refine rs_ext rfl ?_ ?_
      · unfold tire
        simp only [if_pos]
        funext i
        rw [hh]
        unfold upF
        by_cases e : i = j
        · subst e
          simp [tiredS]
          omega
        · rw [if_neg e]
          simp only [tiredS]
          by_cases hi : i < N
          · rw [if_pos hi, if_pos hi]
            congr 2
            simp only [decide_eq_decide]
            omega
          · rw [if_neg hi, if_neg hi]
      · show nx (tiredS N j) = (j + 1) % N
        unfold nx
        rw [hh]
        rfl
    rw [e]
    exact tired_turns hN d (j + 1) (by omega)
/-- behind the first that leaves -/
def overS (N : Nat) : RS Int := ⟨N, fun i => if i = 0 then some ⟨N, N, 0, true⟩ else if i < N then some ⟨i, i, 0, false⟩ else none, 1 % N⟩
theorem over_put {N : Nat} (hN : 1 ≤ N) : putR (0 : Int) (fillS N N) N N = (⟨0, 0, true⟩, true, overS N) := by
  have hk : atS (fillS N N) (N : Int) = none := atS_none (fun j t hj ht => by
    simp only [fillS] at ht
    split at ht
    · cases ht; simp; omega
    · cases ht)
  have hv : vacS (fillS N N) = none := vac_none (fun i hi => by have hi' : i < N := hi; exact ⟨_, by simp only [fillS]; rw [if_pos hi']⟩)
  have hw : (fillS N N).f 0 = some ⟨(0 : Nat), (0 : Nat), 0, true⟩ := by simp only [fillS]; rw [if_pos (by omega)]
  obtain ⟨j, hl⟩ := leave_some (S := fillS N N) (i := 0) (by show 0 < N; omega) hw rfl
  have hT : turnS (fillS N N) = (0, { tiredS N N with hand := 1 % N }) := by
    rw [tired_zero]
    exact turnF_of (tired_turns hN N 0 (by omega)) _ (by show N < 2 * N + 2; omega)
  unfold putR
  rw [hk, hv, hl, hT]
  simp only
  have hf : ({ tiredS N N with hand := 1 % N } : RS Int).f 0 = some ⟨(0 : Nat), (0 : Nat), 0, false⟩ := by simp [tiredS]; omega
  rw [hf]
  simp only
  congr 2
  refine rs_ext rfl ?_ rfl
  funext i
  rw [putAt_at]
  simp only [tiredS, overS]
  by_cases e : i = 0
  · rw [if_pos e, if_pos e]
  · rw [if_neg e, if_neg e]
    by_cases h : i < N
    · rw [if_pos h, if_pos h]
      congr 2
      simp
      omega
    · rw [if_neg h, if_neg h]
theorem over_wf {N : Nat} (h1 : 1 ≤ N) (h2 : N ≤ 64) : (overS N).wf := ⟨h1, h2, Nat.mod_lt _ h1⟩
def askS (N k : Nat) : RS Int := putAt (overS N) k (some ⟨k, k, 0, true⟩)
theorem over_get {N k : Nat} (h1 : 1 ≤ k) (h2 : k < N) : getR (0 : Int) (overS N) k = ((k : Int), true, askS N k) := by
  have hf : (overS N).f k = some ⟨k, k, 0, false⟩ := by show (if k = 0 then _ else if k < N then _ else _) = _; rw [if_neg (by omega), if_pos h2]
  have ha : atS (overS N) (k : Int) = some (k, ⟨k, k, 0, false⟩) := atS_of h2 hf rfl (fun j u hj hu => by
    simp only [overS] at hu
    split at hu
    · cases hu; simp; omega
    · split at hu
      · cases hu; simp; omega
      · cases hu)
  unfold getR
  rw [ha]
  rfl
/-- the next that leaves isn't the one that was asked for -/
theorem ask_put {N k : Nat} (h3 : 3 ≤ N) (hN : N ≤ 62) (h1 : 1 ≤ k) (h2 : k < N) : ∃ x S2, putR (0 : Int) (askS N k) 1000 0 = (⟨x, x, true⟩, true, S2) ∧ x ≠ (k : Int) ∧ getR (0 : Int) S2 k = ((k : Int), true, (getR (0 : Int) S2 k).2.2) := by
  have hfa : ∀ i, (askS N k).f i = if i = k then some ⟨k, k, 0, true⟩ else if i = 0 then some ⟨N, N, 0, true⟩ else if i < N then some ⟨i, i, 0, false⟩ else none := fun i => by
    show (putAt _ _ _).f i = _
    rw [putAt_at]
    rfl
  have hno : ∀ j t, j < N → (askS N k).f j = some t → t.key ≠ 1000 := fun j t hj ht => by
    rw [hfa] at ht
    split at ht
    · cases ht; simp; omega
    · split at ht
      · cases ht; simp; omega
      · cases ht; simp; omega
  have hk : atS (askS N k) (1000 : Int) = none := atS_none hno
  have htk : Taken (askS N k) := fun i hi => by
    rw [hfa]
    split
    · exact ⟨_, rfl⟩
    · split
      · exact ⟨_, rfl⟩
      · have hi' : i < N := hi
        rw [if_pos hi']; exact ⟨_, rfl⟩
  have hv := vac_none htk
  have hw : (askS N k).f k = some ⟨k, k, 0, true⟩ := by rw [hfa, if_pos rfl]
  obtain ⟨j, hl⟩ := leave_some (S := askS N k) (i := k) h2 hw rfl
  have hh : (askS N k).hand = 1 := Nat.mod_eq_of_lt (by omega)
  have fin : ∀ (m : Nat) (S2 : RS Int), S2.N = N → (∀ i, S2.f i = (askS N k).f i ∨ (i = 1 ∧ k = 1 ∧ S2.f i = some ⟨1, 1, 0, false⟩)) → m < N → 1 ≤ m → m ≠ k → turnS (askS N k) = (m, S2) →
      ∃ x S2, putR (0 : Int) (askS N k) 1000 0 = (⟨x, x, true⟩, true, S2) ∧ x ≠ (k : Int) ∧ getR (0 : Int) S2 k = ((k : Int), true, (getR (0 : Int) S2 k).2.2) := by
    intro m S2 hN2 hS hm hm1 hmk hT
    have hm0 : S2.f m = some ⟨m, m, 0, false⟩ := by
      rcases hS m with e | ⟨e, e2, -⟩
      · rw [e, hfa, if_neg hmk, if_neg (by omega), if_pos hm]
      · omega
    refine ⟨m, putAt S2 m (some ⟨1000, 0, 0, true⟩), ?_, by omega, ?_⟩
    · unfold putR
      rw [hk, hv, hl, hT]
      simp only
      rw [hm0]
    · obtain ⟨b, hb⟩ : ∃ b, (putAt S2 m (some ⟨1000, 0, 0, true⟩)).f k = some ⟨k, k, 0, b⟩ := by
        rw [putAt_at, if_neg (by omega)]
        rcases hS k with e | ⟨e, e2, e3⟩
        · exact ⟨true, by rw [e, hw]⟩
        · exact ⟨false, by rw [e3, e2]; rfl⟩
      have ha : atS (putAt S2 m (some ⟨1000, 0, 0, true⟩)) (k : Int) = some (k, ⟨k, k, 0, b⟩) := atS_of (by rw [putAt_N, hN2]; exact h2) hb rfl (fun j u hj hu => by
        rw [putAt_at] at hu
        split at hu
        · cases hu; simp; omega
        · rcases hS j with e | ⟨e, e2, e3⟩
          · rw [e, hfa, if_neg (by omega)] at hu
            split at hu
            · cases hu; simp; omega
            · rw [if_pos (by omega)] at hu
              cases hu; simp; omega
          · omega)
      unfold getR
      rw [ha]
  by_cases e : k = 1
  · subst e
    have h2' : 2 < N := by omega
    have ht : tire (askS N 1) ⟨(1 : Nat), (1 : Nat), 0, true⟩ = { putAt (askS N 1) 1 (some ⟨(1 : Nat), (1 : Nat), 0, false⟩) with hand := 2 } := by
      refine rs_ext rfl ?_ ?_
      · unfold tire
        simp only [if_pos]
        rw [hh]
        rfl
      · show nx (askS N 1) = 2
        unfold nx
        rw [hh]
        exact Nat.mod_eq_of_lt (by show 2 < N; omega)
    have hT : Turns 1 (askS N 1) (2, { tire (askS N 1) ⟨(1 : Nat), (1 : Nat), 0, true⟩ with hand := nx (tire (askS N 1) ⟨(1 : Nat), (1 : Nat), 0, true⟩) }) := by
      refine .on _ _ 0 _ (by rw [hh]; exact hw) (by simp) ?_
      have hth : (tire (askS N 1) ⟨(1 : Nat), (1 : Nat), 0, true⟩).hand = 2 := by rw [ht]
      have := Turns.stop (tire (askS N 1) ⟨(1 : Nat), (1 : Nat), 0, true⟩) ⟨(2 : Nat), (2 : Nat), 0, false⟩ (by rw [hth, ht]; show (putAt (askS N 1) 1 (some ⟨(1 : Nat), (1 : Nat), 0, false⟩)).f 2 = _; rw [putAt_at, if_neg (by omega), hfa, if_neg (by omega), if_neg (by omega), if_pos h2']) rfl rfl
      rw [hth] at this
      exact this
    refine fin 2 _ rfl ?_ h2' (by omega) (by omega) (turnF_of hT _ (by show 1 < 2 * N + 2; omega))
    intro i
    rw [ht]
    show (putAt (askS N 1) 1 _).f i = _ ∨ _
    rw [putAt_at]
    by_cases e : i = 1
    · right; subst e; refine ⟨rfl, rfl, ?_⟩; show (putAt (askS N 1) 1 _).f 1 = _; rw [putAt_at]; rfl
    · left; rw [if_neg e]
  · have hf1 : (askS N k).f 1 = some ⟨(1 : Nat), (1 : Nat), 0, false⟩ := by rw [hfa, if_neg (by omega), if_neg (by omega), if_pos (by omega)]
    have hT := Turns.stop (askS N k) ⟨(1 : Nat), (1 : Nat), 0, false⟩ (by rw [hh]; exact hf1) rfl rfl
    rw [hh] at hT
    exact fin 1 { askS N k with hand := nx (askS N k) } rfl (fun i => .inl rfl) (by omega) (by omega) (by omega) (turnF_of hT _ (by omega))
end Go.Proofs.Ytdpaeffhddehaaa.Ring
