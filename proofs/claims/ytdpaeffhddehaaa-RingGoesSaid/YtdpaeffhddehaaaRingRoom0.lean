/- The plain side of RingRoom. -/
import Derived.Test.YtdpaeffhddehaaaRingSecond0
namespace Go.Proofs.Ytdpaeffhddehaaa.Ring
set_option maxRecDepth 100000
open Go.RowKit
/-- a full ring: frame j has the key j and the value v j, and those below q are pinned once -/
def roomS (N : Nat) (v : Nat → Int) (q : Nat) : RS Int := ⟨N, fun j => if j < N then some ⟨j, v j, if j < q then 1 else 0, true⟩ else none, 0⟩
theorem fill_room (N : Nat) : fillS N N = roomS N (fun j => j) 0 := rs_ext rfl (by funext j; simp [fillS, roomS]) rfl
theorem room_at {N k q : Nat} {v : Nat → Int} (hk : k < N) : atS (roomS N v q) (k : Int) = some (k, ⟨k, v k, if k < q then 1 else 0, true⟩) :=
  atS_of hk (by simp only [roomS]; rw [if_pos hk]) rfl (fun j u hj hu => by
    simp only [roomS] at hu
    rw [if_pos (by omega)] at hu
    cases hu; simp; omega)
theorem room_put {N k q : Nat} {v : Nat → Int} (hk : k < N) (x : Int) : putR (0 : Int) (roomS N v q) k x = (noOu 0, true, roomS N (fun j => if j = k then x else v j) q) := by
  unfold putR
  rw [room_at hk]
  simp only
  congr 2
  refine rs_ext rfl ?_ rfl
  funext j
  rw [putAt_at]
  simp only [roomS]
  by_cases e : j = k
  · subst e; simp [hk]
  · rw [if_neg e, if_neg e]
theorem room_pin {N q : Nat} {v : Nat → Int} (hk : q < N) : pinR (roomS N v q) q = (true, roomS N v (q + 1)) := by
  unfold pinR
  rw [room_at hk]
  simp only
  congr 1
  refine rs_ext rfl ?_ rfl
  funext j
  rw [putAt_at]
  simp only [roomS]
  by_cases e : j = q
  · subst e; simp [hk]
  · rw [if_neg e]
    by_cases h : j < N
    · rw [if_pos h, if_pos h]
      by_cases h2 : j < q
      · rw [if_pos h2, if_pos (by omega)]
      · rw [if_neg h2, if_neg (by omega)]
    · rw [if_neg h, if_neg h]
theorem room_pins {N q : Nat} {v : Nat → Int} (hk : q < N) : pinsR (roomS N v (q + 1)) (q : Int) = 1 := by
  unfold pinsR
  rw [room_at hk]
  simp
theorem room_taken {N q : Nat} {v : Nat → Int} : Taken (roomS N v q) := fun i hi => by
  have hi' : i < N := hi
  simp only [roomS]
  rw [if_pos hi']
  exact ⟨_, rfl⟩
theorem room_len {N q : Nat} {v : Nat → Int} : (thingsR (roomS N v q)).length = N := thingsR_full room_taken
theorem room_low {N q : Nat} {v : Nat → Int} : Low (roomS N v q) 1000000 := fun i t ht => by
  simp only [roomS] at ht
  split at ht
  · cases ht; simp only; split <;> omega
  · cases ht
theorem room_wf {N q : Nat} {v : Nat → Int} (h1 : 1 ≤ N) (h2 : N ≤ 64) : (roomS N v q).wf := ⟨h1, h2, h1⟩
theorem room_full {N : Nat} {v : Nat → Int} (h2 : N ≤ 64) : putR (0 : Int) (roomS N v N) 1000 0 = (noOu 0, false, roomS N v N) := by
  have hk : atS (roomS N v N) (1000 : Int) = none := atS_none (fun j t hj ht => by
    have hj' : j < N := hj
    simp only [roomS] at ht
    rw [if_pos hj'] at ht
    cases ht; simp; omega)
  have hl : leaveS (roomS N v N) = none := leave_none (fun i t hi ht => by
    have hi' : i < N := hi
    simp only [roomS] at ht
    rw [if_pos hi'] at ht
    cases ht; simp [hi'])
  unfold putR
  rw [hk, vac_none room_taken, hl]
theorem room_last {N q : Nat} {v : Nat → Int} (h1 : 1 ≤ N) (h2 : N ≤ 64) (hq : q < N) : ∃ (i : Nat) (x : Int) (S2 : RS Int), putR (0 : Int) (roomS N v q) 1000 0 = (⟨i, x, true⟩, true, S2) ∧ q ≤ i ∧ i < N ∧ getR (0 : Int) S2 i = (0, false, S2) ∧ (thingsR S2).length = N ∧ pinsR S2 1000 = 0 := by
  have hno : ∀ j t, j < N → (roomS N v q).f j = some t → t.key = (j : Int) ∧ t.pins = if j < q then 1 else 0 := fun j t hj ht => by
    simp only [roomS] at ht
    rw [if_pos hj] at ht
    cases ht; exact ⟨rfl, rfl⟩
  have hP := put_is (0 : Int) (room_wf (v := v) (q := q) h1 h2) 1000 0
  generalize hR : putR (0 : Int) (roomS N v q) 1000 0 = R at hP
  cases hP with
  | hit i t hi hf hk => have hi' : i < N := hi; have := (hno i t hi hf).1; omega
  | vac i hi hf hk => obtain ⟨t, ht⟩ := room_taken (N := N) (v := v) (q := q) i hi; rw [ht] at hf; cases hf
  | full ht hp hk =>
    obtain ⟨t, ht2⟩ := ht q hq
    have := hp q t hq ht2
    rw [(hno q t hq ht2).2] at this
    simp at this
  | turn i t S2 hi hf hN hw hp ht hk hs =>
    have hi' : i < N := hi
    have hkey : ∀ j u, j < N → S2.f j = some u → u.key = (j : Int) ∧ (u.pins = 0 → q ≤ j) := fun j u hj hu => by
      rcases hs j with e | ⟨t', e1, e2, e3⟩
      · rw [e] at hu
        have := hno j u hj hu
        refine ⟨this.1, fun h => ?_⟩
        rw [this.2] at h
        split at h <;> omega
      · rw [e3] at hu
        cases hu
        have := hno j t' hj e1
        refine ⟨this.1, fun h => ?_⟩
        have h2 := this.2
        rw [e2] at h2
        split at h2 <;> omega
    have hti := hkey i t hi' hf
    obtain ⟨tk, tv, tp, tf⟩ := t
    simp only at hti hp
    obtain ⟨rfl, hq2⟩ := hti
    have hall : Taken (putAt S2 i (some (⟨1000, 0, 0, true⟩ : Th Int))) := fun j hj => by
      rw [putAt_at]
      split
      · exact ⟨_, rfl⟩
      · rcases hs j with e | ⟨t', _, _, e3⟩
        · rw [e]; exact ht j (by rw [← hN]; exact hj)
        · exact ⟨_, e3⟩
    have hg : atS (putAt S2 i (some (⟨1000, 0, 0, true⟩ : Th Int))) (i : Int) = none := atS_none (fun j u hj hu => by
      rw [putAt_at] at hu
      split at hu
      · cases hu; simp; omega
      · have hjN : j < N := by have : j < S2.N := hj; rw [hN] at this; exact this
        rw [(hkey j u hjN hu).1]; omega)
    have hz : atS (putAt S2 i (some (⟨1000, 0, 0, true⟩ : Th Int))) (1000 : Int) = some (i, ⟨1000, 0, 0, true⟩) := atS_of (by rw [putAt_N, hN]; exact hi) (by rw [putAt_at, if_pos rfl]) rfl (fun j u hj hu => by
      rw [putAt_at, if_neg (by omega)] at hu
      rw [(hkey j u (by omega) hu).1]; omega)
    refine ⟨i, tv, _, rfl, hq2 hp, hi', ?_, ?_, ?_⟩
    · unfold getR; rw [hg]
    · rw [thingsR_full hall, putAt_N, hN]; rfl
    · unfold pinsR; rw [hz]
end Go.Proofs.Ytdpaeffhddehaaa.Ring
