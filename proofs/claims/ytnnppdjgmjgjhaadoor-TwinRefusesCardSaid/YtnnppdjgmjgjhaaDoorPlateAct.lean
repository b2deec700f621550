/- The walks of a plate's small functions. -/
import Derived.Test.YtnnppdjgmjgjhaaDoorPlateMath
namespace Go.Proofs.YtnnppdjgmjgjhaaDoor.Plate
open Go.RowKit
open Go.Proofs.YtnnppdjgmjgjhaaDoor.Mem

theorem PA.get {w : World} {p sb : Nat} {qv : Value} {M : Nat → Prop} {S : PS} (h : PA w p sb qv M S) :
    w.cell? ⟨p, 0, none⟩ = some (.slice (some ⟨sb, 0, none⟩) S.N S.N) ∧ w.cell? ⟨p, 1, none⟩ = some qv ∧ w.cell? ⟨p, 2, none⟩ = some (.bool S.off) ∧ w.cell? ⟨p, 3, none⟩ = some (.int .i64 (S.arm : Int)) ∧
    w.cell? ⟨p, 4, none⟩ = some (.int .i64 (S.acts : Int)) ∧ w.cell? ⟨p, 5, none⟩ = some (.int .i64 (S.life : Int)) :=
  ⟨h.blk.cell 0, h.blk.cell 1, h.blk.cell 2, h.blk.cell 3, h.blk.cell 4, h.blk.cell 5⟩
theorem PA.fro {w : World} {p sb : Nat} {qv : Value} {M : Nat → Prop} {S : PS} (h : PA w p sb qv M S) :
    w.frozen? ⟨p, 0, none⟩ = false ∧ w.frozen? ⟨p, 1, none⟩ = false ∧ w.frozen? ⟨p, 2, none⟩ = false ∧ w.frozen? ⟨p, 3, none⟩ = false ∧ w.frozen? ⟨p, 4, none⟩ = false ∧ w.frozen? ⟨p, 5, none⟩ = false :=
  ⟨h.blk.frozen 0, h.blk.frozen 1, h.blk.frozen 2, h.blk.frozen 3, h.blk.frozen 4, h.blk.frozen 5⟩
/-- a store into one of the plate's own fields -/
theorem PA.put {w : World} {p sb : Nat} {qv : Value} {M : Nat → Prop} {S : PS} (h : PA w p sb qv M S) (S' : PS) (i : Nat) (v : Value) (hN : S'.N = S.N) (hs : S'.sec = S.sec) (hq : S'.q = S.q)
    (hc : (#[.slice (some ⟨sb, 0, none⟩) S.N S.N, qv, .bool S.off, .int .i64 (S.arm : Int), .int .i64 (S.acts : Int), .int .i64 (S.life : Int)] : Array Value).setIfInBounds i v =
      #[.slice (some ⟨sb, 0, none⟩) S'.N S'.N, qv, .bool S'.off, .int .i64 (S'.arm : Int), .int .i64 (S'.acts : Int), .int .i64 (S'.life : Int)]) : PA (w.setCell ⟨p, i, none⟩ v) p sb qv M S' := by
  obtain ⟨cs, h1, h2⟩ := h.sec
  refine ⟨?_, ⟨cs, h1.far (show sb ≠ p from fun e => h.n0 e.symm) v, ?_⟩, ?_, ?_, h.n0, h.n1, h.n2, h.m0, h.m1, h.m2, fun k hk => by simpa using h.lt k hk⟩
  · rw [← hc]; exact h.blk.set_ i v
  · rw [hN, hs]; exact h2
  · rw [hq]; exact own_set h.own h.n1 i v
  · rw [hq, hN]; exact h.wf
theorem Keep.one {w : World} {p sb : Nat} {qv : Value} {M : Nat → Prop} {S : PS} (h : PA w p sb qv M S) {w' : World} (hk : Keep M w w') (i : Nat) (v : Value) : Keep M w (w'.setCell ⟨p, i, none⟩ v) := hk.set_ h.m0 i v

set_option maxRecDepth 100000 in
theorem ready_any (w : World) (p sb : Nat) (qv : Value) (M : Nat → Prop) (S : PS) (h : PA w p sb qv M S) :
    Calls Tryd.prog 34 #[.pointer (some ⟨p, 0, none⟩)] w fun e w' => e = .returned (.int .i64 (if S.off then 10 else 0)) ∧ w = w' := by
  obtain ⟨c0, c1, c2, c3, c4, c5⟩ := h.get
  cases ho : S.off <;> rw [ho] at c2 <;> clear h ho
  all_goals
    go_enter Tryd.func34, Tryd.ntmps34
    go_wp2
    go_ret
    exact ⟨rfl, rfl⟩
set_option maxRecDepth 100000 in
theorem ready_nil (w : World) :
    Calls Tryd.prog 34 #[.pointer none] w fun e w' => e = .returned (.int .i64 2) ∧ w = w' := by
  go_enter Tryd.func34, Tryd.ntmps34
  go_wp2
  go_ret
  exact ⟨rfl, rfl⟩
set_option maxRecDepth 100000 in
theorem has_any (w : World) (p sb : Nat) (qv : Value) (M : Nat → Prop) (S : PS) (n : Int) (h : PA w p sb qv M S) :
    Calls Tryd.prog 35 #[.pointer (some ⟨p, 0, none⟩), .int .i64 n] w fun e w' => e = .returned (.bool (inS S n)) ∧ w = w' := by
  obtain ⟨c0, c1, c2, c3, c4, c5⟩ := h.get
  obtain ⟨N, hN⟩ : ∃ N, N = S.N := ⟨_, rfl⟩
  unfold inS
  rw [← hN] at c0 ⊢
  clear h hN c1 c2 c3 c4 c5
  by_cases h0 : 0 ≤ n
  · by_cases h1 : n < (N : Int)
    · rw [decide_eq_true h0, decide_eq_true h1]
      go_enter Tryd.func35, Tryd.ntmps35
      go_wp2
      go_ret
      exact ⟨by simp_all, rfl⟩
    · rw [decide_eq_true h0, decide_eq_false h1]
      go_enter Tryd.func35, Tryd.ntmps35
      go_wp2
      go_ret
      exact ⟨by simp_all, rfl⟩
  · rw [decide_eq_false h0]
    go_enter Tryd.func35, Tryd.ntmps35
    go_wp2
    go_ret
    exact ⟨by simp_all, rfl⟩
set_option maxRecDepth 100000 in
theorem down_any (w : World) (p sb : Nat) (qv : Value) (M : Nat → Prop) (S : PS) (h : PA w p sb qv M S) :
    Calls Tryd.prog 21 #[.pointer (some ⟨p, 0, none⟩)] w fun e w' => e = .returned (.bool S.off) ∧ w = w' := by
  obtain ⟨c0, c1, c2, c3, c4, c5⟩ := h.get
  obtain ⟨o, ho⟩ : ∃ o, o = S.off := ⟨_, rfl⟩
  rw [← ho] at c2 ⊢
  clear h ho c0 c1 c3 c4 c5
  go_enter Tryd.func21, Tryd.ntmps21
  go_wp2
  go_ret
  exact ⟨rfl, rfl⟩
set_option maxRecDepth 100000 in
theorem down_nil (w : World) :
    Calls Tryd.prog 21 #[.pointer none] w fun e w' => e = .returned (.bool true) ∧ w = w' := by
  go_enter Tryd.func21, Tryd.ntmps21
  go_wp2
  go_ret
  exact ⟨rfl, rfl⟩
set_option maxRecDepth 100000 in
theorem sectors_nil (w : World) :
    Calls Tryd.prog 43 #[.pointer none] w fun e w' => e = .returned (.int .i64 0) ∧ w = w' := by
  go_enter Tryd.func43, Tryd.ntmps43
  go_wp2
  go_ret
  exact ⟨rfl, rfl⟩
set_option maxRecDepth 100000 in
theorem sectors_any (w : World) (p sb : Nat) (qv : Value) (M : Nat → Prop) (S : PS) (h : PA w p sb qv M S) :
    Calls Tryd.prog 43 #[.pointer (some ⟨p, 0, none⟩)] w fun e w' => e = .returned (.int .i64 (S.N : Int)) ∧ w = w' := by
  obtain ⟨c0, c1, c2, c3, c4, c5⟩ := h.get
  obtain ⟨o, ho⟩ : ∃ o, o = S.N := ⟨_, rfl⟩
  rw [← ho] at c0 ⊢
  clear h ho c1 c2 c3 c4 c5
  go_enter Tryd.func43, Tryd.ntmps43
  go_wp2
  go_ret
  exact ⟨rfl, rfl⟩
set_option maxRecDepth 100000 in
theorem acts_any (w : World) (p sb : Nat) (qv : Value) (M : Nat → Prop) (S : PS) (h : PA w p sb qv M S) :
    Calls Tryd.prog 17 #[.pointer (some ⟨p, 0, none⟩)] w fun e w' => e = .returned (.int .i64 (S.acts : Int)) ∧ w = w' := by
  obtain ⟨c0, c1, c2, c3, c4, c5⟩ := h.get
  obtain ⟨o, ho⟩ : ∃ o, o = S.acts := ⟨_, rfl⟩
  rw [← ho] at c4 ⊢
  clear h ho c0 c1 c2 c3 c5
  go_enter Tryd.func17, Tryd.ntmps17
  go_wp2
  go_ret
  exact ⟨rfl, rfl⟩
set_option maxRecDepth 100000 in
theorem life_any (w : World) (p sb : Nat) (qv : Value) (M : Nat → Prop) (S : PS) (h : PA w p sb qv M S) :
    Calls Tryd.prog 22 #[.pointer (some ⟨p, 0, none⟩)] w fun e w' => e = .returned (.int .i64 (S.life : Int)) ∧ w = w' := by
  obtain ⟨c0, c1, c2, c3, c4, c5⟩ := h.get
  obtain ⟨o, ho⟩ : ∃ o, o = S.life := ⟨_, rfl⟩
  rw [← ho] at c5 ⊢
  clear h ho c0 c1 c2 c3 c4
  go_enter Tryd.func22, Tryd.ntmps22
  go_wp2
  go_ret
  exact ⟨rfl, rfl⟩
set_option maxRecDepth 100000 in
theorem arm_any (w : World) (p sb : Nat) (qv : Value) (M : Nat → Prop) (S : PS) (n : Int) (h : PA w p sb qv M S) :
    Calls Tryd.prog 8 #[.pointer (some ⟨p, 0, none⟩), .int .i64 n] w fun e w' => e = .returned (.tuple #[]) ∧ PA w' p sb qv M (armS S n) ∧ Keep M w w' := by
  obtain ⟨c0, c1, c2, c3, c4, c5⟩ := h.get
  obtain ⟨f0, f1, f2, f3, f4, f5⟩ := h.fro
  have H := Lib.hid h
  clear h
  go_enter Tryd.func8, Tryd.ntmps8
  go_wp2
  all_goals
    go_end0
    refine ⟨rfl, H.out.put _ 3 _ rfl rfl rfl ?_, (Keep.refl _ _).set_ H.out.m0 _ _⟩
    simp [armS]
    omega
set_option maxRecDepth 100000 in
theorem off_any (w : World) (p sb : Nat) (qv : Value) (M : Nat → Prop) (S : PS) (h : PA w p sb qv M S) (hl : S.life ≤ 4611686018427387904) :
    Calls Tryd.prog 12 #[.pointer (some ⟨p, 0, none⟩)] w fun e w' => e = .returned (.tuple #[]) ∧ PA w' p sb qv M (offS S) ∧ Keep M w w' := by
  obtain ⟨N, sec, q, off, arm, acts, life⟩ := S
  obtain ⟨c0, c1, c2, c3, c4, c5⟩ := h.get
  obtain ⟨f0, f1, f2, f3, f4, f5⟩ := h.fro
  have H := Lib.hid h
  clear h
  simp only at hl c0 c1 c2 c3 c4 c5
  cases off
  · go_enter Tryd.func12, Tryd.ntmps12
    go_wp2
    go_end0
    exact ⟨rfl, ((H.out.put ⟨N, sec, q, false, 0, acts, life⟩ 3 (.int .i64 0) rfl rfl rfl (by simp)).put ⟨N, sec, q, true, 0, acts, life⟩ 2 (.bool true) rfl rfl rfl (by simp)).put (offS ⟨N, sec, q, false, arm, acts, life⟩) 5 _ rfl rfl rfl (by simp [offS]),
      (((Keep.refl _ _).set_ H.out.m0 _ _).set_ H.out.m0 _ _).set_ H.out.m0 _ _⟩
  · go_enter Tryd.func12, Tryd.ntmps12
    go_wp2
    go_end0
    exact ⟨rfl, H.out.put (offS ⟨N, sec, q, true, arm, acts, life⟩) 3 (.int .i64 0) rfl rfl rfl (by simp [offS]), (Keep.refl _ _).set_ H.out.m0 _ _⟩
set_option maxRecDepth 100000 in
theorem act_any (w : World) (p sb : Nat) (qv : Value) (M : Nat → Prop) (S : PS) (h : PA w p sb qv M S) (hl : S.life ≤ 4611686018427387904) (ha : S.acts ≤ 4611686018427387904) (hr : S.arm ≤ 4611686018427387904) :
    Calls Tryd.prog 68 #[.pointer (some ⟨p, 0, none⟩)] w fun e w' => e = .returned (.int .i64 (actE S)) ∧ PA w' p sb qv M (actS S) ∧ Keep M w w' := by
  obtain ⟨N, sec, q, off, arm, acts, life⟩ := S
  obtain ⟨c0, c1, c2, c3, c4, c5⟩ := h.get
  obtain ⟨f0, f1, f2, f3, f4, f5⟩ := h.fro
  have H := Lib.hid h
  clear h
  simp only at hl ha hr c0 c1 c2 c3 c4 c5
  have H1 := Lib.hid (H.out.put ⟨N, sec, q, off, arm, acts + 1, life⟩ 4 (.int .i64 ((acts : Int) + 1)) rfl rfl rfl (by simp))
  by_cases h0 : arm = 0
  · subst h0
    go_enter Tryd.func68, Tryd.ntmps68
    go_wp2
    go_ret
    exact ⟨rfl, H1.out, (Keep.refl _ _).set_ H.out.m0 _ _⟩
  · by_cases h1 : arm = 1
    · subst h1
      have H2 := Lib.hid (H1.out.put ⟨N, sec, q, off, 0, acts + 1, life⟩ 3 (.int .i64 0) rfl rfl rfl (by simp))
      go_enter Tryd.func68, Tryd.ntmps68
      go_wp2_with fail
      refine (off_any _ _ _ _ _ _ H2.out hl).mono ?_
      rintro e w' ⟨rfl, h3, k3⟩
      have HK := Lib.hid ((((Keep.refl M w).set_ H.out.m0 4 (.int .i64 ((acts : Int) + 1))).set_ H.out.m0 3 (.int .i64 0)).trans k3)
      have H3 := Lib.hid h3
      clear h3 k3
      go_wp2
      go_ret
      exact ⟨rfl, H3.out, HK.out⟩
    · have e1 : ((arm - 1 : Nat) : Int) = (arm : Int) - 1 := by omega
      have H2 := Lib.hid (H1.out.put ⟨N, sec, q, off, arm - 1, acts + 1, life⟩ 3 (.int .i64 ((arm : Int) - 1)) rfl rfl rfl (by simp [e1]))
      have hE : actE ⟨N, sec, q, off, arm, acts, life⟩ = 0 := by simp [actE, h1]
      have hS : actS ⟨N, sec, q, off, arm, acts, life⟩ = ⟨N, sec, q, off, arm - 1, acts + 1, life⟩ := by simp [actS, h0, h1]
      have HE := Lib.hid hE
      have HS := Lib.hid hS
      have h2 : (2 : Int) ≤ arm := by omega
      clear hE hS e1
      go_enter Tryd.func68, Tryd.ntmps68
      go_wp2
      go_ret
      rw [HE.out, HS.out]
      exact ⟨rfl, H2.out, ((Keep.refl _ _).set_ H.out.m0 _ _).set_ H.out.m0 _ _⟩
end Go.Proofs.YtnnppdjgmjgjhaaDoor.Plate
