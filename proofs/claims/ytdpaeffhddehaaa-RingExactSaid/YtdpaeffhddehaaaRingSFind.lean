/- The walks of a ring's find, thing, and of the library's functions that they call. -/
import Derived.Test.YtdpaeffhddehaaaRingSMem
import Derived.Defers
import Derived.Recover
import Derived.Deep.LoopGhost
import Derived.Shelf.Abstract
namespace Go.Proofs.Ytdpaeffhddehaaa.RingS
set_option maxRecDepth 100000
open Go.RowKit Go.Shelf
open Go.Proofs.Ytdpaeffhddehaaa.Mem
open Go.Proofs.Ytdpaeffhddehaaa.Ring
attribute [local go_sem] Oper.semAt_some

theorem ret_bool' {a b : Bool} (h : a = b) : Ending.returned (.bool a) = .returned (.bool b) := by rw [h]
theorem ret_int' {a b : Int} (h : a = b) : Ending.returned (.int .i64 a) = .returned (.int .i64 b) := by rw [h]
theorem below_next {a b c : World} (h : Below a.heap.size a b) (h' : Below b.heap.size b c) : Below a.heap.size a c := h.trans (h'.mono h.size)
theorem below_draw {B : Nat} {a w : World} (h : Below B a w) (q : Nat) : Below B a (w.drewN q) := ⟨h.os, h.tape, h.output, h.size, h.block⟩
set_option maxHeartbeats 400000 in
theorem may_any (w : World) (a : Nat) (n : Nat) (h : w.cell? ⟨a, 2, none⟩ = some (.int .i64 (n : Int))) :
    Calls Try.prog 37 #[.pointer (some ⟨a, 0, none⟩)] w fun e w' => e = .returned (.bool (decide (n = 0))) ∧ w = w' := by
  by_cases hn : n = 0
  · subst hn
    go_enter Try.func37, Try.ntmps37
    go_wp2
    go_ret
    exact ⟨rfl, rfl⟩
  · rw [decide_eq_false hn]
    have h2 : ((n : Int) == 0) = false := by rw [beq_eq_false_iff_ne]; omega
    go_enter Try.func37, Try.ntmps37
    go_wp2
    go_ret
    exact ⟨rfl, rfl⟩
set_option maxHeartbeats 400000 in
theorem match_none (w : World) (g : Nat) :
    Calls Try.prog 55 #[.pointer none, .pointer (some ⟨g, 0, none⟩)] w fun e w' => e = .returned (.bool false) ∧ Below w.heap.size w w' := by
  go_enter Try.func55, Try.ntmps55
  go_wp2
  go_quiet (fail)
  go_wp2
  go_ret
  exact ⟨rfl, below_draw (Below.refl _ _) _⟩
set_option maxHeartbeats 400000 in
theorem match_some (w : World) (g a : Nat) (x k : Int) (h : w.cell? ⟨g, 0, none⟩ = some (.int .i64 k)) (h2 : w.cell? ⟨a, 0, none⟩ = some (.int .i64 x)) :
    Calls Try.prog 55 #[.pointer (some ⟨a, 0, none⟩), .pointer (some ⟨g, 0, none⟩)] w fun e w' => e = .returned (.bool (decide (x = k))) ∧ Below w.heap.size w w' := by
  by_cases hk : x = k
  · subst hk
    go_enter Try.func55, Try.ntmps55
    go_wp2
    go_quiet (fail)
    go_wp2
    go_ret
    exact ⟨ret_bool' (by simp), below_draw (Below.refl _ _) _⟩
  · have hk2 : (x == k) = false := by rw [beq_eq_false_iff_ne]; exact hk
    rw [decide_eq_false hk]
    go_enter Try.func55, Try.ntmps55
    go_wp2
    go_quiet (fail)
    go_wp2
    go_ret
    exact ⟨ret_bool' (by simp), below_draw (Below.refl _ _) _⟩
set_option maxHeartbeats 400000 in
theorem catch_idle (a : Nat) (w : World) :
    CallsD Try.prog 54 #[.pointer (some ⟨a, 0, none⟩)] .returning w fun e u' w' => e = .returned (.tuple #[]) ∧ u' = .returning ∧ w' = w := by
  refine callsD_of_wpS Try.func54 rfl fun c₀ cs hu => ?_
  apply wpS_seq
  apply wpS_region
  simp [wpOpsS, go_sem, recoverD, hu, Try.ntmps54, Exit.thenS]
  refine wpS_cond (t := false) (by simp [Act.eval, Array.replicate]) ?_
  simp only [Bool.false_eq_true, if_false]
  refine wpS_of_wp (wp_skip ?_)
  cases c₀
  simp_all [bodyPostS, results, Try.results54]

section
variable {p fb : Nat} {ad : Nat → Nat} {M : Nat → Prop} {S : RState}
/-- slices.IndexFunc over the frames, at whatever predicate -/
theorem index_any (g : Nat) (lb : Array Value) (eg : ∀ args w, (callFunc g args).run Try.prog w = .ok (.enter g args) w) (pr : Nat → Bool) (w : World) (h : RA w p fb ad M S)
    (hp : ∀ W i, Below w.heap.size w W → i < S.N → Calls Try.prog g (#[ptrV (S.f i) (ad i)] ++ lb) W fun e w' => e = .returned (.bool (pr i)) ∧ Below W.heap.size W w') :
    Calls Try.prog 53 #[.slice (some ⟨fb, 0, none⟩) S.N S.N, .func (.func g) #[] lb] w fun e w' => e = .returned (.int .i64 (idx (fst pr S.N))) ∧ Below w.heap.size w w' := by
  have hN := h.wf.n2
  have HA := Lib.hid h
  have HP := Lib.hid hp
  clear h hp
  obtain ⟨N, hN2⟩ : ∃ N, N = S.N := ⟨_, rfl⟩
  rw [← hN2] at hN ⊢
  have HN2 := Lib.hid hN2
  clear hN2
  go_enter Try.func53, Try.ntmps53
  go_wp2
  go_loopw [5, 8] (fun _ i wr => ∃ k : Nat, k ≤ N ∧ i = .int .i64 (k : Int) ∧ Hid (∀ j, j < k → pr j = false) ∧ Hid (Below w.heap.size w wr)) (fun _ i _ => N - (intOf i).toNat)
  case atStart => exact ⟨0, Nat.zero_le _, rfl, Lib.hid (fun j hj => absurd hj (Nat.not_lt_zero _)), Lib.hid (Below.refl _ _)⟩
  case round =>
    obtain ⟨k, hk, rfl, H0, HB⟩ := hrel
    by_cases hlt : k < N
    · have hc := ((HA.out.below HB.out).at_ (i := k) (by rw [← HN2.out]; exact hlt)).1
      have hcall := HP.out wr k HB.out (by rw [← HN2.out]; exact hlt)
      generalize ptrV (S.f k) (ad k) = V at hc hcall
      cases hq : pr k with
      | true =>
        rw [hq] at hcall
        have HQ := Lib.hid (fst_some hq H0.out hlt)
        have HC := Lib.hid hcall
        clear hq hcall
        go_wp2_with fail
        refine HC.out.mono ?_
        rintro e w' ⟨rfl, hb⟩
        have B1 := HB.out.trans (hb.mono HB.out.size)
        clear hb
        go_wp2
        go_ret
        exact ⟨ret_int' (by rw [HQ.out]; rfl), B1⟩
      | false =>
        rw [hq] at hcall
        have HQ := Lib.hid (show ∀ j, j < k + 1 → pr j = false from fun j hj => by
          by_cases e : j = k
          · subst e; exact hq
          · exact H0.out j (by omega))
        have HC := Lib.hid hcall
        clear hq hcall
        go_wp2_with fail
        refine HC.out.mono ?_
        rintro e w' ⟨rfl, hb⟩
        have B1 := Lib.hid (HB.out.trans (hb.mono HB.out.size))
        clear hb
        go_wp2
        go_roundw
        case rel => exact ⟨k + 1, by omega, by go_num, HQ, B1⟩
        case measure => simp [intOf]; omega
    · obtain rfl : k = N := by omega
      go_wp2
      go_ret
      exact ⟨ret_int' (by rw [fst_none H0.out]; rfl), HB.out⟩
/-- slices.ContainsFunc at mayLeave, where all frames are taken -/
theorem contains_any (w : World) (h : RA w p fb ad M S) (ht : Taken S) :
    Calls Try.prog 36 #[.slice (some ⟨fb, 0, none⟩) S.N S.N, .func (.func 37) #[] #[]] w fun e w' => e = .returned (.bool (leaveS S).isSome) ∧ Below w.heap.size w w' := by
  have hI := index_any 37 #[] (enters_of Try.func37 (by kernel_rfl) rfl) (leaveP S.f) w h (fun W i hW hi => by
    obtain ⟨t, hf⟩ := ht i hi
    have hon := (h.below hW).on hi hf
    unfold leaveP
    rw [hf]
    exact (may_any W (ad i) t.pins hon.2.2.2.1).mono (fun e w' ⟨h1, h2⟩ => ⟨h1, h2 ▸ Below.refl _ _⟩))
  have hd : decide (0 ≤ idx (fst (leaveP S.f) S.N)) = (leaveS S).isSome := by
    unfold leaveS
    cases fst (leaveP S.f) S.N with
    | none => rfl
    | some i => simp [idx]
  generalize idx (fst (leaveP S.f) S.N) = I at hI hd
  rw [← hd]
  have HI := Lib.hid hI
  obtain ⟨N, hN2⟩ : ∃ N, N = S.N := ⟨_, rfl⟩
  rw [← hN2] at HI ⊢
  clear hI hd h ht hN2
  go_enter Try.func36, Try.ntmps36
  go_wp2_with fail
  refine HI.out.mono ?_
  rintro e w' ⟨rfl, hb⟩
  go_wp2
  go_ret
  exact ⟨rfl, hb⟩
theorem run_nil_ptr (a : Addr) (w : World) : (binOp .eql 72 (.pointer none) (.pointer (some a))).run Try.prog w = .ok (.bool false) w := by kernel_rfl
/-- slices.Index at nil -/
theorem vacant_any (w : World) (h : RA w p fb ad M S) :
    Calls Try.prog 35 #[.slice (some ⟨fb, 0, none⟩) S.N S.N, .pointer none] w fun e w' => e = .returned (.int .i64 (idx (vacS S))) ∧ w = w' := by
  have hN := h.wf.n2
  have hnp := run_nil_ptr
  have HA := Lib.hid h
  clear h
  obtain ⟨N, hN2⟩ : ∃ N, N = S.N := ⟨_, rfl⟩
  unfold vacS
  rw [← hN2] at hN ⊢
  have HN2 := Lib.hid hN2
  clear hN2
  go_enter Try.func35, Try.ntmps35
  go_wp2
  go_loop [5, 8] (fun _ i => ∃ k : Nat, k ≤ N ∧ i = .int .i64 (k : Int) ∧ Hid (∀ j, j < k → vacP S.f j = false)) (fun _ i => N - (intOf i).toNat)
  case atStart => exact ⟨0, Nat.zero_le _, rfl, Lib.hid (fun j hj => absurd hj (Nat.not_lt_zero _))⟩
  case round =>
    obtain ⟨k, hk, rfl, H0⟩ := hrel
    by_cases hlt : k < N
    · have hc := (HA.out.at_ (i := k) (by rw [← HN2.out]; exact hlt)).1
      cases hq : S.f k with
      | none =>
        rw [hq] at hc
        have hc' : w.cell? ⟨fb, k, none⟩ = some (.pointer none) := hc
        have HQ := Lib.hid (fst_some (p := vacP S.f) (by unfold vacP; rw [hq]; rfl) H0.out hlt)
        clear hq hc
        go_wp2
        go_ret
        exact ⟨ret_int' (by rw [HQ.out]; rfl), rfl⟩
      | some t =>
        rw [hq] at hc
        have hc' : w.cell? ⟨fb, k, none⟩ = some (.pointer (some ⟨ad k, 0, none⟩)) := hc
        have HQ := Lib.hid (show ∀ j, j < k + 1 → vacP S.f j = false from fun j hj => by
          by_cases e : j = k
          · subst e; unfold vacP; rw [hq]; rfl
          · exact H0.out j (by omega))
        clear hq hc
        go_wp2
        go_round
        case rel => exact ⟨k + 1, by omega, by go_num, HQ⟩
        case measure => simp [intOf]; omega
    · obtain rfl : k = N := by omega
      go_wp2
      go_ret
      exact ⟨ret_int' (by rw [fst_none H0.out]; rfl), rfl⟩
end
end Go.Proofs.Ytdpaeffhddehaaa.RingS
