/- The walks of the document's own New, Get, Del, Pin, Pins. -/
import Derived.Test.YtdpaeffhddehaaaRefMem
namespace Go.Proofs.Ytdpaeffhddehaaa.Ref
set_option maxRecDepth 100000
open Go.RowKit
open Go.Proofs.Ytdpaeffhddehaaa.Mem
open Go.Proofs.Ytdpaeffhddehaaa.Ring
attribute [local go_sem] Oper.semAt_some

def zS : ByteArray := ⟨#[]⟩
section
variable {w w' : World} {u lb : Nat} {S : RState}
/-- what a call leaves -/
def Left (w : World) (u lb : Nat) (S : RState) (w' : World) : Prop := UA w' u lb S ∧ Keep (Apart w u lb) w w'
theorem place_hit (k : Int) (w : World) (h : UA w u lb S) {i : Nat} {t : Thing} (hk : atS S k = some (i, t)) :
    Calls Try.prog 39 #[.pointer (some ⟨u, 0, none⟩), .int .i64 k] w fun e w' => e = .returned (.int .i64 (i : Int)) ∧ w = w' := by
  have := place_any k w h
  rw [(atS_is hk).1] at this
  exact this
theorem place_miss (k : Int) (w : World) (h : UA w u lb S) (hk : atS S k = none) :
    Calls Try.prog 39 #[.pointer (some ⟨u, 0, none⟩), .int .i64 k] w fun e w' => e = .returned (.int .i64 (-1)) ∧ w = w' := by
  have := place_any k w h
  rw [atS_no hk] at this
  exact this
set_option maxHeartbeats 800000 in
theorem get_any (k : Int) (w : World) (h : UA w u lb S) :
    Calls Try.prog 14 #[.pointer (some ⟨u, 0, none⟩), .int .i64 k] w fun e w' => e = .returned (.tuple #[.string (getR zS S k).1, .bool (getR zS S k).2.1]) ∧ Left w u lb (getR zS S k).2.2 w' := by
  obtain ⟨c0, -, -⟩ := h.get
  have hN := h.wf.n2
  cases hk : atS S k with
  | none =>
    have hr : getR zS S k = (zS, false, S) := by unfold getR; rw [hk]
    rw [hr]
    have HT := Lib.hid (place_miss k w h hk)
    have HA := Lib.hid h
    clear h hk hr c0
    go_enter Try.func14, Try.ntmps14
    go_wp2_with fail
    refine HT.out.mono ?_
    rintro e w1 ⟨rfl, rfl⟩
    go_wp2
    go_ret2
    exact ⟨rfl, HA.out, Keep.refl _ _⟩
  | some x =>
    obtain ⟨i, t⟩ := x
    have hr : getR zS S k = (t.val, true, putAt S i (some { t with fresh := true })) := by unfold getR; rw [hk]
    rw [hr]
    obtain ⟨-, h2, h3, -, -⟩ := atS_is hk
    have HT := Lib.hid (place_hit k w h hk)
    have HA := Lib.hid h
    obtain ⟨-, -, d2, -, d4⟩ := h.on_ h2 h3
    obtain ⟨-, -, -, -, f4⟩ := h.fro h2
    have HU := Lib.hid (h.setTh (x := some { t with fresh := true }) h2 (show 4 < 5 by omega) (.bool true) (by rw [h3]; rfl))
    have HK := Lib.hid (apart_set (Keep.refl (Apart w u lb) w) (.inr rfl) (i * 5 + 4) (.bool true))
    obtain ⟨N, hN2⟩ : ∃ N, N = S.N := ⟨_, rfl⟩
    rw [← hN2] at hN c0 h2
    clear h hk hr h3 hN2
    go_enter Try.func14, Try.ntmps14
    go_wp2_with fail
    refine HT.out.mono ?_
    rintro e w1 ⟨rfl, rfl⟩
    go_wp2
    go_ret2
    exact ⟨rfl, HU.out, HK.out⟩
set_option maxHeartbeats 800000 in
theorem del_any (k : Int) (w : World) (h : UA w u lb S) :
    Calls Try.prog 16 #[.pointer (some ⟨u, 0, none⟩), .int .i64 k] w fun e w' => e = .returned (.tuple #[.string (delR zS S k).1, .bool (delR zS S k).2.1]) ∧ Left w u lb (delR zS S k).2.2 w' := by
  obtain ⟨c0, -, -⟩ := h.get
  have hN := h.wf.n2
  cases hk : atS S k with
  | none =>
    have hr : delR zS S k = (zS, false, S) := by unfold delR; rw [hk]
    rw [hr]
    have HT := Lib.hid (place_miss k w h hk)
    have HA := Lib.hid h
    clear h hk hr c0
    go_enter Try.func16, Try.ntmps16
    go_wp2_with fail
    refine HT.out.mono ?_
    rintro e w1 ⟨rfl, rfl⟩
    go_wp2
    go_ret2
    exact ⟨rfl, HA.out, Keep.refl _ _⟩
  | some x =>
    obtain ⟨i, t⟩ := x
    have hr : delR zS S k = (t.val, true, putAt S i none) := by unfold delR; rw [hk]
    rw [hr]
    obtain ⟨-, h2, h3, -, -⟩ := atS_is hk
    have HT := Lib.hid (place_hit k w h hk)
    have HA := Lib.hid h
    obtain ⟨d0, d1, d2, d3, d4⟩ := h.on_ h2 h3
    obtain ⟨f0, f1, f2, f3, f4⟩ := h.fro h2
    have HU := Lib.hid (h.lay none h2 rfl)
    have HK := Lib.hid (apart_set (apart_set (apart_set (apart_set (apart_set (Keep.refl (Apart w u lb) w) (.inr rfl) (i * 5) (.bool false)) (.inr rfl) (i * 5 + 1) (.int .i64 0)) (.inr rfl) (i * 5 + 2) (.string ⟨#[]⟩)) (.inr rfl) (i * 5 + 3) (.int .i64 0)) (.inr rfl) (i * 5 + 4) (.bool false))
    obtain ⟨N, hN2⟩ : ∃ N, N = S.N := ⟨_, rfl⟩
    rw [← hN2] at hN c0 h2
    clear h hk hr h3 hN2
    go_enter Try.func16, Try.ntmps16
    go_wp2_with fail
    refine HT.out.mono ?_
    rintro e w1 ⟨rfl, rfl⟩
    go_wp2
    go_ret2
    exact ⟨rfl, HU.out, HK.out⟩
set_option maxHeartbeats 800000 in
theorem pins_any (k : Int) (w : World) (h : UA w u lb S) :
    Calls Try.prog 21 #[.pointer (some ⟨u, 0, none⟩), .int .i64 k] w fun e w' => e = .returned (.int .i64 (pinsR S k : Nat)) ∧ w = w' := by
  obtain ⟨c0, -, -⟩ := h.get
  have hN := h.wf.n2
  cases hk : atS S k with
  | none =>
    have hr : pinsR S k = 0 := by unfold pinsR; rw [hk]
    rw [hr]
    have HT := Lib.hid (place_miss k w h hk)
    clear h hk hr c0
    go_enter Try.func21, Try.ntmps21
    go_wp2_with fail
    refine HT.out.mono ?_
    rintro e w1 ⟨rfl, rfl⟩
    go_wp2
    go_ret
    exact ⟨rfl, rfl⟩
  | some x =>
    obtain ⟨i, t⟩ := x
    have hr : pinsR S k = t.pins := by unfold pinsR; rw [hk]
    rw [hr]
    obtain ⟨-, h2, h3, -, -⟩ := atS_is hk
    have HT := Lib.hid (place_hit k w h hk)
    obtain ⟨-, -, -, d3, -⟩ := h.on_ h2 h3
    obtain ⟨N, hN2⟩ : ∃ N, N = S.N := ⟨_, rfl⟩
    rw [← hN2] at hN c0 h2
    clear h hk hr h3 hN2
    go_enter Try.func21, Try.ntmps21
    go_wp2_with fail
    refine HT.out.mono ?_
    rintro e w1 ⟨rfl, rfl⟩
    go_wp2
    go_ret
    exact ⟨rfl, rfl⟩
/-- by one more (up), or one less -/
def pinBy (S : RState) (k : Int) (up : Bool) : Bool × RState := if up then pinR S k else letR S k
set_option maxHeartbeats 1600000 in
theorem pin_miss (k d : Int) (w : World) (h : UA w u lb S) (hk : atS S k = none) :
    Calls Try.prog 18 #[.pointer (some ⟨u, 0, none⟩), .int .i64 k, .int .i64 d] w fun e w' => e = .returned (.bool false) ∧ w = w' := by
  have HT := Lib.hid (place_miss k w h hk)
  clear h hk
  go_enter Try.func18, Try.ntmps18
  go_wp2_with fail
  refine HT.out.mono ?_
  rintro e w1 ⟨rfl, rfl⟩
  go_wp2
  go_ret
  exact ⟨rfl, rfl⟩
set_option maxHeartbeats 1600000 in
theorem pin_hit (k d : Int) (hd : d = 1 ∨ d = -1) (w : World) (h : UA w u lb S) {i : Nat} {t : Thing} (hk : atS S k = some (i, t)) (hl : t.pins ≤ 1000000) (q : Nat) (hq : (t.pins : Int) + d = (q : Int)) :
    Calls Try.prog 18 #[.pointer (some ⟨u, 0, none⟩), .int .i64 k, .int .i64 d] w fun e w' => e = .returned (.bool true) ∧ Left w u lb (putAt S i (some { t with pins := q })) w' := by
  obtain ⟨c0, -, -⟩ := h.get
  have hN := h.wf.n2
  obtain ⟨-, h2, h3, -, -⟩ := atS_is hk
  have HT := Lib.hid (place_hit k w h hk)
  obtain ⟨-, -, -, d3, -⟩ := h.on_ h2 h3
  obtain ⟨-, -, -, f3, -⟩ := h.fro h2
  have HU := Lib.hid ((h.below (Below.refl _ _).drew).setTh (x := some { t with pins := q }) h2 (show 3 < 5 by omega) (.int .i64 (q : Int)) (by rw [h3]; rfl))
  have HK := Lib.hid (apart_set (w := w.drew) ((Keep.refl (Apart w u lb) w).drewN 1) (.inr rfl) (i * 5 + 3) (.int .i64 (q : Int)))
  have c0' : w.drew.cell? ⟨u, 0, none⟩ = some (.slice (some ⟨lb, 0, none⟩) S.N S.N) := c0
  have d3' : w.drew.cell? ⟨lb, i * 5 + 1 + 1 + 1, none⟩ = some (.int .i64 (t.pins : Int)) := d3
  have f3' : w.drew.frozen? ⟨lb, i * 5 + 1 + 1 + 1, none⟩ = false := f3
  have hi0 : (0 : Int) ≤ (i : Int) := by omega
  have hi1 : (i : Int) < (S.N : Int) := by omega
  have hw1 : IntKind.i64.wrap ((t.pins : Int) + d) = (t.pins : Int) + d := IntWalk.i64_in _ (by omega)
  have hw2 : IntKind.i64.wrap (q : Int) = (q : Int) := IntWalk.i64_in _ (by omega)
  have hnn : ¬ ((t.pins : Int) + d < 0) := by omega
  have HQ := Lib.hid hq
  generalize t.pins = tp at *
  generalize S.N = N at hN c0 h2 c0' hi1
  clear h hk h3 hd hq
  go_enter Try.func18, Try.ntmps18
  go_wp2_with fail
  refine HT.out.mono ?_
  rintro e w1 ⟨rfl, rfl⟩
  go_upto_region 4 with (fail)
  go_still_tail 17, (by kernel_rfl)
  change wpList _ _ _ _ _ w.drew
  clear c0 d3 f3
  generalize hGen : w.drew = W at c0' d3' f3' HU HK ⊢
  clear hGen
  rw [HQ.out] at hw1 hnn
  go_wp2
  go_ret
  rw [HQ.out]
  exact ⟨rfl, HU.out, HK.out⟩
set_option maxHeartbeats 1600000 in
theorem pin_zero (k : Int) (w : World) (h : UA w u lb S) {i : Nat} {t : Thing} (hk : atS S k = some (i, t)) (h0 : t.pins = 0) :
    Calls Try.prog 18 #[.pointer (some ⟨u, 0, none⟩), .int .i64 k, .int .i64 (-1)] w fun e w' => e = .returned (.bool false) ∧ w = w' := by
  obtain ⟨c0, -, -⟩ := h.get
  have hN := h.wf.n2
  obtain ⟨-, h2, h3, -, -⟩ := atS_is hk
  have HT := Lib.hid (place_hit k w h hk)
  obtain ⟨-, -, -, d3, -⟩ := h.on_ h2 h3
  rw [h0] at d3
  generalize S.N = N at hN c0 h2
  clear h hk h3 h0
  go_enter Try.func18, Try.ntmps18
  go_wp2_with fail
  refine HT.out.mono ?_
  rintro e w1 ⟨rfl, rfl⟩
  go_wp2
  go_ret
  exact ⟨rfl, rfl⟩
/-- Pin, by one more -/
theorem up_any (k : Int) (w : World) (h : UA w u lb S) (hl : Low S 1000000) :
    Calls Try.prog 18 #[.pointer (some ⟨u, 0, none⟩), .int .i64 k, .int .i64 1] w fun e w' => e = .returned (.bool (pinR S k).1) ∧ Left w u lb (pinR S k).2 w' := by
  cases hk : atS S k with
  | none =>
    have hr : pinR S k = (false, S) := by unfold pinR; rw [hk]
    rw [hr]
    exact (pin_miss k 1 w h hk).mono (fun e w' ⟨a, b⟩ => ⟨a, b ▸ h, b ▸ Keep.refl _ _⟩)
  | some x =>
    obtain ⟨i, t⟩ := x
    have hr : pinR S k = (true, putAt S i (some { t with pins := t.pins + 1 })) := by unfold pinR; rw [hk]
    rw [hr]
    exact pin_hit k 1 (.inl rfl) w h hk (hl i t (atS_is hk).2.2.1) (t.pins + 1) (by omega)
theorem down_any (k : Int) (w : World) (h : UA w u lb S) (hl : Low S 1000000) :
    Calls Try.prog 18 #[.pointer (some ⟨u, 0, none⟩), .int .i64 k, .int .i64 (-1)] w fun e w' => e = .returned (.bool (letR S k).1) ∧ Left w u lb (letR S k).2 w' := by
  cases hk : atS S k with
  | none =>
    have hr : letR S k = (false, S) := by unfold letR; rw [hk]
    rw [hr]
    exact (pin_miss k (-1) w h hk).mono (fun e w' ⟨a, b⟩ => ⟨a, b ▸ h, b ▸ Keep.refl _ _⟩)
  | some x =>
    obtain ⟨i, t⟩ := x
    by_cases h0 : t.pins = 0
    · have hr : letR S k = (false, S) := by unfold letR; rw [hk]; simp [h0]
      rw [hr]
      exact (pin_zero k w h hk h0).mono (fun e w' ⟨a, b⟩ => ⟨a, b ▸ h, b ▸ Keep.refl _ _⟩)
    · have hr : letR S k = (true, putAt S i (some { t with pins := t.pins - 1 })) := by unfold letR; rw [hk]; simp [h0]
      rw [hr]
      exact pin_hit k (-1) (.inr rfl) w h hk (hl i t (atS_is hk).2.2.1) (t.pins - 1) (by omega)
end
theorem info_frame : (Try.prog.info? 35).map (fun i => (i.zero, i.size, i.bytes)) = some (some (.agg #[.bool false, .int .i64 0, .string ⟨#[]⟩, .int .i64 0, .bool false]), 5, 48) := by kernel_rfl
theorem run_frames (n : Nat) (hn : n ≤ 64) (w : World) :
    (Instr.makeSlice 46 (.int .i64 (n : Int)) (.int .i64 (n : Int))).run Try.prog w = .ok (.slice (some ⟨w.heap.size, 0, none⟩) n n) (w.alloc (.cells (madeCells #[.bool false, .int .i64 0, .string ⟨#[]⟩, .int .i64 0, .bool false] (n * 5)) 35)) := by
  obtain ⟨i0, hi, hz0, hz1, hz2⟩ := info_parts info_frame
  have h := run_make (P := Try.prog) w 46 35 i0 _ Try.underlying46 hi hz0 .i64 .i64 n n (by omega) (Int.le_refl _) (by rw [hz2]; omega) (by omega)
  rw [hz1] at h
  simpa [Value.cells] using h
theorem clamp_wf (n : Int) : 1 ≤ clampN n ∧ clampN n ≤ 64 := by
  unfold clampN
  split
  · omega
  · split <;> omega
set_option maxHeartbeats 800000 in
theorem new_any (w : World) (n : Int) (_hn : -9223372036854775808 ≤ n ∧ n ≤ 9223372036854775807) :
    Calls Try.prog 10 #[.int .i64 n] w fun e w' => e = .returned (.pointer (some ⟨w.heap.size + 1, 0, none⟩)) ∧ UA w' (w.heap.size + 1) w.heap.size (newR (clampN n)) ∧ Below w.heap.size w w' ∧ w'.heap.size = w.heap.size + 1 + 1 := by
  obtain ⟨N, hN⟩ : ∃ N, N = clampN n := ⟨_, rfl⟩
  obtain ⟨h1, h2⟩ := clamp_wf n
  have hc : (n < 1 → N = 1) ∧ (64 < n → N = 64) ∧ (1 ≤ n → n ≤ 64 → (N : Int) = n) := by
    rw [hN]; unfold clampN
    refine ⟨fun h => by rw [if_pos h], fun h => by rw [if_neg (by omega), if_pos h], fun h h' => by rw [if_neg (by omega), if_neg (by omega)]; omega⟩
  rw [← hN] at h1 h2 ⊢
  have hmk : ∀ m : Int, m = (N : Int) → ∀ w, (Instr.makeSlice 46 (.int .i64 m) (.int .i64 m)).run Try.prog w = .ok (.slice (some ⟨w.heap.size, 0, none⟩) N N) (w.alloc (.cells (madeCells #[.bool false, .int .i64 0, .string ⟨#[]⟩, .int .i64 0, .bool false] (N * 5)) 35)) := by
    rintro m rfl w
    exact run_frames N h2 w
  have HE : Hid (∀ e w', (e = Ending.returned (.pointer (some ⟨w.heap.size + 1, 0, none⟩)) ∧ w' = ((w.alloc (.cells (madeCells #[.bool false, .int .i64 0, .string ⟨#[]⟩, .int .i64 0, .bool false] (N * 5)) 35)).alloc (.cells #[.slice (some ⟨w.heap.size, 0, none⟩) N N, .int .i64 0] 71))) →
      e = .returned (.pointer (some ⟨w.heap.size + 1, 0, none⟩)) ∧ UA w' (w.heap.size + 1) w.heap.size (newR N) ∧ Below w.heap.size w w' ∧ w'.heap.size = w.heap.size + 1 + 1) := by
    rintro e w' ⟨rfl, rfl⟩
    have hP := Blk.new (w.alloc (.cells (madeCells #[.bool false, .int .i64 0, .string ⟨#[]⟩, .int .i64 0, .bool false] (N * 5)) 35)) 71 #[.slice (some ⟨w.heap.size, 0, none⟩) N N, .int .i64 0]
    rw [World.size_alloc] at hP
    refine ⟨rfl, ⟨hP, ⟨_, (Blk.new w _ _).alloc _, by simp [madeCells, newR], fun i hi j hj => ?_⟩, by omega, ⟨h1, h2, h1⟩⟩, ((Below.refl _ _).alloc (Nat.le_refl _) _).alloc (by simp) _, by simp⟩
    have hi' : i < N := hi
    rcases (show j = 0 ∨ j = 1 ∨ j = 2 ∨ j = 3 ∨ j = 4 by omega) with rfl | rfl | rfl | rfl | rfl <;> simp [madeCells, newR, frC, show i * 5 < N * 5 by omega, show i * 5 + 1 < N * 5 by omega, show i * 5 + 2 < N * 5 by omega, show i * 5 + 3 < N * 5 by omega, show i * 5 + 4 < N * 5 by omega, show (i * 5 + 1) % 5 = 1 by omega, show (i * 5 + 2) % 5 = 2 by omega, show (i * 5 + 3) % 5 = 3 by omega, show (i * 5 + 4) % 5 = 4 by omega]
  refine Calls.mono ?_ HE.out
  obtain ⟨a1, a2, a3⟩ := hc
  by_cases a : n < 1
  · have hmk1 := hmk 1 (by rw [a1 a]; rfl)
    clear hmk HE a1 a2 a3 hN
    go_enter Try.func10, Try.ntmps10
    go_wp2
    go_ret
    exact ⟨rfl, rfl⟩
  · by_cases b : 64 < n
    · have hmk1 := hmk 64 (by rw [a2 b]; rfl)
      clear hmk HE a1 a2 a3 hN
      go_enter Try.func10, Try.ntmps10
      go_wp2
      go_ret
      exact ⟨rfl, rfl⟩
    · have hmk1 := hmk n (a3 (by omega) (by omega)).symm
      have ha : 1 ≤ n := by omega
      clear hmk HE a1 a2 a3 hN
      go_enter Try.func10, Try.ntmps10
      go_wp2
      go_ret
      exact ⟨rfl, rfl⟩
end Go.Proofs.Ytdpaeffhddehaaa.Ref
