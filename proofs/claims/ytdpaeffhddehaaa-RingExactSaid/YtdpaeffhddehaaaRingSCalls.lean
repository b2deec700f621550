/- The walks of a ring's New, Get, Del, Pin, Let, Pins. -/
import Derived.Test.YtdpaeffhddehaaaRingSTop
namespace Go.Proofs.Ytdpaeffhddehaaa.RingS
set_option maxRecDepth 100000
open Go.RowKit Go.Shelf
open Go.Proofs.Ytdpaeffhddehaaa.Mem
open Go.Proofs.Ytdpaeffhddehaaa.Ring
attribute [local go_sem] Oper.semAt_some

theorem info_ptr : (Try.prog.info? 72).map (fun i => (i.zero, i.size, i.bytes)) = some (some (.pointer none), 1, 8) := by kernel_rfl
theorem run_row (n : Nat) (hn : n ≤ 64) (w : World) :
    (Instr.makeSlice 67 (.int .i64 (n : Int)) (.int .i64 (n : Int))).run Try.prog w = .ok (.slice (some ⟨w.heap.size, 0, none⟩) n n) (w.alloc (.cells (madeCells #[.pointer none] n) 72)) := by
  obtain ⟨i0, hi, hz0, hz1, hz2⟩ := info_parts info_ptr
  have h := run_make (P := Try.prog) w 67 72 i0 _ Try.underlying67 hi hz0 .i64 .i64 n n (by omega) (Int.le_refl _) (by rw [hz2]; omega) (by omega)
  rw [hz1] at h
  simpa [Value.cells] using h
theorem clamp_is (n : Int) : min (max n 1) 64 = ((clampN n : Nat) : Int) := by
  unfold clampN
  split
  · omega
  · split <;> omega
theorem clamp_wf (n : Int) : 1 ≤ clampN n ∧ clampN n ≤ 64 := by
  unfold clampN
  split
  · omega
  · split <;> omega
set_option maxHeartbeats 800000 in
theorem new_any (w : World) (n : Int) (_hn : -9223372036854775808 ≤ n ∧ n ≤ 9223372036854775807) :
    Calls Try.prog 9 #[.int .i64 n] w fun e w' => ∃ p, e = .returned (.pointer (some ⟨p, 0, none⟩)) ∧ RQ w' p (fun k => k < w.heap.size) (newR (clampN n)) ∧ Below w.heap.size w w' ∧ w.heap.size ≤ p := by
  obtain ⟨N, hN⟩ : ∃ N, N = clampN n := ⟨_, rfl⟩
  have hc := clamp_is n
  obtain ⟨h1, h2⟩ := clamp_wf n
  rw [← hN] at hc h1 h2 ⊢
  have hmk : ∀ m : Int, m = (N : Int) → ∀ w, (Instr.makeSlice 67 (.int .i64 m) (.int .i64 m)).run Try.prog w = .ok (.slice (some ⟨w.heap.size, 0, none⟩) N N) (w.alloc (.cells (madeCells #[.pointer none] N) 72)) := by
    rintro m rfl w
    exact run_row N h2 w
  have hP := Blk.new (w.alloc (.cells (madeCells #[.pointer none] N) 72)) 69 #[.slice (some ⟨w.heap.size, 0, none⟩) N N, .int .i64 0]
  have hF := (Blk.new w 72 (madeCells #[.pointer none] N)).alloc (.cells #[.slice (some ⟨w.heap.size, 0, none⟩) N N, .int .i64 0] 69)
  rw [World.size_alloc] at hP
  have hb : Below w.heap.size w ((w.alloc (.cells (madeCells #[.pointer none] N) 72)).alloc (.cells #[.slice (some ⟨w.heap.size, 0, none⟩) N N, .int .i64 0] 69)) := ((Below.refl _ _).alloc (Nat.le_refl _) _).alloc (by simp) _
  clear hN
  have HP := Lib.hid hP
  have HF := Lib.hid hF
  have HB := Lib.hid hb
  have HE : Hid (∀ e w', (e = Ending.returned (.pointer (some ⟨w.heap.size + 1, 0, none⟩)) ∧ w' = ((w.alloc (.cells (madeCells #[.pointer none] N) 72)).alloc (.cells #[.slice (some ⟨w.heap.size, 0, none⟩) N N, .int .i64 0] 69))) → ∃ p, e = .returned (.pointer (some ⟨p, 0, none⟩)) ∧ RQ w' p (fun k => k < w.heap.size) (newR N) ∧ Below w.heap.size w w' ∧ w.heap.size ≤ p) := by
    rintro e w' ⟨rfl, rfl⟩
    refine ⟨_, rfl, ⟨w.heap.size, fun _ => 0, HP.out, ⟨_, HF.out, by simp [madeCells, newR], fun i hi => ?_⟩, fun i t _ ht => (by cases ht), by omega, fun i t _ ht => (by cases ht), fun i _ t _ _ _ ht => (by cases ht), by simp, by simp, fun k hk => ?_, ⟨h1, h2, h1⟩⟩, HB.out, by omega⟩
    · have hi' : i < N := hi
      simp [madeCells, newR, ptrV, hi', Nat.mod_one]
    · have := HB.out.size; omega
  clear hP hF hb HP HF HB
  refine Calls.mono ?_ HE.out
  by_cases a : n < 1
  · have hmk1 := hmk 1 (by omega)
    clear hmk hc HE
    go_enter Try.func9, Try.ntmps9
    go_wp2
    go_ret
    exact ⟨rfl, rfl⟩
  · by_cases b : 64 < n
    · have hmk1 := hmk 64 (by omega)
      clear hmk hc HE
      go_enter Try.func9, Try.ntmps9
      go_wp2
      go_ret
      exact ⟨rfl, rfl⟩
    · have hmk1 := hmk n (by omega)
      have ha : 1 ≤ n := by omega
      clear hmk hc HE
      go_enter Try.func9, Try.ntmps9
      go_wp2
      go_ret
      exact ⟨rfl, rfl⟩
section
variable {p fb : Nat} {ad : Nat → Nat} {M : Nat → Prop} {S : RState}
/-- what a call leaves of a ring -/
def Left (w : World) (p : Nat) (M : Nat → Prop) (S : RState) (w' : World) : Prop := RQ w' p M S ∧ Keep M w w'
theorem left_below {w w1 : World} (h : RA w p fb ad M S) (b : Below w.heap.size w w1) : Left w p M S w1 := ⟨⟨fb, ad, h.below b⟩, Keep.of_below b h.lt⟩
theorem put_same {S : RState} {i : Nat} {t : Thing} (h : S.f i = some t) : putAt S i (some t) = S := by
  unfold putAt
  have : upF S.f i (some t) = S.f := by
    funext j
    by_cases e : j = i
    · subst e; rw [upF_self, h]
    · rw [upF_other _ _ e]
  rw [this]
theorem get_any (k : Int) (w : World) (h : RA w p fb ad M S) :
    Calls Try.prog 13 #[.pointer (some ⟨p, 0, none⟩), .int .i64 k] w fun e w' => e = .returned (.tuple #[.string (getR (⟨#[]⟩ : ByteArray) S k).1, .bool (getR (⟨#[]⟩ : ByteArray) S k).2.1]) ∧ Left w p M (getR (⟨#[]⟩ : ByteArray) S k).2.2 w' := by
  cases hk : atS S k with
  | none =>
    have hT := thing_miss k w h hk
    have hr : getR (⟨#[]⟩ : ByteArray) S k = ((⟨#[]⟩ : ByteArray), false, S) := by unfold getR; rw [hk]
    rw [hr]
    have HT := Lib.hid hT
    have HA := Lib.hid h
    clear hT h hk hr
    go_enter Try.func13, Try.ntmps13
    go_wp2_with fail
    refine HT.out.mono ?_
    rintro e w1 ⟨rfl, b1⟩
    go_wp2
    go_ret2
    exact ⟨rfl, left_below HA.out b1⟩
  | some x =>
    obtain ⟨i, t⟩ := x
    have hT := thing_hit k w h hk
    have hr : getR (⟨#[]⟩ : ByteArray) S k = (t.val, true, putAt S i (some { t with fresh := true })) := by unfold getR; rw [hk]
    rw [hr]
    obtain ⟨-, h2, h3, -, -⟩ := atS_is hk
    have HT := Lib.hid hT
    have HA := Lib.hid h
    have h2' := h2
    clear hT h hk hr
    go_enter Try.func13, Try.ntmps13
    go_wp2_with fail
    refine HT.out.mono ?_
    rintro e w1 ⟨rfl, b1⟩
    have h1 := HA.out.below b1
    obtain ⟨-, -, d1, -, d3, ⟨-, -, f3⟩, -, -⟩ := h1.on h2 h3
    have hU := h1.setTh h2 h3 { t with fresh := true } 3 (.bool true) (by simp [thC])
    have hK := (Keep.of_below b1 HA.out.lt).set_ (HA.out.n1 i t h2 h3).2.2 3 (.bool true)
    have HU := Lib.hid hU
    have HK := Lib.hid hK
    clear hU hK h1 h2 h3
    go_wp2
    go_ret2
    exact ⟨rfl, ⟨fb, ad, HU.out⟩, HK.out⟩
theorem del_any (k : Int) (w : World) (h : RA w p fb ad M S) :
    Calls Try.prog 15 #[.pointer (some ⟨p, 0, none⟩), .int .i64 k] w fun e w' => e = .returned (.tuple #[.string (delR (⟨#[]⟩ : ByteArray) S k).1, .bool (delR (⟨#[]⟩ : ByteArray) S k).2.1]) ∧ Left w p M (delR (⟨#[]⟩ : ByteArray) S k).2.2 w' := by
  have hF := find_any k w h
  have hN := h.wf.n2
  cases hk : atS S k with
  | none =>
    rw [atS_no hk] at hF
    have hr : delR (⟨#[]⟩ : ByteArray) S k = ((⟨#[]⟩ : ByteArray), false, S) := by unfold delR; rw [hk]
    rw [hr]
    have HF := Lib.hid hF
    have HA := Lib.hid h
    clear hF h hk hr
    go_enter Try.func15, Try.ntmps15
    go_wp2_with fail
    refine HF.out.mono ?_
    simp only [idx]
    rintro e w1 ⟨rfl, b1⟩
    go_wp2
    go_ret2
    exact ⟨rfl, left_below HA.out b1⟩
  | some x =>
    obtain ⟨i, t⟩ := x
    have hr : delR (⟨#[]⟩ : ByteArray) S k = (t.val, true, putAt S i none) := by unfold delR; rw [hk]
    rw [hr]
    obtain ⟨e1, h2, h3, -, -⟩ := atS_is hk
    rw [e1] at hF
    have HF := Lib.hid hF
    have HA := Lib.hid h
    clear hF h hk hr e1
    go_enter Try.func15, Try.ntmps15
    go_wp2_with fail
    refine HF.out.mono ?_
    simp only [idx]
    rintro e w1 ⟨rfl, b1⟩
    have h1 := HA.out.below b1
    obtain ⟨c0, -, -⟩ := h1.get
    obtain ⟨d0, -, d1, -, -, -, -, -⟩ := h1.on h2 h3
    have fz := (h1.at_ h2).2
    have HU := Lib.hid (h1.clear (i := i))
    have HK := Lib.hid ((Keep.of_below b1 HA.out.lt).set_ HA.out.m1 i (.pointer none))
    clear h1 h3
    generalize S.N = N at c0 h2 hN
    go_wp2
    go_ret2
    exact ⟨rfl, ⟨fb, ad, HU.out⟩, HK.out⟩
theorem pin_any (k : Int) (w : World) (h : RA w p fb ad M S) (hl : Low S 1000000) :
    Calls Try.prog 17 #[.pointer (some ⟨p, 0, none⟩), .int .i64 k] w fun e w' => e = .returned (.bool (pinR S k).1) ∧ Left w p M (pinR S k).2 w' := by
  cases hk : atS S k with
  | none =>
    have hT := thing_miss k w h hk
    have hr : pinR S k = (false, S) := by unfold pinR; rw [hk]
    rw [hr]
    have HT := Lib.hid hT
    have HA := Lib.hid h
    clear hT h hk hr
    go_enter Try.func17, Try.ntmps17
    go_wp2_with fail
    refine HT.out.mono ?_
    rintro e w1 ⟨rfl, b1⟩
    go_wp2
    go_ret
    exact ⟨rfl, left_below HA.out b1⟩
  | some x =>
    obtain ⟨i, t⟩ := x
    have hT := thing_hit k w h hk
    have hr : pinR S k = (true, putAt S i (some { t with pins := t.pins + 1 })) := by unfold pinR; rw [hk]
    rw [hr]
    obtain ⟨-, h2, h3, -, -⟩ := atS_is hk
    have hp := hl i t h3
    have HT := Lib.hid hT
    have HA := Lib.hid h
    clear hT h hk hr hl
    go_enter Try.func17, Try.ntmps17
    go_wp2_with fail
    refine HT.out.mono ?_
    rintro e w1 ⟨rfl, b1⟩
    have h1 := HA.out.below b1
    obtain ⟨-, -, -, d2, -, ⟨-, f2, -⟩, -, -⟩ := h1.on h2 h3
    have HU := Lib.hid (h1.setTh h2 h3 { t with pins := t.pins + 1 } 2 (.int .i64 ((t.pins : Int) + 1)) (by simp [thC]))
    have HK := Lib.hid ((Keep.of_below b1 HA.out.lt).set_ (HA.out.n1 i t h2 h3).2.2 2 (.int .i64 ((t.pins : Int) + 1)))
    clear h1 h2 h3
    go_wp2
    go_ret
    exact ⟨rfl, ⟨fb, ad, HU.out⟩, HK.out⟩
theorem pins_any (k : Int) (w : World) (h : RA w p fb ad M S) :
    Calls Try.prog 20 #[.pointer (some ⟨p, 0, none⟩), .int .i64 k] w fun e w' => e = .returned (.int .i64 (pinsR S k : Nat)) ∧ Below w.heap.size w w' := by
  cases hk : atS S k with
  | none =>
    have hT := thing_miss k w h hk
    have hr : pinsR S k = 0 := by unfold pinsR; rw [hk]
    rw [hr]
    have HT := Lib.hid hT
    clear hT h hk hr
    go_enter Try.func20, Try.ntmps20
    go_wp2_with fail
    refine HT.out.mono ?_
    rintro e w1 ⟨rfl, b1⟩
    go_wp2
    go_ret
    exact ⟨rfl, b1⟩
  | some x =>
    obtain ⟨i, t⟩ := x
    have hT := thing_hit k w h hk
    have hr : pinsR S k = t.pins := by unfold pinsR; rw [hk]
    rw [hr]
    obtain ⟨-, h2, h3, -, -⟩ := atS_is hk
    have HT := Lib.hid hT
    have HA := Lib.hid h
    clear hT h hk hr
    go_enter Try.func20, Try.ntmps20
    go_wp2_with fail
    refine HT.out.mono ?_
    rintro e w1 ⟨rfl, b1⟩
    obtain ⟨-, -, -, d2, -, -, -, -⟩ := (HA.out.below b1).on h2 h3
    clear h2 h3
    go_wp2
    go_ret
    exact ⟨rfl, b1⟩
set_option maxHeartbeats 800000 in
theorem let_any (k : Int) (w : World) (h : RA w p fb ad M S) (hl : Low S 1000000) :
    Calls Try.prog 19 #[.pointer (some ⟨p, 0, none⟩), .int .i64 k] w fun e w' => e = .returned (.bool (letR S k).1) ∧ Left w p M (letR S k).2 w' := by
  cases hk : atS S k with
  | none =>
    have hT := thing_miss k w h hk
    have hr : letR S k = (false, S) := by unfold letR; rw [hk]
    rw [hr]
    have HT := Lib.hid hT
    have HA := Lib.hid h
    clear hT h hk hr
    go_enter Try.func19, Try.ntmps19
    go_wp2_with fail
    refine HT.out.mono ?_
    rintro e w1 ⟨rfl, b1⟩
    go_wp2
    go_ret
    exact ⟨rfl, left_below HA.out b1⟩
  | some x =>
    obtain ⟨i, t⟩ := x
    have hT := thing_hit k w h hk
    obtain ⟨-, h2, h3, -, -⟩ := atS_is hk
    have hp := hl i t h3
    by_cases h0 : t.pins = 0
    · have hr : letR S k = (false, S) := by unfold letR; rw [hk]; simp [h0]
      rw [hr]
      have HT := Lib.hid hT
      have HA := Lib.hid h
      clear hT h hk hr hl
      go_enter Try.func19, Try.ntmps19
      go_wp2_with fail
      refine HT.out.mono ?_
      rintro e w1 ⟨rfl, b1⟩
      have hM := may_any w1 (ad i) t.pins ((HA.out.below b1).on h2 h3).2.2.2.1
      rw [decide_eq_true h0] at hM
      have HM := Lib.hid hM
      clear hM h2 h3
      go_wp2_with fail
      refine HM.out.mono ?_
      rintro e w2 ⟨rfl, rfl⟩
      go_wp2
      go_ret
      exact ⟨rfl, left_below HA.out b1⟩
    · have hr : letR S k = (true, putAt S i (some { t with pins := t.pins - 1 })) := by unfold letR; rw [hk]; simp [h0]
      rw [hr]
      have HT := Lib.hid hT
      have HA := Lib.hid h
      clear hT h hk hr hl
      have e1 : ((t.pins - 1 : Nat) : Int) = (t.pins : Int) - 1 := by omega
      go_enter Try.func19, Try.ntmps19
      go_wp2_with fail
      refine HT.out.mono ?_
      rintro e w1 ⟨rfl, b1⟩
      have h1 := HA.out.below b1
      obtain ⟨-, -, -, d2, -, ⟨-, f2, -⟩, -, -⟩ := h1.on h2 h3
      have hM := may_any w1 (ad i) t.pins d2
      rw [decide_eq_false h0] at hM
      have HM := Lib.hid hM
      have HU := Lib.hid (h1.setTh h2 h3 { t with pins := t.pins - 1 } 2 (.int .i64 ((t.pins : Int) - 1)) (by simp [thC, e1]))
      have HK := Lib.hid ((Keep.of_below b1 HA.out.lt).set_ (HA.out.n1 i t h2 h3).2.2 2 (.int .i64 ((t.pins : Int) - 1)))
      clear h1 h2 h3 hM e1
      go_wp2_with fail
      refine HM.out.mono ?_
      rintro e w2 ⟨rfl, rfl⟩
      go_wp2
      go_ret
      exact ⟨rfl, ⟨fb, ad, HU.out⟩, HK.out⟩
end
end Go.Proofs.Ytdpaeffhddehaaa.RingS
