/- The walks of slab.Good and slab.Size. -/
import Derived.Test.YtcpkngkeechjeaaSlabUsed
import Derived.Lib.QuietBelow
namespace Go.Proofs.Ytcpkngkeechjeaa.Slab
set_option maxRecDepth 100000
open Go.RowKit Go.Sort

theorem sz_small {l : List Slot} (h : l.any wrongB = false) : sz l ≤ 201 * l.length := by
  induction l with
  | nil => simp [sz]
  | cons x r ih =>
    simp only [List.any_cons, Bool.or_eq_false_iff] at h
    have h1 := ih h.2
    have h2 : x.d.size ≤ 200 := by have := h.1; simp [wrongB] at this; omega
    simp only [sz, List.length_cons]; omega
theorem page_cells (w : World) (x y : Value) (T : TypeId) : (w.alloc (.cells #[x, y] T)).cell? ⟨w.heap.size, 0, none⟩ = some x ∧ (w.alloc (.cells #[x, y] T)).cell? ⟨w.heap.size, 1, none⟩ = some y := by
  constructor <;> (rw [World.cell?_alloc_new]; rfl)

/-- a cell, and what lies below, are held over a call -/
theorem held_next {w0 w w' : World} {p : Addr} {v : Value} (h : w.cell? p = some v ∧ Below w0.heap.size w0 w) (hb : Below w.heap.size w w') : w'.cell? p = some v ∧ Below w0.heap.size w0 w' :=
  ⟨(hb.cell (World.block_lt_of_cell? _ _ h.1)).trans h.1, h.2.trans (hb.mono h.2.size)⟩
theorem slots_held {w0 w : World} {p : Addr} {v : Value} {a : Option Addr} {n : Nat} {zs : List Slot} (hs : Slots w0 a n zs) (h : w.cell? p = some v ∧ Below w0.heap.size w0 w) : Slots w a n zs := hs.below h.2

theorem wrongs_any (a : Option Addr) (n c : Nat) (zs : List Slot) (w : World) (h : Slots w a n zs) (hn : n ≤ 1000000) :
    Calls Try.prog 82 #[.slice a n c, .func (.func 83) #[] #[]] w fun e w' => e = .returned (.bool (zs.any wrongB)) ∧ Below w.heap.size w w' :=
  contains_any 83 wrongB (enters_of Try.func83 (by kernel_rfl) rfl) wrong_tells a n c zs w h hn
set_option maxRecDepth 100000 in
set_option maxHeartbeats 1000000 in
theorem good_any (lsn : Int) (a : Option Addr) (n c : Nat) (zs : List Slot) (w : World) (h : Slots w a n zs) (hn : n ≤ 1000000) :
    Calls Try.prog 71 #[.agg #[.int .i64 lsn, .slice a n c]] w fun e w' => e = .returned (.bool (goodB lsn zs)) ∧ Below w.heap.size w w' := by
  have hz := h.len
  have HS := Lib.hid h
  clear h
  by_cases h0 : lsn < 0
  · go_enter Try.func71, Try.ntmps71
    go_wp2
    go_ret
    exact ⟨ret_bool' (by simp [goodB]; omega), (Below.refl _ _).alloc (Nat.le_refl _) _⟩
  · by_cases h1 : 1099511627776 < lsn
    · go_enter Try.func71, Try.ntmps71
      go_wp2
      go_ret
      exact ⟨ret_bool' (by simp [goodB]; omega), (Below.refl _ _).alloc (Nat.le_refl _) _⟩
    · by_cases h2 : 32 < n
      · have HZ := Lib.hid hz
        clear hz
        go_enter Try.func71, Try.ntmps71
        go_wp2
        go_ret
        exact ⟨ret_bool' (by have := HZ.out; simp [goodB]; omega), (Below.refl _ _).alloc (Nat.le_refl _) _⟩
      · have hgood : goodB lsn zs = (decide (n = usedN zs) && !zs.any wrongB && decide (9 + sz zs ≤ 240)) := by
          unfold goodB
          rw [hz]
          simp [show (0 : Int) ≤ lsn by omega, show lsn ≤ 1099511627776 by omega, show n ≤ 32 by omega]
        have HG := Lib.hid hgood
        clear hgood
        obtain ⟨c0, c1⟩ := page_cells w (.int .i64 lsn) (.slice a n c) 90
        have hb0 : Below w.heap.size w (w.alloc (.cells #[.int .i64 lsn, .slice a n c] 90)) := (Below.refl _ _).alloc (Nat.le_refl _) _
        have HZ := Lib.hid hz
        clear hz
        by_cases h3 : n = usedN zs
        · have h3' : ((n : Int) == ((usedN zs : Nat) : Int)) = true := by simp [← h3]
          have H3 := Lib.hid h3
          clear h3
          generalize hu : usedN zs = m at h3'
          have HU := Lib.hid hu
          clear hu
          cases hw : zs.any wrongB with
          | true =>
            have HW := Lib.hid hw
            clear hw
            go_enter Try.func71, Try.ntmps71
            go_wp2
            generalize hW : w.alloc (.cells #[.int .i64 lsn, .slice a n c] 90) = W at c0 c1 hb0 ⊢
            clear hW
            have k1 := cell_regrown c1
            have HSW := HS.out.below hb0
            have cU : ∀ d os, Calls Try.prog 72 #[.slice a n c] (grow (redrawn W d) os) fun e w'' => e = .returned (.int .i64 (m : Int)) ∧ ∃ p : Regrown, w'' = grow (redrawn W p.d) p.os := fun d os => Calls.regrown_of (by rw [← HU.out]; exact used_any a n c zs _ (HSW.below (below_regrown W d os)) (by omega))
            have cC : ∀ d os, Calls Try.prog 82 #[.slice a n c, .func (.func 83) #[] #[]] (grow (redrawn W d) os) fun e w'' => e = .returned (.bool true) ∧ ∃ p : Regrown, w'' = grow (redrawn W p.d) p.os := fun d os => Calls.regrown_of (by rw [← HW.out]; exact wrongs_any a n c zs _ (HSW.below (below_regrown W d os)) (by omega))
            refine wp_region_quiet_below (by kernel_rfl) (by kernel_rfl) ?_
            repeat (go_big_quiet_step (first | exact cU _ _ | exact cC _ _))
            refine wpQuiet_nil ?_
            intro _ hw'
            obtain ⟨⟨dq, osq⟩, hw''⟩ := hw'
            subst hw''
            have hbq := hb0.trans ((below_regrown W dq osq).mono hb0.size)
            generalize grow (redrawn W dq) osq = W1 at hbq ⊢
            go_wp2
            go_ret
            exact ⟨ret_bool' (by rw [HG.out]; simp [HW.out]), hbq⟩
          | false =>
            have hs := sz_small hw
            have hs2 : sz zs ≤ 1000000 := by have := HZ.out; omega
            clear hs
            have HW := Lib.hid hw
            clear hw
            go_enter Try.func71, Try.ntmps71
            go_wp2
            generalize hW : w.alloc (.cells #[.int .i64 lsn, .slice a n c] 90) = W at c0 c1 hb0 ⊢
            clear hW
            have k1 := cell_regrown c1
            have HSW := HS.out.below hb0
            have cU : ∀ d os, Calls Try.prog 72 #[.slice a n c] (grow (redrawn W d) os) fun e w'' => e = .returned (.int .i64 (m : Int)) ∧ ∃ p : Regrown, w'' = grow (redrawn W p.d) p.os := fun d os => Calls.regrown_of (by rw [← HU.out]; exact used_any a n c zs _ (HSW.below (below_regrown W d os)) (by omega))
            have cC : ∀ d os, Calls Try.prog 82 #[.slice a n c, .func (.func 83) #[] #[]] (grow (redrawn W d) os) fun e w'' => e = .returned (.bool false) ∧ ∃ p : Regrown, w'' = grow (redrawn W p.d) p.os := fun d os => Calls.regrown_of (by rw [← HW.out]; exact wrongs_any a n c zs _ (HSW.below (below_regrown W d os)) (by omega))
            have cZ : ∀ d os, Calls Try.prog 73 #[.slice a n c] (grow (redrawn W d) os) fun e w'' => e = .returned (.int .i64 ((9 + sz zs : Nat) : Int)) ∧ ∃ p : Regrown, w'' = grow (redrawn W p.d) p.os := fun d os => Calls.regrown_of (size_any a n c zs _ (HSW.below (below_regrown W d os)) hs2 (by omega))
            refine wp_region_quiet_below (by kernel_rfl) (by kernel_rfl) ?_
            repeat (go_big_quiet_step (first | exact cU _ _ | exact cC _ _ | exact cZ _ _))
            refine wpQuiet_nil ?_
            intro _ hw'
            obtain ⟨⟨dq, osq⟩, hw''⟩ := hw'
            subst hw''
            have hbq := hb0.trans ((below_regrown W dq osq).mono hb0.size)
            generalize grow (redrawn W dq) osq = W1 at hbq ⊢
            go_wp2
            go_ret
            exact ⟨ret_bool' (by rw [HG.out]; simp [HW.out, ← H3.out]; omega), hbq⟩
        · have h3' : ((n : Int) == ((usedN zs : Nat) : Int)) = false := by simp; omega
          have H3 := Lib.hid h3
          clear h3
          generalize hu : usedN zs = m at h3'
          have HU := Lib.hid hu
          clear hu
          go_enter Try.func71, Try.ntmps71
          go_wp2
          generalize hW : w.alloc (.cells #[.int .i64 lsn, .slice a n c] 90) = W at c0 c1 hb0 ⊢
          clear hW
          have k1 := cell_regrown c1
          have HSW := HS.out.below hb0
          have cU : ∀ d os, Calls Try.prog 72 #[.slice a n c] (grow (redrawn W d) os) fun e w'' => e = .returned (.int .i64 (m : Int)) ∧ ∃ p : Regrown, w'' = grow (redrawn W p.d) p.os := fun d os => Calls.regrown_of (by rw [← HU.out]; exact used_any a n c zs _ (HSW.below (below_regrown W d os)) (by omega))
          refine wp_region_quiet_below (by kernel_rfl) (by kernel_rfl) ?_
          repeat (go_big_quiet_step (exact cU _ _))
          refine wpQuiet_nil ?_
          intro _ hw'
          obtain ⟨⟨dq, osq⟩, hw''⟩ := hw'
          subst hw''
          have hbq := hb0.trans ((below_regrown W dq osq).mono hb0.size)
          generalize grow (redrawn W dq) osq = W1 at hbq ⊢
          go_wp2
          go_ret
          exact ⟨ret_bool' (by rw [HG.out]; simp [H3.out]), hbq⟩
end Go.Proofs.Ytcpkngkeechjeaa.Slab
