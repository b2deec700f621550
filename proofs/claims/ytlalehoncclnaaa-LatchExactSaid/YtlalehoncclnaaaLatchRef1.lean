/- The document's own locks: at, Has, Used, Use. -/
import Derived.Test.YtlalehoncclnaaaLatchRef0
namespace Go.Proofs.Ytlalehoncclnaaa.LRef
set_option maxRecDepth 100000
open Go.RowKit
open Go.Proofs.Ytlalehoncclnaaa.Mem
open Go.Proofs.Ytlalehoncclnaaa.Latch
theorem set_self : ∀ {L : LS} {i : Nat} {k : Lk}, L[i]? = some k → L.set i k = L
  | [], i, k, h => by simp at h
  | a :: l, 0, k, h => by simp at h; subst h; rfl
  | a :: l, i + 1, k, h => by rw [List.set_cons_succ, set_self (show l[i]? = some k by simpa using h)]
def AtRes (p : Int) (L : LS) (e : Ending) : Prop := (∃ (i : Nat) (k : Lk), L[i]? = some k ∧ k.pg = p ∧ e = .returned (.int .i64 (i : Int))) ∨ (atL p L = none ∧ e = .returned (.int .i64 (-1)))
set_option maxRecDepth 100000 in
set_option maxHeartbeats 1000000 in
theorem at_any (u : Nat) (v : Value) (M : Nat → Prop) (L : LS) (p : Int) (w : World) (h : UV w u v M L) (hn : L.length ≤ 1000000) :
    Calls Try.prog 25 #[.pointer (some ⟨u, 0, none⟩), .int .i64 p] w fun e w' => AtRes p L e ∧ w = w' := by
  have c0 := h.blk.cell 0
  obtain ⟨av, cv, rfl⟩ := own_shape h.own
  have H := Lib.hid h
  clear h
  go_enter Try.func25, Try.ntmps25
  go_wp2
  go_loopw [5] (fun i wr => ∃ j : Nat, j ≤ L.length ∧ i = .int .i64 (j : Int) ∧ wr = w ∧ Hid (∀ t x, t < j → L[t]? = some x → x.pg ≠ p)) (fun i _ => L.length - (intOf i).toNat)
  case atStart => exact ⟨0, Nat.zero_le _, rfl, rfl, Lib.hid (fun t x ht => absurd ht (Nat.not_lt_zero _))⟩
  case round =>
    obtain ⟨j, hj, rfl, rfl, HJ⟩ := hrel
    by_cases hlt : j < L.length
    · have hx : L[j]? = some L[j] := List.getElem?_eq_getElem hlt
      generalize L[j] = x at hx
      obtain ⟨g, c, e, -, hgl, -, d0, -⟩ := H.out.row hx
      injection e with e1 e2 e3
      subst e1; subst e3
      have HX := Lib.hid hx
      clear hx e2
      obtain ⟨xk, xx, xu, xw⟩ := x
      simp only at d0
      by_cases hk : xk = p
      · have HR : Hid (AtRes p L (.returned (.int .i64 (j : Int)))) := Lib.hid (.inl ⟨j, _, HX.out, hk, rfl⟩)
        subst hk
        go_wp2
        go_ret
        exact ⟨HR.out, rfl⟩
      · have hk2 : (xk == p) = false := by rw [beq_eq_false_iff_ne]; exact hk
        have HK := Lib.hid hk
        clear hk
        go_wp2
        go_roundw
        case rel => exact ⟨j + 1, by omega, by go_num, (by first | rfl | trivial), Lib.hid (fun t y ht hy => by
          rcases Nat.lt_or_ge t j with h | h
          · exact HJ.out t y h hy
          · obtain rfl : t = j := by omega
            have e2 := HX.out.symm.trans hy
            cases e2
            exact HK.out)⟩
        case measure => simp [intOf]; omega
    · obtain rfl : j = L.length := by omega
      have HR : Hid (AtRes p L (.returned (.int .i64 (-1)))) := Lib.hid (.inr ⟨at_none fun k hk => by
        obtain ⟨t, ht, e⟩ := List.getElem_of_mem hk
        exact HJ.out t k ht (by rw [List.getElem?_eq_getElem ht, e]), rfl⟩)
      go_wp2
      go_ret
      exact ⟨HR.out, rfl⟩
section
variable {u : Nat} {v : Value} {M : Nat → Prop} {L : LS} {p : Int} {w : World} {i : Nat} {k : Lk}
theorem at_is (h : UV w u v M L) (hn : L.length ≤ 1000000) (hU : Up L) (hi : L[i]? = some k) (hp : k.pg = p) :
    Calls Try.prog 25 #[.pointer (some ⟨u, 0, none⟩), .int .i64 p] w fun e w' => e = .returned (.int .i64 (i : Int)) ∧ w = w' :=
  (at_any u v M L p w h hn).mono fun e w' ⟨hr, hw⟩ => ⟨by
    rcases hr with ⟨i', k', hi', hp', he⟩ | ⟨h0, _⟩
    · rw [up_inj hU hi hi' (hp.trans hp'.symm)]; exact he
    · rw [at_none_iff] at h0; exact absurd hp (h0 k (List.mem_of_getElem? hi)), hw⟩
theorem at_not (h : UV w u v M L) (hn : L.length ≤ 1000000) (h0 : atL p L = none) :
    Calls Try.prog 25 #[.pointer (some ⟨u, 0, none⟩), .int .i64 p] w fun e w' => e = .returned (.int .i64 (-1)) ∧ w = w' :=
  (at_any u v M L p w h hn).mono fun e w' ⟨hr, hw⟩ => ⟨by
    rcases hr with ⟨i', k', hi', hp', he⟩ | ⟨_, he⟩
    · rw [at_none_iff] at h0; exact absurd hp' (h0 k' (List.mem_of_getElem? hi'))
    · exact he, hw⟩
end
set_option maxRecDepth 100000 in
set_option maxHeartbeats 1000000 in
theorem has_any (u : Nat) (v : Value) (M : Nat → Prop) (L : LS) (p : Int) (x : Bool) (w : World) (h : UV w u v M L) (hn : L.length ≤ 1000000) (hU : Up L) :
    Calls Try.prog 20 #[.pointer (some ⟨u, 0, none⟩), .int .i64 p, .bool x] w fun e w' => e = .returned (.bool (hasL p x L)) ∧ w = w' := by
  unfold hasL
  cases ha : atL p L with
  | none =>
    have HC := Lib.hid (at_not h hn ha)
    clear h ha
    go_enter Try.func20, Try.ntmps20
    go_wp2_with fail
    refine HC.out.mono ?_
    rintro e w1 ⟨rfl, rfl⟩
    go_wp2
    go_ret
    exact ⟨rfl, rfl⟩
  | some k =>
    obtain ⟨i, hi, hil⟩ := at_index ha
    have HC := Lib.hid (at_is h hn hU hi (at_pg ha))
    have c0 := h.blk.cell 0
    obtain ⟨g, c, rfl, -, hgl, -, d0, d1, -⟩ := h.row hi
    clear h ha
    obtain ⟨pg, kx, us, wt⟩ := k
    dsimp only at d0 d1 ⊢
    cases kx <;> cases x
    all_goals
      go_enter Try.func20, Try.ntmps20
      go_wp2_with fail
      refine HC.out.mono ?_
      rintro e w1 ⟨rfl, rfl⟩
      go_wp2
      go_ret
      exact ⟨rfl, rfl⟩
set_option maxRecDepth 100000 in
set_option maxHeartbeats 1000000 in
theorem used_any (u : Nat) (v : Value) (M : Nat → Prop) (L : LS) (p : Int) (w : World) (h : UV w u v M L) (hn : L.length ≤ 1000000) (hU : Up L) :
    Calls Try.prog 22 #[.pointer (some ⟨u, 0, none⟩), .int .i64 p] w fun e w' => e = .returned (.int .i64 (usedL p L : Int)) ∧ w = w' := by
  unfold usedL
  cases ha : atL p L with
  | none =>
    have HC := Lib.hid (at_not h hn ha)
    clear h ha
    go_enter Try.func22, Try.ntmps22
    go_wp2_with fail
    refine HC.out.mono ?_
    rintro e w1 ⟨rfl, rfl⟩
    go_wp2
    go_ret
    exact ⟨rfl, rfl⟩
  | some k =>
    obtain ⟨i, hi, hil⟩ := at_index ha
    have HC := Lib.hid (at_is h hn hU hi (at_pg ha))
    have c0 := h.blk.cell 0
    obtain ⟨g, c, rfl, -, hgl, -, d0, d1, d2, -⟩ := h.row hi
    clear h ha
    obtain ⟨pg, kx, us, wt⟩ := k
    dsimp only at d0 d1 d2 ⊢
    go_enter Try.func22, Try.ntmps22
    go_wp2_with fail
    refine HC.out.mono ?_
    rintro e w1 ⟨rfl, rfl⟩
    go_wp2
    go_ret
    exact ⟨rfl, rfl⟩
set_option maxRecDepth 100000 in
set_option maxHeartbeats 2000000 in
theorem use_any (u : Nat) (M : Nat → Prop) (L : LS) (p : Int) (x : Bool) (w : World) (h : UQ w u M L) (hn : L.length ≤ 1000000) (hU : Up L) :
    Calls Try.prog 12 #[.pointer (some ⟨u, 0, none⟩), .int .i64 p, .bool x] w fun e w' => e = .returned (.int .i64 (useE p x L)) ∧ UQ w' u M (useL p x L) ∧ Keep M w w' := by
  obtain ⟨v, h⟩ := h
  have HH := Lib.hid (has_any u v M L p x w h hn hU)
  cases hh : hasL p x L with
  | false =>
    rw [hh] at HH
    have e0 : useE p x L = 12 := by unfold useE; rw [hh]; rfl
    have HE : Hid (UQ w u M (useL p x L) ∧ Keep M w w) := Lib.hid (by
      have e : useL p x L = L := by unfold useL; rw [hh]; rfl
      rw [e]
      exact ⟨⟨v, h⟩, Keep.refl _ _⟩)
    rw [e0]
    clear h e0 hh
    go_enter Try.func12, Try.ntmps12
    go_wp2_with fail
    refine HH.out.mono ?_
    rintro e w1 ⟨rfl, rfl⟩
    go_wp2
    go_ret
    exact ⟨rfl, HE.out⟩
  | true =>
    rw [hh] at HH
    have e0 : useE p x L = 0 := by unfold useE; rw [hh]; rfl
    rw [e0]
    cases ha : atL p L with
    | none => unfold hasL at hh; rw [ha] at hh; cases hh
    | some k =>
      obtain ⟨i, hi, hil⟩ := at_index ha
      have HC := Lib.hid (at_is h hn hU hi (at_pg ha))
      have eU : ∀ {k' : Lk}, (some { k with us := if x then 2 else if k.us = 0 then 1 else k.us } : Option Lk) = some k' → useL p x L = L.set i k' := fun {k'} e => by
        unfold useL
        rw [if_pos hh]
        exact upd_set hU hi (at_pg ha) e
      have c0 := h.blk.cell 0
      have hrow := h.row hi
      obtain ⟨g, c, rfl, -, hgl, -, d0, d1, d2, d3, f1, f2, f3⟩ := hrow
      have hgu : g ≠ u := fun e => h.n0 (by rw [← e]; rfl)
      cases x with
      | true =>
        have HE : Hid (UQ (w.setCell ⟨g, i * 4 + 2, none⟩ (.int .i64 2)) u M (useL p true L) ∧ Keep M w (w.setCell ⟨g, i * 4 + 2, none⟩ (.int .i64 2))) := Lib.hid (by
          rw [eU (k' := { k with us := 2 }) rfl]
          have := h.turn hi (k' := { k with us := 2 }) (j := 2) (by decide) (x := .int .i64 2) rfl
          exact ⟨⟨_, this.1⟩, this.2⟩)
        clear h ha hh eU e0
        obtain ⟨pg, kx, us, wt⟩ := k
        dsimp only at d0 d1 d2 d3
        go_enter Try.func12, Try.ntmps12
        go_wp2_with fail
        refine HH.out.mono ?_
        rintro e w1 ⟨rfl, rfl⟩
        go_wp2_with fail
        refine HC.out.mono ?_
        rintro e w1 ⟨rfl, rfl⟩
        go_wp2
        go_ret
        exact ⟨rfl, HE.out⟩
      | false =>
        by_cases hz : k.us = 0
        · have HE : Hid (UQ (w.setCell ⟨g, i * 4 + 2, none⟩ (.int .i64 1)) u M (useL p false L) ∧ Keep M w (w.setCell ⟨g, i * 4 + 2, none⟩ (.int .i64 1))) := Lib.hid (by
            rw [eU (k' := { k with us := 1 }) (by simp [hz])]
            have := h.turn hi (k' := { k with us := 1 }) (j := 2) (by decide) (x := .int .i64 1) rfl
            exact ⟨⟨_, this.1⟩, this.2⟩)
          clear h ha hh eU e0
          obtain ⟨pg, kx, us, wt⟩ := k
          dsimp only at d0 d1 d2 d3 hz
          subst hz
          go_enter Try.func12, Try.ntmps12
          go_wp2_with fail
          refine HH.out.mono ?_
          rintro e w1 ⟨rfl, rfl⟩
          go_wp2_with fail
          refine HC.out.mono ?_
          rintro e w1 ⟨rfl, rfl⟩
          go_wp2
          go_ret
          exact ⟨rfl, HE.out⟩
        · have HE : Hid (UQ w u M (useL p false L) ∧ Keep M w w) := Lib.hid (by
            rw [eU (k' := k) (by simp [hz])]
            have e : L.set i k = L := by
              exact set_self hi
            rw [e]
            exact ⟨⟨_, h⟩, Keep.refl _ _⟩)
          clear h ha hh eU e0
          obtain ⟨pg, kx, us, wt⟩ := k
          dsimp only at d0 d1 d2 d3 hz
          have hz2 : ((us : Int) == 0) = false := by simpa using hz
          clear hz
          go_enter Try.func12, Try.ntmps12
          go_wp2_with fail
          refine HH.out.mono ?_
          rintro e w1 ⟨rfl, rfl⟩
          go_wp2_with fail
          refine HC.out.mono ?_
          rintro e w1 ⟨rfl, rfl⟩
          go_wp2
          go_ret
          exact ⟨rfl, HE.out⟩
end Go.Proofs.Ytlalehoncclnaaa.LRef
