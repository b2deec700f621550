/- The document's own locks: Grant, drop, Call, End. -/
import Derived.Test.YtlalehoncclnaaaLatchRef1
import Derived.Test.YtlalehoncclnaaaLatchRefMid
namespace Go.Proofs.Ytlalehoncclnaaa.LRef
set_option maxRecDepth 100000
open Go.RowKit
open Go.Proofs.Ytlalehoncclnaaa.Mem
open Go.Proofs.Ytlalehoncclnaaa.Latch
set_option maxRecDepth 100000 in
set_option maxHeartbeats 4000000 in
theorem drop_any (u : Nat) (M : Nat → Prop) (L : LS) (p : Int) (w : World) (h : UQ w u M L) (hn : L.length ≤ 1000000) :
    Calls Try.prog 28 #[.pointer (some ⟨u, 0, none⟩), .int .i64 p] w fun e w' => e = .returned (.tuple #[]) ∧ UQ w' u M (L.filter fun k => decide (k.pg ≠ p)) ∧ Keep M w w' := by
  obtain ⟨v, h⟩ := h
  obtain ⟨av, cv, rfl⟩ := own_shape h.own
  have H := Lib.hid h
  have HM0 : Hid (Mid w (w.alloc (.cells #[] 44)) (.slice (some ⟨w.heap.size, 0, none⟩) 0 0) (dropK p (L.take 0))) := Lib.hid ⟨own_new w _ 4, (Below.refl _ _).alloc (Nat.le_refl _) _⟩
  have HLN := Lib.hid hn
  clear h
  go_enter Try.func28, Try.ntmps28
  go_wp2
  go_loopw [4, 5] (fun vo i wr => ∃ (j : Nat) (a2 : Option Addr) (n2 c2 : Nat), j ≤ L.length ∧ i = .int .i64 (j : Int) ∧ vo = .slice a2 n2 c2 ∧ Hid (Mid w wr vo (dropK p (L.take j)))) (fun _ i _ => L.length - (intOf i).toNat)
  case atStart => exact ⟨0, _, _, _, Nat.zero_le _, rfl, rfl, HM0⟩
  case round =>
    obtain ⟨j, a2, n2, c2, hj, rfl, rfl, HM⟩ := hrel
    clear HM0
    have c0 := (HM.out.bel.cell (p := ⟨u, 0, none⟩) H.out.blk.lt).trans (H.out.blk.cell 0)
    by_cases hlt : j < L.length
    · have hx : L[j]? = some L[j] := List.getElem?_eq_getElem hlt
      generalize L[j] = x at hx
      obtain ⟨g, c, e, -, -, -, d0, d1, d2, d3, -⟩ := (H.out.below HM.out.bel).row hx
      injection e with e1 e2 e3
      subst e1; subst e3
      clear e2
      have HN := Lib.hid (drop_next p hx)
      have HLE := Lib.hid (drop_len p L j)
      generalize dropK p (L.take j) = out at HM HN HLE ⊢
      obtain ⟨xk, xx, xu, xw⟩ := x
      simp only at d0 d1 d2 d3
      clear hx
      by_cases hk : xk = p
      · subst hk
        have HN2 : Hid (dropK xk (L.take (j + 1)) = out) := Lib.hid (by rw [HN.out]; simp)
        have HM2 := HM
        clear HM HN
        go_wp2
        go_roundw
        case rel => exact ⟨j + 1, _, _, _, by omega, by go_num, rfl, by rw [HN2.out]; exact HM2⟩
        case measure => simp [intOf]; omega
      · have hk2 : (xk == p) = false := by rw [beq_eq_false_iff_ne]; exact hk
        have hk3 : (xk != p) = true := by simpa using hk
        have HN2 : Hid (dropK p (L.take (j + 1)) = out ++ [⟨xk, xx, xu, xw⟩]) := Lib.hid (by rw [HN.out, if_neg hk])
        clear hk HN
        have OW := Lib.hid (own_below HM.out.own ((Below.refl _ _).alloc (Nat.le_refl _) (.cells #[.int .i64 xk, .bool xx, .int .i64 xu, .int .i64 xw] 44)))
        have BW := Lib.hid (show w.heap.size ≤ (wr.alloc (.cells #[.int .i64 xk, .bool xx, .int .i64 xu, .int .i64 xw] 44)).heap.size by have := HM.out.bel.size; simp; omega)
        go_wp2_with (at_builtin; refine wpList_appK rfl _ _ rfl w.heap.size _ out rfl OW.out wr.heap.size ⟨xk, xx, xu, xw⟩ rfl (Blk.new wr _ _) (by have := HLE.out; have := HLN.out; omega) BW.out ?_)
        intro v2 w2 ho1 hg1 hv1
        have HM2 := Lib.hid (HM.out.app ho1 hg1)
        obtain ⟨aw2, cw2, rfl⟩ := own_shape ho1
        clear ho1 hg1 hv1 OW BW HM
        go_wp2
        go_roundw
        case rel => exact ⟨j + 1, _, _, _, by omega, by go_num, rfl, by rw [HN2.out]; exact HM2⟩
        case measure => simp [intOf]; omega
    · obtain rfl : j = L.length := by omega
      rw [List.take_length] at HM
      have f0 := (HM.out.bel.frozen (p := ⟨u, 0, none⟩) H.out.blk.lt).trans (H.out.blk.frozen 0)
      have HD := Lib.hid (H.out.laid HM.out.bel HM.out.own)
      clear HM
      go_wp2
      go_end0
      first | exact ⟨⟨_, rfl⟩, ⟨_, HD.out.1⟩, HD.out.2⟩ | exact ⟨rfl, ⟨_, HD.out.1⟩, HD.out.2⟩
set_option maxRecDepth 100000 in
set_option maxHeartbeats 8000000 in
theorem grant_any (u : Nat) (M : Nat → Prop) (L : LS) (p : Int) (x : Bool) (w : World) (h : UQ w u M L) (hn : L.length ≤ 1000000) (hU : Up L) :
    Calls Try.prog 10 #[.pointer (some ⟨u, 0, none⟩), .int .i64 p, .bool x] w fun e w' => e = .returned (.tuple #[]) ∧ UQ w' u M (grantL p x L) ∧ Keep M w w' := by
  obtain ⟨v, h⟩ := h
  cases ha : atL p L with
  | some k =>
    obtain ⟨i, hi, hil⟩ := at_index ha
    have HC := Lib.hid (at_is h hn hU hi (at_pg ha))
    have eU : grantL p x L = L.set i { k with x := x } := by
      unfold grantL
      rw [if_pos (by rw [ha]; rfl)]
      exact upd_set hU hi (at_pg ha) rfl
    have c0 := h.blk.cell 0
    obtain ⟨g, c, rfl, -, hgl, -, d0, d1, d2, d3, f1, f2, f3⟩ := h.row hi
    have hgu : g ≠ u := fun e => h.n0 (by rw [← e]; rfl)
    have HE : Hid (UQ (w.setCell ⟨g, i * 4 + 1, none⟩ (.bool x)) u M (grantL p x L) ∧ Keep M w (w.setCell ⟨g, i * 4 + 1, none⟩ (.bool x))) := Lib.hid (by
      rw [eU]
      have := h.turn hi (k' := { k with x := x }) (j := 1) (by decide) (x := .bool x) rfl
      exact ⟨⟨_, this.1⟩, this.2⟩)
    clear h ha eU
    obtain ⟨pg, kx, us, wt⟩ := k
    dsimp only at d0 d1 d2 d3
    go_enter Try.func10, Try.ntmps10
    go_wp2_with fail
    refine HC.out.mono ?_
    rintro e w1 ⟨rfl, rfl⟩
    go_wp2
    refine bodyPost_ret (results_none rfl _ _ _) rfl ?_
    exact ⟨rfl, HE.out⟩
  | none =>
    have HC := Lib.hid (at_not h hn ha)
    have eU : grantL p x L = insL ⟨p, x, 0, 0⟩ L := by
      unfold grantL
      rw [if_neg (by rw [ha]; simp)]
    rw [eU]
    obtain ⟨av, cv, rfl⟩ := own_shape h.own
    have c0 := h.blk.cell 0
    have H := Lib.hid h
    have HM0 : Hid (Mid w (w.alloc (.cells #[] 44)) (.slice (some ⟨w.heap.size, 0, none⟩) 0 0) (runG ⟨p, x, 0, 0⟩ (L.take 0) ([], false)).1) := Lib.hid ⟨own_new w _ 4, (Below.refl _ _).alloc (Nat.le_refl _) _⟩
    have HL : Hid (∀ j, (runG ⟨p, x, 0, 0⟩ (L.take j) ([], false)).1.length ≤ 2000000) := Lib.hid (fun j => by
      have := run_len ⟨p, x, 0, 0⟩ (L.take j) ([], false)
      simp only [List.length_nil, List.length_take] at this
      omega)
    clear h ha eU
    go_enter Try.func10, Try.ntmps10
    go_wp2_with fail
    refine HC.out.mono ?_
    rintro e w1 ⟨rfl, rfl⟩
    go_wp2
    go_loopw [7, 8, 9] (fun vo vd i wr => ∃ (j : Nat) (a2 : Option Addr) (n2 c2 : Nat), j ≤ L.length ∧ i = .int .i64 (j : Int) ∧ vo = .slice a2 n2 c2 ∧ vd = .bool (runG ⟨p, x, 0, 0⟩ (L.take j) ([], false)).2 ∧ Hid (Mid w wr vo (runG ⟨p, x, 0, 0⟩ (L.take j) ([], false)).1)) (fun _ _ i _ => L.length - (intOf i).toNat)
    case atStart => exact ⟨0, _, _, _, Nat.zero_le _, rfl, rfl, rfl, HM0⟩
    case round =>
      obtain ⟨j, a2, n2, c2, hj, rfl, rfl, rfl, HM⟩ := hrel
      clear HM0 c0 HC
      have c0 := (HM.out.bel.cell (p := ⟨u, 0, none⟩) H.out.blk.lt).trans (H.out.blk.cell 0)
      by_cases hlt : j < L.length
      · have hx : L[j]? = some L[j] := List.getElem?_eq_getElem hlt
        generalize L[j] = y at hx
        have hrow := (H.out.below HM.out.bel).row hx
        obtain ⟨g, c, e, -, hgl, -, d0, d1, d2, d3, -⟩ := hrow
        injection e with e1 e2 e3
        subst e1; subst e3
        clear e2
        have HX := Lib.hid hx
        have HN := Lib.hid (run_take ⟨p, x, 0, 0⟩ L ([], false) j y hx)
        have HLE := Lib.hid (HL.out j)
        generalize runG ⟨p, x, 0, 0⟩ (L.take j) ([], false) = s at HM HN HLE ⊢
        obtain ⟨out, d⟩ := s
        have HLX : Hid (out.length ≤ 2000000) := HLE
        clear HLE
        have HMO : Hid (Mid w wr (.slice a2 n2 c2) out) := HM
        obtain ⟨xk, xx, xu, xw⟩ := y
        simp only at d0 d1 d2 d3
        clear hx HL hgl HM
        cases d with
        | true =>
          rw [stG_1] at HN
          have OW := Lib.hid (own_below HMO.out.own ((Below.refl _ _).alloc (Nat.le_refl _) (.cells #[.int .i64 xk, .bool xx, .int .i64 xu, .int .i64 xw] 44)))
          have BW := Lib.hid (show w.heap.size ≤ (wr.alloc (.cells #[.int .i64 xk, .bool xx, .int .i64 xu, .int .i64 xw] 44)).heap.size by have := HMO.out.bel.size; simp; omega)
          go_wp2_with (at_builtin; refine wpList_appK rfl _ _ rfl w.heap.size _ out rfl OW.out wr.heap.size ⟨xk, xx, xu, xw⟩ rfl (Blk.new wr _ _) (by have := HLX.out; omega) BW.out ?_)
          intro v2 w2 ho1 hg1 hv1
          have HM2 := Lib.hid (HMO.out.app ho1 hg1)
          obtain ⟨aw2, cw2, rfl⟩ := own_shape ho1
          clear ho1 hg1 hv1 OW BW HMO
          go_wp2
          go_roundw
          case rel => exact ⟨j + 1, _, _, _, by omega, by go_num, rfl, by rw [HN.out], by rw [HN.out]; exact HM2⟩
          case measure => simp [intOf]; omega
        | false =>
          by_cases hlk : p < xk
          · rw [stG_2 (by exact hlk), List.append_assoc] at HN
            have hd : decide (p < xk) = true := decide_eq_true hlk
            clear hlk
            have OW := Lib.hid (own_below HMO.out.own ((Below.refl _ _).alloc (Nat.le_refl _) (.cells #[.int .i64 p, .bool x, .int .i64 0, .int .i64 0] 44)))
            have BW := Lib.hid (show w.heap.size ≤ (wr.alloc (.cells #[.int .i64 p, .bool x, .int .i64 0, .int .i64 0] 44)).heap.size by have := HMO.out.bel.size; simp; omega)
            go_wp2_with (at_builtin; refine wpList_appK rfl _ _ rfl w.heap.size _ out rfl OW.out wr.heap.size ⟨p, x, 0, 0⟩ rfl (Blk.new wr _ _) (by have := HLX.out; omega) BW.out ?_)
            intro v2 w2 ho1 hg1 hv1
            have HMw2 := Lib.hid (HMO.out.app ho1 hg1)
            obtain ⟨aw2, cw2, rfl⟩ := own_shape ho1
            clear ho1 hg1 hv1 OW BW d0 d1 d2 d3 c0
            have c0' := (HMw2.out.bel.cell (p := ⟨u, 0, none⟩) H.out.blk.lt).trans (H.out.blk.cell 0)
            have hrow := (H.out.below HMw2.out.bel).row HX.out
            obtain ⟨g', c', e', -, -, -, d0', d1', d2', d3', -⟩ := hrow
            injection e' with e1 e2 e3
            injection e1 with e1
            injection e1 with e1
            subst e1; subst e3
            simp only at d0' d1' d2' d3'
            clear e2 HMO
            have OW := Lib.hid (own_below HMw2.out.own ((Below.refl _ _).alloc (Nat.le_refl _) (.cells #[.int .i64 xk, .bool xx, .int .i64 xu, .int .i64 xw] 44)))
            have BW := Lib.hid (show w.heap.size ≤ (w2.alloc (.cells #[.int .i64 xk, .bool xx, .int .i64 xu, .int .i64 xw] 44)).heap.size by have := HMw2.out.bel.size; simp; omega)
            have HLY : Hid ((out ++ [(⟨p, x, 0, 0⟩ : Lk)]).length ≤ 3000000) := Lib.hid (by have := HLX.out; rw [List.length_append]; simp only [List.length_cons, List.length_nil]; omega)
            go_wp2_with (at_builtin; refine wpList_appK rfl _ _ rfl w.heap.size _ (out ++ [(⟨p, x, 0, 0⟩ : Lk)]) rfl OW.out w2.heap.size ⟨xk, xx, xu, xw⟩ rfl (Blk.new w2 _ _) HLY.out BW.out ?_)
            intro v3 w3 ho1 hg1 hv1
            have HM2 := Lib.hid (HMw2.out.app ho1 hg1)
            obtain ⟨aw3, cw3, rfl⟩ := own_shape ho1
            clear ho1 hg1 hv1 OW BW HMw2
            go_wp2
            go_roundw
            case rel => exact ⟨j + 1, _, _, _, by omega, by go_num, rfl, by rw [HN.out], by rw [HN.out]; exact HM2⟩
            case measure => simp [intOf]; omega
          · rw [stG_3 (by exact hlk)] at HN
            have hd : decide (p < xk) = false := decide_eq_false hlk
            clear hlk
            have OW := Lib.hid (own_below HMO.out.own ((Below.refl _ _).alloc (Nat.le_refl _) (.cells #[.int .i64 xk, .bool xx, .int .i64 xu, .int .i64 xw] 44)))
            have BW := Lib.hid (show w.heap.size ≤ (wr.alloc (.cells #[.int .i64 xk, .bool xx, .int .i64 xu, .int .i64 xw] 44)).heap.size by have := HMO.out.bel.size; simp; omega)
            go_wp2_with (at_builtin; refine wpList_appK rfl _ _ rfl w.heap.size _ out rfl OW.out wr.heap.size ⟨xk, xx, xu, xw⟩ rfl (Blk.new wr _ _) (by have := HLX.out; omega) BW.out ?_)
            intro v2 w2 ho1 hg1 hv1
            have HM2 := Lib.hid (HMO.out.app ho1 hg1)
            obtain ⟨aw2, cw2, rfl⟩ := own_shape ho1
            clear ho1 hg1 hv1 OW BW HMO
            go_wp2
            go_roundw
            case rel => exact ⟨j + 1, _, _, _, by omega, by go_num, rfl, by rw [HN.out], by rw [HN.out]; exact HM2⟩
            case measure => simp [intOf]; omega
      · obtain rfl : j = L.length := by omega
        rw [List.take_length] at HM ⊢
        have HLE := Lib.hid (HL.out L.length)
        rw [List.take_length] at HLE
        have he : endG ⟨p, x, 0, 0⟩ (runG ⟨p, x, 0, 0⟩ L ([], false)) = insL ⟨p, x, 0, 0⟩ L := by rw [run_false]; rfl
        have HEQ := Lib.hid he
        have f0 := (HM.out.bel.frozen (p := ⟨u, 0, none⟩) H.out.blk.lt).trans (H.out.blk.frozen 0)
        clear he HL
        generalize runG ⟨p, x, 0, 0⟩ L ([], false) = s at HM HLE HEQ ⊢
        obtain ⟨out, d⟩ := s
        have HLX : Hid (out.length ≤ 2000000) := HLE
        have HMO : Hid (Mid w wr (.slice a2 n2 c2) out) := HM
        clear HLE HM
        cases d with
        | true =>
          have HD := Lib.hid (H.out.laid HMO.out.bel HMO.out.own)
          rw [show out = insL ⟨p, x, 0, 0⟩ L from HEQ.out] at HD
          clear HMO
          go_wp2
          go_end0
          first | exact ⟨⟨_, rfl⟩, ⟨_, HD.out.1⟩, HD.out.2⟩ | exact ⟨rfl, ⟨_, HD.out.1⟩, HD.out.2⟩
        | false =>
          have OW := Lib.hid (own_below HMO.out.own ((Below.refl _ _).alloc (Nat.le_refl _) (.cells #[.int .i64 p, .bool x, .int .i64 0, .int .i64 0] 44)))
          have BW := Lib.hid (show w.heap.size ≤ (wr.alloc (.cells #[.int .i64 p, .bool x, .int .i64 0, .int .i64 0] 44)).heap.size by have := HMO.out.bel.size; simp; omega)
          go_wp2_with (at_builtin; refine wpList_appK rfl _ _ rfl w.heap.size _ out rfl OW.out wr.heap.size ⟨p, x, 0, 0⟩ rfl (Blk.new wr _ _) (by have := HLX.out; omega) BW.out ?_)
          intro v2 w2 ho1 hg1 hv1
          have HM2 := Lib.hid (HMO.out.app ho1 hg1)
          obtain ⟨a9, c9, rfl⟩ := own_shape ho1
          have f2 := (HM2.out.bel.frozen (p := ⟨u, 0, none⟩) H.out.blk.lt).trans (H.out.blk.frozen 0)
          have c2' := (HM2.out.bel.cell (p := ⟨u, 0, none⟩) H.out.blk.lt).trans (H.out.blk.cell 0)
          have HD := Lib.hid (H.out.laid HM2.out.bel HM2.out.own)
          rw [show out ++ [⟨p, x, 0, 0⟩] = insL ⟨p, x, 0, 0⟩ L from HEQ.out] at HD
          clear ho1 hg1 hv1 OW BW HM2 c0 f0 HMO
          go_wp2
          go_end0
          first | exact ⟨⟨_, rfl⟩, ⟨_, HD.out.1⟩, HD.out.2⟩ | exact ⟨rfl, ⟨_, HD.out.1⟩, HD.out.2⟩
end Go.Proofs.Ytlalehoncclnaaa.LRef
