/- The document's own locks: End. -/
import Derived.Test.YtlalehoncclnaaaLatchRef3
namespace Go.Proofs.Ytlalehoncclnaaa.LRef
set_option maxRecDepth 100000
open Go.RowKit
open Go.Proofs.Ytlalehoncclnaaa.Mem
open Go.Proofs.Ytlalehoncclnaaa.Latch
def EndRes (u : Nat) (M : Nat → Prop) (L : LS) (w : World) (e : Ending) (w' : World) : Prop :=
  ∃ v, e = .returned v ∧ w'.ownsRow 0 50 2 v (endO L).length (letsV (endO L)) ∧ UQ w' u M (endL L) ∧ Keep M w w'
/-- between two rounds: what is told, what stays -/
structure EndAt (L : LS) (w : World) (vo vr : Value) (j : Nat) (wr : World) : Prop where
  os : wr.ownsRow w.heap.size 50 2 vo (outK L j).length (letsV (outK L j))
  rs : wr.ownsRow w.heap.size 44 4 vr (restK L j).length (cellsK (restK L j))
  ne : ∀ g, vo.ownBlock = some g → vr.ownBlock ≠ some g
  bel : Below w.heap.size w wr
section
variable {L : LS} {w wr w2 : World} {vo vr : Value} {j : Nat} {k : Lk}
theorem EndAt.box (h : EndAt L w vo vr j wr) (o : Obj) : EndAt L w vo vr j (wr.alloc o) :=
  ⟨own_below h.os ((Below.refl _ wr).alloc (Nat.le_refl _) o), own_below h.rs ((Below.refl _ wr).alloc (Nat.le_refl _) o), h.ne, h.bel.alloc h.bel.size o⟩
/-- the half of a round: what is told -/
structure Half (L : LS) (w : World) (vo vr : Value) (j : Nat) (wr : World) : Prop where
  os : wr.ownsRow w.heap.size 50 2 vo (outK L (j + 1)).length (letsV (outK L (j + 1)))
  rs : wr.ownsRow w.heap.size 44 4 vr (restK L j).length (cellsK (restK L j))
  ne : ∀ g, vo.ownBlock = some g → vr.ownBlock ≠ some g
  bel : Below w.heap.size w wr
theorem EndAt.quiet (h : EndAt L w vo vr j wr) (hk : L[j]? = some k) (hw : k.wt = 0) : Half L w vo vr j wr := by
  have e : outK L (j + 1) = outK L j := by
    unfold outK
    rw [fm_next hk, show letF k = none by unfold letF; rw [if_pos hw]]; simp
  exact ⟨by rw [e]; exact h.os, h.rs, h.ne, h.bel⟩
theorem EndAt.told (h : EndAt L w vo vr j wr) (hk : L[j]? = some k) {kp : Bool} (hl : letF k = some (k.pg, kp)) {cs : Array Value} {t : TypeId} {v2 : Value}
    (ho : w2.ownsRow w.heap.size 50 2 v2 ((outK L j).length + 1) (letsV (outK L j ++ [(k.pg, kp)]))) (hg : (wr.alloc (.cells cs t)).grownBy w2 vo.ownBlock) (hv : v2.ownBlock = vo.ownBlock ∨ v2.ownBlock = some (wr.heap.size + 1)) : Half L w v2 vr j w2 := by
  have e : outK L (j + 1) = outK L j ++ [(k.pg, kp)] := by
    unfold outK
    rw [fm_next hk, hl]; rfl
  have hb := h.box (.cells cs t)
  refine ⟨by rw [e, List.length_append]; exact ho, own_same hb.rs fun g hg' => hg.block g (own_lt hb.rs hg') fun e2 => h.ne g e2.symm hg', fun g hg' e2 => ?_, hb.bel.grown hg hb.bel.size fun g hg' => own_ge h.os g hg'⟩
  rcases hv with hv | hv
  · exact h.ne g (hv ▸ hg') e2
  · have := own_lt h.rs e2
    rw [hv] at hg'
    injection hg' with hg'
    omega
theorem Half.box (h : Half L w vo vr j wr) (o : Obj) : Half L w vo vr j (wr.alloc o) :=
  ⟨own_below h.os ((Below.refl _ wr).alloc (Nat.le_refl _) o), own_below h.rs ((Below.refl _ wr).alloc (Nat.le_refl _) o), h.ne, h.bel.alloc h.bel.size o⟩
theorem Half.gone (h : Half L w vo vr j wr) (hk : L[j]? = some k) (hw : k.wt = 2) : EndAt L w vo vr (j + 1) wr := by
  have e : restK L (j + 1) = restK L j := by
    unfold restK
    rw [fm_next hk, show endF k = none by unfold endF; rw [if_pos hw]]; simp
  exact ⟨h.os, by rw [e]; exact h.rs, h.ne, h.bel⟩
theorem Half.stays (h : Half L w vo vr j wr) (hk : L[j]? = some k) {y : Lk} (hl : endF k = some y) {cs : Array Value} {t : TypeId} {v2 : Value}
    (ho : w2.ownsRow w.heap.size 44 4 v2 ((restK L j).length + 1) (cellsK (restK L j ++ [y]))) (hg : (wr.alloc (.cells cs t)).grownBy w2 vr.ownBlock) (hv : v2.ownBlock = vr.ownBlock ∨ v2.ownBlock = some (wr.heap.size + 1)) : EndAt L w vo v2 (j + 1) w2 := by
  have e : restK L (j + 1) = restK L j ++ [y] := by
    unfold restK
    rw [fm_next hk, hl]; rfl
  have hb := h.box (.cells cs t)
  refine ⟨own_same hb.os fun g hg' => hg.block g (own_lt hb.os hg') fun e2 => h.ne g hg' e2.symm, by rw [e, List.length_append]; exact ho, fun g hg' e2 => ?_, hb.bel.grown hg hb.bel.size fun g hg' => own_ge h.rs g hg'⟩
  rcases hv with hv | hv
  · exact h.ne g hg' (hv ▸ e2)
  · have := own_lt h.os hg'
    rw [hv] at e2
    injection e2 with e2
    omega
end
set_option maxRecDepth 100000 in
set_option maxHeartbeats 8000000 in
theorem end_any (u : Nat) (M : Nat → Prop) (L : LS) (w : World) (h : UQ w u M L) (hn : L.length ≤ 1000000) (hO : Ok L) :
    Calls Try.prog 17 #[.pointer (some ⟨u, 0, none⟩)] w (EndRes u M L w) := by
  obtain ⟨v, h⟩ := h
  obtain ⟨av, cv, rfl⟩ := own_shape h.own
  have H := Lib.hid h
  have HO := Lib.hid hO
  have HE0 : Hid (EndAt L w (.slice (some ⟨w.heap.size, 0, none⟩) 0 0) (.slice (some ⟨w.heap.size + 1, 0, none⟩) 0 0) 0 ((w.alloc (.cells #[] 50)).alloc (.cells #[] 44))) := Lib.hid (by
    have h1 := own_new w 50 2
    have h2 := own_new (w.alloc (.cells #[] 50)) 44 4
    have hs : (w.alloc (.cells #[] 50)).heap.size = w.heap.size + 1 := by simp
    rw [hs] at h2
    refine ⟨own_below h1 ((Below.refl _ _).alloc (Nat.le_refl _) _), own_low h2 (by omega), fun g e1 e2 => ?_, ((Below.refl _ w).alloc (Nat.le_refl _) _).alloc (by rw [hs]; omega) _⟩
    have a1 : w.heap.size = g := by injection e1
    have a2 : w.heap.size + 1 = g := by injection e2
    omega)
  clear h hO
  go_enter Try.func17, Try.ntmps17
  go_wp2
  go_loopw [3, 4, 5] (fun vo vr i wr => ∃ (j : Nat) (a1 : Option Addr) (n1 c1 : Nat) (a2 : Option Addr) (n2 c2 : Nat), j ≤ L.length ∧ i = .int .i64 (j : Int) ∧ vo = .slice a1 n1 c1 ∧ vr = .slice a2 n2 c2 ∧ Hid (EndAt L w vo vr j wr)) (fun _ _ i _ => L.length - (intOf i).toNat)
  case atStart => exact ⟨0, _, _, _, _, _, _, Nat.zero_le _, rfl, rfl, rfl, HE0⟩
  case round =>
    obtain ⟨j, a1, n1, c1, a2, n2, c2, hj, rfl, rfl, rfl, HE⟩ := hrel
    clear HE0
    have c0 := (HE.out.bel.cell (p := ⟨u, 0, none⟩) H.out.blk.lt).trans (H.out.blk.cell 0)
    by_cases hlt : j < L.length
    · have hx : L[j]? = some L[j] := List.getElem?_eq_getElem hlt
      generalize L[j] = k at hx
      obtain ⟨g, c, e, -, -, -, d0, d1, d2, d3, -⟩ := (H.out.below HE.out.bel).row hx
      injection e with e1 e2 e3
      subst e1; subst e3
      clear e2
      have hw2 := (HO.out.2 k (List.mem_of_getElem? hx)).2.1
      have HX := Lib.hid hx
      have HW := Lib.hid hw2
      have HOL := Lib.hid (show (outK L j).length ≤ L.length from fm_take_len _ _ _)
      have HRL := Lib.hid (show (restK L j).length ≤ L.length from fm_take_len _ _ _)
      clear hx hw2
      obtain ⟨pg, kx, us, wt⟩ := k
      simp only at d0 d1 d2 d3
      go_upto_region 7 with (fail)
      have HB0 := Lib.hid (HE.out.box (.cells #[.int .i64 pg, .bool kx, .int .i64 us, .int .i64 wt] 44))
      have HK := Lib.hid (Blk.new wr 44 #[.int .i64 pg, .bool kx, .int .i64 us, .int .i64 wt])
      obtain ⟨B, hB⟩ : ∃ B, B = wr.heap.size := ⟨_, rfl⟩
      have HNB : Hid ((∀ g, (Value.slice a1 n1 c1).ownBlock = some g → g ≠ B) ∧ ∀ g, (Value.slice a2 n2 c2).ownBlock = some g → g ≠ B) := Lib.hid ⟨fun g hg => by have := own_lt HE.out.os hg; omega, fun g hg => by have := own_lt HE.out.rs hg; omega⟩
      rw [← hB] at HK ⊢
      clear hB HE
      generalize wr.alloc (.cells #[.int .i64 pg, .bool kx, .int .i64 us, .int .i64 wt] 44) = W1 at HB0 HK ⊢
      have x0 := HK.out.cell 0
      have x1 := HK.out.cell 1
      have x2 := HK.out.cell 2
      have x3 := HK.out.cell 3
      clear d0 d1 d2 d3 c0
      have d0 : True := trivial
      have d1 : True := trivial
      have d2 : True := trivial
      have d3 : True := trivial
      have c0 : True := trivial
      have HE : True := trivial
      obtain rfl | rfl | rfl : wt = 0 ∨ wt = 1 ∨ wt = 2 := by have := HW.out; dsimp only at this; omega
      · have HH := Lib.hid (HB0.out.quiet HX.out rfl)
        clear HB0 HK
        cases kx with
        | true =>
          have OW2 := Lib.hid (own_below HH.out.rs ((Below.refl _ _).alloc (Nat.le_refl _) (.cells #[.int .i64 pg, .bool true, .int .i64 0, .int .i64 0] 44)))
          have BW2 := Lib.hid (show w.heap.size ≤ (W1.alloc (.cells #[.int .i64 pg, .bool true, .int .i64 0, .int .i64 0] 44)).heap.size by have := HH.out.bel.size; simp; omega)
          go_wp2_with (at_builtin; refine wpList_appK rfl _ _ rfl w.heap.size _ (restK L j) rfl OW2.out W1.heap.size ⟨pg, true, 0, 0⟩ rfl (Blk.new W1 _ _) (by have := HRL.out; omega) BW2.out ?_)
          intro v3 w3 ho hg hv
          have HE2 := Lib.hid (HH.out.stays HX.out (y := ⟨pg, true, 0, 0⟩) rfl ho hg hv)
          obtain ⟨aw3, cw3, rfl⟩ := own_shape ho
          clear ho hg hv OW2 BW2 HH HE
          go_wp2
          go_roundw
          case rel => exact ⟨j + 1, _, _, _, _, _, _, by omega, by go_num, rfl, rfl, HE2⟩
          case measure => simp [intOf]; omega
        | false =>
          have OW2 := Lib.hid (own_below HH.out.rs ((Below.refl _ _).alloc (Nat.le_refl _) (.cells #[.int .i64 pg, .bool false, .int .i64 0, .int .i64 0] 44)))
          have BW2 := Lib.hid (show w.heap.size ≤ (W1.alloc (.cells #[.int .i64 pg, .bool false, .int .i64 0, .int .i64 0] 44)).heap.size by have := HH.out.bel.size; simp; omega)
          go_wp2_with (at_builtin; refine wpList_appK rfl _ _ rfl w.heap.size _ (restK L j) rfl OW2.out W1.heap.size ⟨pg, false, 0, 0⟩ rfl (Blk.new W1 _ _) (by have := HRL.out; omega) BW2.out ?_)
          intro v3 w3 ho hg hv
          have HE2 := Lib.hid (HH.out.stays HX.out (y := ⟨pg, false, 0, 0⟩) rfl ho hg hv)
          obtain ⟨aw3, cw3, rfl⟩ := own_shape ho
          clear ho hg hv OW2 BW2 HH HE
          go_wp2
          go_roundw
          case rel => exact ⟨j + 1, _, _, _, _, _, _, by omega, by go_num, rfl, rfl, HE2⟩
          case measure => simp [intOf]; omega
      · have OW := Lib.hid (own_below HB0.out.os ((Below.refl _ _).alloc (Nat.le_refl _) (.cells #[.int .i64 pg, .bool true] 50)))
        have BW := Lib.hid (show w.heap.size ≤ (W1.alloc (.cells #[.int .i64 pg, .bool true] 50)).heap.size by have := HB0.out.bel.size; simp; omega)
        go_wp2_with (at_builtin; refine wpList_appL rfl _ _ rfl w.heap.size _ (outK L j) rfl OW.out W1.heap.size (pg, true) rfl (Blk.new W1 _ _) (by have := HOL.out; omega) BW.out ?_)
        intro v2 w2 ho hg hv
        have HH := Lib.hid (HB0.out.told HX.out (kp := true) rfl ho hg hv)
        have HK2 := Lib.hid ((HK.out.alloc (.cells #[.int .i64 pg, .bool true] 50)).grown hg (fun e => HNB.out.1 _ e.symm rfl))
        obtain ⟨aw2, cw2, rfl⟩ := own_shape ho
        have e0 := HK2.out.cell 0
        have e1 := HK2.out.cell 1
        have e2 := HK2.out.cell 2
        have e3 := HK2.out.cell 3
        clear ho hg hv OW BW HB0 HK d0 d1 d2 d3 c0 x0 x1 x2 x3
        cases kx with
        | true =>
          have OW2 := Lib.hid (own_below HH.out.rs ((Below.refl _ _).alloc (Nat.le_refl _) (.cells #[.int .i64 pg, .bool false, .int .i64 0, .int .i64 0] 44)))
          have BW2 := Lib.hid (show w.heap.size ≤ (w2.alloc (.cells #[.int .i64 pg, .bool false, .int .i64 0, .int .i64 0] 44)).heap.size by have := HH.out.bel.size; simp; omega)
          go_wp2_with (at_builtin; refine wpList_appK rfl _ _ rfl w.heap.size _ (restK L j) rfl OW2.out w2.heap.size ⟨pg, false, 0, 0⟩ rfl (Blk.new w2 _ _) (by have := HRL.out; omega) BW2.out ?_)
          intro v3 w3 ho hg hv
          have HE2 := Lib.hid (HH.out.stays HX.out (y := ⟨pg, false, 0, 0⟩) rfl ho hg hv)
          obtain ⟨aw3, cw3, rfl⟩ := own_shape ho
          clear ho hg hv OW2 BW2 HH HE
          go_wp2
          go_roundw
          case rel => exact ⟨j + 1, _, _, _, _, _, _, by omega, by go_num, rfl, rfl, HE2⟩
          case measure => simp [intOf]; omega
        | false =>
          have OW2 := Lib.hid (own_below HH.out.rs ((Below.refl _ _).alloc (Nat.le_refl _) (.cells #[.int .i64 pg, .bool false, .int .i64 0, .int .i64 0] 44)))
          have BW2 := Lib.hid (show w.heap.size ≤ (w2.alloc (.cells #[.int .i64 pg, .bool false, .int .i64 0, .int .i64 0] 44)).heap.size by have := HH.out.bel.size; simp; omega)
          go_wp2_with (at_builtin; refine wpList_appK rfl _ _ rfl w.heap.size _ (restK L j) rfl OW2.out w2.heap.size ⟨pg, false, 0, 0⟩ rfl (Blk.new w2 _ _) (by have := HRL.out; omega) BW2.out ?_)
          intro v3 w3 ho hg hv
          have HE2 := Lib.hid (HH.out.stays HX.out (y := ⟨pg, false, 0, 0⟩) rfl ho hg hv)
          obtain ⟨aw3, cw3, rfl⟩ := own_shape ho
          clear ho hg hv OW2 BW2 HH HE
          go_wp2
          go_roundw
          case rel => exact ⟨j + 1, _, _, _, _, _, _, by omega, by go_num, rfl, rfl, HE2⟩
          case measure => simp [intOf]; omega
      · have OW := Lib.hid (own_below HB0.out.os ((Below.refl _ _).alloc (Nat.le_refl _) (.cells #[.int .i64 pg, .bool false] 50)))
        have BW := Lib.hid (show w.heap.size ≤ (W1.alloc (.cells #[.int .i64 pg, .bool false] 50)).heap.size by have := HB0.out.bel.size; simp; omega)
        go_wp2_with (at_builtin; refine wpList_appL rfl _ _ rfl w.heap.size _ (outK L j) rfl OW.out W1.heap.size (pg, false) rfl (Blk.new W1 _ _) (by have := HOL.out; omega) BW.out ?_)
        intro v2 w2 ho hg hv
        have HH := Lib.hid (HB0.out.told HX.out (kp := false) rfl ho hg hv)
        have HK2 := Lib.hid ((HK.out.alloc (.cells #[.int .i64 pg, .bool false] 50)).grown hg (fun e => HNB.out.1 _ e.symm rfl))
        obtain ⟨aw2, cw2, rfl⟩ := own_shape ho
        have e0 := HK2.out.cell 0
        have e1 := HK2.out.cell 1
        have e2 := HK2.out.cell 2
        have e3 := HK2.out.cell 3
        clear ho hg hv OW BW HB0 HK d0 d1 d2 d3 c0 x0 x1 x2 x3
        have HE2 := Lib.hid (HH.out.gone HX.out rfl)
        clear HH HE
        cases kx
        all_goals
          go_wp2
          go_roundw
          case rel => exact ⟨j + 1, _, _, _, _, _, _, by omega, by go_num, rfl, rfl, HE2⟩
          case measure => simp [intOf]; omega
    · obtain rfl : j = L.length := by omega
      have f0 := (HE.out.bel.frozen (p := ⟨u, 0, none⟩) H.out.blk.lt).trans (H.out.blk.frozen 0)
      have ho := HE.out.os
      have hr := HE.out.rs
      have e1 : outK L L.length = endO L := by unfold outK endO; rw [List.take_length]
      have e2 : restK L L.length = endL L := by unfold restK endL; rw [List.take_length]
      rw [e1] at ho
      rw [e2] at hr
      have hd := H.out.laid HE.out.bel hr
      have hne : (Value.slice a1 n1 c1).ownBlock ≠ some u := fun e => by have := own_ge ho u e; have := H.out.blk.lt; omega
      have HD : Hid (EndRes u M L w (.returned (.slice a1 n1 c1)) (wr.setCell ⟨u, 0, none⟩ (.slice a2 n2 c2))) := Lib.hid ⟨_, rfl, own_set (own_low ho (Nat.zero_le _)) hne 0 _, ⟨_, hd.1⟩, hd.2⟩
      clear ho hr e1 e2 hd hne HE
      go_wp2
      go_ret
      exact HD.out
end Go.Proofs.Ytlalehoncclnaaa.LRef
