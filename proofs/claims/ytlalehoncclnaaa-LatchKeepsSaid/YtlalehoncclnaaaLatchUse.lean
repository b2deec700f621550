/- A client's locks: Use. -/
import Derived.Test.YtlalehoncclnaaaLatchCalls2
namespace Go.Proofs.Ytlalehoncclnaaa.Latch
set_option maxRecDepth 100000
open Go.RowKit
open Go.Proofs.Ytlalehoncclnaaa.Mem
open Go.Maps
theorem keep_of_alloc {M : Nat → Prop} {w : World} (h : ∀ k, M k → k < w.heap.size) (o : Obj) : Keep M w (w.alloc o) := (Keep.refl M w).alloc h o
theorem used_has {p : Int} {L : LS} (h : (useF L p).isSome = false) : usedL p L = 0 := by
  unfold useF at h
  unfold usedL
  cases e : atL p L with
  | none => rfl
  | some k =>
    rw [e] at h
    dsimp only [Option.bind_some] at h ⊢
    by_cases e : k.us = 0
    · exact e
    · rw [if_neg e] at h; cases h
theorem used_has' {p : Int} {L : LS} (h : (useF L p).isSome = true) : usedL p L ≠ 0 := by
  unfold useF at h
  unfold usedL
  cases e : atL p L with
  | none => rw [e] at h; cases h
  | some k =>
    rw [e] at h
    dsimp only [Option.bind_some] at h ⊢
    by_cases e : k.us = 0
    · rw [if_pos e] at h; cases h
    · exact e
set_option maxRecDepth 100000 in
set_option maxHeartbeats 4000000 in
theorem use_any (p : Nat) (M : Nat → Prop) (L : LS) (pg : Int) (x : Bool) (w : World) (h : TQ w p M L) (hx : Sm pg) (hn : L.length ≤ 1000000) :
    Calls Try.prog 11 #[.pointer (some ⟨p, 0, none⟩), .int .i64 pg, .bool x] w fun e w' => e = .returned (.int .i64 (useE pg x L)) ∧ TQ w' p M (useL pg x L) ∧ Keep M w w' := by
  obtain ⟨hb, ub, h⟩ := h
  have HH := Lib.hid (has_any p hb ub M L pg x w h hx)
  have qn := run_eql' p
  cases hh : hasL pg x L with
  | false =>
    rw [hh] at HH
    have HE := Lib.hid (show ∀ q, TQ (w.drewN q) p M (useL pg x L) ∧ Keep M w (w.drewN q) from fun q => by
      have e : useL pg x L = L := by unfold useL; rw [hh]; rfl
      rw [e]
      exact ⟨⟨_, _, h.drewN q⟩, (Keep.refl M w).drewN q⟩)
    have e0 : useE pg x L = 12 := by unfold useE; rw [hh]; rfl
    rw [e0]
    clear h e0 hh
    go_enter Try.func11, Try.ntmps11
    go_wp2_with fail
    refine HH.out.mono ?_
    rintro e w1 ⟨rfl, q, rfl⟩
    go_wp2
    go_ret
    exact ⟨rfl, HE.out q⟩
  | true =>
    rw [hh] at HH
    have e0 : useE pg x L = 0 := by unfold useE; rw [hh]; rfl
    rw [e0]
    have HT := Lib.hid h
    have HU := Lib.hid (useF_use h.ok pg x hh)
    have HUH := Lib.hid (hasF_use h.ok pg x)
    have HOK := Lib.hid (ok_use h.ok pg x)
    clear h e0
    go_enter Try.func11, Try.ntmps11
    go_wp2_with fail
    refine HH.out.mono ?_
    rintro e w1 ⟨rfl, q, hq⟩
    have H1 := Lib.hid (show TV w1 p hb ub M L ∧ Keep M w w1 by rw [hq]; exact ⟨HT.out.drewN q, (Keep.refl M w).drewN q⟩)
    clear hq HT HH
    have c1 := H1.out.1.topc.2.1
    have hl := H1.out.1.lookO hx
    have hst : staysN pg L = if usedL pg L = 0 then 2 else staysI pg L := rfl
    have HSS := Lib.hid hst
    have HML := Lib.hid H1.out.1.ml
    clear hst
    cases hu : (useF L pg).isSome with
    | false =>
      have h0 := used_has hu
      rw [hu, h0] at hl
      rw [h0] at HU HSS
      have hs2 : staysN pg L = 2 := HSS.out
      rw [hs2] at HU
      change Hid (∀ q, useF (useL pg x L) q = if q = pg then some (.agg #[.int .i64 (max 0 (strI x)), .int .i64 2]) else useF L q) at HU
      generalize staysI pg L = st at hl
      clear hu h0 hs2 HSS
      go_upto_region 8 with (fail)
      obtain ⟨b, hbe⟩ : ∃ b, b = w1.heap.size := ⟨_, rfl⟩
      have HBB := Lib.hid (Blk.new w1 59 #[.int .i64 0, .int .i64 2])
      have HT2 := Lib.hid (H1.out.1.alloc (.cells #[.int .i64 0, .int .i64 2] 59))
      have HK2 := Lib.hid (H1.out.2.trans (keep_of_alloc H1.out.1.ml (.cells #[.int .i64 0, .int .i64 2] 59)))
      have HNM := Lib.hid (show ¬ M b from fun e => by have := H1.out.1.ml b e; omega)
      rw [← hbe] at HBB HT2 ⊢
      clear H1 c1 hl hbe HML
      generalize w1.alloc (.cells #[.int .i64 0, .int .i64 2] 59) = W2 at *
      have b0 := HBB.out.cell 0
      have f0 := HBB.out.frozen 0
      have HS : Hid (∀ W, Calls Try.prog 24 #[.bool x] W fun e w' => e = .returned (.int .i64 (strI x)) ∧ W = w') := Lib.hid fun W => strength_any x W
      go_region_with (go_at_call 24; refine (HS.out _).mono ?_; rintro e w' ⟨rfl, rfl⟩)
      all_goals
        have HB3 : Hid (Blk (W2.setCell ⟨b, 0, none⟩ (.int .i64 (max 0 (strI x)))).drew b 59 #[.int .i64 (max 0 (strI x)), .int .i64 2]) := Lib.hid (show Blk (W2.setCell ⟨b, 0, none⟩ (.int .i64 (max 0 (strI x)))) b 59 #[.int .i64 (max 0 (strI x)), .int .i64 2] by simpa using HBB.out.set_ 0 (.int .i64 (max 0 (strI x))))
        have HT3 : Hid (TV (W2.setCell ⟨b, 0, none⟩ (.int .i64 (max 0 (strI x)))).drew p hb ub (fun k => M k ∨ k = b) L) := Lib.hid ((HT2.out.set_ (.inr rfl) 0 _).drewN 1)
        have HK3 : Hid (Keep M w (W2.setCell ⟨b, 0, none⟩ (.int .i64 (max 0 (strI x)))).drew) := Lib.hid ((HK2.out.set_ HNM.out 0 _).drewN 1)
        clear HBB HT2 HK2 b0 f0 HS
        generalize (W2.setCell ⟨b, 0, none⟩ (.int .i64 (max 0 (strI x)))).drew = W3 at *
        obtain ⟨w4, r4, d4, H4⟩ := HT3.out.putU hx HOK.out hn HU.out HUH.out
        obtain ⟨w5, r5, d5, H5⟩ := (HT3.out.drewN 1).putU hx HOK.out hn HU.out HUH.out
        change (Instr.mapUpdate _ _ _ _).run _ W3.drew = _ at r5
        have F4 := Lib.hid (show TQ w4 p M (useL pg x L) ∧ Keep M w w4 from ⟨⟨_, _, H4.out.1.mono fun k hk => .inl hk⟩, HK3.out.trans (H4.out.2.mono fun k hk => .inl hk)⟩)
        have F5 := Lib.hid (show TQ w5 p M (useL pg x L) ∧ Keep M w w5 from ⟨⟨_, _, H5.out.1.mono fun k hk => .inl hk⟩, (HK3.out.drewN 1).trans (H5.out.2.mono fun k hk => .inl hk)⟩)
        have e1 := HT3.out.topc.2.1
        have u0 := HB3.out.cell 0
        have u1 := HB3.out.cell 1
        clear H4 H5 d4 d5 HT3 HB3 HK3
        go_wp2_with fail
        go_region
        all_goals
          go_wp2
          go_ret
          first | exact ⟨rfl, F5.out⟩ | exact ⟨rfl, F4.out⟩
    | true =>
      have h0 := used_has' hu
      rw [hu] at hl
      have hs2 : staysN pg L = staysI pg L := by rw [HSS.out, if_neg h0]
      rw [hs2] at HU
      clear hu h0 hs2 HSS
      generalize staysI pg L = st at hl HU
      generalize (usedL pg L : Int) = us at hl HU
      go_upto_region 8 with (fail)
      obtain ⟨b, hbe⟩ : ∃ b, b = w1.heap.size := ⟨_, rfl⟩
      have HBB := Lib.hid (Blk.new w1 59 #[.int .i64 us, .int .i64 st])
      have HT2 := Lib.hid (H1.out.1.alloc (.cells #[.int .i64 us, .int .i64 st] 59))
      have HK2 := Lib.hid (H1.out.2.trans (keep_of_alloc H1.out.1.ml (.cells #[.int .i64 us, .int .i64 st] 59)))
      have HNM := Lib.hid (show ¬ M b from fun e => by have := H1.out.1.ml b e; omega)
      rw [← hbe] at HBB HT2 ⊢
      clear H1 c1 hl hbe HML
      generalize w1.alloc (.cells #[.int .i64 us, .int .i64 st] 59) = W2 at *
      have b0 := HBB.out.cell 0
      have f0 := HBB.out.frozen 0
      have HS : Hid (∀ W, Calls Try.prog 24 #[.bool x] W fun e w' => e = .returned (.int .i64 (strI x)) ∧ W = w') := Lib.hid fun W => strength_any x W
      go_region_with (go_at_call 24; refine (HS.out _).mono ?_; rintro e w' ⟨rfl, rfl⟩)
      all_goals
        have HB3 : Hid (Blk (W2.setCell ⟨b, 0, none⟩ (.int .i64 (max us (strI x)))).drew b 59 #[.int .i64 (max us (strI x)), .int .i64 st]) := Lib.hid (show Blk (W2.setCell ⟨b, 0, none⟩ (.int .i64 (max us (strI x)))) b 59 #[.int .i64 (max us (strI x)), .int .i64 st] by simpa using HBB.out.set_ 0 (.int .i64 (max us (strI x))))
        have HT3 : Hid (TV (W2.setCell ⟨b, 0, none⟩ (.int .i64 (max us (strI x)))).drew p hb ub (fun k => M k ∨ k = b) L) := Lib.hid ((HT2.out.set_ (.inr rfl) 0 _).drewN 1)
        have HK3 : Hid (Keep M w (W2.setCell ⟨b, 0, none⟩ (.int .i64 (max us (strI x)))).drew) := Lib.hid ((HK2.out.set_ HNM.out 0 _).drewN 1)
        clear HBB HT2 HK2 b0 f0 HS
        generalize (W2.setCell ⟨b, 0, none⟩ (.int .i64 (max us (strI x)))).drew = W3 at *
        obtain ⟨w4, r4, d4, H4⟩ := HT3.out.putU hx HOK.out hn HU.out HUH.out
        obtain ⟨w5, r5, d5, H5⟩ := (HT3.out.drewN 1).putU hx HOK.out hn HU.out HUH.out
        change (Instr.mapUpdate _ _ _ _).run _ W3.drew = _ at r5
        have F4 := Lib.hid (show TQ w4 p M (useL pg x L) ∧ Keep M w w4 from ⟨⟨_, _, H4.out.1.mono fun k hk => .inl hk⟩, HK3.out.trans (H4.out.2.mono fun k hk => .inl hk)⟩)
        have F5 := Lib.hid (show TQ w5 p M (useL pg x L) ∧ Keep M w w5 from ⟨⟨_, _, H5.out.1.mono fun k hk => .inl hk⟩, (HK3.out.drewN 1).trans (H5.out.2.mono fun k hk => .inl hk)⟩)
        have e1 := HT3.out.topc.2.1
        have u0 := HB3.out.cell 0
        have u1 := HB3.out.cell 1
        clear H4 H5 d4 d5 HT3 HB3 HK3
        go_wp2_with fail
        go_region
        all_goals
          go_wp2
          go_ret
          first | exact ⟨rfl, F5.out⟩ | exact ⟨rfl, F4.out⟩
end Go.Proofs.Ytlalehoncclnaaa.Latch
