/- A client's locks: Call, Pages, and the calls of no locks. -/
import Derived.Test.YtlalehoncclnaaaLatchUse
namespace Go.Proofs.Ytlalehoncclnaaa.Latch
set_option maxRecDepth 100000
open Go.RowKit
open Go.Proofs.Ytlalehoncclnaaa.Mem
open Go.Maps
set_option maxRecDepth 100000 in
set_option maxHeartbeats 4000000 in
theorem call_any (p : Nat) (M : Nat → Prop) (L : LS) (pg : Int) (all : Bool) (w : World) (h : TQ w p M L) (hx : Sm pg) (hn : L.length ≤ 1000000) :
    Calls Try.prog 13 #[.pointer (some ⟨p, 0, none⟩), .int .i64 pg, .bool all] w fun e w' => e = .returned (.int .i64 (callE pg all L)) ∧ TQ w' p M (callL pg all L) ∧ Keep M w w' := by
  obtain ⟨hb, ub, h⟩ := h
  have HL := Lib.hid (left_any all w)
  have qn := run_eql' p
  have c0 := h.topc.1
  have hlk := h.lookH hx
  by_cases h1 : lvl pg L ≤ leftI all
  · have HE := Lib.hid (call_nothing (all := all) h.ok h1)
    have HT : Hid (TQ w p M (callL pg all L)) := Lib.hid (by rw [HE.out.2]; exact ⟨_, _, h⟩)
    rw [HE.out.1]
    have hd : decide (lvl pg L ≤ leftI all) = true := decide_eq_true h1
    have HKK := Lib.hid (Keep.refl M w)
    clear h h1 HE hx
    generalize leftI all = r at HL hd
    generalize lvl pg L = v at hlk hd
    go_enter Try.func13, Try.ntmps13
    go_wp2_with fail
    refine HL.out.mono ?_
    rintro e w1 ⟨rfl, rfl⟩
    go_wp2
    go_ret
    exact ⟨rfl, HT.out, HKK.out⟩
  · have hd : decide (lvl pg L ≤ leftI all) = false := decide_eq_false h1
    have HU := Lib.hid (used_any p hb ub M L pg w h hx)
    by_cases h2 : leftI all < (usedL pg L : Int)
    · have hd2 : decide (leftI all < (usedL pg L : Int)) = true := decide_eq_true h2
      have hd3 : decide ((usedL pg L : Int) > leftI all) = true := decide_eq_true h2
      have HC := Lib.hid (call_later (all := all) h.ok h1 h2)
      have HOK := Lib.hid (ok_call h.ok pg all)
      rw [HC.out.1]
      have HUF : Hid (∀ q, useF (callL pg all L) q = if q = pg then some (.agg #[.int .i64 (usedL pg L), .int .i64 (min (staysI pg L) (leftI all))]) else useF L q) := Lib.hid HC.out.2.2
      have HHF := Lib.hid HC.out.2.1
      have HT := Lib.hid h
      have c1 := h.topc.2.1
      have hlu := h.lookU hx
      clear h h1 h2 HC
      generalize leftI all = r at *
      generalize lvl pg L = v at *
      generalize staysI pg L = st at *
      generalize (usedL pg L : Int) = us at *
      go_enter Try.func13, Try.ntmps13
      go_wp2_with fail
      refine HL.out.mono ?_
      rintro e w1 ⟨rfl, rfl⟩
      go_wp2_with fail
      refine HU.out.mono ?_
      rintro e w1 ⟨rfl, rfl⟩
      go_upto_region 7 with (fail)
      obtain ⟨b, hbe⟩ : ∃ b, b = w.heap.size := ⟨_, rfl⟩
      have HB3 := Lib.hid (Blk.new w 59 #[.int .i64 us, .int .i64 (min st r)])
      have HT3 := Lib.hid (HT.out.alloc (.cells #[.int .i64 us, .int .i64 (min st r)] 59))
      have HK3 := Lib.hid (keep_of_alloc HT.out.ml (.cells #[.int .i64 us, .int .i64 (min st r)] 59))
      rw [← hbe] at HB3 HT3 ⊢
      clear HT c0 c1 hlk hlu hbe HL HU
      generalize w.alloc (.cells #[.int .i64 us, .int .i64 (min st r)] 59) = W3 at *
      obtain ⟨w4, r4, d4, H4⟩ := HT3.out.putU hx HOK.out hn HUF.out HHF.out
      obtain ⟨w5, r5, d5, H5⟩ := (HT3.out.drewN 1).putU hx HOK.out hn HUF.out HHF.out
      change (Instr.mapUpdate _ _ _ _).run _ W3.drew = _ at r5
      have F4 := Lib.hid (show TQ w4 p M (callL pg all L) ∧ Keep M w w4 from ⟨⟨_, _, H4.out.1.mono fun k hk => .inl hk⟩, HK3.out.trans (H4.out.2.mono fun k hk => .inl hk)⟩)
      have F5 := Lib.hid (show TQ w5 p M (callL pg all L) ∧ Keep M w w5 from ⟨⟨_, _, H5.out.1.mono fun k hk => .inl hk⟩, (HK3.out.drewN 1).trans (H5.out.2.mono fun k hk => .inl hk)⟩)
      have e1 := HT3.out.topc.2.1
      have u0 := HB3.out.cell 0
      have u1 := HB3.out.cell 1
      clear H4 H5 d4 d5 HT3 HB3 HK3
      go_region
      all_goals
        go_wp2
        go_ret
        first | exact ⟨rfl, F5.out⟩ | exact ⟨rfl, F4.out⟩
    · have hd2 : decide (leftI all < (usedL pg L : Int)) = false := decide_eq_false h2
      have hd3 : decide ((usedL pg L : Int) > leftI all) = false := decide_eq_false h2
      have HC := call_now (all := all) h.ok h1 h2
      obtain ⟨k1, k2, k3⟩ := HC
      rw [k1]
      have hok := ok_call h.ok pg all
      clear k1 h1 h2
      cases all with
      | true =>
        have HG : Hid (Calls Try.prog 27 #[.pointer (some ⟨p, 0, none⟩), .int .i64 pg, .int .i64 (leftI true)] w fun e w' => e = .returned (.tuple #[]) ∧ TV w' p hb ub M (callL pg true L) ∧ Keep M w w') := Lib.hid (letGo_all h hx hok k2 k3)
        clear h k2 k3
        generalize lvl pg L = v at *
        generalize (usedL pg L : Int) = us at *
        generalize leftI true = r at *
        go_enter Try.func13, Try.ntmps13
        go_wp2_with fail
        refine HL.out.mono ?_
        rintro e w1 ⟨rfl, rfl⟩
        go_wp2_with fail
        refine HU.out.mono ?_
        rintro e w1 ⟨rfl, rfl⟩
        go_wp2_with fail
        refine HG.out.mono ?_
        rintro e w1 ⟨rfl, h9, k9⟩
        have HE := Lib.hid (show TQ w1 p M (callL pg true L) ∧ Keep M w w1 from ⟨⟨_, _, h9⟩, k9⟩)
        clear h9 k9
        go_wp2
        go_ret
        exact ⟨rfl, HE.out⟩
      | false =>
        have HG : Hid (Calls Try.prog 27 #[.pointer (some ⟨p, 0, none⟩), .int .i64 pg, .int .i64 (leftI false)] w fun e w' => e = .returned (.tuple #[]) ∧ TV w' p hb ub M (callL pg false L) ∧ Keep M w w') := Lib.hid (letGo_x h hx hn hok k2 k3)
        clear h k2 k3
        generalize lvl pg L = v at *
        generalize (usedL pg L : Int) = us at *
        generalize leftI false = r at *
        go_enter Try.func13, Try.ntmps13
        go_wp2_with fail
        refine HL.out.mono ?_
        rintro e w1 ⟨rfl, rfl⟩
        go_wp2_with fail
        refine HU.out.mono ?_
        rintro e w1 ⟨rfl, rfl⟩
        go_wp2_with fail
        refine HG.out.mono ?_
        rintro e w1 ⟨rfl, h9, k9⟩
        have HE := Lib.hid (show TQ w1 p M (callL pg false L) ∧ Keep M w w1 from ⟨⟨_, _, h9⟩, k9⟩)
        clear h9 k9
        go_wp2
        go_ret
        exact ⟨rfl, HE.out⟩
theorem at_none_iff {p : Int} {L : LS} : atL p L = none ↔ ∀ k ∈ L, k.pg ≠ p := by
  unfold atL
  rw [List.find?_eq_none]
  constructor
  · intro h k hk; simpa using h k hk
  · intro h k hk; simpa using h k hk
theorem own_low {w : World} {B C n size : Nat} {t : TypeId} {v : Value} {xs : List Value} (h : w.ownsRow C t size v n xs) (hb : B ≤ C) : w.ownsRow B t size v n xs := by
  obtain ⟨hl, h0 | ⟨g, cap, cur, rfl, hg, hc, h1⟩⟩ := h
  · exact ⟨hl, .inl h0⟩
  · exact ⟨hl, .inr ⟨g, cap, cur, rfl, Nat.le_trans hb hg, hc, h1⟩⟩
theorem pages_up {L : LS} (h : Up L) : (pagesL L).Pairwise (fun x y => x < y) := List.pairwise_map.2 h
theorem pages_mem {L : LS} (x : Int) : x ∈ pagesL L ↔ hasF L x ≠ none := by
  constructor
  · intro h
    obtain ⟨k, hk, rfl⟩ := List.mem_map.1 h
    unfold hasF
    cases e : atL k.pg L with
    | none => rw [at_none_iff] at e; exact absurd rfl (e k hk)
    | some _ => simp
  · exact has_mem
/-- Pages: an own row -/
def PagesRes (L : LS) (w : World) (e : Ending) (w' : World) : Prop :=
  ∃ v, e = .returned v ∧ w'.ownsRow w.heap.size 3 1 v L.length ((pagesL L).map (Value.int .i64)) ∧ Below w.heap.size w w'
set_option maxRecDepth 100000 in
theorem pages_any (p : Nat) (M : Nat → Prop) (L : LS) (w : World) (h : TQ w p M L) (hn : L.length ≤ 1000000) :
    Calls Try.prog 23 #[.pointer (some ⟨p, 0, none⟩)] w (PagesRes L w) := by
  obtain ⟨hb, ub, h⟩ := h
  have c0 := h.topc.1
  have HK := Lib.hid (keysH_any (some hb) w)
  have HS := Lib.hid (sortedH_any h.hm hn (pages_up h.ok.1) pages_mem)
  have HB := Lib.hid (((Below.refl w.heap.size w).alloc (Nat.le_refl _) (.cells #[.map (some hb)] 53)))
  have HZ := Lib.hid (show (w.alloc (.cells #[.map (some hb)] 53)).heap.size = w.heap.size + 1 by simp)
  have qn := run_eql' p
  clear h
  go_enter Try.func23, Try.ntmps23
  go_wp2_with fail
  refine HK.out.mono ?_
  rintro e w1 ⟨rfl, rfl⟩
  go_wp2_with fail
  refine HS.out.mono ?_
  rintro e w1 ⟨v, rfl, hr, hb1⟩
  have HR : Hid (PagesRes L w (.returned v) w1) := Lib.hid ⟨v, rfl, by
    rw [pages_length] at hr
    exact own_low hr (by rw [HZ.out]; omega), HB.out.trans (hb1.mono (by rw [HZ.out]; omega))⟩
  clear hr hb1 HK HS HB HZ
  go_wp2
  go_ret
  exact HR.out
/-! ### Of no locks -/
set_option maxRecDepth 100000 in
theorem grant_nil (pg : Int) (x : Bool) (w : World) : Calls Try.prog 9 #[.pointer none, .int .i64 pg, .bool x] w fun e w' => e = .returned (.tuple #[]) ∧ w = w' := by
  have qn := run_niln
  go_enter Try.func9, Try.ntmps9
  go_wp2
  go_end0
  first | exact ⟨⟨_, rfl⟩, rfl⟩ | exact ⟨rfl, rfl⟩
set_option maxRecDepth 100000 in
theorem clear_nil (w : World) : Calls Try.prog 18 #[.pointer none] w fun e w' => e = .returned (.tuple #[]) ∧ w = w' := by
  have qn := run_niln
  go_enter Try.func18, Try.ntmps18
  go_wp2
  go_end0
  first | exact ⟨⟨_, rfl⟩, rfl⟩ | exact ⟨rfl, rfl⟩
set_option maxRecDepth 100000 in
theorem has_nil (pg : Int) (x : Bool) (w : World) : Calls Try.prog 19 #[.pointer none, .int .i64 pg, .bool x] w fun e w' => e = .returned (.bool false) ∧ ∃ q, w' = w.drewN q := by
  have qn := run_niln
  go_enter Try.func19, Try.ntmps19
  go_wp2_with fail
  go_quiet (fail)
  go_wp2
  go_ret
  exact ⟨rfl, _, rfl⟩
set_option maxRecDepth 100000 in
theorem use_nil (pg : Int) (x : Bool) (w : World) : Calls Try.prog 11 #[.pointer none, .int .i64 pg, .bool x] w fun e w' => e = .returned (.int .i64 2) ∧ w = w' := by
  have qn := run_nill
  go_enter Try.func11, Try.ntmps11
  go_wp2
  go_ret
  exact ⟨rfl, rfl⟩
set_option maxRecDepth 100000 in
theorem used_nil (pg : Int) (w : World) : Calls Try.prog 21 #[.pointer none, .int .i64 pg] w fun e w' => e = .returned (.int .i64 0) ∧ w = w' := by
  have qn := run_nill
  go_enter Try.func21, Try.ntmps21
  go_wp2
  go_ret
  exact ⟨rfl, rfl⟩
set_option maxRecDepth 100000 in
theorem call_nil (pg : Int) (x : Bool) (w : World) : Calls Try.prog 13 #[.pointer none, .int .i64 pg, .bool x] w fun e w' => e = .returned (.int .i64 0) ∧ w = w' := by
  have qn := run_nill
  have HL := Lib.hid (left_any x w)
  generalize leftI x = r at HL
  go_enter Try.func13, Try.ntmps13
  go_wp2_with fail
  refine HL.out.mono ?_
  rintro e w1 ⟨rfl, rfl⟩
  go_wp2
  go_ret
  exact ⟨rfl, rfl⟩
set_option maxRecDepth 100000 in
theorem end_nil (w : World) : Calls Try.prog 16 #[.pointer none] w fun e w' => e = .returned (.slice none 0 0) ∧ w = w' := by
  have qn := run_nill
  go_enter Try.func16, Try.ntmps16
  go_wp2
  go_ret
  exact ⟨rfl, rfl⟩
set_option maxRecDepth 100000 in
theorem pages_nil (w : World) : Calls Try.prog 23 #[.pointer none] w fun e w' => e = .returned (.slice none 0 0) ∧ w = w' := by
  have qn := run_nill
  go_enter Try.func23, Try.ntmps23
  go_wp2
  go_ret
  exact ⟨rfl, rfl⟩
end Go.Proofs.Ytlalehoncclnaaa.Latch
