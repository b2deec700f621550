/- Gone, Of. -/
import Derived.Test.YthkgmfgchgoafaaKeyLeave
namespace Go.Proofs.Ythkgmfgchgoafaa.Key
set_option maxRecDepth 100000
open Go.RowKit
open Go.Proofs.Ythkgmfgchgoafaa.Mem
open Go.Maps
set_option maxRecDepth 100000 in
set_option maxHeartbeats 2000000 in
theorem of_any' (p : Nat) (M : Nat → Prop) (S : KS) (c : Int) (w : World) (h : TQ w p M S) (hc : Sm c) :
    Calls Try.prog 25 #[.pointer (some ⟨p, 0, none⟩), .int .i64 c] w (RiseRes (heldB S c 2) 0 1024 w) := by
  have hb := ((Below.refl w.heap.size w).alloc (Nat.le_refl _) (.cells #[.int .i64 c] 3)).alloc (by simp) (.cells #[.int .i64 2] 3)
  have hB1 : Blk ((w.alloc (.cells #[.int .i64 c] 3)).alloc (.cells #[.int .i64 2] 3)) w.heap.size 3 #[.int .i64 c] := (Blk.new w 3 #[.int .i64 c]).alloc _
  have hB2 : Blk ((w.alloc (.cells #[.int .i64 c] 3)).alloc (.cells #[.int .i64 2] 3)) (w.heap.size + 1) 3 #[.int .i64 2] := by
    have := Blk.new (w.alloc (.cells #[.int .i64 c] 3)) 3 #[.int .i64 2]
    simpa using this
  obtain ⟨G, hT⟩ := h
  have HZ0 := Lib.hid hT.topc.1
  have HZ1 := Lib.hid (hT.below (Below.refl _ _).drew).topc.1
  have HZa := Lib.hid (hT.below hb).topc.1
  have HZb := Lib.hid (hT.below hb.drew).topc.1
  have z0 := HZ0.out
  have HR : Hid (∀ W, Below w.heap.size w W → Blk W w.heap.size 3 #[.int .i64 c] → Blk W (w.heap.size + 1) 3 #[.int .i64 2] → Calls Try.prog 37 #[.map (some G.lb), .func (.func 61) #[] #[.pointer (some ⟨w.heap.size, 0, none⟩), .pointer (some ⟨w.heap.size + 1, 0, none⟩)]] W (fun e w' => RiseRes (heldB S c 2) 0 1024 w e w' ∧ w'.cell? ⟨p, 0, none⟩ = some (.map (some G.lb)))) := Lib.hid fun W hbW hBW hBW2 =>
    (rise_held (hT.below hbW) c 2 hc w.heap.size (w.heap.size + 1) hBW hBW2).mono fun e w' hr => ⟨hr.base hbW, by obtain ⟨_, _, _, h2⟩ := hr; exact ((hT.below hbW).below h2).topc.1⟩
  have HRa := Lib.hid (HR.out _ hb hB1 hB2)
  have HRb := Lib.hid (HR.out _ hb.drew hB1 hB2)
  have HT := Lib.hid hT
  have q1 := run_eqt w p
  clear hT hb hB1 hB2 HR
  go_enter Try.func25, Try.ntmps25
  go_wp2_with fail
  go_region_held3 (fun W' => W'.cell? ⟨p, 0, none⟩ = some (.map (some G.lb)))
    (first | (with_reducible assumption) | (with_reducible exact HZ0.out) | (with_reducible exact HZ1.out) | (with_reducible exact HZa.out) | (with_reducible exact HZb.out)) (first
    | (go_at_call 38; refine (heldBy_any c 2 _).mono ?_; rintro e w2 ⟨rfl, rfl⟩)
    | (go_at_call 37; (first | (with_reducible refine HRa.out.mono ?_) | (with_reducible refine HRb.out.mono ?_)); rintro e w3 ⟨⟨v, rfl, ho3, hb3⟩, hz4⟩; have HO3 := Lib.hid ho3; have HB3 := Lib.hid hb3; obtain ⟨av, cv, rfl⟩ := own_shape ho3; clear ho3 hb3))
  all_goals
    have FIN := Lib.hid (show RiseRes (heldB S c 2) 0 1024 w (.returned _) w3 from ⟨_, rfl, HO3.out, HB3.out⟩)
    clear HO3 HB3 HRa HRb HZ0 HZ1 HZa HZb
    go_wp2
    go_ret
    exact FIN.out
set_option maxRecDepth 100000 in
set_option maxHeartbeats 2000000 in
theorem gone_any (p : Nat) (M : Nat → Prop) (S : KS) (c : Int) (w : World) (h : TQ w p M S) (hc : Sm c) (hlen : S.said.length ≤ 3800000) :
    Calls Try.prog 21 #[.pointer (some ⟨p, 0, none⟩), .int .i64 c] w fun e w' => e = .returned (.tuple #[]) ∧ TQ w' p M (goneK S c) ∧ Keep M w w' := by
  have hb := ((Below.refl w.heap.size w).alloc (Nat.le_refl _) (.cells #[.int .i64 c] 3)).alloc (by simp) (.cells #[.int .i64 1] 3)
  have hB1 : Blk ((w.alloc (.cells #[.int .i64 c] 3)).alloc (.cells #[.int .i64 1] 3)) w.heap.size 3 #[.int .i64 c] := (Blk.new w 3 #[.int .i64 c]).alloc _
  have hB2 : Blk ((w.alloc (.cells #[.int .i64 c] 3)).alloc (.cells #[.int .i64 1] 3)) (w.heap.size + 1) 3 #[.int .i64 1] := by
    have := Blk.new (w.alloc (.cells #[.int .i64 c] 3)) 3 #[.int .i64 1]
    simpa using this
  obtain ⟨G, hT⟩ := h
  have HZ0 := Lib.hid hT.topc.1
  have HZ1 := Lib.hid (hT.below (Below.refl _ _).drew).topc.1
  have HZa := Lib.hid (hT.below hb).topc.1
  have HZb := Lib.hid (hT.below hb.drew).topc.1
  have z0 := HZ0.out
  have HR : Hid (∀ W, Below w.heap.size w W → Blk W w.heap.size 3 #[.int .i64 c] → Blk W (w.heap.size + 1) 3 #[.int .i64 1] → Calls Try.prog 37 #[.map (some G.lb), .func (.func 61) #[] #[.pointer (some ⟨w.heap.size, 0, none⟩), .pointer (some ⟨w.heap.size + 1, 0, none⟩)]] W (fun e w' => RiseRes (heldB S c 1) 0 1024 w e w' ∧ w'.cell? ⟨p, 0, none⟩ = some (.map (some G.lb)))) := Lib.hid fun W hbW hBW hBW2 =>
    (rise_held (hT.below hbW) c 1 hc w.heap.size (w.heap.size + 1) hBW hBW2).mono fun e w' hr => ⟨hr.base hbW, by obtain ⟨_, _, _, h2⟩ := hr; exact ((hT.below hbW).below h2).topc.1⟩
  have HRa := Lib.hid (HR.out _ hb hB1 hB2)
  have HRb := Lib.hid (HR.out _ hb.drew hB1 hB2)
  have HT := Lib.hid hT
  have q1 := run_eqt w p
  clear hT hb hB1 hB2 HR
  go_enter Try.func21, Try.ntmps21
  go_wp2_with fail
  go_region_held3 (fun W' => W'.cell? ⟨p, 0, none⟩ = some (.map (some G.lb)))
    (first | (with_reducible assumption) | (with_reducible exact HZ0.out) | (with_reducible exact HZ1.out) | (with_reducible exact HZa.out) | (with_reducible exact HZb.out)) (first
    | (go_at_call 38; refine (heldBy_any c 1 _).mono ?_; rintro e w2 ⟨rfl, rfl⟩)
    | (go_at_call 37; (first | (with_reducible refine HRa.out.mono ?_) | (with_reducible refine HRb.out.mono ?_)); rintro e w3 ⟨⟨v, rfl, ho3, hb3⟩, hz4⟩; have HO3 := Lib.hid ho3; have HB3 := Lib.hid hb3; obtain ⟨av, cv, rfl⟩ := own_shape ho3; clear ho3 hb3))
  all_goals
    obtain ⟨WL, hWL⟩ : ∃ WL, (upFrom 0 1024).filter (heldB S c 1) = WL := ⟨_, rfl⟩
    rw [hWL] at HO3 ⊢
    have hWP : heldP S c 1 = WL := hWL
    have HWP := Lib.hid hWP
    have HWX : Hid (∀ x ∈ WL, (Sm x ∧ 0 ≤ x ∧ x < 1024) ∧ S.L x c ≠ none) := Lib.hid fun x hx => held_page (c := c) (k := 1) (S := S) (by rw [hWP]; exact hx)
    have HWN : Hid WL.Nodup := Lib.hid (by rw [← hWL]; exact (up_nodup _ _).sublist List.filter_sublist)
    have hWl : WL.length ≤ 1024 := by rw [← hWP]; exact pages_len _
    have HQ3 : Hid (TQ w3 p (fun k => M k ∨ (w.heap.size ≤ k ∧ k < w3.heap.size)) (unls S c (WL.take 0)) ∧ Keep (fun k => M k ∨ (w.heap.size ≤ k ∧ k < w3.heap.size)) w3 w3) := Lib.hid ⟨(show TQ w p M S from ⟨G, HT.out⟩).belowM HB3.out, Keep.refl _ _⟩
    have HWM : Hid (∀ g, (Value.slice av WL.length cv).ownBlock = some g → M g ∨ (w.heap.size ≤ g ∧ g < w3.heap.size)) := Lib.hid fun g hg => .inr ⟨own_ge2 HO3.out g hg, own_lt HO3.out hg⟩
    clear HZ0 HZ1 HZa HZb z0 HRa HRb hz4 hWL hWP
    go_wp2_with fail
    go_loopw [18] (fun i wr => ∃ j : Nat, j ≤ WL.length ∧ i = .int .i64 (j : Int) ∧ Hid (TQ wr p (fun k => M k ∨ (w.heap.size ≤ k ∧ k < w3.heap.size)) (unls S c (WL.take j)) ∧ Keep (fun k => M k ∨ (w.heap.size ≤ k ∧ k < w3.heap.size)) w3 wr)) (fun i _ => WL.length - (intOf i).toNat)
    case atStart => exact ⟨0, Nat.zero_le _, rfl, HQ3⟩
    case round =>
      obtain ⟨j, hj, rfl, HK⟩ := hrel
      clear HQ3
      by_cases hlt : j < WL.length
      · have hx : WL[j]? = some WL[j] := List.getElem?_eq_getElem hlt
        have hxp := HWX.out WL[j] (List.getElem_mem hlt)
        have hnin : WL[j] ∉ WL.take j := fun hm => by
          obtain ⟨i, hi, e⟩ := List.mem_iff_getElem.1 hm
          rw [List.length_take] at hi
          rw [List.getElem_take] at e
          exact List.pairwise_iff_getElem.1 HWN.out i j (by omega) hlt (by omega) e
        generalize WL[j] = x at hx hxp hnin
        obtain ⟨g, cap, e1, c0⟩ := row_at (row_keep HO3.out HK.out.2 HWM.out) hx
        injection e1 with e1 e2 e3
        clear e2
        subst e1; subst e3
        have HUN := Lib.hid (unlock_any p _ _ c x wr HK.out.1 hxp.1.1 hc (by rw [unls_other _ _ hnin]; exact hxp.2))
        have HST := Lib.hid (fold_take (f := fun S p => setK S p c none) hx S)
        clear hx hxp hnin
        go_wp2_with fail
        refine HUN.out.mono ?_
        rintro e w4 ⟨rfl, h4, k4⟩
        have HK4 : Hid (TQ w4 p (fun k => M k ∨ (w.heap.size ≤ k ∧ k < w3.heap.size)) (unls S c (WL.take (j + 1))) ∧ Keep (fun k => M k ∨ (w.heap.size ≤ k ∧ k < w3.heap.size)) w3 w4) := Lib.hid ⟨by unfold unls; rw [HST.out]; exact h4, HK.out.2.trans k4⟩
        clear h4 k4 HUN HST HK c0
        go_wp2
        go_roundw
        case rel => exact ⟨j + 1, by omega, by go_num, HK4⟩
        case measure => simp [intOf]; omega
      · obtain rfl : j = WL.length := by omega
        have hQ := HK.out
        rw [List.take_of_length_le (Nat.le_refl _)] at hQ
        have HKM : Hid (Keep M w wr) := Lib.hid ((Keep.of_below HB3.out HT.out.ml).trans (hQ.2.mono fun k hk => .inl hk))
        have HL := Lib.hid (leave_any p _ _ c WL _ wr hQ.1 (own_base (row_keep HO3.out hQ.2 HWM.out) (Nat.zero_le _)) HWM.out (fun x hx => (HWX.out x hx).1.1) (by omega) (by rw [unls_said]; exact hlen))
        have HG : Hid (leaveK (unls S c WL) c WL = goneK S c) := Lib.hid (by unfold goneK; rw [HWP.out]; rfl)
        clear hQ HK
        go_wp2_with fail
        refine HL.out.mono ?_
        rintro e w5 ⟨rfl, h5, k5⟩
        have FIN := Lib.hid (show TQ w5 p M (goneK S c) ∧ Keep M w w5 by rw [← HG.out]; exact ⟨h5.mono fun k hk => .inl hk, HKM.out.trans (k5.mono fun k hk => .inl hk)⟩)
        clear h5 k5 HL HKM
        go_wp2
        refine bodyPost_end (v := .tuple #[]) (by simp [results, Try.results21, go_sem]) rfl ?_
        exact ⟨rfl, FIN.out⟩
end Go.Proofs.Ythkgmfgchgoafaa.Key
