/- leave, Cancel, Gone, Of. -/
import Derived.Test.YthkgmfgchgoafaaKeyAsk2
import Derived.Test.YthkgmfgchgoafaaKeyCat
namespace Go.Proofs.Ythkgmfgchgoafaa.Key
set_option maxRecDepth 100000
open Go.RowKit
open Go.Proofs.Ythkgmfgchgoafaa.Mem
open Go.Maps
/-- a row of numbers that stays with the others -/
theorem row_keep {w w' : World} {M : Nat → Prop} {B n : Nat} {v : Value} {xs : List Value} (h : w.ownsRow B 3 1 v n xs) (hk : Keep M w w') (hm : ∀ g, v.ownBlock = some g → M g) : w'.ownsRow B 3 1 v n xs :=
  own_same h fun g hg => hk.block g (hm g hg)
theorem row_at {w : World} {B j : Nat} {v : Value} {L : List Int} {x : Int} (h : w.ownsRow B 3 1 v L.length (L.map (Value.int .i64))) (hj : L[j]? = some x) : ∃ g cap, v = .slice (some ⟨g, 0, none⟩) L.length cap ∧ w.cell? ⟨g, j, none⟩ = some (.int .i64 x) := by
  have hlt := (List.getElem?_eq_some_iff.1 hj).1
  obtain ⟨g, cap, e, _, _, hc⟩ := own_pos h (by omega)
  exact ⟨g, cap, e, by rw [hc j (by omega)]; simp [hj]⟩
/-- slices.Sort of a row of the call's own -/
def SortRes (B : Nat) (v : Value) (L : List Int) (w : World) (e : Ending) (w' : World) : Prop := e = .returned (.tuple #[]) ∧ w'.ownsRow B 3 1 v (L.mergeSort fun x y => decide (x ≤ y)).length ((L.mergeSort fun x y => decide (x ≤ y)).map (Value.int .i64)) ∧ Below B w w'
theorem sort_any (B : Nat) (v : Value) (L : List Int) (w : World) (h : w.ownsRow B 3 1 v L.length (L.map (Value.int .i64))) (hl : L.length ≤ 100000) :
    Calls Try.prog 60 #[v] w (SortRes B v L w) := by
  rcases h.2 with ⟨rfl, h0⟩ | ⟨g, cap, cur, rfl, hbase, hb, h1, h2, h3, h4⟩
  · obtain rfl := List.eq_nil_of_length_eq_zero h0
    refine (Try.slices_Sort_int_none none 0 w).mono ?_
    rintro e w' ⟨rfl, rfl⟩
    exact ⟨rfl, by simpa using own_nil _ _ _ _, Below.refl _ _⟩
  · have hH : Go.Sort.Holds (Value.int .i64) w g 0 L.toArray := holds_of_blockI hb (by simpa using h4)
    refine (Try.slices_Sort_int g 0 cap L w hH (Array.getElem?_eq_some_iff.1 hb).1 (by omega)).mono ?_
    rintro e w' ⟨rfl, nn, os, rfl⟩
    have ho := ownsRow_sortedI (n := nn) (os := os) (ts := L.mergeSort fun x y => decide (x ≤ y)) (by simp) hbase hb h1 h2 h3
    have hg := grownBy_sortedI (w := w) (n := nn) (g := g) (os := os) (L.mergeSort fun x y => decide (x ≤ y)).toArray
    exact ⟨rfl, by simpa using ho, ⟨hg.os, hg.tape, hg.output, hg.size, fun k hk => by
      by_cases hkw : k < w.heap.size
      · exact hg.block k hkw (fun e => by injection e with e; omega)
      · have : g < w.heap.size := (Array.getElem?_eq_some_iff.1 hb).1
        omega⟩⟩
theorem waits_page {S : KS} {c x : Int} (h : x ∈ waitsP S c) : Sm x ∧ 0 ≤ x ∧ x < 1024 := by
  have := (mem_upFrom 1024 0 x).1 (List.mem_filter.1 h).1
  exact ⟨sm_of (by omega), by omega, by omega⟩
theorem held_page {S : KS} {c k x : Int} (h : x ∈ heldP S c k) : (Sm x ∧ 0 ≤ x ∧ x < 1024) ∧ S.L x c ≠ none := by
  obtain ⟨h1, h2⟩ := List.mem_filter.1 h
  have := (mem_upFrom 1024 0 x).1 h1
  exact ⟨⟨sm_of (by omega), by omega, by omega⟩, fun e => by rw [heldB_none e] at h2; cases h2⟩
def unqs (S : KS) (c : Int) (L : List Int) : KS := L.foldl (fun S p => unqK S c p) S
def unls (S : KS) (c : Int) (L : List Int) : KS := L.foldl (fun S p => setK S p c none) S
def stls (S : KS) (L : List Int) : KS := L.foldl settleK S
theorem unqs_said (c : Int) : ∀ (L : List Int) (S : KS), (unqs S c L).said = S.said
  | [], _ => rfl
  | _ :: L, S => (unqs_said c L (unqK S c _)).trans rfl
theorem unls_said (c : Int) : ∀ (L : List Int) (S : KS), (unls S c L).said = S.said
  | [], _ => rfl
  | _ :: L, S => (unls_said c L (setK S _ c none)).trans rfl
theorem unls_other {c x d : Int} : ∀ (L : List Int) (S : KS), x ∉ L → (unls S c L).L x d = S.L x d
  | [], _, _ => rfl
  | y :: L, S, h => by
    have h1 : x ≠ y := fun e => h (by rw [e]; exact List.mem_cons_self)
    have := unls_other (c := c) (x := x) (d := d) L (setK S y c none) (fun hx => h (List.mem_cons_of_mem _ hx))
    unfold unls at this ⊢
    rw [List.foldl_cons, this]
    simp [setK, h1]
theorem stls_said {S : KS} (h : S.wf) (L : List Int) : (stls S L).said.length ≤ S.said.length + 16 * L.length :=
  fold_said (k := 16) (fun _ _ h => ⟨h.settle _, settle_said h _⟩) L h
theorem fold_take {α β : Type} {f : β → α → β} {L : List α} {j : Nat} {x : α} (hj : L[j]? = some x) (b : β) : (L.take (j + 1)).foldl f b = f ((L.take j).foldl f b) x := by
  rw [List.take_add_one, hj, List.foldl_append]; rfl
set_option maxRecDepth 100000 in
set_option maxHeartbeats 4000000 in
theorem leave_any (p : Nat) (M : Nat → Prop) (S : KS) (c : Int) (o : List Int) (vo : Value) (w : World) (h : TQ w p M S) (ho : w.ownsRow 0 3 1 vo o.length (o.map (Value.int .i64))) (hoM : ∀ g, vo.ownBlock = some g → M g) (hop : ∀ x ∈ o, Sm x) (hol : o.length ≤ 2000) (hlen : S.said.length ≤ 3800000) :
    Calls Try.prog 36 #[.pointer (some ⟨p, 0, none⟩), .int .i64 c, vo] w fun e w' => e = .returned (.tuple #[]) ∧ TQ w' p M (leaveK S c o) ∧ Keep M w w' := by
  have hb := below_box w (.cells #[.int .i64 c] 3)
  have hB := Blk.new w 3 #[.int .i64 c]
  obtain ⟨G, hT⟩ := h
  have HZ0 := Lib.hid hT.topc.2.1
  have HZ1 := Lib.hid (hT.below (Below.refl _ _).drew).topc.2.1
  have HZa := Lib.hid (hT.below hb).topc.2.1
  have HZb := Lib.hid (hT.below hb.drew).topc.2.1
  have z0 := HZ0.out
  have HR : Hid (∀ W, Below w.heap.size w W → Blk W w.heap.size 3 #[.int .i64 c] → Calls Try.prog 56 #[.map (some G.qb), .func (.func 70) #[] #[.pointer (some ⟨w.heap.size, 0, none⟩)]] W (fun e w' => RiseRes (waitB S c) 0 1024 w e w' ∧ w'.cell? ⟨p, 1, none⟩ = some (.map (some G.qb)))) := Lib.hid fun W hbW hBW =>
    (rise_waits (hT.below hbW) c w.heap.size hBW).mono fun e w' hr => ⟨hr.base hbW, by obtain ⟨_, _, _, h2⟩ := hr; exact ((hT.below hbW).below h2).topc.2.1⟩
  have HRa := Lib.hid (HR.out _ hb hB)
  have HRb := Lib.hid (HR.out _ hb.drew hB)
  have HT := Lib.hid hT
  have HO := Lib.hid ho
  have HOM := Lib.hid hoM
  have HOP := Lib.hid hop
  obtain ⟨ao, ko, rfl⟩ := own_shape ho
  clear hT hb hB HR ho hoM hop
  go_enter Try.func36, Try.ntmps36
  go_wp2_with fail
  go_region_held3 (fun W' => W'.cell? ⟨p, 1, none⟩ = some (.map (some G.qb)))
    (first | (with_reducible assumption) | (with_reducible exact HZ0.out) | (with_reducible exact HZ1.out) | (with_reducible exact HZa.out) | (with_reducible exact HZb.out)) (first
    | (go_at_call 57; refine (waitedBy_any c _).mono ?_; rintro e w2 ⟨rfl, rfl⟩)
    | (go_at_call 56; (first | (with_reducible refine HRa.out.mono ?_) | (with_reducible refine HRb.out.mono ?_)); rintro e w3 ⟨⟨v, rfl, ho3, hb3⟩, hz4⟩; have HO3 := Lib.hid ho3; have HB3 := Lib.hid hb3; obtain ⟨av, cv, rfl⟩ := own_shape ho3; clear ho3 hb3))
  all_goals
    obtain ⟨WL, hWL⟩ : ∃ WL, (upFrom 0 1024).filter (waitB S c) = WL := ⟨_, rfl⟩
    rw [hWL] at HO3 ⊢
    have hWP : waitsP S c = WL := hWL
    have HWP := Lib.hid hWP
    have HWX : Hid (∀ x ∈ WL, Sm x ∧ 0 ≤ x ∧ x < 1024) := Lib.hid fun x hx => waits_page (c := c) (S := S) (by rw [hWP]; exact hx)
    have hWl : WL.length ≤ 1024 := by rw [← hWP]; exact pages_len _
    have HQ3 : Hid (TQ w3 p (fun k => M k ∨ (w.heap.size ≤ k ∧ k < w3.heap.size)) (unqs S c (WL.take 0)) ∧ Keep (fun k => M k ∨ (w.heap.size ≤ k ∧ k < w3.heap.size)) w3 w3) := Lib.hid ⟨(show TQ w p M S from ⟨G, HT.out⟩).belowM HB3.out, Keep.refl _ _⟩
    have HWM : Hid (∀ g, (Value.slice av WL.length cv).ownBlock = some g → M g ∨ (w.heap.size ≤ g ∧ g < w3.heap.size)) := Lib.hid fun g hg => .inr ⟨own_ge2 HO3.out g hg, own_lt HO3.out hg⟩
    clear HZ0 HZ1 HZa HZb z0 HRa HRb hz4 hWL hWP
    go_wp2_with fail
    go_loopw [21] (fun i wr => ∃ j : Nat, j ≤ WL.length ∧ i = .int .i64 (j : Int) ∧ Hid (TQ wr p (fun k => M k ∨ (w.heap.size ≤ k ∧ k < w3.heap.size)) (unqs S c (WL.take j)) ∧ Keep (fun k => M k ∨ (w.heap.size ≤ k ∧ k < w3.heap.size)) w3 wr)) (fun i _ => WL.length - (intOf i).toNat)
    case atStart => exact ⟨0, Nat.zero_le _, rfl, HQ3⟩
    case round =>
      obtain ⟨j, hj, rfl, HK⟩ := hrel
      clear HQ3
      by_cases hlt : j < WL.length
      · have hx : WL[j]? = some WL[j] := List.getElem?_eq_getElem hlt
        have hxp := HWX.out WL[j] (List.getElem_mem hlt)
        generalize WL[j] = x at hx hxp
        obtain ⟨g, cap, e1, c0⟩ := row_at (row_keep HO3.out HK.out.2 HWM.out) hx
        injection e1 with e1 _ e3
        subst e1; subst e3
        have HUN := Lib.hid (unqueue_any p _ _ c x wr HK.out.1 hxp)
        have HST := Lib.hid (fold_take (f := fun S p => unqK S c p) hx S)
        clear hx hxp
        go_wp2_with fail
        refine HUN.out.mono ?_
        rintro e w4 ⟨rfl, h4, k4⟩
        have HK4 : Hid (TQ w4 p (fun k => M k ∨ (w.heap.size ≤ k ∧ k < w3.heap.size)) (unqs S c (WL.take (j + 1))) ∧ Keep (fun k => M k ∨ (w.heap.size ≤ k ∧ k < w3.heap.size)) w3 w4) := Lib.hid ⟨by unfold unqs; rw [HST.out]; exact h4, HK.out.2.trans k4⟩
        clear h4 k4 HUN HST HK c0
        go_wp2
        go_roundw
        case rel => exact ⟨j + 1, by omega, by go_num, HK4⟩
        case measure => simp [intOf]; omega
      · obtain rfl : j = WL.length := by omega
        have hQ := HK.out
        rw [List.take_of_length_le (Nat.le_refl _)] at hQ
        have HQ := Lib.hid hQ
        have HOW := Lib.hid (own_base (row_keep HO3.out hQ.2 HWM.out) (Nat.zero_le _))
        have HOO := Lib.hid (row_keep HO.out ((Keep.of_below HB3.out HT.out.ml).trans (hQ.2.mono fun k hk => .inl hk)) HOM.out)
        have hb4 := below_box wr (.cells #[.slice av WL.length cv, .slice ao o.length ko] 55)
        have HC := Lib.hid (concat_any wr.heap.size WL o _ _ _ (Blk.new wr 55 #[.slice av WL.length cv, .slice ao o.length ko]) (own_below HOW.out hb4) (own_below HOO.out hb4) (by omega) hol)
        have HB4 := Lib.hid hb4
        obtain ⟨n, hn⟩ : ∃ n, (WL ++ o).length = n := ⟨_, rfl⟩
        have hcl : n ≤ 3024 := by rw [← hn, List.length_append]; omega
        have HN := Lib.hid hn
        obtain ⟨PL, hPL⟩ : ∃ PL, (WL ++ o).mergeSort (fun x y => decide (x ≤ y)) = PL := ⟨_, rfl⟩
        have hpl : PL.length = n := by rw [← hPL, ← hn]; simp
        have HPL := Lib.hid hPL
        have HNP := Lib.hid hpl
        have HPX : Hid (∀ x ∈ PL, Sm x) := Lib.hid fun x hx => by
          rw [← hPL] at hx
          rcases List.mem_append.1 ((List.mergeSort_perm _ _).mem_iff.1 hx) with h | h
          · exact (HWX.out x h).1
          · exact HOP.out x h
        have HLV : Hid (stls (unqs S c WL) PL = leaveK S c o) := Lib.hid (by rw [← hPL]; unfold leaveK; rw [HWP.out]; rfl)
        clear hQ HK HO HO3 HOW HOO hb4 hlt hj hn hPL hpl
        go_wp2_with fail
        refine HC.out.mono ?_
        rintro e w5 ⟨v5, rfl, ho5, hb5⟩
        have HB5 := Lib.hid (HB4.out.trans (hb5.mono HB4.out.size))
        have HSO := Lib.hid (sort_any wr.heap.size _ (WL ++ o) w5 (own_base ho5 HB4.out.size) (by rw [HN.out]; omega))
        rw [HN.out] at ho5
        obtain ⟨a5, c5, rfl⟩ := own_shape ho5
        clear ho5 hb5 HC HB4
        go_wp2_with fail
        refine HSO.out.mono ?_
        rintro e w6 ⟨rfl, ho6, hb6⟩
        rw [HPL.out] at ho6
        have HB6 := Lib.hid (HB5.out.trans (hb6.mono (Nat.le_refl _)))
        have HO6 := Lib.hid ho6
        clear ho6 hb6 HSO HB5
        obtain ⟨BZ, hBZ⟩ : ∃ BZ, BZ = wr.heap.size := ⟨_, rfl⟩
        have HPM : Hid (∀ g, (Value.slice a5 n c5).ownBlock = some g → (M g ∨ (w.heap.size ≤ g ∧ g < w3.heap.size)) ∨ (BZ ≤ g ∧ g < w6.heap.size)) := Lib.hid fun g hg => .inr ⟨by rw [hBZ]; exact own_ge2 HO6.out g hg, own_lt HO6.out hg⟩
        have HQ6 : Hid (TQ w6 p (fun k => (M k ∨ (w.heap.size ≤ k ∧ k < w3.heap.size)) ∨ (BZ ≤ k ∧ k < w6.heap.size)) (stls (unqs S c WL) (PL.take 0)) ∧ Keep (fun k => (M k ∨ (w.heap.size ≤ k ∧ k < w3.heap.size)) ∨ (BZ ≤ k ∧ k < w6.heap.size)) w6 w6) := Lib.hid ⟨by rw [hBZ]; exact HQ.out.1.belowM HB6.out, Keep.refl _ _⟩
        have HKM : Hid (Keep M w w6) := Lib.hid ((Keep.of_below HB3.out HT.out.ml).trans ((HQ.out.2.mono fun k hk => .inl hk).trans (Keep.of_below HB6.out fun k hk => HQ.out.1.lt k (.inl hk))))
        have HWF := Lib.hid HQ.out.1.wf
        have HSD : Hid ((unqs S c WL).said = S.said) := Lib.hid (unqs_said c WL S)
        clear HQ HB6 hBZ
        go_wp2_with fail
        go_loopw [38] (fun i wq => ∃ j : Nat, j ≤ n ∧ i = .int .i64 (j : Int) ∧ Hid (TQ wq p (fun k => (M k ∨ (w.heap.size ≤ k ∧ k < w3.heap.size)) ∨ (BZ ≤ k ∧ k < w6.heap.size)) (stls (unqs S c WL) (PL.take j)) ∧ Keep (fun k => (M k ∨ (w.heap.size ≤ k ∧ k < w3.heap.size)) ∨ (BZ ≤ k ∧ k < w6.heap.size)) w6 wq)) (fun i _ => n - (intOf i).toNat)
        case atStart => exact ⟨0, Nat.zero_le _, rfl, HQ6⟩
        case round =>
          obtain ⟨j, hj, rfl, HK⟩ := hrel
          clear HQ6
          by_cases hlt : j < n
          · have hjl : j < PL.length := by rw [HNP.out]; exact hlt
            have hx : PL[j]? = some PL[j] := List.getElem?_eq_getElem hjl
            have hxp := HPX.out PL[j] (List.getElem_mem hjl)
            generalize PL[j] = x at hx hxp
            obtain ⟨g, cap, e1, c0⟩ := row_at (row_keep HO6.out HK.out.2 HPM.out) hx
            injection e1 with e1 e2 e3
            clear e2
            subst e1; subst e3
            have hsl := stls_said HWF.out (PL.take j)
            rw [HSD.out, List.length_take] at hsl
            have HSE := Lib.hid (settle_any p _ _ x _ HK.out.1 hxp (by omega))
            have HST := Lib.hid (fold_take (f := settleK) hx (unqs S c WL))
            clear hx hxp hsl hjl
            go_wp2_with fail
            refine HSE.out.mono ?_
            rintro e w7 ⟨rfl, h7, k7⟩
            have HK7 : Hid (TQ w7 p (fun k => (M k ∨ (w.heap.size ≤ k ∧ k < w3.heap.size)) ∨ (BZ ≤ k ∧ k < w6.heap.size)) (stls (unqs S c WL) (PL.take (j + 1))) ∧ Keep (fun k => (M k ∨ (w.heap.size ≤ k ∧ k < w3.heap.size)) ∨ (BZ ≤ k ∧ k < w6.heap.size)) w6 w7) := Lib.hid ⟨by unfold stls; rw [HST.out]; exact h7, HK.out.2.trans k7⟩
            clear h7 k7 HSE HST HK c0
            go_wp2
            go_roundw
            case rel => exact ⟨j + 1, by omega, by go_num, HK7⟩
            case measure => simp [intOf]; omega
          · obtain rfl : j = n := by omega
            have hQ := HK.out
            rw [List.take_of_length_le (by rw [HNP.out]; exact Nat.le_refl _), HLV.out] at hQ
            have FIN := Lib.hid (show TQ _ p M (leaveK S c o) ∧ Keep M w _ from ⟨hQ.1.mono fun k hk => .inl (.inl hk), HKM.out.trans (hQ.2.mono fun k hk => .inl (.inl hk))⟩)
            clear hQ HK
            go_wp2
            refine bodyPost_end (v := .tuple #[]) (by simp [results, Try.results36, go_sem]) rfl ?_
            exact ⟨rfl, FIN.out⟩
set_option maxRecDepth 100000 in
set_option maxHeartbeats 1000000 in
theorem cancel_any (p : Nat) (M : Nat → Prop) (S : KS) (c : Int) (w : World) (h : TQ w p M S) (hlen : S.said.length ≤ 3800000) :
    Calls Try.prog 20 #[.pointer (some ⟨p, 0, none⟩), .int .i64 c] w fun e w' => e = .returned (.tuple #[]) ∧ TQ w' p M (leaveK S c []) ∧ Keep M w w' := by
  have q1 : (binOp .neq 42 (.pointer (some ⟨p, 0, none⟩)) (.pointer none)).run Try.prog w = .ok (.bool true) w := by kernel_rfl
  have HL := Lib.hid (leave_any p M S c [] (.slice none 0 0) w h (own_nil _ _ _ _) (fun g hg => by simp [Value.ownBlock] at hg) (fun x hx => by cases hx) (by simp) hlen)
  clear h
  go_enter Try.func20, Try.ntmps20
  go_wp2_with fail
  refine HL.out.mono ?_
  rintro e w2 ⟨rfl, h2, k2⟩
  have FIN := Lib.hid (show TQ w2 p M (leaveK S c []) ∧ Keep M w w2 from ⟨h2, k2⟩)
  clear h2 k2 HL
  go_wp2
  refine bodyPost_end (v := .tuple #[]) (by simp [results, Try.results20, go_sem]) rfl ?_
  exact ⟨rfl, FIN.out⟩
theorem cancel_nil (c : Int) (w : World) : Calls Try.prog 20 #[.pointer none, .int .i64 c] w fun e w' => e = .returned (.tuple #[]) ∧ w = w' := by
  have hn : (binOp .neq 42 (.pointer none) (.pointer none)).run Try.prog w = .ok (.bool false) w := by kernel_rfl
  go_enter Try.func20, Try.ntmps20
  go_wp2
  refine bodyPost_end (v := .tuple #[]) (by simp [results, Try.results20, go_sem]) rfl ?_
  exact ⟨rfl, rfl⟩
theorem gone_nil (c : Int) (w : World) : Calls Try.prog 21 #[.pointer none, .int .i64 c] w fun e w' => e = .returned (.tuple #[]) ∧ w = w' := by
  have hn := run_nilt w
  go_enter Try.func21, Try.ntmps21
  go_wp2
  refine bodyPost_ret (v := .tuple #[]) (by simp [results, Try.results21, go_sem]) rfl ?_
  exact ⟨rfl, rfl⟩
theorem of_nil (c : Int) (w : World) : Calls Try.prog 25 #[.pointer none, .int .i64 c] w fun e w' => e = .returned (.slice none 0 0) ∧ w = w' := by
  have hn := run_nilt w
  go_enter Try.func25, Try.ntmps25
  go_wp2
  go_ret
  exact ⟨rfl, rfl⟩
end Go.Proofs.Ythkgmfgchgoafaa.Key
