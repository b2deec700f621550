/- rising over a map, its predicate a closure. -/
import Derived.Test.YthodggkpkjfggaaKeyMem
import Derived.Test.YthodggkpkjfggaaKeyRise0
import Derived.Sort.OwnSortedInts
import Derived.Test.YthodggkpkjfggaaShelf
namespace Go.Proofs.Ythodggkpkjfggaa.Key
set_option maxRecDepth 100000
open Go.RowKit
open Go.Proofs.Ythodggkpkjfggaa.Mem
open Go.Maps
set_option maxRecDepth 100000 in
set_option maxHeartbeats 4000000 in
theorem riseB_any (b : Nat) (lo : Int) (n : Nat) (f : Int → Option Value) (pr : Int → Bool) (C1 : Nat) (w : World) (h : MapV w b lo n f) (hn : n ≤ 1024) (hpr : ∀ x, pr x = true → f x ≠ none)
    (hp : ∀ W x v, Below w.heap.size w W → f x = some v → Calls Try.prog 56 #[.int .i64 x, v, .pointer (some ⟨C1, 0, none⟩)] W fun e W' => e = .returned (.bool (pr x)) ∧ Below W.heap.size W W') :
    Calls Try.prog 46 #[.map (some b), .func (.func 56) #[] #[.pointer (some ⟨C1, 0, none⟩)]] w (RiseRes pr lo n w) := by
  obtain ⟨i0, hi, hz0, hz1, hz2⟩ := info_parts info_int
  have hbl := h.lt
  have HF := Lib.hid h
  obtain ⟨D, hown, hD, hdom⟩ := h
  have HD := Lib.hid hD
  have HP := Lib.hid hp
  have HQ := Lib.hid hpr
  have HM := Lib.hid hdom
  clear hD hp hpr hdom
  go_enter Try.func46, Try.ntmps46
  go_wp2_with (first
    | (at_range; refine wpList_range_own _ rfl _ 73 rfl 3 70 law Try.underlying73 RV b n D rfl hown ?_; intro w0 hrg0 hg0 hs0)
    | fail)
  go_frame
  have HS0 := Lib.hid hs0
  clear hs0
  go_loopw [5] (fun v wr => ∃ (left : Lit → Bool) (cnt : Nat) (ss : List Int), wr.ranges Try.prog 3 RV b w.heap.size n D left cnt ∧ wr.ownsRow w.heap.size 3 1 v ss.length (ss.map (Value.int .i64)) ∧
      Hid (Below w.heap.size w wr) ∧ Hid (Coll f pr left ss ∧ ss.length + cnt ≤ n))
    (fun _ wr => wr.rangeLeft b w.heap.size)
  case atStart =>
    refine ⟨_, _, [], hrg0, own_nil _ _ _ _, Lib.hid ((Below.refl _ _).grown hg0 (Nat.le_refl _) (fun j hj => by cases hj)), Lib.hid ⟨⟨List.nodup_nil, fun x => ?_⟩, ?_⟩⟩
    · constructor
      · intro hx; cases hx
      · rintro ⟨h1, h2, h3⟩
        have hs := (HM.out x h1).1
        have := (HD.out x hs).1
        rw [h3] at this
        cases hf : f x with
        | none => exact absurd hf h1
        | some v => rw [hf] at this; cases this
    · have := hown.size_le; simpa using this
  case round =>
    obtain ⟨left, cnt, ss, hrg, hrow, HB, HC⟩ := hrel
    clear hrg0 hg0 HS0
    go_wp2_with (first
      | (at_next; refine wpList_next_ranges _ rfl _ rfl 3 law RV (Value.int .i64) id (fun key kl hkey => by obtain ⟨x, rfl, _⟩ := Maps.keyOf_int_inv Try.underlying3 hkey; exact ⟨x, rfl⟩) (fun v y _ => ⟨v, rfl⟩) b w.heap.size n _ _ _ rfl hrg ?_ ?_)
      | fail)
    · -- nothing is left
      intro hc0 hl0
      have hall : ∀ x, x ∈ ss ↔ (lo ≤ x ∧ x < lo + n) ∧ pr x = true := fun x => by
        rw [HC.out.1.2 x]
        constructor
        · rintro ⟨h1, h2, _⟩; exact ⟨(HM.out x h1).2, h2⟩
        · rintro ⟨_, h2⟩; exact ⟨HQ.out x h2, h2, hl0 _⟩
      have hms := merge_up HC.out.1.1 hall
      have hlen : ss.length ≤ 1024 := by have := HC.out.2; omega
      rcases hrow.2 with ⟨rfl, h0⟩ | ⟨g, cap, cur, rfl, hbase, hb, h1, h2, h3, h4⟩
      · obtain rfl := List.eq_nil_of_length_eq_zero h0
        have he : (upFrom lo n).filter pr = [] := by rw [← hms]; simp
        have FIN : Hid (RiseRes pr lo n w (.returned (.slice none 0 0)) wr) := Lib.hid ⟨_, rfl, by rw [he]; exact own_nil _ _ _ _, HB.out⟩
        have HSN := Lib.hid (Try.slices_Sort_int_none none 0 wr)
        clear hrg hrow hall hms hlen HC HB he
        go_wp2_with fail
        refine HSN.out.mono ?_
        rintro e w' ⟨rfl, rfl⟩
        go_wp2
        go_ret
        exact FIN.out
      · have hH : Go.Sort.Holds (Value.int .i64) wr g 0 ss.toArray := holds_of_blockI hb (by simpa using h4)
        have hgl : g < wr.heap.size := (Array.getElem?_eq_some_iff.1 hb).1
        have HSS := Lib.hid (Try.slices_Sort_int g 0 cap ss wr hH hgl (by omega))
        have FIN : Hid (∀ nn os, RiseRes pr lo n w (.returned (.slice (some ⟨g, 0, none⟩) ss.length cap)) (Go.Sort.grow (Go.Sort.putRow (Value.int .i64) (Go.Sort.ahead wr nn) g 0 (ss.mergeSort fun x y => decide (x ≤ y)).toArray) os)) := Lib.hid fun nn os => by
          have ho := ownsRow_sortedI (n := nn) (os := os) (ts := ss.mergeSort fun x y => decide (x ≤ y)) (by simp) hbase hb h1 h2 h3
          refine ⟨_, rfl, ?_, HB.out.grown (grownBy_sortedI _) HB.out.size (fun j hj => by cases hj; exact hbase)⟩
          rw [← hms]
          simpa using ho
        clear hrg hrow hall hms hlen HC HB hb h1 h2 h3 h4 hH hgl hbase
        go_wp2_with fail
        refine HSS.out.mono ?_
        rintro e w' ⟨rfl, nn, os, rfl⟩
        have FIN2 := Lib.hid (FIN.out nn os)
        clear FIN HSS
        generalize Go.Sort.grow (Go.Sort.putRow (Value.int .i64) (Go.Sort.ahead wr nn) g 0 (ss.mergeSort fun x y => decide (x ≤ y)).toArray) os = W9 at FIN2 ⊢
        go_wp2
        go_ret
        exact FIN2.out
    · -- an entry has come
      intro x c kl yd yp w2 cnt2 hkey hlk hv hat hrg2 hlt hg2 hs2 hen
      obtain ⟨x', ex, rfl, hwx⟩ := Maps.keyOf_int_inv Try.underlying3 hkey
      cases ex
      have hfx : f x = some c := by
        have h1 := HD.out x hwx
        have h2 : has D (.int .i64 x) = true := has_true_of_atKey hat
        rw [h2] at h1
        cases hf : f x with
        | none => rw [hf] at h1; cases h1.1
        | some u =>
          have := h1.2 u hf .nil
          rw [hat] at this
          unfold RV at hv
          injection hv with hv
          injection hv with hv _
          rw [← hv] at this
          injection this with this
          rw [this]
      have HB2 := Lib.hid (HB.out.grown hg2 HB.out.size (fun j hj => by cases hj; exact Nat.le_refl _))
      have hrow2 := hrow.kept hg2 (Or.inr (row_ne_iter hrow hrg).symm)
      have HCL := Lib.hid (HP.out w2 x c HB2.out hfx)
      have hnx : x ∉ ss := fun hx => by have := ((HC.out.1.2 x).1 hx).2.2; rw [hlk] at this; cases this
      have hstep : ∀ y, (left (Lit.int .i64 y) && !(Lit.int .i64 y).sameKey (Lit.int .i64 x)) = false ↔ (left (Lit.int .i64 y) = false ∨ y = x) := fun y => by
        by_cases e : y = x
        · subst e; simp [Lit.sameKey]
        · have : (Lit.int .i64 y).sameKey (Lit.int .i64 x) = false := by simp [Lit.sameKey, e]
          rw [this]; simp [e]
      have HST := Lib.hid hstep
      have HNX := Lib.hid hnx
      have HFX := Lib.hid hfx
      have HLT := Lib.hid hlt
      have HMEAS := Lib.hid hrg.left_eq
      clear hs2 hkey hlk hv hat hg2 hstep hnx hfx hrow HB hlt hrg
      go_wp2_with fail
      refine HCL.out.mono ?_
      rintro e w3 ⟨rfl, b3⟩
      have HB3 := Lib.hid (HB2.out.trans (b3.mono HB2.out.size))
      have hrg3 := hrg2.kept (row := none) ⟨b3.os, b3.tape, b3.output, b3.size, fun k hk _ => b3.block k hk⟩ (by simp) (by simp)
      have hrow3 := own_below hrow2 b3
      clear hrg2 hrow2 b3 HB2 HCL hen
      cases hpx : pr x with
      | false =>
        have HC2 : Hid (Coll f pr (fun z => left z && !z.sameKey (.int .i64 x)) ss ∧ ss.length + cnt2 ≤ n) := Lib.hid ⟨⟨HC.out.1.1, fun y => by
          rw [HC.out.1.2 y]
          constructor
          · rintro ⟨h1, h2, h3⟩; exact ⟨h1, h2, (HST.out y).2 (.inl h3)⟩
          · rintro ⟨h1, h2, h3⟩
            rcases (HST.out y).1 h3 with h3 | rfl
            · exact ⟨h1, h2, h3⟩
            · rw [hpx] at h2; cases h2⟩, by have := HC.out.2; have := HLT.out; omega⟩
        clear hpx HC
        go_wp2
        go_roundw
        case rel => exact ⟨_, cnt2, ss, hrg3, hrow3, HB3, HC2⟩
        case measure => rw [hrg3.left_eq, HMEAS.out]; exact HLT.out
      | true =>
        have HC2 : Hid (Coll f pr (fun z => left z && !z.sameKey (.int .i64 x)) (ss ++ [x]) ∧ (ss ++ [x]).length + cnt2 ≤ n) := Lib.hid ⟨⟨by
          rw [List.nodup_append]
          exact ⟨HC.out.1.1, by simp, fun a ha b hb e => by simp at hb; exact HNX.out (by rw [← hb, ← e]; exact ha)⟩, fun y => by
          rw [List.mem_append, HC.out.1.2 y]
          constructor
          · rintro (⟨h1, h2, h3⟩ | h1)
            · exact ⟨h1, h2, (HST.out y).2 (.inl h3)⟩
            · simp at h1; rw [h1]; exact ⟨by rw [HFX.out]; simp, hpx, (HST.out x).2 (.inr rfl)⟩
          · rintro ⟨h1, h2, h3⟩
            rcases (HST.out y).1 h3 with h3 | rfl
            · exact .inl ⟨h1, h2, h3⟩
            · exact .inr (by simp)⟩, by have := HC.out.2; have := HLT.out; simp; omega⟩
        have hlen : ss.length ≤ 1024 := by have := HC.out.2; omega
        have hbs := HB3.out.size
        clear hpx HC
        go_wp2_with (first
          | (at_builtin; refine wpList_append_own _ rfl _ _ 26 rfl w.heap.size 3 i0 (.int .i64 0) 1 8 Try.underlying26 hi hz0 hz1 hz2 rfl (by decide) _ _ _ rfl (hrow3.alloc _) ⟨w3.heap.size, 0, none⟩ 1 1 [.int .i64 x] rfl rfl (cell_one_new _ _ _) (by simp [Value.oneCell']) (by unfold maxLen; omega) (by omega) (by simp; omega) ?_; intro v' w4 hown4 hg4 hnil4; go_frame)
          | fail)
        have hrg4 := (hrg3.alloc _).kept hg4 (row_ne_low hrow3 hbl) (row_ne_iter hrow3 hrg3)
        go_roundw
        case rel =>
          refine ⟨_, cnt2, ss ++ [x], hrg4, by simpa using hown4, Lib.hid ?_, HC2⟩
          exact ((HB3.out.alloc HB3.out.size _)).grown hg4 (by have := HB3.out.size; simp; omega) (fun j hj => (hrow3.lt j hj).1)
        case measure => rw [hrg4.left_eq, HMEAS.out]; exact HLT.out
set_option maxRecDepth 100000 in
set_option maxHeartbeats 4000000 in
theorem riseB_nil (lo : Int) (n : Nat) (fv : Value) (w : World) (hf : ∃ a b c, fv = .func a b c) :
    Calls Try.prog 46 #[.map none, fv] w (RiseRes (fun _ => false) lo n w) := by
  obtain ⟨a, b, c, rfl⟩ := hf
  have hrg := run_range_nilMap (P := Try.prog) w 73 3 70 Try.underlying73
  have hnx : ∀ ty, (Instr.next (.pointer (some ⟨w.heap.size, 0, none⟩)) false ty).run Try.prog (w.alloc (.mapIter none 0 #[] 0)) = _ := fun ty => run_next_nilMap w ty 0 0 #[]
  have HSN := Lib.hid (Try.slices_Sort_int_none none 0 (w.alloc (.mapIter none 0 #[] 0)))
  have FIN : Hid (RiseRes (fun _ => false) lo n w (.returned (.slice none 0 0)) (w.alloc (.mapIter none 0 #[] 0))) := Lib.hid (riseRes_nil lo n ((Below.refl _ _).alloc (Nat.le_refl _) _))
  go_enter Try.func46, Try.ntmps46
  go_wp2
  refine wp_loop_rounds 1 ?_
  rw [rounds_succ]
  go_wp2_with fail
  refine HSN.out.mono ?_
  rintro e w' ⟨rfl, rfl⟩
  go_wp2
  go_ret
  exact FIN.out
end Go.Proofs.Ythodggkpkjfggaa.Key
