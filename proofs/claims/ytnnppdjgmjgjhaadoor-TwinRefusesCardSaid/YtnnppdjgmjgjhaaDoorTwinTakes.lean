/- The walks of whole and takes. -/
import Derived.Test.YtnnppdjgmjgjhaaDoorTwinCopy
namespace Go.Proofs.YtnnppdjgmjgjhaaDoor.Twin
set_option maxRecDepth 100000
open Go.RowKit Go.Sort
open Go.Proofs.YtnnppdjgmjgjhaaDoor.Mem
open Go.Proofs.YtnnppdjgmjgjhaaDoor.Plate

theorem whole_not {C : Cfg} {S : PS} {k : Nat} (h : ¬ (lookR C S k).2.2 = 0) : ∀ n, k < n → wholeR C S n = false
  | n + 1, hk => by
    rw [wholeR]
    by_cases e : k = n
    · subst e; simp [h]
    · rw [whole_not h n (by omega)]; rfl
section
variable {M : Nat → Prop} {p s lf : Nat} {C : Cfg} {S : PS}
set_option maxHeartbeats 1000000 in
theorem whole_any (w : World) (h : Sto M w s p C lf) (hp : PQ w p M S) (hc : C.small) (hq : S.q.length ≤ 1000000) (hf : Full S) :
    Calls Tryd.prog 24 #[.pointer (some ⟨s, 0, none⟩)] w fun e w' => e = .returned (.bool (wholeR C S C.pg)) ∧ Below w.heap.size w w' := by
  obtain ⟨-, -, -, c3, -⟩ := h.get
  have hpg := hc.pg
  have HSTO := Lib.hid h
  have HPQ := Lib.hid hp
  have HF := Lib.hid hf
  have HC := Lib.hid hc
  obtain ⟨pg, hpg2⟩ : ∃ pg, pg = C.pg := ⟨_, rfl⟩
  rw [← hpg2] at c3 hpg ⊢
  clear h hp hf hc hpg2
  go_enter Tryd.func24, Tryd.ntmps24
  go_wp2
  go_loopw [10] (fun i wr => ∃ k : Nat, k ≤ pg ∧ i = .int .i64 (k : Int) ∧ Hid (wholeR C S k = true) ∧ Hid (Below w.heap.size w wr)) (fun i _ => pg - (intOf i).toNat)
  case atStart => exact ⟨0, Nat.zero_le _, rfl, Lib.hid rfl, Lib.hid (Below.refl _ _)⟩
  case round =>
    obtain ⟨k, hk, rfl, HW, HB⟩ := hrel
    by_cases hlt : k < pg
    · have hL := look_any wr k (HSTO.out.below HB.out HPQ.out) (HPQ.out.below HB.out) HC.out (by omega) hq HF.out
      have hn := whole_not (C := C) (S := S) (k := k)
      have hy : (lookR C S k).2.2 = 0 → wholeR C S (k + 1) = true := fun h => by rw [wholeR, HW.out]; simp [h]
      generalize lookR C S k = R at hL hn hy
      obtain ⟨l, z, code⟩ := R
      simp only at hL hn hy
      have HL := Lib.hid hL
      have HN := Lib.hid hn
      have HY := Lib.hid hy
      clear hL hn hy
      go_wp2_with fail
      refine HL.out.mono ?_
      rintro e w1 ⟨a, m, c, rfl, hS, b1, -⟩
      have B1 := HB.out.trans (b1.mono HB.out.size)
      have B2 := Lib.hid (B1.alloc B1.size (.cells #[.int .i64 l, .slice a m c] 41))
      clear hS b1 B1
      by_cases h0 : code = 0
      · subst h0
        have HY2 := Lib.hid (HY.out rfl)
        go_wp2
        go_roundw
        case rel => exact ⟨k + 1, by omega, by go_num, HY2, B2⟩
        case measure => simp [intOf]; omega
      · have h0' : (code != 0) = true := by rw [bne_iff_ne]; exact h0
        have HN2 := Lib.hid (HN.out h0 pg hlt)
        clear h0
        go_wp2
        go_ret
        exact ⟨Slab.ret_bool' HN2.out.symm, B2.out⟩
    · obtain rfl : k = pg := by omega
      go_wp2
      go_ret
      exact ⟨Slab.ret_bool' HW.out.symm, HB.out⟩
end
theorem Leaves.take {M : Nat → Prop} {w : World} {a : Option Addr} {n : Nat} {ls : List Lf} (h : Leaves M w a n ls) {k : Nat} (hk : k ≤ n) : Leaves M w a k (ls.take k) := by
  obtain ⟨h1, h2, h3⟩ := h
  refine ⟨by rw [List.length_take]; omega, fun x hx => h2 x (List.mem_of_mem_take hx), fun hp => ?_⟩
  obtain ⟨b, off, ha, hm, hlt, hc⟩ := h3 (by omega)
  refine ⟨b, off, ha, hm, hlt, fun i hi => ?_⟩
  have e : (ls.take k).getD i lf0 = ls.getD i lf0 := by simp [List.getD, hi]
  rw [e]
  exact hc i (by omega)
theorem Leaves.below {M : Nat → Prop} {w w' : World} {a : Option Addr} {n : Nat} {ls : List Lf} (h : Leaves M w a n ls) (hb : Below w.heap.size w w') (hM : ∀ k, M k → k < w.heap.size) : Leaves M w' a n ls := h.keep (Keep.of_below hb hM)
set_option maxHeartbeats 1000000 in
theorem same_leaf (y x l : Int) (a : Option Addr) (n c g : Nat) (w : World) (h : w.cell? ⟨g, 0, none⟩ = some (.int .i64 x)) :
    Calls Tryd.prog 46 #[.agg #[.int .i64 y, .int .i64 l, .slice a n c], .pointer (some ⟨g, 0, none⟩)] w fun e w' => e = .returned (.bool (decide (y = x))) ∧ Below w.heap.size w w' := by
  have hb : Below w.heap.size w (w.alloc (.cells #[.int .i64 y, .int .i64 l, .slice a n c] 43)) := (Below.refl _ _).alloc (Nat.le_refl _) _
  have hg : g < w.heap.size := World.block_lt_of_cell? _ ⟨g, 0, none⟩ h
  have h2 := (hb.cell (p := ⟨g, 0, none⟩) hg).trans h
  clear hg
  go_enter Tryd.func46, Tryd.ntmps46
  go_wp2
  go_ret
  exact ⟨Slab.ret_bool' (by by_cases h : y = x <;> simp [h]), hb⟩
def idxL (x : Int) (ls : List Lf) : Int := if ls.any (fun y => decide (y.n = x)) then ((ls.findIdx fun y => decide (y.n = x) : Nat) : Int) else -1
theorem idxL_hit {x : Int} {ls : List Lf} {k : Nat} {y : Lf} (h : ls[k]? = some y) (h0 : (ls.take k).any (fun y => decide (y.n = x)) = false) (hp : y.n = x) : idxL x ls = (k : Int) := by
  obtain ⟨hl, rfl⟩ := List.getElem?_eq_some_iff.1 h
  have ha : ls.any (fun y => decide (y.n = x)) = true := List.any_eq_true.2 ⟨_, List.getElem_mem hl, by simpa using hp⟩
  have hf : (ls.findIdx fun y => decide (y.n = x)) = k := by
    rw [List.findIdx_eq hl]
    refine ⟨by simpa using hp, fun j hj => ?_⟩
    have := List.any_eq_false.1 h0 (ls[j]'(by omega)) (by rw [List.mem_take_iff_getElem]; exact ⟨j, by omega, rfl⟩)
    simpa using this
  unfold idxL
  rw [if_pos ha, hf]
theorem any_next {x : Int} {ls : List Lf} {k : Nat} {y : Lf} (h : ls[k]? = some y) (h0 : (ls.take k).any (fun y => decide (y.n = x)) = false) (hp : ¬ y.n = x) : (ls.take (k + 1)).any (fun y => decide (y.n = x)) = false := by
  obtain ⟨hl, rfl⟩ := List.getElem?_eq_some_iff.1 h
  rw [List.take_succ_eq_append_getElem hl, List.any_append, h0]
  simpa using hp
section
variable {M : Nat → Prop}
set_option maxHeartbeats 1000000 in
theorem index_leaf (x : Int) (g : Nat) (a : Option Addr) (n c : Nat) (ls : List Lf) (w : World) (h : Leaves M w a n ls) (hM : ∀ k, M k → k < w.heap.size) (hx : w.cell? ⟨g, 0, none⟩ = some (.int .i64 x)) (hn : n ≤ 1000000) :
    Calls Tryd.prog 62 #[.slice a n c, .func (.func 46) #[] #[.pointer (some ⟨g, 0, none⟩)]] w fun e w' => e = .returned (.int .i64 (idxL x ls)) ∧ Below w.heap.size w w' := by
  have HS := Lib.hid h
  have HM := Lib.hid hM
  have HX := Lib.hid hx
  clear h hM hx
  go_enter Tryd.func62, Tryd.ntmps62
  go_wp2
  go_loopw [5, 8] (fun _ i wr => ∃ k : Nat, k ≤ n ∧ i = .int .i64 k ∧ Hid ((ls.take k).any (fun y => decide (y.n = x)) = false) ∧ Hid (Below w.heap.size w wr)) (fun _ i _ => n - (intOf i).toNat)
  case atStart => exact ⟨0, Nat.zero_le _, rfl, Lib.hid rfl, Lib.hid (Below.refl _ _)⟩
  case round =>
    obtain ⟨k, hk, rfl, h0, HB⟩ := hrel
    by_cases hlt : k < n
    · obtain ⟨b, off, a', n', c', y, rfl, hMb, hb1, hg, -, c1, c2, c3, -⟩ := (HS.out.below HB.out HM.out).at_ hlt
      have HG := Lib.hid hg
      clear hg hMb
      have hcall := fun W (hW : Below wr.heap.size wr W) => same_leaf y.n x y.l a' n' c' g W (((HB.out.trans (hW.mono HB.out.size)).cell (p := ⟨g, 0, none⟩) (World.block_lt_of_cell? _ ⟨g, 0, none⟩ HX.out)).trans HX.out)
      generalize y.l = yl at c2 hcall
      by_cases hq : y.n = x
      · have HI := Lib.hid (idxL_hit HG.out h0.out hq)
        rw [decide_eq_true hq] at hcall
        have HC := Lib.hid hcall
        generalize y.n = yn at c1 HC
        clear hcall hq
        go_wp2_with fail
        refine (HC.out _ (Below.refl _ _)).mono ?_
        rintro e w' ⟨rfl, hb'⟩
        have B1 := HB.out.trans (hb'.mono HB.out.size)
        clear hb'
        go_wp2
        go_ret
        exact ⟨Slab.ret_int' HI.out.symm, B1⟩
      · have HI := Lib.hid (any_next HG.out h0.out hq)
        rw [decide_eq_false hq] at hcall
        have HC := Lib.hid hcall
        generalize y.n = yn at c1 HC
        clear hcall hq
        go_wp2_with fail
        refine (HC.out _ (Below.refl _ _)).mono ?_
        rintro e w' ⟨rfl, hb'⟩
        have B1 := Lib.hid (HB.out.trans (hb'.mono HB.out.size))
        clear hb'
        go_wp2
        go_roundw
        case rel => exact ⟨k + 1, by omega, by go_num, HI, B1⟩
        case measure => simp [intOf]; omega
    · go_wp2
      go_ret
      obtain rfl : k = n := by omega
      refine ⟨Slab.ret_int' ?_, HB.out⟩
      have := h0.out
      rw [← HS.out.len, List.take_length] at this
      unfold idxL
      rw [this]
      rfl
set_option maxHeartbeats 1000000 in
theorem contains_leaf (x : Int) (g : Nat) (a : Option Addr) (n c : Nat) (ls : List Lf) (w : World) (h : Leaves M w a n ls) (hM : ∀ k, M k → k < w.heap.size) (hx : w.cell? ⟨g, 0, none⟩ = some (.int .i64 x)) (hn : n ≤ 1000000) :
    Calls Tryd.prog 45 #[.slice a n c, .func (.func 46) #[] #[.pointer (some ⟨g, 0, none⟩)]] w fun e w' => e = .returned (.bool (ls.any fun y => decide (y.n = x))) ∧ Below w.heap.size w w' := by
  have hI := index_leaf x g a n c ls w h hM hx hn
  have hd : decide (0 ≤ idxL x ls) = ls.any fun y => decide (y.n = x) := by
    unfold idxL
    cases h : ls.any fun y => decide (y.n = x) with
    | true => simp
    | false => simp
  generalize idxL x ls = I at hI hd
  rw [← hd]
  have HI := Lib.hid hI
  clear hI hd h hx
  go_enter Tryd.func45, Tryd.ntmps45
  go_wp2_with fail
  refine HI.out.mono ?_
  rintro e w' ⟨rfl, hb'⟩
  go_wp2
  go_ret
  exact ⟨rfl, hb'⟩
end
end Go.Proofs.YtnnppdjgmjgjhaaDoor.Twin
