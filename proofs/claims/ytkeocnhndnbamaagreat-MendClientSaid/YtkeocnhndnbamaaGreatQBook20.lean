/- The queue of losers, a heap: only that it keeps who is in it is told here. The queue of losers, a heap: taking one out and laying one in. -/
import Derived.Test.YtkeocnhndnbamaaGreatQBook15
import Derived.Test.YtkeocnhndnbamaaGreatQBook11
import Derived.Deep.RegionHeld3
import Derived.Deep.RegionLaw
namespace Go.Proofs.YtkeocnhndnbamaaGreat.Mend
set_option maxRecDepth 100000
open Go.RowKit Go.Sort
open Go.Proofs.YtkeocnhndnbamaaGreat.Mem
def ptrV (p : Nat) : Value := .pointer (some ⟨p, 0, none⟩)
structure HQ (w : World) (B u g cap : Nat) (Q : List Nat) : Prop where
  cell : w.cell? ⟨u, 6, none⟩ = some (.slice (some ⟨g, 0, none⟩) Q.length cap)
  fr : w.frozen? ⟨u, 6, none⟩ = false
  row : w.ownsRow B 124 1 (.slice (some ⟨g, 0, none⟩) Q.length cap) Q.length (Q.map ptrV)
  at_ : ∀ p ∈ Q, ∃ a : Int, w.cell? ⟨p, 17, none⟩ = some (.int .i64 a)
  ne : ∀ p ∈ Q, p ≠ g
  ug : u ≠ g
theorem grown_refl (w : World) (r : Option Nat) : w.grownBy w r := ⟨rfl, rfl, rfl, Nat.le_refl _, fun _ _ _ => rfl⟩
theorem grown_set {w w' : World} {g : Nat} (h : w.grownBy w' (some g)) (i : Nat) (u : Value) : w.grownBy (w'.setCell ⟨g, i, none⟩ u) (some g) :=
  ⟨h.os, h.tape, h.output, by simp; exact h.size, fun k hk hne => (Below.heap_setCell w' ⟨g, i, none⟩ u k (fun e => hne (congrArg some e))).trans (h.block k hk hne)⟩
theorem grown_draw {w w' : World} {r : Option Nat} (h : w.grownBy w' r) : w.grownBy w'.drew r := ⟨h.os, h.tape, h.output, h.size, h.block⟩
theorem grown_drawN {w w' : World} {r : Option Nat} (h : w.grownBy w' r) (n : Nat) : w.grownBy (w'.drewN n) r := ⟨h.os, h.tape, h.output, h.size, h.block⟩
section
variable {w w' : World} {B u g cap : Nat} {Q : List Nat}
theorem HQ.get (h : HQ w B u g cap Q) {i p : Nat} (hi : Q[i]? = some p) : w.cell? ⟨g, i, none⟩ = some (ptrV p) ∧ w.frozen? ⟨g, i, none⟩ = false := by
  have hl := (List.getElem?_eq_some_iff.1 hi).1
  obtain ⟨g', cap', e, -, -, hc⟩ := own_pos h.row (by omega)
  injection e with e1
  injection e1 with e1
  injection e1 with e1
  subst e1
  refine ⟨by rw [hc i (by omega), List.getElem?_map, hi]; rfl, ?_⟩
  obtain ⟨_, ⟨e2, _⟩ | ⟨gg, cap2, cur, e2, _, hb, _⟩⟩ := h.row
  · cases e2
  · injection e2 with e2
    injection e2 with e2
    injection e2 with e2
    subst e2
    simp [World.frozen?, hb]
theorem HQ.drewN (h : HQ w B u g cap Q) (q : Nat) : HQ (w.drewN q) B u g cap Q := ⟨h.cell, h.fr, h.row, h.at_, h.ne, h.ug⟩
/-- two change places -/
theorem HQ.swap (h : HQ w B u g cap Q) {i j p q : Nat} (hi : Q[i]? = some p) (hj : Q[j]? = some q) : HQ ((w.setCell ⟨g, i, none⟩ (ptrV q)).setCell ⟨g, j, none⟩ (ptrV p)) B u g cap ((Q.set i q).set j p) ∧ ((Q.set i q).set j p).Perm Q := by
  have hil := (List.getElem?_eq_some_iff.1 hi).1
  have hjl := (List.getElem?_eq_some_iff.1 hj).1
  have hperm : ((Q.set i q).set j p).Perm Q := by
    have e1 : q = Q[j] := (List.getElem?_eq_some_iff.1 hj).2.symm
    have e2 : p = Q[i] := (List.getElem?_eq_some_iff.1 hi).2.symm
    subst e1 e2
    exact List.set_set_perm hil hjl
  have hmem : ∀ x, x ∈ (Q.set i q).set j p ↔ x ∈ Q := fun x => hperm.mem_iff
  have hcell : ∀ (W : World) (k : Nat) (v : Value) (b n : Nat), b ≠ g → (W.setCell ⟨g, k, none⟩ v).cell? ⟨b, n, none⟩ = W.cell? ⟨b, n, none⟩ := fun W k v b n hb => World.cell?_setCell_other _ _ _ _ (fun e => by injection e with e; exact hb e.symm)
  have hfr : ∀ (W : World) (k : Nat) (v : Value) (b n : Nat), b ≠ g → (W.setCell ⟨g, k, none⟩ v).frozen? ⟨b, n, none⟩ = W.frozen? ⟨b, n, none⟩ := fun W k v b n hb => World.frozen?_of_block (w := W) (Below.heap_setCell W ⟨g, k, none⟩ v b hb)
  refine ⟨⟨?_, ?_, ?_, fun x hx => ?_, fun x hx => h.ne x ((hmem x).1 hx), h.ug⟩, hperm⟩
  · rw [hcell _ _ _ _ _ h.ug, hcell _ _ _ _ _ h.ug, List.length_set, List.length_set]; exact h.cell
  · rw [hfr _ _ _ _ _ h.ug, hfr _ _ _ _ _ h.ug]; exact h.fr
  · rw [List.length_set, List.length_set]
    obtain ⟨hl, ⟨e, _⟩ | ⟨g', cap', cur, e, hg, hb, hn, hc, hcs, ht⟩⟩ := h.row
    · cases e
    · injection e with e1 e2 e3
      injection e1 with e1
      injection e1 with e1
      subst e1 e3
      have hs : cur.size = cap := by omega
      refine ⟨by simp, .inr ⟨g, cap, (cur.setIfInBounds i (ptrV q)).setIfInBounds j (ptrV p), rfl, hg, ?_, hn, by simpa using hc, ?_, ?_⟩⟩
      · have h1 : Blk w g 124 cur := hb
        exact (h1.set_ i (ptrV q)).set_ j (ptrV p)
      · simp only [Array.size_setIfInBounds]; exact hcs
      · rw [Nat.mul_one] at ht ⊢
        rw [Array.toList_setIfInBounds, Array.toList_setIfInBounds, List.take_set, List.take_set, ht, List.map_set, List.map_set]
  · obtain ⟨a, ha⟩ := h.at_ x ((hmem x).1 hx)
    exact ⟨a, by rw [hcell _ _ _ _ _ (h.ne x ((hmem x).1 hx)), hcell _ _ _ _ _ (h.ne x ((hmem x).1 hx))]; exact ha⟩
set_option maxRecDepth 100000 in
set_option maxHeartbeats 4000000 in
theorem less_any (h : HQ w B u g cap Q) {i j : Nat} (hi : i < Q.length) (hj : j < Q.length) :
    Calls Tryz.prog 141 #[.slice (some ⟨g, 0, none⟩) Q.length cap, .int .i64 (i : Int), .int .i64 (j : Int)] w fun e w' => ∃ (b : Bool) (q : Nat), e = .returned (.bool b) ∧ w' = w.drewN q := by
  have hxi : Q[i]? = some Q[i] := List.getElem?_eq_getElem hi
  have hxj : Q[j]? = some Q[j] := List.getElem?_eq_getElem hj
  obtain ⟨a1, ha1⟩ := h.at_ _ (List.getElem_mem hi)
  obtain ⟨a2, ha2⟩ := h.at_ _ (List.getElem_mem hj)
  have c1 := (h.get hxi).1
  have c2 := (h.get hxj).1
  generalize Q[i] = p at *
  generalize Q[j] = q at *
  unfold ptrV at c1 c2
  have d1 : decide ((i : Int) < (Q.length : Int)) = true := decide_eq_true (by omega)
  have d2 : decide ((j : Int) < (Q.length : Int)) = true := decide_eq_true (by omega)
  obtain ⟨b, hb⟩ : ∃ b, decide (a1 > a2) = b := ⟨_, rfl⟩
  clear h hxi hxj
  go_enter Tryz.func141, Tryz.ntmps141
  go_upto_region 1 with (fail)
  go_quiet (fail)
  go_wp2
  go_ret
  exact ⟨_, _, rfl, rfl⟩
set_option maxRecDepth 100000 in
set_option maxHeartbeats 4000000 in
theorem swap_any (h : HQ w B u g cap Q) {i j : Nat} (hi : i < Q.length) (hj : j < Q.length) :
    Calls Tryz.prog 142 #[.slice (some ⟨g, 0, none⟩) Q.length cap, .int .i64 (i : Int), .int .i64 (j : Int)] w fun e w' => e = .returned (.tuple #[]) ∧ ∃ Q', HQ w' B u g cap Q' ∧ Q'.Perm Q ∧ w.grownBy w' (some g) := by
  have hxi : Q[i]? = some Q[i] := List.getElem?_eq_getElem hi
  have hxj : Q[j]? = some Q[j] := List.getElem?_eq_getElem hj
  obtain ⟨c1, f1⟩ := h.get hxi
  obtain ⟨c2, f2⟩ := h.get hxj
  have HS := Lib.hid (h.swap hxi hxj)
  have e3 := c2
  have f3 := f2
  have hset : ∃ v, (w.setCell ⟨g, i, none⟩ (ptrV Q[j])).cell? ⟨g, j, none⟩ = some v := by
    by_cases hij : i = j
    · subst hij
      exact ⟨_, World.cell?_setCell_same _ _ _ c1⟩
    · exact ⟨_, by rw [World.cell?_setCell_other _ _ _ _ (fun e => by injection e with _ e; exact hij e)]; exact c2⟩
  have fset : (w.setCell ⟨g, i, none⟩ (ptrV Q[j])).frozen? ⟨g, j, none⟩ = false := by
    rw [World.frozen?_setCell]; exact f2
  obtain ⟨vv, hset⟩ := hset
  clear e3 f3
  generalize Q[i] = p at *
  generalize Q[j] = q at *
  unfold ptrV at c1 c2 hset fset
  have d1 : decide ((i : Int) < (Q.length : Int)) = true := decide_eq_true (by omega)
  have d2 : decide ((j : Int) < (Q.length : Int)) = true := decide_eq_true (by omega)
  clear h hxi hxj
  go_enter Tryz.func142, Tryz.ntmps142
  go_region
  all_goals
    go_end0
    refine ⟨rfl, _, HS.out.1.drewN 1, HS.out.2, ?_⟩
    exact grown_draw (grown_set (grown_set (grown_refl w _) i _) j _)
/-- what its methods are behind the interface -/
theorem rcv_is (nm : String) (u : Nat) (w : World) : (receiverAt 129 (.val (.pointer (some ⟨u, 6, none⟩))) false (some nm)).run Tryz.prog w = ((loadVar 90 ⟨u, 6, none⟩).run Tryz.prog w) := by kernel_rfl
theorem meth_any {nm : String} {f : FuncId} (hs : (Array.find? (fun x => x.name == nm) Tryz.t129.methods).map (fun m => (m.path, m.func)) = some (#[], some (f, false))) {u : Nat} {w : World} {v : Value} (h : w.cell? ⟨u, 6, none⟩ = some v) : (method 327 129 (.pointer (some ⟨u, 6, none⟩)) nm).run Tryz.prog w = .ok (f, v) w := by
  unfold method
  simp only [go_sem]
  cases hm : Array.find? (fun x => x.name == nm) Tryz.t129.methods with
  | none => rw [hm] at hs; cases hs
  | some m =>
    rw [hm] at hs
    simp only [Option.map_some, Option.some.injEq, Prod.mk.injEq] at hs
    obtain ⟨h1, h2⟩ := hs
    simp [h1, h2, follow, go_sem, rcv_is, hm, h]
theorem meth_less {u : Nat} {w : World} {v : Value} (h : w.cell? ⟨u, 6, none⟩ = some v) : (method 327 129 (.pointer (some ⟨u, 6, none⟩)) "Less").run Tryz.prog w = .ok (141, v) w := meth_any (by kernel_rfl) h
theorem meth_swap {u : Nat} {w : World} {v : Value} (h : w.cell? ⟨u, 6, none⟩ = some v) : (method 327 129 (.pointer (some ⟨u, 6, none⟩)) "Swap").run Tryz.prog w = .ok (142, v) w := meth_any (by kernel_rfl) h
theorem meth_len {u : Nat} {w : World} {v : Value} (h : w.cell? ⟨u, 6, none⟩ = some v) : (method 327 129 (.pointer (some ⟨u, 6, none⟩)) "Len").run Tryz.prog w = .ok (140, v) w := meth_any (by kernel_rfl) h
theorem meth_pop (u : Nat) (w : World) : (method 327 129 (.pointer (some ⟨u, 6, none⟩)) "Pop").run Tryz.prog w = .ok (143, .pointer (some ⟨u, 6, none⟩)) w := by kernel_rfl
theorem meth_push (u : Nat) (w : World) : (method 327 129 (.pointer (some ⟨u, 6, none⟩)) "Push").run Tryz.prog w = .ok (144, .pointer (some ⟨u, 6, none⟩)) w := by kernel_rfl
/-- the going of a heap -/
structure HG (w W : World) (B u g cap : Nat) (Q : List Nat) : Prop where
  q : ∃ Q', Q'.length = Q.length ∧ HQ W B u g cap Q' ∧ Q'.Perm Q
  gr : w.grownBy W (some g)
theorem HG.cell (h : HG w w' B u g cap Q) : w'.cell? ⟨u, 6, none⟩ = some (.slice (some ⟨g, 0, none⟩) Q.length cap) := by
  obtain ⟨⟨Q', e, h', _⟩, _⟩ := h
  rw [← e]
  exact h'.cell
theorem HG.less (h : HG w w' B u g cap Q) {i j : Nat} (hi : i < Q.length) (hj : j < Q.length) :
    Calls Tryz.prog 141 #[.slice (some ⟨g, 0, none⟩) Q.length cap, .int .i64 (i : Int), .int .i64 (j : Int)] w' fun e w2 => ∃ b : Bool, e = .returned (.bool b) ∧ HG w w2 B u g cap Q := by
  obtain ⟨⟨Q', el, h', hp⟩, hg⟩ := h
  rw [← el] at hi hj ⊢
  refine (less_any h' hi hj).mono ?_
  rintro e w2 ⟨b, q, rfl, rfl⟩
  exact ⟨b, rfl, ⟨Q', el, h'.drewN q, hp⟩, grown_drawN hg q⟩
theorem HG.swap (h : HG w w' B u g cap Q) {i j : Nat} (hi : i < Q.length) (hj : j < Q.length) :
    Calls Tryz.prog 142 #[.slice (some ⟨g, 0, none⟩) Q.length cap, .int .i64 (i : Int), .int .i64 (j : Int)] w' fun e w2 => e = .returned (.tuple #[]) ∧ HG w w2 B u g cap Q := by
  obtain ⟨⟨Q', el, h', hp⟩, hg⟩ := h
  rw [← el] at hi hj ⊢
  refine (swap_any h' hi hj).mono ?_
  rintro e w2 ⟨rfl, Q2, h2, hp2, hg2⟩
  exact ⟨rfl, ⟨Q2, hp2.length_eq.trans el, h2, hp2.trans hp⟩, hg.trans hg2⟩
def qP (u : Nat) : Value := .pointer (some ⟨u, 6, none⟩)
set_option maxRecDepth 100000 in
set_option maxHeartbeats 4000000 in
theorem up_any (h : HG w w' B u g cap Q) {j : Nat} (hj : j < Q.length) (hQ : Q.length ≤ 1000000) :
    Calls Tryz.prog 90 #[.iface 129 (qP u), .int .i64 (j : Int)] w' fun e w2 => e = .returned (.tuple #[]) ∧ HG w w2 B u g cap Q := by
  unfold qP
  have H0 := Lib.hid h
  obtain ⟨n, hn⟩ : ∃ n, Hid (Q.length = n) := ⟨_, Lib.hid rfl⟩
  rw [hn.out] at hj hQ
  clear h
  go_enter Tryz.func90, Tryz.ntmps90
  go_wp2_with fail
  go_loopw [1] (fun jv wr => ∃ j : Nat, j < n ∧ jv = .int .i64 (j : Int) ∧ Hid (HG w wr B u g cap Q)) (fun jv _ => intN jv)
  case atStart => exact ⟨j, hj, rfl, H0⟩
  case round =>
    obtain ⟨k, hk, rfl, hS⟩ := hrel
    clear H0 hj
    try clear j
    obtain ⟨i, hi⟩ : ∃ i, (k - 1) / 2 = i := ⟨_, rfl⟩
    have e1 : ((k : Int) - 1).tdiv 2 = (i : Int) := by
      by_cases h0 : k = 0
      · subst h0
        have : i = 0 := by omega
        subst this
        rfl
      · rw [Int.tdiv_eq_ediv_of_nonneg (by omega)]
        omega
    go_upto_region 1 with (fail)
    try rw [e1]
    by_cases hk0 : k = 0
    · subst hk0
      have : i = 0 := by omega
      subst this
      go_wp2_with fail
      go_end0
      exact ⟨rfl, hS.out⟩
    · have hik : decide ((i : Int) = (k : Int)) = false := decide_eq_false (by omega)
      have m1 := meth_less hS.out.cell
      rw [hn.out] at m1
      have LS := Lib.hid (hS.out.less (i := k) (j := i) (by rw [hn.out]; exact hk) (by rw [hn.out]; omega))
      rw [hn.out] at LS
      clear hS
      go_wp2_with (first
        | (with_reducible refine (LS.out).mono ?_
           rintro e w5 ⟨b, rfl, H5⟩
           replace H5 := Lib.hid H5
           have m2 := meth_swap H5.out.cell
           rw [hn.out] at m2
           have LT := Lib.hid (H5.out.swap (i := i) (j := k) (by rw [hn.out]; omega) (by rw [hn.out]; exact hk))
           rw [hn.out] at LT)
        | (with_reducible refine (LT.out).mono ?_
           rintro e w6 ⟨rfl, H6⟩
           replace H6 := Lib.hid H6))
      · go_end0
        exact ⟨rfl, H5.out⟩
      · go_roundw
        case rel => exact ⟨i, by omega, rfl, H6⟩
        case measure => simp [intN]; omega
set_option hygiene false in
set_option maxRecDepth 100000 in
set_option maxHeartbeats 4000000 in
theorem down_any (h : HG w w' B u g cap Q) {nn : Nat} (hnn : nn ≤ Q.length) (h0 : 0 < Q.length) (hQ : Q.length ≤ 1000000) :
    Calls Tryz.prog 76 #[.iface 129 (qP u), .int .i64 0, .int .i64 (nn : Int)] w' fun e w2 => ∃ b : Bool, e = .returned (.bool b) ∧ HG w w2 B u g cap Q := by
  unfold qP
  have H0 := Lib.hid h
  obtain ⟨n, hn⟩ : ∃ n, Hid (Q.length = n) := ⟨_, Lib.hid rfl⟩
  rw [hn.out] at hnn hQ h0
  clear h
  go_enter Tryz.func76, Tryz.ntmps76
  go_wp2_with fail
  go_loopw [7] (fun jv wr => ∃ j : Nat, j ≤ nn ∧ jv = .int .i64 (j : Int) ∧ Hid (HG w wr B u g cap Q)) (fun jv _ => nn - intN jv)
  case atStart => exact ⟨0, Nat.zero_le _, rfl, H0⟩
  case round =>
    obtain ⟨k, hk, rfl, hS⟩ := hrel
    clear H0
    obtain ⟨a, ha⟩ : ∃ a, 2 * k + 1 = a := ⟨_, rfl⟩
    obtain ⟨c, hc⟩ : ∃ c, a + 1 = c := ⟨_, rfl⟩
    have ea : 2 * (k : Int) + 1 = (a : Int) := by omega
    have ec : (a : Int) + 1 = (c : Int) := by omega
    by_cases h1 : a < nn
    · have d1 : decide ((a : Int) ≥ (nn : Int)) = false := decide_eq_false (by omega)
      have d2 : decide ((a : Int) < 0) = false := decide_eq_false (by omega)
      go_upto_region 3 with (fail)
      try rw [ea]
      go_upto_region 6 with (fail)
      try rw [ec]
      by_cases h2 : c < nn
      · have d3 : decide ((c : Int) < (nn : Int)) = true := decide_eq_true (by omega)
        have m1 := meth_less hS.out.cell
        rw [hn.out] at m1
        have LS := Lib.hid (hS.out.less (i := c) (j := a) (by rw [hn.out]; omega) (by rw [hn.out]; omega))
        rw [hn.out] at LS
        clear hS
        go_upto_region 8 with (with_reducible refine (LS.out).mono ?_; rintro e w4 ⟨b4, rfl, H4⟩; replace H4 := Lib.hid H4)
        · have m1 := meth_less H4.out.cell
          rw [hn.out] at m1
          have LS := Lib.hid (H4.out.less (i := c) (j := k) (by rw [hn.out]; omega) (by rw [hn.out]; omega))
          rw [hn.out] at LS
          go_wp2_with (first
            | (with_reducible refine (LS.out).mono ?_
               rintro e w5 ⟨b, rfl, H5⟩
               replace H5 := Lib.hid H5
               have m2 := meth_swap H5.out.cell
               rw [hn.out] at m2
               have LT := Lib.hid (H5.out.swap (i := k) (j := c) (by rw [hn.out]; omega) (by rw [hn.out]; omega))
               rw [hn.out] at LT)
            | (with_reducible refine (LT.out).mono ?_
               rintro e w6 ⟨rfl, H6⟩
               replace H6 := Lib.hid H6))
          · go_ret
            exact ⟨_, rfl, H5.out⟩
          · go_roundw
            case rel => exact ⟨c, by omega, rfl, H6⟩
            case measure => simp [intN]; omega
        · have m1 := meth_less H4.out.cell
          rw [hn.out] at m1
          have LS := Lib.hid (H4.out.less (i := a) (j := k) (by rw [hn.out]; omega) (by rw [hn.out]; omega))
          rw [hn.out] at LS
          go_wp2_with (first
            | (with_reducible refine (LS.out).mono ?_
               rintro e w5 ⟨b, rfl, H5⟩
               replace H5 := Lib.hid H5
               have m2 := meth_swap H5.out.cell
               rw [hn.out] at m2
               have LT := Lib.hid (H5.out.swap (i := k) (j := a) (by rw [hn.out]; omega) (by rw [hn.out]; omega))
               rw [hn.out] at LT)
            | (with_reducible refine (LT.out).mono ?_
               rintro e w6 ⟨rfl, H6⟩
               replace H6 := Lib.hid H6))
          · go_ret
            exact ⟨_, rfl, H5.out⟩
          · go_roundw
            case rel => exact ⟨a, by omega, rfl, H6⟩
            case measure => simp [intN]; omega
      · have d3 : decide ((c : Int) < (nn : Int)) = false := decide_eq_false (by omega)
        go_upto_region 8 with (fail)
        have H4 := hS
        clear hS
        have m1 := meth_less H4.out.cell
        rw [hn.out] at m1
        have LS := Lib.hid (H4.out.less (i := a) (j := k) (by rw [hn.out]; omega) (by rw [hn.out]; omega))
        rw [hn.out] at LS
        go_wp2_with (first
          | (with_reducible refine (LS.out).mono ?_
             rintro e w5 ⟨b, rfl, H5⟩
             replace H5 := Lib.hid H5
             have m2 := meth_swap H5.out.cell
             rw [hn.out] at m2
             have LT := Lib.hid (H5.out.swap (i := k) (j := a) (by rw [hn.out]; omega) (by rw [hn.out]; omega))
             rw [hn.out] at LT)
          | (with_reducible refine (LT.out).mono ?_
             rintro e w6 ⟨rfl, H6⟩
             replace H6 := Lib.hid H6))
        · go_ret
          exact ⟨_, rfl, H5.out⟩
        · go_roundw
          case rel => exact ⟨a, by omega, rfl, H6⟩
          case measure => simp [intN]; omega
    · have d1 : decide ((a : Int) ≥ (nn : Int)) = true := decide_eq_true (by omega)
      go_wp2_with fail
      go_ret
      exact ⟨_, rfl, hS.out⟩
end
end Go.Proofs.YtkeocnhndnbamaaGreat.Mend
namespace Go.Proofs.YtkeocnhndnbamaaGreat.Mend
set_option maxRecDepth 100000
open Go.RowKit Go.Sort
open Go.Proofs.YtkeocnhndnbamaaGreat.Mem
open Go.Proofs.YtkeocnhndnbamaaGreat.Past (AppRes)
theorem blk_off {w : World} {g u : Nat} {t : TypeId} {cs : Array Value} (h : Blk w g t cs) (i : Nat) (v : Value) (hne : u ≠ g) : Blk (w.setCell ⟨u, i, none⟩ v) g t cs := (Below.heap_setCell w ⟨u, i, none⟩ v g (fun e => hne e.symm)).trans h
section
variable {w w' : World} {B u g cap : Nat} {Q : List Nat} {p : Nat}
theorem HQ.last (h : HQ w B u g cap (Q ++ [p])) : HQ (w.setCell ⟨u, 6, none⟩ (.slice (some ⟨g, 0, none⟩) Q.length cap)) B u g cap Q := by
  have hcell : ∀ (b n : Nat), (b ≠ u ∨ n ≠ 6) → ∀ v, (w.setCell ⟨u, 6, none⟩ v).cell? ⟨b, n, none⟩ = w.cell? ⟨b, n, none⟩ := fun b n hb v => World.cell?_setCell_other _ _ _ _ (fun e => by injection e with e1 e2; rcases hb with hb | hb; exact hb e1.symm; exact hb e2.symm)
  refine ⟨World.cell?_setCell_same _ _ _ h.cell, by rw [World.frozen?_setCell]; exact h.fr, ?_, fun x hx => ?_, fun x hx => h.ne x (by simp [hx]), h.ug⟩
  · obtain ⟨hl, ⟨e, _⟩ | ⟨g', cap', cur, e, hg, hb, hn, hc, hcs, ht⟩⟩ := h.row
    · cases e
    · injection e with e1 e2 e3
      injection e1 with e1
      injection e1 with e1
      subst e1 e3
      rw [List.length_append, List.length_singleton] at hn ht
      refine ⟨by simp, .inr ⟨g, cap, cur, rfl, hg, ?_, by omega, hc, hcs, ?_⟩⟩
      · have h1 : Blk w g 124 cur := hb
        exact blk_off h1 6 _ h.ug
      · rw [Nat.mul_one] at ht ⊢
        have : (cur.toList.take (Q.length + 1)).take Q.length = cur.toList.take Q.length := by rw [List.take_take, Nat.min_eq_left (by omega)]
        rw [← this, ht, List.map_append, List.take_left' (by simp)]
  · obtain ⟨a, ha⟩ := h.at_ x (by simp [hx])
    exact ⟨a, by rw [hcell _ _ (.inr (by decide))]; exact ha⟩
set_option maxRecDepth 100000 in
set_option maxHeartbeats 4000000 in
theorem len_any (n : Nat) (a : Option Addr) : Calls Tryz.prog 140 #[.slice a n cap] w fun e w' => e = .returned (.int .i64 (n : Int)) ∧ w' = w := by
  go_enter Tryz.func140, Tryz.ntmps140
  go_wp2
  go_ret
  exact ⟨rfl, rfl⟩
set_option maxRecDepth 100000 in
set_option maxHeartbeats 4000000 in
theorem pop1_any (h : HQ w B u g cap (Q ++ [p])) (hQ : Q.length ≤ 1000000) :
    Calls Tryz.prog 143 #[.pointer (some ⟨u, 6, none⟩)] w fun e w' => e = .returned (.iface 124 (ptrV p)) ∧ HQ w' B u g cap Q ∧ w' = w.setCell ⟨u, 6, none⟩ (.slice (some ⟨g, 0, none⟩) Q.length cap) := by
  have c0 := h.cell
  have f0 := h.fr
  have hp : (Q ++ [p])[Q.length]? = some p := by simp
  have c1 := (h.get hp).1
  have HR := Lib.hid h.last
  have hcap : Q.length + 1 ≤ cap := by
    obtain ⟨hl, ⟨e, _⟩ | ⟨g', cap', cur, e, hg, hb, hn, hc, hcs, ht⟩⟩ := h.row
    · cases e
    · injection e with e1 e2 e3
      subst e3
      simpa using hn
  rw [List.length_append, List.length_singleton] at c0
  unfold ptrV at c1
  clear h hp
  have d1 : decide ((Q.length : Int) < ((Q.length + 1 : Nat) : Int)) = true := decide_eq_true (by omega)
  go_enter Tryz.func143, Tryz.ntmps143
  go_wp2
  go_ret
  exact ⟨rfl, HR.out, rfl⟩
/-- the queue as a value: it may be nil still -/
structure QV (w : World) (B u : Nat) (v : Value) (Q : List Nat) : Prop where
  cell : w.cell? ⟨u, 6, none⟩ = some v
  fr : w.frozen? ⟨u, 6, none⟩ = false
  row : w.ownsRow B 124 1 v Q.length (Q.map ptrV)
  at_ : ∀ p ∈ Q, ∃ a : Int, w.cell? ⟨p, 17, none⟩ = some (.int .i64 a)
  ne : ∀ p ∈ Q, ∀ g, v.ownBlock = some g → p ≠ g
  lt : ∀ p ∈ Q, p < w.heap.size
  ug : ∀ g, v.ownBlock = some g → u ≠ g
  ul : u < w.heap.size
theorem HQ.qv (h : HQ w B u g cap Q) (hl : ∀ p ∈ Q, p < w.heap.size) (hu : u < w.heap.size) : QV w B u (.slice (some ⟨g, 0, none⟩) Q.length cap) Q :=
  ⟨h.cell, h.fr, h.row, h.at_, fun p hp g' e => by injection e with e; subst e; exact h.ne p hp, hl, fun g' e => by injection e with e; subst e; exact h.ug, hu⟩
theorem QV.hq {v : Value} (h : QV w B u v Q) (hn : 0 < Q.length) : ∃ g cap, v = .slice (some ⟨g, 0, none⟩) Q.length cap ∧ HQ w B u g cap Q := by
  obtain ⟨g, cap, e, eo, -, -⟩ := own_pos h.row hn
  subst e
  exact ⟨g, cap, rfl, h.cell, h.fr, h.row, h.at_, fun p hp => h.ne p hp g rfl, h.ug g rfl⟩
/-- nothing else has changed -/
structure QC (w w' : World) (u : Nat) (v v' : Value) : Prop where
  os : w'.os = w.os
  tape : w'.tape = w.tape
  output : w'.output = w.output
  size : w.heap.size ≤ w'.heap.size
  block : ∀ k, k < w.heap.size → k ≠ u → some k ≠ v.ownBlock → w'.heap[k]? = w.heap[k]?
  own : ∀ T cs, Blk w u T cs → Blk w' u T (cs.setIfInBounds 6 v')
  row : v'.ownBlock = v.ownBlock ∨ ∃ g, v'.ownBlock = some g ∧ w.heap.size ≤ g
theorem QC.drew {v v' : Value} (h : QC w w' u v v') : QC w w'.drew u v v' := ⟨h.os, h.tape, h.output, h.size, h.block, h.own, h.row⟩
theorem QV.drew {v : Value} (h : QV w B u v Q) : QV w.drew B u v Q := ⟨h.cell, h.fr, h.row, h.at_, h.ne, h.lt, h.ug, h.ul⟩
theorem info_p : (Tryz.prog.info? 124).map (fun i => (i.zero, i.size, i.bytes)) = some (some (.pointer none), 1, 8) := by kernel_rfl
theorem step_ptr1 {W : World} {ops : Array Oper} {o : Oper} {a : Go.Act} {K : Go.Act → World → Prop} {R : Exit → Go.Act → World → Prop} {E : Prop} (hg : o.guard = none) (s x : Operand)
    (hop : o.op = .call { callee := .builtin .append, args := #[s, x], argTypes := #[90, 90] })
    (v : Value) (zs : List Nat) (hs : a.eval s = v) (vb : Nat) (p : Nat) (hx : a.eval x = .slice (some ⟨vb, 0, none⟩) 1 1) (hP : Below W.heap.size W w ∧ Blk w vb 124 #[ptrV p])
    (hown : W.ownsRow B 124 1 v zs.length (zs.map ptrV)) (hn : zs.length ≤ 900000) (hB : B ≤ W.heap.size)
    (hK : ∀ v' w', Below W.heap.size W w → AppRes w w' B 124 1 v v' (zs ++ [p]).length ((zs ++ [p]).map ptrV) → K (a.put o.dst v') w') :
    if Region.wanted o (yielded ops a.tmps) = true then Oper.wp Tryz.prog o a w K R else E := by
  have hown2 : w.ownsRow B 124 1 v zs.length (zs.map ptrV) := own_same hown fun g hg => hP.1.block g (own_lt hown hg)
  obtain ⟨v', w', hr, h2⟩ := Past.run_appW (ty := o.type) (z := .pointer none) Tryz.underlying90 info_p rfl (by decide) (by decide) hown2 (some ⟨vb, 0, none⟩) 1 1 [ptrV p] rfl (fun _ => ⟨_, rfl, fun j u hj => by
      rw [Addr.add_lit, Nat.zero_add, hP.2.cell, ← Array.getElem?_toList]; exact hj⟩) (fun u hu => by simp at hu; subst hu; rfl) (by omega) (Nat.le_trans hB hP.1.size)
  have hw : Region.wanted o (yielded ops a.tmps) = true := by simp [Region.wanted, hg]
  rw [if_pos hw]
  unfold Oper.wp
  simp [execOp, hop, resolve, invoke, builtin, hs, hx, hr, Result.andThen]
  refine hK v' w' hP.1 ?_
  rw [List.length_append, List.map_append]; exact h2
/-- what is left behind an append to the queue -/
theorem QV.laid {v : Value} (h : QV w B u v Q) {a : Int} (hp : w.cell? ⟨p, 17, none⟩ = some (.int .i64 a)) (hpl : p < w.heap.size) (hpg : ∀ g, v.ownBlock = some g → p ≠ g) {wa w5 : World} (hb : Below w.heap.size w wa) {v5 : Value}
    (hA : AppRes wa w5 B 124 1 v v5 (Q ++ [p]).length ((Q ++ [p]).map ptrV)) :
    w5.cell? ⟨u, 6, none⟩ = some v ∧ w5.frozen? ⟨u, 6, none⟩ = false ∧ QV (w5.setCell ⟨u, 6, none⟩ v5) B u v5 (Q ++ [p]) ∧ QC w (w5.setCell ⟨u, 6, none⟩ v5) u v v5 := by
  obtain ⟨h1, h2, h3⟩ := hA
  have hblk : ∀ k, k < w.heap.size → some k ≠ v.ownBlock → w5.heap[k]? = w.heap[k]? := fun k hk hne => (h2.block k (Nat.lt_of_lt_of_le hk hb.size) hne).trans (hb.block k hk)
  have hu5 := hblk u h.ul fun e => h.ug u e.symm rfl
  have hug5 : ∀ g, v5.ownBlock = some g → u ≠ g := fun g hg e => by
    rcases h3 with e3 | e3
    · exact h.ug g (e3.symm.trans hg) e
    · rw [e3] at hg; injection hg with hg; have := h.ul; have := hb.size; omega
  have hcell : ∀ x, x < w.heap.size → (∀ g, v.ownBlock = some g → x ≠ g) → x ≠ u ∨ True → (w5.setCell ⟨u, 6, none⟩ v5).cell? ⟨x, 17, none⟩ = w.cell? ⟨x, 17, none⟩ := fun x hx hne _ => by
    rw [World.cell?_setCell_other _ _ _ _ (fun e => by injection e with e1 e2; cases e2)]
    exact World.cell?_of_block (hblk x hx fun e => hne x e.symm rfl)
  have hs : w.heap.size ≤ w5.heap.size := Nat.le_trans hb.size h2.size
  have hc6 : w5.cell? ⟨u, 6, none⟩ = some v := (World.cell?_of_block hu5).trans h.cell
  refine ⟨hc6, (World.frozen?_of_block hu5).trans h.fr, ⟨World.cell?_setCell_same _ _ _ hc6, by rw [World.frozen?_setCell]; exact (World.frozen?_of_block hu5).trans h.fr, own_set h1 (fun e => hug5 u e rfl) 6 v5, fun x hx => ?_, fun x hx g hg => ?_, fun x hx => ?_, hug5, by simpa using Nat.lt_of_lt_of_le h.ul hs⟩, ⟨h2.os.trans hb.os, h2.tape.trans hb.tape, h2.output.trans hb.output, by simpa using hs, fun k hk hku hkv => (Below.heap_setCell w5 ⟨u, 6, none⟩ v5 k hku).trans (hblk k hk hkv), fun T cs hB => ?_, ?_⟩⟩
  · rcases List.mem_append.1 hx with hx | hx
    · obtain ⟨b, hb'⟩ := h.at_ x hx
      exact ⟨b, (hcell x (h.lt x hx) (h.ne x hx) (.inr trivial)).trans hb'⟩
    · rw [List.mem_singleton.1 hx]
      exact ⟨a, (hcell p hpl hpg (.inr trivial)).trans hp⟩
  · have hxl : x < w.heap.size ∧ ∀ g, v.ownBlock = some g → x ≠ g := by
      rcases List.mem_append.1 hx with hx | hx
      · exact ⟨h.lt x hx, h.ne x hx⟩
      · rw [List.mem_singleton.1 hx]; exact ⟨hpl, hpg⟩
    rcases h3 with e3 | e3
    · exact hxl.2 g (e3.symm.trans hg)
    · rw [e3] at hg; injection hg with hg; have := hxl.1; have := hb.size; omega
  · have hxl : x < w.heap.size := by
      rcases List.mem_append.1 hx with hx | hx
      · exact h.lt x hx
      · rw [List.mem_singleton.1 hx]; exact hpl
    simpa using Nat.lt_of_lt_of_le hxl hs
  · have h5 : Blk w5 u T cs := hu5.trans hB
    exact h5.set_ 6 v5
  · rcases h3 with e3 | e3
    · exact .inl e3
    · exact .inr ⟨_, e3, hb.size⟩
set_option maxRecDepth 100000 in
set_option maxHeartbeats 4000000 in
theorem push1_any {v : Value} (h : QV w B u v Q) {a : Int} (hp : w.cell? ⟨p, 17, none⟩ = some (.int .i64 a)) (hpl : p < w.heap.size) (hpg : ∀ g, v.ownBlock = some g → p ≠ g) (hQ : Q.length ≤ 900000) (hB : B ≤ w.heap.size) :
    Calls Tryz.prog 144 #[.pointer (some ⟨u, 6, none⟩), .iface 124 (ptrV p)] w fun e w' => e = .returned (.tuple #[]) ∧ ∃ v', QV w' B u v' (Q ++ [p]) ∧ QC w w' u v v' := by
  have c0 := h.cell
  have f0 := h.fr
  have FIN := Lib.hid (fun (wa w5 : World) (v5 : Value) hb hA => QV.laid (wa := wa) (w5 := w5) (v5 := v5) h hp hpl hpg hb hA)
  have HO := Lib.hid h.row
  obtain ⟨av, cv, hv⟩ := own_shape h.row
  have c1 : (w.alloc (.cells #[ptrV p] 124)).cell? ⟨u, 6, none⟩ = some v := (World.cell?_of_block ((Ent.below_box w _).block u h.ul)).trans c0
  have f1 : (w.alloc (.cells #[ptrV p] 124)).frozen? ⟨u, 6, none⟩ = false := (World.frozen?_of_block ((Ent.below_box w _).block u h.ul)).trans f0
  clear h hp hpl hpg
  subst hv
  have hbx := Ent.below_box w (.cells #[ptrV p] 124)
  have hblk := Blk.new w 124 #[ptrV p]
  unfold ptrV at hbx hblk c1 f1
  unfold ptrV
  have hta : ∀ (W : World) (x : Value), (Instr.typeAssert (.iface 124 x) 20 124 false).run Tryz.prog W = .ok x W := fun _ _ => by kernel_rfl
  go_enter Tryz.func144, Tryz.ntmps144
  go_region_law (refine step_ptr1 (W := w) rfl (.tmp 7) (.tmp 10) rfl (.slice av Q.length cv) Q (by simp [Act.eval]) w.heap.size p (by simp [Act.eval]) ?hp HO.out hQ hB ?_; (case hp => first | exact ⟨hbx.drew, hblk⟩ | exact ⟨hbx, hblk⟩); intro v5 w5 hb5 hA5; have HE := Lib.hid (FIN.out _ _ _ hb5 hA5); obtain ⟨a5, c5, e5⟩ := own_shape hA5.1; rw [List.length_append, List.length_singleton] at e5; subst e5; have k5 := HE.out.1; have f5 := HE.out.2.1; clear hb5 hA5)
  all_goals
    go_end0
    exact ⟨rfl, _, HE.out.2.2.1, HE.out.2.2.2⟩
theorem HG.last (h : HG w w' B u g cap Q) {n : Nat} (hn : Q.length = n + 1) : ∃ (Q3 : List Nat) (p : Nat), Q3.length = n ∧ (p :: Q3).Perm Q ∧ HQ w' B u g cap (Q3 ++ [p]) ∧ w.grownBy w' (some g) := by
  obtain ⟨⟨Q', el, hq, hp⟩, hg⟩ := h
  have hne : Q' ≠ [] := fun e => by rw [e] at el; simp at el; omega
  have hd := List.dropLast_concat_getLast hne
  refine ⟨Q'.dropLast, Q'.getLast hne, by rw [List.length_dropLast, el, hn]; rfl, ?_, by rw [hd]; exact hq, hg⟩
  have h1 : (Q'.getLast hne :: Q'.dropLast).Perm (Q'.dropLast ++ [Q'.getLast hne]) := (List.perm_append_singleton _ _).symm
  rw [hd] at h1
  exact h1.trans hp
set_option maxRecDepth 100000 in
set_option maxHeartbeats 4000000 in
/-- heap.Pop -/
theorem hpop_any (h : HQ w B u g cap Q) (h0 : 0 < Q.length) (hQ : Q.length ≤ 900000) :
    Calls Tryz.prog 49 #[.iface 129 (qP u)] w fun e w' => ∃ (p : Nat) (Q' : List Nat) (W : World), e = .returned (.iface 124 (ptrV p)) ∧ (p :: Q').Perm Q ∧ HQ w' B u g cap Q' ∧ w.grownBy W (some g) ∧ w' = W.setCell ⟨u, 6, none⟩ (.slice (some ⟨g, 0, none⟩) Q'.length cap) := by
  obtain ⟨n, hn⟩ : ∃ n, Q.length = n + 1 := ⟨Q.length - 1, by omega⟩
  have HN := Lib.hid hn
  have H0 : HG w w B u g cap Q := ⟨⟨Q, rfl, h, .refl _⟩, grown_refl _ _⟩
  unfold qP
  have m1 := meth_len H0.cell
  have m2 := meth_swap H0.cell
  have m3 := fun W => meth_pop u W
  rw [hn] at m1 m2
  have L1 := Lib.hid (fun W => len_any (w := W) (cap := cap) (n + 1) (some ⟨g, 0, none⟩))
  have L2 := Lib.hid (H0.swap (i := 0) (j := n) (by omega) (by omega))
  rw [hn, show ((0 : Nat) : Int) = 0 from rfl] at L2
  rw [hn] at hQ
  clear H0 h hn h0
  go_enter Tryz.func49, Tryz.ntmps49
  go_wp2_with (first
    | (with_reducible refine (L1.out _).mono ?_
       rintro e w1 ⟨rfl, rfl⟩)
    | (with_reducible refine (L2.out).mono ?_
       rintro e w2 ⟨rfl, H2⟩
       have LD := Lib.hid (down_any H2 (nn := n) (by rw [HN.out]; omega) (by rw [HN.out]; omega) (by rw [HN.out]; omega))
       unfold qP at LD
       clear H2)
    | (with_reducible refine (LD.out).mono ?_
       rintro e w3 ⟨b3, rfl, H3⟩
       obtain ⟨Q3, p, el, hp, hq, hg3⟩ := H3.last HN.out
       have L4 := Lib.hid (pop1_any hq (by omega))
       replace hp := Lib.hid hp)
    | (with_reducible refine (L4.out).mono ?_
       rintro e w4 ⟨rfl, hq4, rfl⟩))
  go_ret
  rw [el] at hq4
  exact ⟨_, _, _, rfl, hp.out, hq4, hg3, by rw [el]⟩
set_option maxRecDepth 100000 in
set_option maxHeartbeats 4000000 in
/-- heap.Push -/
theorem hpush_any {v : Value} (h : QV w B u v Q) {a : Int} (hp : w.cell? ⟨p, 17, none⟩ = some (.int .i64 a)) (hpl : p < w.heap.size) (hpg : ∀ g, v.ownBlock = some g → p ≠ g) (hQ : Q.length ≤ 900000) (hB : B ≤ w.heap.size) :
    Calls Tryz.prog 75 #[.iface 129 (qP u), .iface 124 (ptrV p)] w fun e w' => e = .returned (.tuple #[]) ∧ ∃ (v' : Value) (Q' : List Nat) (W : World) (g cap : Nat), Q'.Perm (Q ++ [p]) ∧ HQ w' B u g cap Q' ∧ v' = .slice (some ⟨g, 0, none⟩) Q'.length cap ∧ QC w W u v v' ∧ W.grownBy w' (some g) := by
  have m1 := fun W => meth_push u W
  have L1 := Lib.hid (push1_any h hp hpl hpg hQ hB)
  unfold qP
  unfold ptrV at L1 ⊢
  clear h hp hpl hpg
  go_enter Tryz.func75, Tryz.ntmps75
  go_wp2_with (first
    | (with_reducible refine (L1.out).mono ?_
       rintro e w2 ⟨rfl, v2, h2, hc2⟩
       obtain ⟨g, cap, rfl, hq2⟩ := h2.hq (by simp)
       have m2 := meth_len hq2.cell
       obtain ⟨n, hn⟩ : ∃ n, Hid ((Q ++ [p]).length = n + 1) := ⟨Q.length, Lib.hid (by simp)⟩
       have L3 := Lib.hid (up_any (j := n) (show HG w2 w2 B u g cap (Q ++ [p]) from ⟨⟨_, rfl, hq2, .refl _⟩, grown_refl _ _⟩) (by rw [hn.out]; omega) (by simp; omega))
       unfold qP at L3
       have hn0 : n + 1 ≤ 900001 := by have := hn.out; simp at this; omega
       replace h2 := Lib.hid h2
       replace hc2 := Lib.hid hc2
       rw [hn.out] at m2 hc2
       clear hq2)
    | (with_reducible refine (len_any _ _).mono ?_
       rintro e w3 ⟨rfl, rfl⟩)
    | (with_reducible refine (L3.out).mono ?_
       rintro e w4 ⟨rfl, h4⟩))
  go_end0
  obtain ⟨⟨Q4, el, hq4, hp4⟩, hg4⟩ := h4
  refine ⟨rfl, _, Q4, w3, g, cap, hp4, hq4, by rw [el, hn.out], hc2.out, hg4⟩
end
end Go.Proofs.YtkeocnhndnbamaaGreat.Mend
