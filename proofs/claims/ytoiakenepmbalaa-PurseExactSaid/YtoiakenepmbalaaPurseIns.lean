/- The walk of slices.Insert of one due into an own row. -/
import Derived.Test.YtoiakenepmbalaaPurseRow
import Derived.Test.YtoiakenepmbalaaCopyK
import Derived.Shelf.Spec.SlicesInsert
import Derived.Lib.AppendZerosOnto
import Derived.Maps.AppendAt
import Derived.Deep.AppendSrc
namespace Go.Proofs.Ytoiakenepmbalaa.Purse
set_option maxRecDepth 100000
open Go.RowKit
open Go.Proofs.Ytoiakenepmbalaa.Mem
set_option maxRecDepth 100000 in
set_option maxHeartbeats 4000000 in
theorem insert_end (v : Value) (L : List Due) (x : Due) (base vb : Nat) (w : World) (h : w.ownsRow base 53 2 v L.length (cellsP L)) (hb : base ≤ w.heap.size) (hn : L.length ≤ 1000000)
    (hv : Blk w vb 53 #[.int .i64 x.1, .int .i64 x.2]) :
    Calls Try.prog 19 #[v, .int .i64 (L.length : Int), .slice (some ⟨vb, 0, none⟩) 1 1] w (InsRes base v w (L ++ [x])) := by
  obtain ⟨i0, hi0, hz0, hz1, hz2⟩ := info_parts info_due
  have key : ∀ (a : Option Addr) (c n : Nat) (hn0 : L.length = n) (hn : n ≤ 1000000) (h : w.ownsRow base 53 2 (.slice a n c) n (cellsP L)) (hcn : n ≤ c) (hc0 : a = none → n = 0 ∧ c = 0) (hc : c ≤ 9223372036854775807),
      Calls Try.prog 19 #[.slice a n c, .int .i64 (n : Int), .slice (some ⟨vb, 0, none⟩) 1 1] w (InsRes base (.slice a n c) w (L ++ [x])) := by
    intro a c n hn0 hn h hcn hc0 hc
    have HN := Lib.hid hn0
    have HV := Lib.hid hv
    have HO := Lib.hid h
    have HB := Lib.hid hb
    clear hb hv h hn0
    have fin : ∀ (v' : Value) (w1 : World), w1.ownsRow base 53 2 v' (n + 1) (cellsP L ++ [.int .i64 x.1, .int .i64 x.2]) → w.grownBy w1 (Value.slice a n c).ownBlock → (v'.ownBlock = (Value.slice a n c).ownBlock ∨ v'.ownBlock = some w.heap.size) → InsRes base (.slice a n c) w (L ++ [x]) (.returned v') w1 := by
      intro v' w1 h1 h2 h4
      refine ⟨v', rfl, ?_, h2, h4⟩
      rw [cells_app, List.length_append, HN.out]
      exact h1
    have FIN := Lib.hid fin
    clear fin
    have hnews : ∀ j u, ([Value.int .i64 x.1, .int .i64 x.2] : List Value)[j]? = some u → w.cell? ((⟨vb, 0, none⟩ : Addr).add j) = some u := by
      intro j u hj
      rw [Addr.add_lit, HV.out.cell, Nat.zero_add, ← Array.getElem?_toList]
      exact hj
    have h1v : ∀ u ∈ ([Value.int .i64 x.1, .int .i64 x.2] : List Value), u.oneCell' = true := by
      intro u hu; simp at hu; rcases hu with rfl | rfl <;> rfl
    have HW := Lib.hid hnews
    have H1 := Lib.hid h1v
    clear hnews h1v
    have c3 : n + 1 ≤ maxLen := by unfold maxLen; omega
    have c4 : (n + 1) * 16 ≤ 140737488355328 := by omega
    have C3 := Lib.hid c3
    have C4 := Lib.hid c4
    clear c3 c4
    cases a with
    | none =>
      obtain ⟨rfl, rfl⟩ := hc0 rfl
      go_enter Try.func19, Try.ntmps19
      go_wp2_with (at_builtin; refine wpList_append_own_at _ rfl _ _ 46 rfl base 53 i0 (.agg #[.int .i64 0, .int .i64 0]) 2 16 Try.underlying46 hi0 hz0 hz1 hz2 rfl (by decide) _ 0 (cellsP L) rfl HO.out ⟨vb, 0, none⟩ 1 1 [.int .i64 x.1, .int .i64 x.2] rfl rfl HW.out H1.out C3.out C4.out HB.out ?_)
      intro v' w1 h1 h2 _ h4
      have F := Lib.hid (FIN.out v' w1 h1 h2 h4)
      clear h1 h2 h4
      go_wp2
      go_ret
      exact F.out
    | some ad =>
      by_cases hcc : c = n
      · subst hcc
        go_enter Try.func19, Try.ntmps19
        go_wp2_with (at_builtin; refine wpList_append_own_at _ rfl _ _ 46 rfl base 53 i0 (.agg #[.int .i64 0, .int .i64 0]) 2 16 Try.underlying46 hi0 hz0 hz1 hz2 rfl (by decide) _ c (cellsP L) rfl HO.out ⟨vb, 0, none⟩ 1 1 [.int .i64 x.1, .int .i64 x.2] rfl rfl HW.out H1.out C3.out C4.out HB.out ?_)
        intro v' w1 h1 h2 _ h4
        have F := Lib.hid (FIN.out v' w1 h1 h2 h4)
        clear h1 h2 h4
        go_wp2
        go_ret
        exact F.out
      · go_enter Try.func19, Try.ntmps19
        go_wp2_with (at_builtin; refine wpList_append_own_at _ rfl _ _ 46 rfl base 53 i0 (.agg #[.int .i64 0, .int .i64 0]) 2 16 Try.underlying46 hi0 hz0 hz1 hz2 rfl (by decide) _ n (cellsP L) rfl HO.out ⟨vb, 0, none⟩ 1 1 [.int .i64 x.1, .int .i64 x.2] rfl rfl HW.out H1.out C3.out C4.out HB.out ?_)
        intro v' w1 h1 h2 _ h4
        have F := Lib.hid (FIN.out v' w1 h1 h2 h4)
        clear h1 h2 h4
        go_wp2
        go_ret
        exact F.out
  obtain ⟨a, c, rfl⟩ := own_shape h
  refine key a c L.length rfl hn h ?_ ?_ ?_
  · rcases h.2 with ⟨e, e2⟩ | ⟨g, cap, cur, e, _, _, h1, _⟩
    · omega
    · injection e with e1 e2 e3; subst e3; exact h1
  · rintro rfl
    rcases h.2 with ⟨e, e2⟩ | ⟨g, cap, cur, e, _, _, h1, _⟩
    · injection e with e1 e2 e3; exact ⟨e2, e3⟩
    · injection e with e1 e2 e3; cases e1
  · rcases h.2 with ⟨e, e2⟩ | ⟨g, cap, cur, e, _, _, _, h1, _⟩
    · injection e with e1 e2 e3; omega
    · injection e with e1 e2 e3; unfold maxLen at h1; omega

set_option maxRecDepth 100000 in
set_option maxHeartbeats 4000000 in
theorem insert_room (g c n i vb : Nat) (L : List Due) (x : Due) (w : World) (cur : List Value) (hg : w.heap[g]? = some (.cells cur.toArray 53 (0, 0))) (hl : cur.length = c * 2) (ht : cur.take (n * 2) = cellsP L) (hL : L.length = n) (hi : i < n) (hc : n + 1 ≤ c) (hc63 : c ≤ 9223372036854775807)
    (hv : Blk w vb 53 #[.int .i64 x.1, .int .i64 x.2]) (hvb : vb ≠ g) :
    Calls Try.prog 19 #[.slice (some ⟨g, 0, none⟩) n c, .int .i64 (i : Int), .slice (some ⟨vb, 0, none⟩) 1 1] w fun e w' =>
      e = .returned (.slice (some ⟨g, 0, none⟩) (n + 1) c) ∧ w' = (w.drew.setRow g (splice cur ((i + 1) * 2) (cellsP (L.drop i))).toArray).setRow g (splice (splice cur ((i + 1) * 2) (cellsP (L.drop i))) (i * 2) [.int .i64 x.1, .int .i64 x.2]).toArray := by
  obtain ⟨i0, hi0, hz0, hz1, hz2⟩ := info_parts info_due
  have hsz : (Try.prog.info? 53).map (·.size) = some 2 := by rw [hi0]; simp [hz1]
  have hBl : (cellsP (L.drop i)).length = (n - i) * 2 := by rw [cells_len, List.length_drop, hL]
  have hov : ∀ lb cb, (callFunc 27 #[.slice (some ⟨vb, 0, none⟩) 1 1, .slice (some ⟨g, (i + 1) * 2, none⟩) lb cb]).run Try.prog w = .ok (.value (.bool false)) w := fun lb cb => by
    rw [run_callFunc_extern Try.func27 (by kernel_rfl) (by kernel_rfl) (by kernel_rfl) (e := Extern.SlicesOverlaps.overlaps #[46, 46] #[4]) (by kernel_rfl),
      Lib.run_overlaps_apart w 46 4 53 Try.underlying46 2 (fun w => by simp [sizeOf, typeInfo, hi0, hz1]) ⟨vb, 0, none⟩ ⟨g, (i + 1) * 2, none⟩ 1 1 lb cb hvb 53 53 2 (c * 2) (shape_blk hv) (by simpa [hl] using shape_blk (show Blk w g _ _ from hg)) (by omega) (hv.frozen 0) (hv.frozen 2)]
    rfl
  have hcp1 : ∀ ty dc sc, (Builtin.copy_ #[46, 46] ty #[.slice (some ⟨g, (i + 1) * 2, none⟩) (n - i) dc, .slice (some ⟨g, i * 2, none⟩) (n + 1 - i) sc]).run Try.prog w.drew = .ok (goInt (Nat.min (n + 1 - i) (n - i) : Nat)) (w.drew.setRow g (splice cur ((i + 1) * 2) (cellsP (L.drop i))).toArray) := fun ty dc sc => by
    have h := run_copy_rowK (P := Try.prog) w.drew 46 46 ty 53 2 g ((i + 1) * 2) (n - i) dc ⟨g, i * 2, none⟩ (n + 1 - i) sc cur.toArray 53 (cellsP (L.drop i)) Try.underlying46 hsz hg (by rw [hBl]; show _ = min (n + 1 - i) (n - i) * 2; omega)
      (fun j v hj => by
        have hj2 : j < (n - i) * 2 := by have := (List.getElem?_eq_some_iff.1 hj).1; omega
        rw [Addr.add_lit]
        show w.cell? ⟨g, i * 2 + j, none⟩ = some v
        rw [Blk.cell (show Blk w g _ _ from hg), List.getElem?_toArray]
        rw [← cells_drop, List.getElem?_drop, ← ht, List.getElem?_take_of_lt (by omega)] at hj
        exact hj)
      (by rw [hBl]; simp; omega) (cells_one _)
    simpa [splice] using h
  have hg1 : (w.drew.setRow g (splice cur ((i + 1) * 2) (cellsP (L.drop i))).toArray).heap[g]? = some (.cells (splice cur ((i + 1) * 2) (cellsP (L.drop i))).toArray 53 (0, 0)) := setRow_heap w.drew g _ _ _ _ hg
  have hl1 : (splice cur ((i + 1) * 2) (cellsP (L.drop i))).length = c * 2 := by rw [length_splice _ _ _ (by omega), hl]
  have hv1 : Blk (w.drew.setRow g (splice cur ((i + 1) * 2) (cellsP (L.drop i))).toArray) vb 53 #[.int .i64 x.1, .int .i64 x.2] := (setRow_other w.drew g vb _ hvb).trans hv
  generalize hW1 : w.drew.setRow g (splice cur ((i + 1) * 2) (cellsP (L.drop i))).toArray = W1 at hcp1 hg1 hv1 ⊢
  generalize splice cur ((i + 1) * 2) (cellsP (L.drop i)) = c1 at hg1 hl1 ⊢
  have hcp2 : ∀ ty dc, (Builtin.copy_ #[46, 46] ty #[.slice (some ⟨g, i * 2, none⟩) (n + 1 - i) dc, .slice (some ⟨vb, 0, none⟩) 1 1]).run Try.prog W1 = .ok (goInt (Nat.min 1 (n + 1 - i) : Nat)) (W1.setRow g (splice c1 (i * 2) [.int .i64 x.1, .int .i64 x.2]).toArray) := fun ty dc => by
    have h := run_copy_rowK (P := Try.prog) W1 46 46 ty 53 2 g (i * 2) (n + 1 - i) dc ⟨vb, 0, none⟩ 1 1 c1.toArray 53 [.int .i64 x.1, .int .i64 x.2] Try.underlying46 hsz hg1 (by show 2 = min 1 (n + 1 - i) * 2; omega)
      (fun j v hj => by
        rw [Addr.add_lit, hv1.cell, Nat.zero_add, ← Array.getElem?_toList]
        exact hj)
      (by simp; omega) (by intro u hu; simp at hu; rcases hu with rfl | rfl <;> rfl)
    simpa [splice] using h
  have hin : i ≤ n := by omega
  have hz2' : ¬ ((i : Int) = (n : Int)) := by omega
  have hw1 : IntKind.i64.wrap ((i : Int) + 1) = (i : Int) + 1 := by rw [IntKind.wrap_i64]; omega
  have hw2 : IntKind.i64.wrap ((n : Int) + 1) = (n : Int) + 1 := by rw [IntKind.wrap_i64]; omega
  have htn : ((i : Int) + 1).toNat = i + 1 := by omega
  have htm : ((n : Int) + 1).toNat = n + 1 := by omega
  have hb2 : ¬ (c = i + 1) := by omega
  have hb4 : ¬ (c = i) := by omega
  have hb5 : ¬ ((c : Int) < (n : Int) + 1) := by omega
  have hb1 : (0 : Int) ≤ (i : Int) + 1 := by omega
  have hb3 : (i : Int) ≤ (n : Int) + 1 := by omega
  have hb6 : (i : Int) ≤ (n : Int) := by omega
  clear hv1 hg1 hl1 hBl hg hl ht hL
  go_enter Try.func19, Try.ntmps19
  go_wp2_with (simp only [hov])
  go_region_law (refine step_copy_runI rfl _ _ 46 46 rfl _ _ (by simp [Act.eval, Act.put]) (by simp [Act.eval, Act.put]) (hcp1 _ _ _) ?_)
  go_wp2_with (at_builtin; refine wpList_copy_runI _ rfl _ _ 46 46 rfl _ _ rfl rfl (hcp2 _ _) ?_)
  go_ret
  exact ⟨rfl, rfl⟩

set_option maxRecDepth 100000 in
set_option maxHeartbeats 4000000 in
theorem insert_grow (g n i vb : Nat) (L : List Due) (x : Due) (w : World) (cur : List Value) (hg : w.heap[g]? = some (.cells cur.toArray 53 (0, 0))) (hl : cur.length = n * 2) (ht : cur.take (n * 2) = cellsP L) (hL : L.length = n) (hi : i < n) (hn : n ≤ 1000000)
    (hv : Blk w vb 53 #[.int .i64 x.1, .int .i64 x.2]) :
    Calls Try.prog 19 #[.slice (some ⟨g, 0, none⟩) n n, .int .i64 (i : Int), .slice (some ⟨vb, 0, none⟩) 1 1] w fun e w' =>
      ∃ G ROW, e = .returned (.slice (some ⟨w.heap.size, 0, none⟩) (n + 1) G) ∧ n + 1 ≤ G ∧ G ≤ maxLen ∧ ROW.length = G * 2 ∧ ROW.take (i * 2) = cellsP (L.take i) ∧
        w' = ((w.drew.alloc (.cells ROW.toArray 53)).setRow w.heap.size (splice ROW (i * 2) [.int .i64 x.1, .int .i64 x.2]).toArray).drew.setRow w.heap.size (splice (splice ROW (i * 2) [.int .i64 x.1, .int .i64 x.2]) ((i + 1) * 2) (cellsP (L.drop i))).toArray := by
  obtain ⟨i0, hi0, hz0, hz1, hz2⟩ := info_parts info_due
  have hsz : (Try.prog.info? 53).map (·.size) = some 2 := by rw [hi0]; simp [hz1]
  have hBl : (cellsP (L.drop i)).length = (n - i) * 2 := by rw [cells_len, List.length_drop, hL]
  have hAl : (cellsP (L.take i)).length = i * 2 := by rw [cells_len, List.length_take]; omega
  have hbw : g < w.heap.size := Blk.lt (show Blk w g _ _ from hg)
  have hkk : (n : Int) + 1 - (i : Int) = ((n + 1 - i : Nat) : Int) := by omega
  have hik : i + (n + 1 - i) = n + 1 := by omega
  have hA : cur.take (i * 2) = cellsP (L.take i) := by rw [← cells_take, ← ht, List.take_take]; congr 1; omega
  have hold : (Builtin.firstCells i0.size i (.slice (some ⟨g, 0, none⟩) i n)).run Try.prog w.drew = .ok (cellsP (L.take i)).toArray w.drew := by
    rw [hz1]
    exact run_firstCells_some w.drew 2 i ⟨g, 0, none⟩ i n (cellsP (L.take i)) hAl (fun j v hj => by
      have hj2 : j < i * 2 := by have := (List.getElem?_eq_some_iff.1 hj).1; omega
      rw [Addr.add_lit, Nat.zero_add]
      show w.cell? ⟨g, j, none⟩ = some v
      rw [Blk.cell (show Blk w g _ _ from hg), List.getElem?_toArray]
      rw [← hA, List.getElem?_take_of_lt hj2] at hj
      exact hj)
  have hrz : ∀ ty, ∃ G, n + 1 ≤ G ∧ G ≤ maxLen ∧ (Builtin.append_ #[46, 3] ty #[.slice (some ⟨g, 0, none⟩) i n, .int .i64 ((n : Int) + 1 - (i : Int))]).run Try.prog w =
      .ok (.slice (some ⟨w.heap.size, 0, none⟩) (n + 1) G) (w.drew.alloc (.cells ((cellsP (L.take i)).toArray ++ Builtin.zeroCells (Value.agg #[.int .i64 0, .int .i64 0]).cells (n + 1 - i) ++ Builtin.zeroCells (Value.agg #[.int .i64 0, .int .i64 0]).cells (G - (n + 1))) 53)) := fun ty => by
    have h := Lib.run_append_grow_zeros w 46 3 ty 53 i0 _ .i64 .i64 Try.underlying46 Try.underlying3 hi0 hz0 (some ⟨g, 0, none⟩) i n (cellsP (L.take i)) hold (n + 1 - i) (by omega) (by omega) (by omega) (by omega) (by rw [hz2]; omega) (by rw [hz2, hik]; exact growslice_fits (by omega) (by omega))
    rw [hik] at h
    rw [hkk]
    exact ⟨_, grownCap_ge w _ _ _, grownCap_le_maxLen w (n + 1) n _ (by unfold maxLen; omega), h⟩
  obtain ⟨G, hG1, hG2, hrz⟩ := hrz 46
  have hR : ∃ ROW : List Value, ROW.toArray = (cellsP (L.take i)).toArray ++ Builtin.zeroCells (Value.agg #[.int .i64 0, .int .i64 0]).cells (n + 1 - i) ++ Builtin.zeroCells (Value.agg #[.int .i64 0, .int .i64 0]).cells (G - (n + 1)) ∧ ROW.length = G * 2 ∧ ROW.take (i * 2) = cellsP (L.take i) := by
    refine ⟨((cellsP (L.take i)).toArray ++ Builtin.zeroCells (Value.agg #[.int .i64 0, .int .i64 0]).cells (n + 1 - i) ++ Builtin.zeroCells (Value.agg #[.int .i64 0, .int .i64 0]).cells (G - (n + 1))).toList, by simp, ?_, ?_⟩
    · simp [Builtin.zeroCells, Value.cells, hAl]; omega
    · simp only [Array.toList_append]
      rw [List.append_assoc, List.take_append_of_le_length (by simp [hAl]), List.take_of_length_le (by simp [hAl])]
  obtain ⟨ROW, hR1, hR2, hR3⟩ := hR
  rw [← hR1] at hrz
  clear hR1
  have hg1 : (w.drew.alloc (.cells ROW.toArray 53)).heap[w.heap.size]? = some (.cells ROW.toArray 53 (0, 0)) := World.alloc_heap_new w.drew _
  have hv1 : Blk (w.drew.alloc (.cells ROW.toArray 53)) vb 53 #[.int .i64 x.1, .int .i64 x.2] := Blk.alloc (w := w.drew) hv _
  have hs1 : Blk (w.drew.alloc (.cells ROW.toArray 53)) g 53 cur.toArray := Blk.alloc (w := w.drew) hg _
  generalize hW1 : w.drew.alloc (.cells ROW.toArray 53) = W1 at hrz hg1 hv1 hs1
  have hcp1 : ∀ ty dc, (Builtin.copy_ #[46, 46] ty #[.slice (some ⟨w.heap.size, i * 2, none⟩) (n + 1 - i) dc, .slice (some ⟨vb, 0, none⟩) 1 1]).run Try.prog W1 = .ok (goInt (Nat.min 1 (n + 1 - i) : Nat)) (W1.setRow w.heap.size (splice ROW (i * 2) [.int .i64 x.1, .int .i64 x.2]).toArray) := fun ty dc => by
    have h := run_copy_rowK (P := Try.prog) W1 46 46 ty 53 2 w.heap.size (i * 2) (n + 1 - i) dc ⟨vb, 0, none⟩ 1 1 ROW.toArray 53 [.int .i64 x.1, .int .i64 x.2] Try.underlying46 hsz hg1 (by show 2 = min 1 (n + 1 - i) * 2; omega)
      (fun j v hj => by
        rw [Addr.add_lit, hv1.cell, Nat.zero_add, ← Array.getElem?_toList]
        exact hj)
      (by simp; omega) (by intro u hu; simp at hu; rcases hu with rfl | rfl <;> rfl)
    simpa [splice] using h
  have hg2 : (W1.setRow w.heap.size (splice ROW (i * 2) [.int .i64 x.1, .int .i64 x.2]).toArray).drew.heap[w.heap.size]? = some (.cells (splice ROW (i * 2) [.int .i64 x.1, .int .i64 x.2]).toArray 53 (0, 0)) := setRow_heap W1 w.heap.size _ _ _ _ hg1
  have hs2 : Blk (W1.setRow w.heap.size (splice ROW (i * 2) [.int .i64 x.1, .int .i64 x.2]).toArray).drew g 53 cur.toArray := (setRow_other W1 w.heap.size g _ (by omega)).trans hs1
  have hl2 : (splice ROW (i * 2) [.int .i64 x.1, .int .i64 x.2]).length = G * 2 := by rw [length_splice _ _ _ (by simp; omega), hR2]
  generalize hW2 : W1.setRow w.heap.size (splice ROW (i * 2) [.int .i64 x.1, .int .i64 x.2]).toArray = W2 at hcp1 hg2 hs2
  generalize hC2 : splice ROW (i * 2) [.int .i64 x.1, .int .i64 x.2] = C2 at hg2 hl2
  have hcp2 : ∀ ty dc sc, (Builtin.copy_ #[46, 46] ty #[.slice (some ⟨w.heap.size, (i + 1) * 2, none⟩) (n - i) dc, .slice (some ⟨g, i * 2, none⟩) (n - i) sc]).run Try.prog W2.drew = .ok (goInt (Nat.min (n - i) (n - i) : Nat)) (W2.drew.setRow w.heap.size (splice C2 ((i + 1) * 2) (cellsP (L.drop i))).toArray) := fun ty dc sc => by
    have h := run_copy_rowK (P := Try.prog) W2.drew 46 46 ty 53 2 w.heap.size ((i + 1) * 2) (n - i) dc ⟨g, i * 2, none⟩ (n - i) sc C2.toArray 53 (cellsP (L.drop i)) Try.underlying46 hsz hg2 (by rw [hBl]; show _ = min (n - i) (n - i) * 2; omega)
      (fun j v hj => by
        have hj2 : j < (n - i) * 2 := by have := (List.getElem?_eq_some_iff.1 hj).1; omega
        rw [Addr.add_lit, Blk.cell hs2, List.getElem?_toArray]
        rw [← cells_drop, List.getElem?_drop, ← ht, List.getElem?_take_of_lt (by omega)] at hj
        exact hj)
      (by rw [hBl]; simp; omega) (cells_one _)
    simpa [splice] using h
  have hfin : ∀ (e : Ending) (w' : World), (e = .returned (.slice (some ⟨w.heap.size, 0, none⟩) (n + 1) G) ∧ w' = W2.drew.setRow w.heap.size (splice C2 ((i + 1) * 2) (cellsP (L.drop i))).toArray) → ∃ G ROW, e = .returned (.slice (some ⟨w.heap.size, 0, none⟩) (n + 1) G) ∧ n + 1 ≤ G ∧ G ≤ maxLen ∧ ROW.length = G * 2 ∧ ROW.take (i * 2) = cellsP (L.take i) ∧
        w' = ((w.drew.alloc (.cells ROW.toArray 53)).setRow w.heap.size (splice ROW (i * 2) [.int .i64 x.1, .int .i64 x.2]).toArray).drew.setRow w.heap.size (splice (splice ROW (i * 2) [.int .i64 x.1, .int .i64 x.2]) ((i + 1) * 2) (cellsP (L.drop i))).toArray := by
    rintro e w' ⟨rfl, rfl⟩
    exact ⟨G, ROW, rfl, hG1, hG2, hR2, hR3, by subst hC2; subst hW2; subst hW1; rfl⟩
  refine Calls.mono ?_ hfin
  unfold maxLen at hG2
  have hG63 : G ≤ 9223372036854775807 := by omega
  have hGi : ¬ (G = i) := by omega
  have hGim : ¬ (G = i + 1) := by omega
  have hni : ¬ (n = i) := by omega
  have hin : i ≤ n := by omega
  have hz2' : ¬ ((i : Int) = (n : Int)) := by omega
  have hz3 : (n : Int) < (n : Int) + 1 := by omega
  have hw1 : IntKind.i64.wrap ((i : Int) + 1) = (i : Int) + 1 := by rw [IntKind.wrap_i64]; omega
  have hw2 : IntKind.i64.wrap ((n : Int) + 1) = (n : Int) + 1 := by rw [IntKind.wrap_i64]; omega
  have hw3 : IntKind.i64.wrap ((n : Int) + 1 - (i : Int)) = (n : Int) + 1 - (i : Int) := by rw [IntKind.wrap_i64]; omega
  have htn : ((i : Int) + 1).toNat = i + 1 := by omega
  have hb1 : (0 : Int) ≤ (i : Int) + 1 := by omega
  have hb3 : (i : Int) ≤ (n : Int) + 1 := by omega
  have hb6 : (i : Int) ≤ (n : Int) := by omega
  clear hfin hW1 hW2 hC2 hg1 hv1 hs1 hg2 hs2 hl2 hR2 hR3 hold hkk hik hA hAl hBl hg hl ht hL hbw
  go_enter Try.func19, Try.ntmps19
  go_wp2_with (first
    | (at_builtin; refine Lib.wpList_append_run _ rfl _ _ _ _ rfl _ _ rfl rfl _ _ hrz ?_)
    | (at_builtin; refine wpList_copy_runI _ rfl _ _ 46 46 rfl _ _ rfl rfl (hcp1 _ _) ?_))
  go_region_law (refine step_copy_runI rfl _ _ 46 46 rfl _ _ (by simp [Act.eval, Act.put]) (by simp [Act.eval, Act.put]) (hcp2 _ _ _) ?_)
  go_wp2
  go_ret
  exact ⟨rfl, rfl⟩

theorem insert_any (v : Value) (L : List Due) (i : Nat) (x : Due) (base vb : Nat) (w : World) (h : w.ownsRow base 53 2 v L.length (cellsP L)) (hb : base ≤ w.heap.size) (hn : L.length ≤ 1000000) (hi : i ≤ L.length)
    (hv : Blk w vb 53 #[.int .i64 x.1, .int .i64 x.2]) (hne : v.ownBlock ≠ some vb) :
    Calls Try.prog 19 #[v, .int .i64 (i : Int), .slice (some ⟨vb, 0, none⟩) 1 1] w (InsRes base v w (L.take i ++ [x] ++ L.drop i)) := by
  have hlen : (L.take i ++ [x] ++ L.drop i).length = L.length + 1 := by simp; omega
  rcases Nat.eq_or_lt_of_le hi with rfl | hlt
  · have := insert_end v L x base vb w h hb hn hv
    rwa [List.take_length, List.drop_length, List.append_nil]
  · rcases h.2 with ⟨_, h0⟩ | ⟨g, c, cur, rfl, hbg, hg, hnc, hcm, hcs, ht⟩
    · omega
    · have hne' : vb ≠ g := fun e => hne (by rw [e]; rfl)
      have hgs : g < w.heap.size := (Array.getElem?_eq_some_iff.1 hg).1
      by_cases hroom : L.length + 1 ≤ c
      · refine (insert_room g c L.length i vb L x w cur.toList (by simpa using hg) (by simpa using hcs) ht rfl hlt hroom (by unfold maxLen at hcm; omega) hv hne').mono ?_
        rintro e w' ⟨rfl, rfl⟩
        have hg1 := setRow_heap w.drew g cur (splice cur.toList ((i + 1) * 2) (cellsP (L.drop i))).toArray _ _ hg
        have hg2 := setRow_heap _ g _ (splice (splice cur.toList ((i + 1) * 2) (cellsP (L.drop i))) (i * 2) [.int .i64 x.1, .int .i64 x.2]).toArray _ _ hg1
        have hBl : (cellsP (L.drop i)).length = (L.length - i) * 2 := by rw [cells_len, List.length_drop]
        have hcl : cur.toList.length = c * 2 := by simpa using hcs
        have s1 : (splice cur.toList ((i + 1) * 2) (cellsP (L.drop i))).length = c * 2 := by rw [length_splice _ _ _ (by omega)]; exact hcl
        have s2 : (splice (splice cur.toList ((i + 1) * 2) (cellsP (L.drop i))) (i * 2) [.int .i64 x.1, .int .i64 x.2]).length = c * 2 := by rw [length_splice _ _ _ (by simp only [List.length_cons, List.length_nil]; omega)]; exact s1
        refine ⟨_, rfl, ⟨by rw [cells_len], .inr ⟨g, c, _, by rw [hlen], hbg, hg2, by omega, hcm, ?_, ?_⟩⟩, ⟨rfl, rfl, rfl, by simp [World.setRow], fun j hj hjr => ?_⟩, .inl rfl⟩
        · rw [List.size_toArray]; exact s2
        · rw [hlen]
          exact splice_ins cur.toList L i c x hi hroom (by simpa using hcs) ht
        · have hjg : j ≠ g := fun e => hjr (by rw [e]; rfl)
          rw [setRow_other _ g j _ hjg, setRow_other _ g j _ hjg]
          rfl
      · obtain rfl : c = L.length := by omega
        refine (insert_grow g L.length i vb L x w cur.toList (by simpa using hg) (by simpa using hcs) ht rfl hlt hn hv).mono ?_
        rintro e w' ⟨G, ROW, rfl, hG1, hG2, hR1, hR2, rfl⟩
        have hg0 : (w.drew.alloc (.cells ROW.toArray 53)).heap[w.heap.size]? = some (.cells ROW.toArray 53 (0, 0)) := World.alloc_heap_new w.drew _
        have hg1 : (((w.drew.alloc (.cells ROW.toArray 53)).setRow w.heap.size (splice ROW (i * 2) [.int .i64 x.1, .int .i64 x.2]).toArray).drew).heap[w.heap.size]? = _ := setRow_heap _ w.heap.size _ (splice ROW (i * 2) [.int .i64 x.1, .int .i64 x.2]).toArray _ _ hg0
        have hg2 := setRow_heap _ w.heap.size _ (splice (splice ROW (i * 2) [.int .i64 x.1, .int .i64 x.2]) ((i + 1) * 2) (cellsP (L.drop i))).toArray _ _ hg1
        refine ⟨_, rfl, ⟨by rw [cells_len], .inr ⟨w.heap.size, G, _, by rw [hlen], hb, hg2, by omega, hG2, ?_, ?_⟩⟩, ⟨rfl, rfl, rfl, by simp [World.setRow], fun j hj hjr => ?_⟩, .inr rfl⟩
        · rw [List.size_toArray, length_splice _ _ _ (by rw [length_splice _ _ _ (by simp; omega), hR1, cells_len, List.length_drop]; omega), length_splice _ _ _ (by simp; omega), hR1]
        · rw [hlen]
          exact splice_new ROW L i x hi hR2
        · have hjg : j ≠ w.heap.size := by omega
          rw [setRow_other _ _ j _ hjg]
          show (World.setRow _ _ _).heap[j]? = _
          rw [setRow_other _ _ j _ hjg]
          exact Below.heap_alloc w.drew _ j hj
end Go.Proofs.Ytoiakenepmbalaa.Purse
