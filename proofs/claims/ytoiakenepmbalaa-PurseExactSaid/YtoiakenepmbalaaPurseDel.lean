/- The walk of slices.Delete of one due out of an own row. -/
import Derived.Test.YtoiakenepmbalaaPurseRow
import Derived.Test.YtoiakenepmbalaaCopyK
import Derived.Laws.AppendOwn
import Derived.Lib.SliceRun
import Derived.Deep.RegionLaw
namespace Go.Proofs.Ytoiakenepmbalaa.Purse
set_option maxRecDepth 100000
open Go.RowKit
open Go.Proofs.Ytoiakenepmbalaa.Mem
/-- append, as a step of a drawn region, where its run is known -/
theorem step_append_known {P : Program} {ops : Array Oper} {o : Oper} {a : Act} {w : World} {K : Act → World → Prop} {Q : Exit → Act → World → Prop} {E : Prop}
    (hg : o.guard = none) (d x : Operand) (dT sT : TypeId) (hop : o.op = Op.call { callee := Callee.builtin Builtin.append, args := #[d, x], argTypes := #[dT, sT] })
    (v u : Value) (hd : a.eval d = v) (hx : a.eval x = u) {v' : Value} {w' : World} (hr : (Builtin.append_ #[dT, sT] o.type #[v, u]).run P w = .ok v' w') (hK : K (a.put o.dst v') w') :
    if Region.wanted o (yielded ops a.tmps) = true then Oper.wp P o a w K Q else E := by
  have hw : Region.wanted o (yielded ops a.tmps) = true := by simp [Region.wanted, hg]
  rw [if_pos hw]
  unfold Oper.wp
  simp [execOp, hop, resolve, invoke, builtin, hd, hx, hr, Result.andThen]
  exact hK
set_option maxRecDepth 100000 in
set_option maxHeartbeats 4000000 in
theorem delete_walk (g c n i : Nat) (L : List Due) (w : World) (cur : List Value) (hg : w.heap[g]? = some (.cells cur.toArray 53 (0, 0))) (hl : cur.length = c * 2) (ht : cur.take (n * 2) = cellsP L) (hL : L.length = n) (hi : i < n) (hc : n ≤ c) :
    Calls Try.prog 21 #[.slice (some ⟨g, 0, none⟩) n c, .int .i64 (i : Int), .int .i64 ((i : Int) + 1)] w fun e w' =>
      e = .returned (.slice (some ⟨g, 0, none⟩) (n - 1) c) ∧ w' = (w.drew.setRow g (splice cur (i * 2) (cellsP (L.drop (i + 1)))).toArray).setRow g (splice (splice cur (i * 2) (cellsP (L.drop (i + 1)))) ((n - 1) * 2) [.int .i64 0, .int .i64 0]).toArray := by
  obtain ⟨i0, hi0, hz0, hz1, hz2⟩ := info_parts info_due
  have hBl : (cellsP (L.drop (i + 1))).length = (n - (i + 1)) * 2 := by rw [cells_len, List.length_drop, hL]
  obtain ⟨A, hA, hsrc⟩ : ∃ A : Addr, (if c = i + 1 then some (⟨g, 0, none⟩ : Addr) else some ⟨g, (i + 1) * 2, none⟩) = some A ∧ (∀ t u, (cellsP (L.drop (i + 1)))[t]? = some u → w.drew.cell? (A.add t) = some u) := by
    by_cases h : c = i + 1
    · refine ⟨⟨g, 0, none⟩, by simp [h], fun t u hu => ?_⟩
      have := (List.getElem?_eq_some_iff.1 hu).1
      omega
    · refine ⟨⟨g, (i + 1) * 2, none⟩, by simp [h], fun t u hu => ?_⟩
      have hj2 : t < (n - (i + 1)) * 2 := by have := (List.getElem?_eq_some_iff.1 hu).1; omega
      rw [Addr.add_lit]
      show w.cell? ⟨g, (i + 1) * 2 + t, none⟩ = some u
      rw [Blk.cell (show Blk w g _ _ from hg), List.getElem?_toArray]
      rw [← cells_drop, List.getElem?_drop, ← ht, List.getElem?_take_of_lt (by omega)] at hu
      exact hu
  have hap : ∀ ty sc, (Builtin.append_ #[46, 46] ty #[.slice (some ⟨g, 0, none⟩) i c, .slice (some A) (n - (i + 1)) sc]).run Try.prog w.drew = .ok (.slice (some ⟨g, 0, none⟩) (i + (n - (i + 1))) c) (w.drew.setRow g (splice cur (i * 2) (cellsP (L.drop (i + 1)))).toArray) := fun ty sc => by
    have h := run_append_room (P := Try.prog) w.drew 46 ty 53 i0 Try.underlying46 hi0 g i c cur.toArray hg A (n - (i + 1)) sc (cellsP (L.drop (i + 1))) (by rw [hBl, hz1]) hsrc (cells_one _) (by omega) (by rw [hBl, hz1]; simp; omega)
    rw [hz1] at h
    simpa [splice] using h
  have hin : i + (n - (i + 1)) = n - 1 := by omega
  rw [hin] at hap
  have hg1 : (w.drew.setRow g (splice cur (i * 2) (cellsP (L.drop (i + 1)))).toArray).heap[g]? = some (.cells (splice cur (i * 2) (cellsP (L.drop (i + 1)))).toArray 53 (0, 0)) := setRow_heap w.drew g _ _ _ _ hg
  have hl1 : (splice cur (i * 2) (cellsP (L.drop (i + 1)))).length = c * 2 := by rw [length_splice _ _ _ (by omega), hl]
  generalize hW1 : w.drew.setRow g (splice cur (i * 2) (cellsP (L.drop (i + 1)))).toArray = W1 at hap hg1 ⊢
  generalize splice cur (i * 2) (cellsP (L.drop (i + 1))) = c1 at hg1 hl1 ⊢
  have hcl : ∀ ty cc, (Builtin.clear_ #[46] ty #[.slice (some ⟨g, (n - 1) * 2, none⟩) (n - (n - 1)) cc]).run Try.prog W1 = .ok (.tuple #[]) (W1.setRow g (splice c1 ((n - 1) * 2) [.int .i64 0, .int .i64 0]).toArray) := fun ty cc => by
    have hst := run_storeCells_at Try.prog g ((n - 1) * 2) 53 [.int .i64 0, .int .i64 0] 0 c1.toArray W1 hg1 (by simp; omega) (by intro u hu; simp at hu; rcases hu with rfl | rfl <;> rfl)
    simp only [Nat.add_zero] at hst
    have h1 : n - (n - 1) = 0 + 1 := by omega
    have hzc : (Builtin.zeroCells (Value.agg #[.int .i64 0, .int .i64 0]).cells (0 + 1)).toList = [.int .i64 0, .int .i64 0] := by kernel_rfl
    have hzv : ∀ w, (zeroValue 53).run Try.prog w = .ok (Value.agg #[.int .i64 0, .int .i64 0]) w := fun w => by simp [zeroValue, typeInfo, hi0, hz0]
    rw [h1]
    simp [Builtin.clear_, run_underlying Try.underlying46, hzv, hzc, hst, splice]
  have hin2 : i ≤ n := by omega
  have hic : i ≤ c := by omega
  have hjc : i + 1 ≤ c := by omega
  have hjn : i + 1 ≤ n := by omega
  have hne : ¬ ((i : Int) = (i : Int) + 1) := by omega
  have htn : ((i : Int) + 1).toNat = i + 1 := by omega
  have hb1 : (0 : Int) ≤ (i : Int) + 1 := by omega
  have hb2 : (i : Int) ≤ (i : Int) + 1 := by omega
  have hb3 : (i : Int) + 1 ≤ (n : Int) := by omega
  have hb4 : (i : Int) + 1 ≤ (c : Int) := by omega
  have hb5 : (n : Int) ≤ (c : Int) := by omega
  have hnc : ¬ (c = n - 1) := by omega
  have hn1 : n - 1 ≤ n := by omega
  clear hg1 hl1 hBl hg hl ht hL hsrc hin
  go_enter Try.func21, Try.ntmps21
  go_wp2_with fail
  go_region_law (refine step_append_known rfl (.tmp 22) (.tmp 25) 46 46 rfl (.slice (some ⟨g, 0, none⟩) i c) (.slice (some A) (n - (i + 1)) (c - (i + 1))) (by simp [Act.eval, Act.put]) (by simp [Act.eval, Act.put]) (hap _ _) ?_)
  go_wp2
  go_ret
  exact ⟨rfl, rfl⟩
theorem delete_any (v : Value) (L : List Due) (i : Nat) (base : Nat) (w : World) (h : w.ownsRow base 53 2 v L.length (cellsP L)) (hi : i < L.length) :
    Calls Try.prog 21 #[v, .int .i64 (i : Int), .int .i64 ((i : Int) + 1)] w (InsRes base v w (L.take i ++ L.drop (i + 1))) := by
  have hlen : (L.take i ++ L.drop (i + 1)).length = L.length - 1 := by simp; omega
  rcases h.2 with ⟨_, h0⟩ | ⟨g, c, cur, rfl, hbg, hg, hnc, hcm, hcs, ht⟩
  · omega
  · have hBl : (cellsP (L.drop (i + 1))).length = (L.length - (i + 1)) * 2 := by rw [cells_len, List.length_drop]
    have hcl : cur.toList.length = c * 2 := by simpa using hcs
    refine (delete_walk g c L.length i L w cur.toList (by simpa using hg) hcl ht rfl hi hnc).mono ?_
    rintro e w' ⟨rfl, rfl⟩
    have hg1 := setRow_heap w.drew g cur (splice cur.toList (i * 2) (cellsP (L.drop (i + 1)))).toArray _ _ hg
    have hg2 := setRow_heap _ g _ (splice (splice cur.toList (i * 2) (cellsP (L.drop (i + 1)))) ((L.length - 1) * 2) [.int .i64 0, .int .i64 0]).toArray _ _ hg1
    have s1 : (splice cur.toList (i * 2) (cellsP (L.drop (i + 1)))).length = c * 2 := by rw [length_splice _ _ _ (by omega)]; exact hcl
    have s2 : (splice (splice cur.toList (i * 2) (cellsP (L.drop (i + 1)))) ((L.length - 1) * 2) [.int .i64 0, .int .i64 0]).length = c * 2 := by rw [length_splice _ _ _ (by simp only [List.length_cons, List.length_nil]; omega)]; exact s1
    refine ⟨_, rfl, ⟨by rw [cells_len], .inr ⟨g, c, _, by rw [hlen], hbg, hg2, by omega, hcm, ?_, ?_⟩⟩, ⟨rfl, rfl, rfl, by simp [World.setRow], fun j hj hjr => ?_⟩, .inl rfl⟩
    · rw [List.size_toArray]; exact s2
    · rw [hlen]
      exact splice_del cur.toList L i c hi hnc hcl ht _
    · have hjg : j ≠ g := fun e => hjr (by rw [e]; rfl)
      rw [setRow_other _ g j _ hjg, setRow_other _ g j _ hjg]
      rfl
end Go.Proofs.Ytoiakenepmbalaa.Purse
