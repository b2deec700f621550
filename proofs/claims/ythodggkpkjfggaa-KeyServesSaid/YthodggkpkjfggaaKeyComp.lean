/- slices.Compact of a row of edges: what is left was there. -/
import Derived.Test.YthodggkpkjfggaaKeyEdge
namespace Go.Proofs.Ythodggkpkjfggaa.Key
set_option maxRecDepth 100000
open Go.RowKit
open Go.Proofs.Ythodggkpkjfggaa.Mem
open Go.Maps
def CompRes (B : Nat) (L : List Rq) (w : World) (e : Ending) (w' : World) : Prop := ∃ v' L', e = .returned v' ∧ L'.length ≤ L.length ∧ (∀ x ∈ L', x ∈ L) ∧ w'.ownsRow B 52 2 v' L'.length (reqV L') ∧ Below B w w'
theorem comp_same {B : Nat} {v : Value} {L : List Rq} {w W : World} (h : w.ownsRow B 52 2 v L.length (reqV L)) (hB : B ≤ w.heap.size) (hb : Below w.heap.size w W) : CompRes B L w (.returned v) W :=
  ⟨v, L, rfl, Nat.le_refl _, fun _ hx => hx, own_below h hb, hb.mono hB⟩
theorem quiet_cell {w : World} {a : Addr} {v : Value} (h : w.cell? a = some v) (q : Nat) : (w.drewN q).cell? a = some v := h
/-- the row as it is worked on -/
def Cp (w W : World) (g cap : Nat) (L : List Rq) : Prop := ∃ A, A.length = L.length ∧ (∀ x ∈ A, x ∈ L) ∧ RwE W g cap A ∧ Keep (fun j => j < w.heap.size ∧ j ≠ g) w W
set_option maxRecDepth 100000 in
set_option maxHeartbeats 4000000 in
theorem comp_any (B : Nat) (v : Value) (L : List Rq) (w : World) (h : w.ownsRow B 52 2 v L.length (reqV L)) (hB : B ≤ w.heap.size) (hl : L.length ≤ 1000000) :
    Calls Try.prog 35 #[v] w (CompRes B L w) := by
  have HN : Hid (∀ q, CompRes B L w (.returned v) (w.drewN q)) := Lib.hid fun q => comp_same h hB ⟨rfl, rfl, rfl, Nat.le_refl _, fun _ _ => rfl⟩
  by_cases hlt : L.length < 2
  · obtain ⟨a, c, rfl⟩ := own_shape h
    clear h
    go_enter Try.func35, Try.ntmps35
    go_wp2
    go_ret
    exact HN.out 0
  · rcases h.2 with ⟨_, h0⟩ | ⟨g, cap, cur, rfl, hbase, hb, h1, h2, h3, h4⟩
    · omega
    have HR := Lib.hid (show RwE w g cap L from ⟨cur, hb, h3, h1, h4⟩)
    have hgw : g < w.heap.size := HR.out.lt
    clear h hb h3 h4
    obtain ⟨n, hn⟩ : ∃ n, L.length = n := ⟨_, rfl⟩
    have HLN := Lib.hid hn
    rw [hn] at hlt h1 hl HN ⊢
    clear hn
    have hn2 : 2 ≤ n := by omega
    go_enter Try.func35, Try.ntmps35
    go_wp2_with fail
    go_loopw [3] (fun t wr => ∃ k : Nat, 1 ≤ k ∧ k ≤ n ∧ t = .int .i64 (k : Int) ∧ (∃ q, wr = w.drewN q)) (fun t _ => n - (intOf t).toNat)
    case atStart => exact ⟨1, by omega, by omega, rfl, 0, rfl⟩
    case round =>
      obtain ⟨k, hk1, hkn, rfl, q, rfl⟩ := hrel
      by_cases hkl : k < n
      · obtain ⟨m, rfl⟩ : ∃ m, k = m + 1 := ⟨k - 1, by omega⟩
        have hkL : m + 1 < L.length := by rw [HLN.out]; exact hkl
        have hx : L[m + 1]? = some L[m + 1] := List.getElem?_eq_getElem hkL
        have hy : L[m]? = some L[m] := List.getElem?_eq_getElem (by omega)
        generalize L[m + 1] = x at hx
        generalize L[m] = y at hy
        obtain ⟨⟨c0, c1⟩, -⟩ := HR.out.at_ hx
        obtain ⟨⟨d0, d1⟩, -⟩ := HR.out.at_ hy
        have c0 := quiet_cell c0 q
        have c1 := quiet_cell c1 q
        have d0 := quiet_cell d0 q
        have d1 := quiet_cell d1 q
        have hws : IntKind.i64.wrap (((m + 1 : Nat) : Int) - 1) = (m : Int) := by rw [IntKind.wrap_i64]; omega
        have hq1 := fun W => run_eq_edge x y W
        have hgd := fun op A B xs ys W => run_guard_edge op A B xs ys W
        have hml : m < n := by omega
        obtain ⟨x1, x2⟩ := x
        obtain ⟨y1, y2⟩ := y
        dsimp only at hq1 c0 c1 d0 d1
        generalize sameR ⟨x1, x2⟩ ⟨y1, y2⟩ = eqb at hq1
        clear hx hy hkL
        go_wp2_with fail
        go_quiet (fail)
        clear hq1 hgd c0 c1 d0 d1
        cases eqb with
        | false =>
          go_wp2
          go_roundw
          case rel => exact ⟨m + 1 + 1, by omega, by omega, by go_num, q + nq, by first | rfl | exact World.drewN_drewN _ _ _⟩
          case measure => simp [intOf]; omega
        | true =>
          have HC : Hid (Cp w ((w.drewN q).drewN nq) g cap L) := Lib.hid ⟨L, rfl, fun _ h => h, HR.out, ((Keep.refl _ w).drewN q).drewN nq⟩
          obtain ⟨W0, hW0⟩ : ∃ W0, (w.drewN q).drewN nq = W0 := ⟨_, rfl⟩
          rw [hW0] at HC ⊢
          have hcn : ¬ (cap = m + 1) := by omega
          have hm1c : m + 1 ≤ cap := by omega
          clear hW0 HR HN
          go_wp2_with fail
          go_loopw [3, 5] (fun t t2 wr => ∃ kk k2 : Nat, t = .int .i64 (kk : Int) ∧ t2 = .int .i64 (k2 : Int) ∧ 1 ≤ kk ∧ 1 ≤ k2 ∧ kk ≤ m + k2 ∧ m + 1 + k2 ≤ n ∧ Hid (Cp w wr g cap L)) (fun _ t2 _ => n - (intOf t2).toNat)
          case atStart => exact ⟨m + 1, 1, rfl, rfl, by omega, by omega, by omega, by omega, HC⟩
          case round =>
            obtain ⟨kk, k2, rfl, rfl, hkk, hk2, hkm, hkn2, HK⟩ := hrel
            clear HC
            by_cases hlt2 : k2 < n - (m + 1)
            · obtain ⟨j, rfl⟩ : ∃ j, k2 = j + 1 := ⟨k2 - 1, by omega⟩
              obtain ⟨A, hA1, hA2, hA3, hA4⟩ := HK.out
              have hAn : A.length = n := by rw [hA1, HLN.out]
              have hx : A[m + 1 + (j + 1)]? = some A[m + 1 + (j + 1)] := List.getElem?_eq_getElem (by omega)
              have hy : A[m + 1 + j]? = some A[m + 1 + j] := List.getElem?_eq_getElem (by omega)
              have HXM := Lib.hid (hA2 _ (List.getElem_mem (show m + 1 + (j + 1) < A.length by omega)))
              generalize A[m + 1 + (j + 1)] = x at hx HXM
              generalize A[m + 1 + j] = y at hy
              have hz : A[kk]? = some A[kk] := List.getElem?_eq_getElem (by omega)
              generalize A[kk] = z at hz
              obtain ⟨⟨c0, c1⟩, -⟩ := hA3.at_ hx
              obtain ⟨⟨d0, d1⟩, -⟩ := hA3.at_ hy
              obtain ⟨⟨e0, e1⟩, f0, f1⟩ := hA3.at_ hz
              have a1 : (m + 1 + (j + 1)) * 2 = (m + 1) * 2 + (j + 1) * 2 := by omega
              have a2 : (m + 1 + j) * 2 = (m + 1) * 2 + j * 2 := by omega
              rw [a1] at c0 c1
              rw [a2] at d0 d1
              clear a1 a2
              have hws2 : IntKind.i64.wrap (((j + 1 : Nat) : Int) - 1) = (j : Int) := by rw [IntKind.wrap_i64]; omega
              have hq1 := fun W => run_ne_edge x y W
              have hgd := fun op A B xs ys W => run_guard_edge op A B xs ys W
              have hjn : j < n - (m + 1) := by omega
              have hkkn : kk < n := by omega
              have HA3 := Lib.hid hA3
              have HA4 := Lib.hid hA4
              have HA1 := Lib.hid hA1
              have HA2 := Lib.hid hA2
              obtain ⟨x1, x2⟩ := x
              obtain ⟨y1, y2⟩ := y
              obtain ⟨z1, z2⟩ := z
              dsimp only at hq1 c0 c1 d0 d1 e0 e1
              generalize sameR ⟨x1, x2⟩ ⟨y1, y2⟩ = eqb at hq1
              clear hx hy hz hA1 hA2 hA3 hA4 HK
              have hkA : kk < A.length := by omega
              have HKA := Lib.hid hkA
              clear hAn hkA
              go_wp2_with fail
              go_quiet (fail)
              obtain ⟨W1, hW1⟩ : ∃ W1, wr.drewN nq = W1 := ⟨_, rfl⟩
              have HR1 : Hid (RwE W1 g cap A) := Lib.hid (by rw [← hW1]; exact HA3.out)
              have HK1 : Hid (Keep (fun j => j < w.heap.size ∧ j ≠ g) w W1) := Lib.hid (by rw [← hW1]; exact HA4.out.drewN nq)
              rw [hW1]
              have c0 : W1.cell? ⟨g, (m + 1) * 2 + (j + 1) * 2, none⟩ = some (.int .i64 x1) := by rw [← hW1]; exact c0
              have c1 : W1.cell? ⟨g, (m + 1) * 2 + (j + 1) * 2 + 1, none⟩ = some (.int .i64 x2) := by rw [← hW1]; exact c1
              have e0 : W1.cell? ⟨g, kk * 2, none⟩ = some (.int .i64 z1) := by rw [← hW1]; exact e0
              have e1 : W1.cell? ⟨g, kk * 2 + 1, none⟩ = some (.int .i64 z2) := by rw [← hW1]; exact e1
              have f0 : W1.frozen? ⟨g, kk * 2, none⟩ = false := by rw [← hW1]; exact f0
              have f1 : W1.frozen? ⟨g, kk * 2 + 1, none⟩ = false := by rw [← hW1]; exact f1
              clear hW1 HA3 HA4 d0 d1 hq1 hgd
              cases eqb with
              | true =>
                have HE : Hid (Cp w W1 g cap L) := Lib.hid ⟨A, HA1.out, HA2.out, HR1.out, HK1.out⟩
                clear HR1 HK1 HA1 HA2 HXM HKA c0 c1 e0 e1 f0 f1
                go_wp2
                go_roundw
                case rel => exact ⟨kk, j + 1 + 1, rfl, by go_num, by omega, by omega, by omega, by omega, HE⟩
                case measure => simp [intOf]; omega
              | false =>
                obtain ⟨W2, hW2⟩ : ∃ W2, sixE W1 g kk ⟨x1, x2⟩ = W2 := ⟨_, rfl⟩
                have HE : Hid (Cp w W2 g cap L) := Lib.hid ⟨A.set kk ⟨x1, x2⟩, by rw [List.length_set]; exact HA1.out, fun u hu => by
                  rcases List.mem_or_eq_of_mem_set hu with h | h
                  · exact HA2.out u h
                  · rw [h]; exact HXM.out, by rw [← hW2]; exact HR1.out.six HKA.out _, by rw [← hW2]; exact sixE_keep HK1.out (fun h => h.2 rfl) kk _⟩
                have HW2 : Hid ((W1.setCell ⟨g, kk * 2, none⟩ (.int .i64 x1)).setCell ⟨g, kk * 2 + 1, none⟩ (.int .i64 x2) = W2) := Lib.hid hW2
                clear HR1 HK1 HA1 HA2 HXM HKA hW2
                go_upto_region 13 with (fail)
                rw [HW2.out]
                clear HW2 c0 c1 e0 e1 f0 f1
                go_wp2
                go_roundw
                case rel => exact ⟨kk + 1, j + 1 + 1, by go_num, by go_num, by omega, by omega, by omega, by omega, HE⟩
                case measure => simp [intOf]; omega
            · have hk2n : m + 1 + k2 = n := by omega
              have hkkn : kk < n := by omega
              obtain ⟨A, hA1, hA2, hR, hK⟩ := HK.out
              obtain ⟨cur, b1, b2, b3, b4⟩ := hR
              have hAn : A.length = n := by rw [hA1, HLN.out]
              have hg1 := setRow_heap wr g cur (splice cur.toList (kk * 2) (zl (n - kk))).toArray _ _ b1
              have hcl0 : cur.toList.length = cap * 2 := by simpa using b2
              have hcl : ∀ ty c2, (Builtin.clear_ #[37] ty #[.slice (some ⟨g, kk * 2, none⟩) (n - kk) c2]).run Try.prog wr = .ok (.tuple #[]) (wr.setRow g (splice cur.toList (kk * 2) (zl (n - kk))).toArray) := fun ty c2 => by
                have hst := run_storeCells_at Try.prog g (kk * 2) 52 (zl (n - kk)) 0 cur wr b1 (by rw [zl_len, b2]; omega) (zl_one _)
                simp only [Nat.add_zero] at hst
                obtain ⟨i0, hi0, hz0, hz1, hz2⟩ := info_parts info_edge
                obtain ⟨mm, hm⟩ : ∃ mm, n - kk = mm + 1 := ⟨n - kk - 1, by omega⟩
                have hzv : ∀ w, (zeroValue 52).run Try.prog w = .ok (Value.agg #[.int .i64 0, .int .i64 0]) w := fun w => by simp [zeroValue, typeInfo, hi0, hz0]
                rw [hm] at hst ⊢
                unfold zl at hst
                simp [Builtin.clear_, run_underlying Try.underlying37, hzv, hst, splice, zl]
              obtain ⟨W2, hW2⟩ : ∃ W2, wr.setRow g (splice cur.toList (kk * 2) (zl (n - kk))).toArray = W2 := ⟨_, rfl⟩
              rw [hW2] at hg1 hcl
              have FIN : Hid (CompRes B L w (.returned (.slice (some ⟨g, 0, none⟩) kk cap)) W2) := by
                have hlk : (A.take kk).length = kk := by rw [List.length_take]; omega
                have hsz : W2.heap.size = wr.heap.size := by rw [← hW2]; simp [World.setRow]
                refine Lib.hid ⟨_, A.take kk, rfl, by rw [hlk, HLN.out]; omega, fun x hx => hA2 x (List.mem_of_mem_take hx), ⟨by rw [req_len], .inr ⟨g, cap, _, by rw [hlk], hbase, hg1, by omega, h2, ?_, ?_⟩⟩, ⟨by rw [← hW2]; exact hK.os, by rw [← hW2]; exact hK.tape, by rw [← hW2]; exact hK.output, by rw [hsz]; exact hK.size, fun j hj => ?_⟩⟩
                · rw [List.size_toArray, length_splice _ _ _ (by rw [zl_len]; omega)]; exact hcl0
                · rw [hlk, ← req_take, ← b4]
                  unfold splice
                  rw [List.take_append_of_le_length (by rw [List.length_take]; omega), List.take_take, Nat.min_self, List.take_take]
                  congr 1
                  omega
                · have hjg : j ≠ g := by omega
                  have e1 : W2.heap[j]? = wr.heap[j]? := by rw [← hW2]; exact setRow_other _ g j _ hjg
                  exact e1.trans (hK.block j ⟨by omega, hjg⟩)
              have HCL := Lib.hid hcl
              have hcn2 : ¬ (cap = kk) := by omega
              have hkc : kk ≤ cap := by omega
              clear hA1 hA2 hK b1 b2 b3 b4 hg1 hcl0 hcl HK hAn hW2
              have hcl := HCL.out
              clear HCL
              go_wp2
              go_ret
              exact FIN.out
      · obtain rfl : k = n := by omega
        have FIN := Lib.hid (HN.out q)
        clear HN HR
        go_wp2
        go_ret
        exact FIN.out
end Go.Proofs.Ythodggkpkjfggaa.Key
