/- slices.Concat of two rows of numbers. -/
import Derived.Test.YthodggkpkjfggaaKeySettle
import Derived.Lib.AppendZeros
namespace Go.Proofs.Ythodggkpkjfggaa.Key
set_option maxRecDepth 100000
open Go.RowKit
open Go.Proofs.Ythodggkpkjfggaa.Mem
/-- append of a row of the call's own to another one -/
theorem run_appL {P : Program} {w : World} {B B2 : Nat} {T ty e : TypeId} {i : TypeInfo} {z : Value} {size bytes : Nat} (ht : P.underlying T = some (.slice e)) (hi : P.info? e = some i) (hz : i.zero = some z) (hsize : i.size = size) (hby : i.bytes = bytes) (hzs : z.cells.size = size) (hsz : 0 < size)
    {v : Value} {n : Nat} {xs : List Value} (hown : w.ownsRow B e size v n xs) {p : Option Addr} {m q : Nat} {ys : List Value} (hl : w.ownsRow B2 e size (.slice p m q) m ys) (h1 : ∀ u ∈ ys, u.oneCell' = true)
    (h63 : n + m ≤ maxLen) (hbytes : (n + m) * bytes ≤ 140737488355328) (hB : B ≤ w.heap.size) :
    ∃ v' w', (Builtin.append_ #[T, T] ty #[v, .slice p m q]).run P w = .ok v' w' ∧ w'.ownsRow B e size v' (n + m) (xs ++ ys) ∧ w.grownBy w' v.ownBlock ∧ (v'.ownBlock = v.ownBlock ∨ v'.ownBlock = some w.heap.size) := by
  have hl0 := hl.1
  rcases hl.2 with ⟨e1, e2⟩ | ⟨g, c, cur, e1, hb, hg, hnc, hcm, hcs, htk⟩
  · injection e1 with e1 _ e3
    subst e1; subst e2; subst e3
    obtain rfl : ys = [] := List.eq_nil_of_length_eq_zero (by simpa using hl0)
    refine ⟨v, w, ?_, by simpa using hown, World.grownBy.refl _ _, .inl rfl⟩
    obtain ⟨ha, ⟨rfl, rfl⟩ | ⟨g, c, cur, rfl, hb, hg, hnc, _⟩⟩ := hown
    · simp [Builtin.append_, run_underlying ht, sizeOf, typeInfo, hi, Builtin.lenOf, Builtin.firstCells]
    · simp [Builtin.append_, run_underlying ht, sizeOf, typeInfo, hi, Builtin.lenOf, Builtin.firstCells, hnc, storeCells]
  · injection e1 with e1 _ e3
    subst e1; subst e3
    have hc : ∀ j u, ys[j]? = some u → w.cell? ((⟨g, 0, none⟩ : Addr).add j) = some u := fun j u hj => by
      rw [Addr.add_lit, Nat.zero_add, Blk.cell (show Blk w g _ _ from hg)]
      have hlt := (List.getElem?_eq_some_iff.1 hj).1
      rw [← htk, List.getElem?_take_of_lt (by rw [hl0] at hlt; exact hlt), Array.getElem?_toList] at hj
      exact hj
    obtain ⟨v', w', hr, h2, h3, _, h5⟩ := run_append_own_at (P := P) w B T ty e i z size bytes ht hi hz hsize hby hzs hsz v n xs hown ⟨g, 0, none⟩ m q ys hl0 hc h1 h63 hbytes hB
    exact ⟨v', w', hr, h2, h3, h5⟩
theorem ints_one (l : List Int) : ∀ u ∈ l.map (Value.int .i64), u.oneCell' = true := fun u hu => by
  obtain ⟨x, _, rfl⟩ := List.mem_map.1 hu; rfl
theorem wpList_appI {w : World} {ops : Array Oper} {rest : List Oper} {o : Oper} {a : Act} {Q : Exit → Act → World → Prop} (hgd : o.guard = none) (s x : Operand)
    (ho : o.op = .call { callee := .builtin .append, args := #[s, x], argTypes := #[26, 26] }) (B B2 : Nat)
    (v : Value) (L l : List Int) (hs : a.eval s = v) (hown : w.ownsRow B 3 1 v L.length (L.map (Value.int .i64))) (p : Option Addr) (q : Nat) (hx : a.eval x = .slice p l.length q)
    (hl : w.ownsRow B2 3 1 (.slice p l.length q) l.length (l.map (Value.int .i64))) (hn : L.length + l.length ≤ 3000000) (hB : B ≤ w.heap.size)
    (h : ∀ v' w', w'.ownsRow B 3 1 v' (L ++ l).length ((L ++ l).map (Value.int .i64)) → w.grownBy w' v.ownBlock → (v'.ownBlock = v.ownBlock ∨ v'.ownBlock = some w.heap.size) → wpList Try.prog ops Q rest (a.put o.dst v') w') : wpList Try.prog ops Q (o :: rest) a w := by
  obtain ⟨i0, hi, hz0, hz1, hz2⟩ := info_parts info_int
  refine wpList_plain hgd fun K hK => ?_
  obtain ⟨v', w', hr, h2, h3, h4⟩ := run_appL (P := Try.prog) (ty := o.type) Try.underlying26 hi hz0 hz1 hz2 rfl (by decide) hown hl (ints_one _) (by unfold maxLen; omega) (by omega) hB
  unfold Oper.wp execOp
  simp only [ho, resolve, invoke, builtin, Sem.run_bind, Sem.run_pure, Result.andThen_ok, List.map_toArray, List.map_cons, List.map_nil, hs, hx, hr]
  refine hK _ _ (h v' w' ?_ h3 h4)
  rw [List.length_append, List.map_append]; exact h2
def GrowRes (w : World) (e : Ending) (w' : World) : Prop := ∃ v, e = .returned v ∧ w'.ownsRow w.heap.size 3 1 v 0 [] ∧ Below w.heap.size w w'
set_option maxRecDepth 100000 in
set_option maxHeartbeats 1000000 in
theorem grow_any (n : Nat) (w : World) (hn : n ≤ 100000) : Calls Try.prog 81 #[.slice none 0 0, .int .i64 (n : Int)] w (GrowRes w) := by
  by_cases h0 : n = 0
  · subst h0
    have FIN : Hid (GrowRes w (.returned (.slice none 0 0)) w) := Lib.hid ⟨_, rfl, own_nil _ _ _ _, Below.refl _ _⟩
    go_enter Try.func81, Try.ntmps81
    go_wp2
    go_ret
    exact FIN.out
  · have hpos : 0 < n := by omega
    have hposi : (0 : Int) < (n : Int) := by omega
    obtain ⟨i0, hi, hz0, hz1, hz2⟩ := info_parts info_int
    have HRUN := Lib.hid (fun ty => Lib.run_append_nil_zeros (P := Try.prog) w 26 3 ty 3 i0 (.int .i64 0) .i64 .i64 Try.underlying26 Try.underlying3 hi hz0 n hpos (by omega) (by omega) (by rw [hz2]; omega))
    have hcap := grownCap_ge w n 0 3
    have hcm := grownCap_le_maxLen w n 0 3 (by unfold maxLen; omega)
    generalize grownCap w n 0 3 = c at hcap hcm HRUN
    have FIN : Hid (GrowRes w (.returned (.slice (some ⟨w.heap.size, 0, none⟩) 0 c)) (w.drew.alloc (.cells (Builtin.zeroCells (Value.int IntKind.i64 0).cells n ++ Builtin.zeroCells (Value.int IntKind.i64 0).cells (c - n)) 3))) := Lib.hid ⟨_, rfl, ⟨rfl, .inr ⟨w.heap.size, c, _, rfl, Nat.le_refl _, World.alloc_heap_new w.drew _, Nat.zero_le _, hcm, by simp [Builtin.zeroCells, Value.cells]; omega, by simp⟩⟩, (Below.refl _ _).drew.alloc (Nat.le_refl _) _⟩
    clear hcm
    clear h0
    go_enter Try.func81, Try.ntmps81
    go_wp2_with (at_builtin; refine Lib.wpList_append_run _ rfl _ _ _ _ rfl _ _ rfl rfl _ _ (HRUN.out _) ?_)
    go_ret
    exact FIN.out
def catF (A B : List Int) : Nat → List Int
  | 0 => []
  | 1 => A
  | _ => A ++ B
def twoF (A B : List Int) : Nat → List Int
  | 0 => A
  | _ => B
def CatRes (A B : List Int) (w : World) (e : Ending) (w' : World) : Prop := ∃ v, e = .returned v ∧ w'.ownsRow w.heap.size 3 1 v (A ++ B).length ((A ++ B).map (Value.int .i64)) ∧ Below w.heap.size w w'
set_option maxRecDepth 100000 in
set_option maxHeartbeats 4000000 in
theorem concat_any (sb : Nat) (A B : List Int) (va vb : Value) (w : World) (hsb : Blk w sb 26 #[va, vb]) (ha : w.ownsRow 0 3 1 va A.length (A.map (Value.int .i64))) (hb : w.ownsRow 0 3 1 vb B.length (B.map (Value.int .i64))) (hA : A.length ≤ 2000) (hB : B.length ≤ 2000) :
    Calls Try.prog 69 #[.slice (some ⟨sb, 0, none⟩) 2 2] w (CatRes A B w) := by
  have HSB := Lib.hid hsb
  have HA := Lib.hid ha
  have HB := Lib.hid hb
  obtain ⟨a1, k1, rfl⟩ := own_shape ha
  obtain ⟨a2, k2, rfl⟩ := own_shape hb
  have c0 : w.cell? ⟨sb, 0, none⟩ = some (.slice a1 A.length k1) := hsb.cell 0
  have c1 : w.cell? ⟨sb, 0 + 1, none⟩ = some (.slice a2 B.length k2) := hsb.cell 1
  have c1' : w.cell? ⟨sb, 1, none⟩ = some (.slice a2 B.length k2) := hsb.cell 1
  clear hsb ha hb
  go_enter Try.func69, Try.ntmps69
  go_wp2_with fail
  go_loopw [3, 11] (fun t i wr => ∃ j : Nat, j ≤ 2 ∧ t = .int .i64 ((catF A B j).length : Int) ∧ i = .int .i64 (j : Int) ∧ w = wr) (fun _ i _ => 2 - (intOf i).toNat)
  case atStart => exact ⟨0, by omega, rfl, rfl, rfl⟩
  case round =>
    obtain ⟨j, hj, rfl, rfl, rfl⟩ := hrel
    rcases (show j = 0 ∨ j = 1 ∨ j = 2 by omega) with rfl | rfl | rfl
    · have e : (catF A B 0).length = 0 := rfl
      rw [e]
      clear e hj
      go_wp2
      go_roundw
      case rel => exact ⟨1, by omega, rfl, rfl, by first | rfl | trivial⟩
      case measure => simp [intOf]
    · have e : (catF A B 1).length = A.length := rfl
      rw [e]
      clear e hj
      have hwr : IntKind.i64.wrap ((A.length : Int) + (B.length : Int)) = (A.length : Int) + (B.length : Int) := by rw [IntKind.wrap_i64]; omega
      go_wp2
      go_roundw
      case rel => exact ⟨2, by omega, by show _ = Value.int .i64 (((A ++ B).length : Nat) : Int); rw [List.length_append]; rfl, rfl, by first | rfl | trivial⟩
      case measure => simp [intOf]
    · have e : (catF A B 2).length = (A ++ B).length := rfl
      rw [e]
      have hn : (A ++ B).length ≤ 4000 := by rw [List.length_append]; omega
      generalize hnn : (A ++ B).length = n at hn ⊢
      clear e hj
      have HG := Lib.hid (grow_any n w (by omega))
      have HN := Lib.hid hnn
      clear hnn
      go_wp2_with fail
      refine HG.out.mono ?_
      rintro e w2 ⟨v, rfl, ho, hb2⟩
      have HS : Hid (w2.ownsRow w.heap.size 3 1 v (catF A B 0).length ((catF A B 0).map (Value.int .i64)) ∧ Below w.heap.size w w2) := Lib.hid ⟨ho, hb2⟩
      have hsh := own_shape ho
      clear ho hb2 HG
      obtain ⟨av, cv, rfl⟩ := hsh
      clear c0 c1 c1'
      go_wp2_with fail
      go_loopw [6, 27] (fun t i w3 => ∃ j : Nat, j ≤ 2 ∧ (∃ a c, t = .slice a (catF A B j).length c) ∧ i = .int .i64 (j : Int) ∧ Hid (w3.ownsRow w.heap.size 3 1 t (catF A B j).length ((catF A B j).map (Value.int .i64)) ∧ Below w.heap.size w w3)) (fun _ i _ => 2 - (intOf i).toNat)
      case atStart => exact ⟨0, by omega, ⟨_, _, rfl⟩, rfl, HS⟩
      case round =>
        obtain ⟨j, hj, ⟨a3, k3, rfl⟩, rfl, HK⟩ := hrel
        clear HS
        clear HN
        rcases (show j = 0 ∨ j = 1 ∨ j = 2 by omega) with rfl | rfl | rfl
        · have HX : Hid (wr.ownsRow w.heap.size 3 1 (.slice a3 (catF A B 0).length k3) (catF A B 0).length ((catF A B 0).map (Value.int .i64))) := Lib.hid HK.out.1
          have HO : Hid (wr.ownsRow 0 3 1 (.slice a1 A.length k1) A.length (A.map (Value.int .i64))) := Lib.hid (own_below HA.out HK.out.2)
          have d0 : wr.cell? ⟨sb, 0, none⟩ = some (.slice a1 A.length k1) := (HSB.out.below HK.out.2 HSB.out.lt).cell 0
          have FIN : Hid (∀ v5 w5, w5.ownsRow w.heap.size 3 1 v5 (catF A B 0 ++ A).length ((catF A B 0 ++ A).map (Value.int .i64)) → wr.grownBy w5 (Value.slice a3 (catF A B 0).length k3).ownBlock → (∃ a c, v5 = .slice a (catF A B 1).length c) ∧ w5.ownsRow w.heap.size 3 1 v5 (catF A B 1).length ((catF A B 1).map (Value.int .i64)) ∧ Below w.heap.size w w5) := Lib.hid fun v5 w5 ho hg => by
            have e : catF A B 0 ++ A = catF A B 1 := by simp [catF]
            rw [e] at ho
            exact ⟨own_shape ho, ho, HK.out.2.grown hg HK.out.2.size (fun k hk => own_ge2 HX.out k hk)⟩
          have hln : (catF A B 0).length + A.length ≤ 3000000 := by simp [catF]; omega
          have hsz := HK.out.2.size
          clear HK
          go_wp2_with (at_builtin; refine wpList_appI rfl _ _ rfl w.heap.size 0 _ (catF A B 0) A rfl HX.out a1 k1 rfl HO.out hln hsz ?_; intro v5 w5 ho5 hg5 hv5; have HE := Lib.hid (FIN.out v5 w5 ho5 hg5); obtain ⟨a5, c5, e5⟩ := HE.out.1; subst e5; clear ho5 hg5 hv5)
          go_roundw
          case rel => exact ⟨1, by omega, ⟨_, _, rfl⟩, by go_num, HE.out.2⟩
          case measure => simp [intOf]
        · have HX : Hid (wr.ownsRow w.heap.size 3 1 (.slice a3 (catF A B 1).length k3) (catF A B 1).length ((catF A B 1).map (Value.int .i64))) := Lib.hid HK.out.1
          have HO : Hid (wr.ownsRow 0 3 1 (.slice a2 B.length k2) B.length (B.map (Value.int .i64))) := Lib.hid (own_below HB.out HK.out.2)
          have d0 : wr.cell? ⟨sb, 0 + 1, none⟩ = some (.slice a2 B.length k2) := (HSB.out.below HK.out.2 HSB.out.lt).cell 1
          have FIN : Hid (∀ v5 w5, w5.ownsRow w.heap.size 3 1 v5 (catF A B 1 ++ B).length ((catF A B 1 ++ B).map (Value.int .i64)) → wr.grownBy w5 (Value.slice a3 (catF A B 1).length k3).ownBlock → (∃ a c, v5 = .slice a (catF A B 2).length c) ∧ w5.ownsRow w.heap.size 3 1 v5 (catF A B 2).length ((catF A B 2).map (Value.int .i64)) ∧ Below w.heap.size w w5) := Lib.hid fun v5 w5 ho hg => by
            have e : catF A B 1 ++ B = catF A B 2 := by simp [catF]
            rw [e] at ho
            exact ⟨own_shape ho, ho, HK.out.2.grown hg HK.out.2.size (fun k hk => own_ge2 HX.out k hk)⟩
          have hln : (catF A B 1).length + B.length ≤ 3000000 := by simp [catF]; omega
          have hsz := HK.out.2.size
          clear HK
          go_wp2_with (at_builtin; refine wpList_appI rfl _ _ rfl w.heap.size 0 _ (catF A B 1) B rfl HX.out a2 k2 rfl HO.out hln hsz ?_; intro v5 w5 ho5 hg5 hv5; have HE := Lib.hid (FIN.out v5 w5 ho5 hg5); obtain ⟨a5, c5, e5⟩ := HE.out.1; subst e5; clear ho5 hg5 hv5)
          go_roundw
          case rel => exact ⟨2, by omega, ⟨_, _, rfl⟩, by go_num, HE.out.2⟩
          case measure => simp [intOf]
        · have FIN : Hid (CatRes A B w (.returned (.slice a3 (catF A B 2).length k3)) wr) := Lib.hid ⟨_, rfl, HK.out.1, HK.out.2⟩
          clear HK
          go_wp2
          go_ret
          exact FIN.out
end Go.Proofs.Ythodggkpkjfggaa.Key
