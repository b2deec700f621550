/- The program's order of names: cmp.Compare, cmp.Or, compare, Less. -/
import Derived.Test.YtcpkngkeechjeaaPastNames
import Derived.Sort.Grow
import Derived.Deep.RegionHeld3
namespace Go.Proofs.Ytcpkngkeechjeaa.Past
set_option maxRecDepth 100000
open Go.RowKit
open Go.Proofs.Ytcpkngkeechjeaa.Mem
set_option maxRecDepth 100000 in
theorem isNaN_any (a : Int) (w : World) : Calls Try.prog 48 #[.int .i64 a] w fun e w' => e = .returned (.bool false) ∧ w' = w := by
  have h1 : (a != a) = false := by simp
  go_enter Try.func48, Try.ntmps48
  go_wp2
  go_ret
  exact ⟨by first | rfl | simp, rfl⟩
def cmpI (a b : Int) : Int := if a < b then -1 else if b < a then 1 else 0
set_option maxRecDepth 100000 in
theorem cmpI_any (a b : Int) (w : World) : Calls Try.prog 40 #[.int .i64 a, .int .i64 b] w fun e w' => e = .returned (.int .i64 (cmpI a b)) ∧ w' = w := by
  obtain ⟨r, hr⟩ : ∃ r, cmpI a b = r := ⟨_, rfl⟩
  rw [hr]
  unfold cmpI at hr
  by_cases h1 : a < b
  · rw [if_pos h1] at hr
    subst hr
    have e1 : decide (a < b) = true := decide_eq_true h1
    go_enter Try.func40, Try.ntmps40
    go_wp2_with (first | (refine (isNaN_any a _).mono ?_; rintro e w1 ⟨rfl, rfl⟩) | (refine (isNaN_any b _).mono ?_; rintro e w1 ⟨rfl, rfl⟩))
    go_ret
    exact ⟨rfl, rfl⟩
  · rw [if_neg h1] at hr
    have e1 : decide (a < b) = false := decide_eq_false h1
    by_cases h2 : b < a
    · rw [if_pos h2] at hr
      subst hr
      have e2 : decide (a > b) = true := decide_eq_true h2
      go_enter Try.func40, Try.ntmps40
      go_wp2_with (first | (refine (isNaN_any a _).mono ?_; rintro e w1 ⟨rfl, rfl⟩) | (refine (isNaN_any b _).mono ?_; rintro e w1 ⟨rfl, rfl⟩))
      go_ret
      exact ⟨rfl, rfl⟩
    · rw [if_neg h2] at hr
      subst hr
      have e2 : decide (a > b) = false := decide_eq_false h2
      go_enter Try.func40, Try.ntmps40
      go_wp2_with (first | (refine (isNaN_any a _).mono ?_; rintro e w1 ⟨rfl, rfl⟩) | (refine (isNaN_any b _).mono ?_; rintro e w1 ⟨rfl, rfl⟩))
      go_ret
      exact ⟨rfl, rfl⟩
/-- the first that isn't 0 -/
def orL : List Int → Int
  | [] => 0
  | a :: r => if a = 0 then orL r else a
def intN : Value → Nat
  | .int _ i => i.toNat
  | _ => 0
set_option maxRecDepth 100000 in
set_option maxHeartbeats 1000000 in
theorem or3_any (sb : Nat) (a b c : Int) (w : World) (h : Blk w sb 3 #[.int .i64 a, .int .i64 b, .int .i64 c]) :
    Calls Try.prog 39 #[.slice (some ⟨sb, 0, none⟩) 3 3] w fun e w' => e = .returned (.int .i64 (orL [a, b, c])) ∧ w' = w := by
  obtain ⟨L, hL⟩ : ∃ L, [a, b, c] = L := ⟨_, rfl⟩
  have hcell : ∀ j x, L[j]? = some x → w.cell? ⟨sb, j, none⟩ = some (.int .i64 x) := fun j x hx => by
    rw [h.cell, ← Array.getElem?_toList]
    have : (#[Value.int .i64 a, .int .i64 b, .int .i64 c] : Array Value).toList = L.map (Value.int .i64) := by rw [← hL]; rfl
    rw [this, List.getElem?_map, hx]; rfl
  have hlen : L.length = 3 := by rw [← hL]; rfl
  rw [hL]
  clear h hL
  obtain ⟨r, hr⟩ : ∃ r, orL L = r := ⟨_, rfl⟩
  rw [hr]
  have HR := Lib.hid hr
  clear hr
  have HC := Lib.hid hcell
  clear hcell
  go_enter Try.func39, Try.ntmps39
  go_wp2_with fail
  go_loopw [8] (fun i wr => ∃ j : Nat, j ≤ 3 ∧ i = .int .i64 (j : Int) ∧ wr = w ∧ Hid (orL (L.drop j) = r)) (fun i _ => 3 - intN i)
  case atStart => exact ⟨0, by omega, rfl, rfl, Lib.hid HR.out⟩
  case round =>
    obtain ⟨j, hj, rfl, rfl, HZ⟩ := hrel
    by_cases hlt : j < 3
    · have hx : L[j]? = some (L[j]'(by omega)) := List.getElem?_eq_getElem _
      have hd : L.drop j = L[j]'(by omega) :: L.drop (j + 1) := List.drop_eq_getElem_cons (by omega)
      generalize L[j]'(by omega) = x at hx hd
      have c0 := HC.out j x hx
      have e1 : decide ((j : Int) < 3) = true := decide_eq_true (by omega)
      have HZ2 := Lib.hid (show (if x = 0 then orL (L.drop (j + 1)) else x) = r by rw [← HZ.out, hd]; rfl)
      clear HZ hx hd
      by_cases hx0 : x = 0
      · have HZ3 := Lib.hid (show orL (L.drop (j + 1)) = r by rw [← HZ2.out, if_pos hx0])
        clear HZ2
        subst hx0
        clear HR hlen
        go_wp2
        go_roundw
        case rel => exact ⟨j + 1, by omega, by go_num, by first | rfl | trivial, HZ3⟩
        case measure => simp [intN]; omega
      · have HZ3 := Lib.hid (show x = r by rw [← HZ2.out, if_neg hx0])
        have h1 : (x == 0) = false := by simp [hx0]
        have h2 : (x != 0) = true := by simp [bne, h1]
        clear HZ2 HR hx0 hlen
        go_wp2
        go_ret
        exact ⟨by rw [← HZ3.out]; rfl, rfl⟩
    · obtain rfl : j = 3 := by omega
      have hd : L.drop 3 = [] := List.drop_of_length_le (by omega)
      have HZ3 := Lib.hid (show 0 = r by rw [← HZ.out, hd]; rfl)
      clear HZ hd hlen HR
      go_wp2
      go_ret
      exact ⟨by rw [← HZ3.out]; rfl, rfl⟩
def cmpT (a b : T3) : Int := orL [cmpI a.cl b.cl, cmpI a.ep b.ep, cmpI a.n b.n]
theorem cmpT_lt (a b : T3) : decide (cmpT a b < 0) = lessT a b := by
  cases h : lessT a b with
  | true =>
    rw [less_iff] at h
    rw [decide_eq_true_eq]
    unfold cmpT orL orL orL cmpI
    repeat' split
    all_goals omega
  | false =>
    have h : ¬ lessT a b = true := by rw [h]; simp
    rw [less_iff] at h
    rw [decide_eq_false_iff_not]
    unfold cmpT orL orL orL orL cmpI
    repeat' split
    all_goals omega
set_option maxRecDepth 100000 in
set_option maxHeartbeats 2000000 in
theorem compare_any (x y : T3) (w : World) :
    Calls Try.prog 25 #[.agg #[.int .i64 x.cl, .int .i64 x.ep, .int .i64 x.n], .agg #[.int .i64 y.cl, .int .i64 y.ep, .int .i64 y.n]] w fun e w' => e = .returned (.int .i64 (cmpT x y)) ∧ ∃ q os', w' = Go.Sort.grow (w.drewN q) os' := by
  have hc : orL [cmpI x.cl y.cl, cmpI x.ep y.ep, cmpI x.n y.n] = cmpT x y := rfl
  generalize cmpT x y = r at hc ⊢
  have HC1 : Hid (∀ W, Calls Try.prog 40 #[.int .i64 x.cl, .int .i64 y.cl] W fun e w' => e = .returned (.int .i64 (cmpI x.cl y.cl)) ∧ w' = W) := Lib.hid fun W => cmpI_any x.cl y.cl W
  have HC2 : Hid (∀ W, Calls Try.prog 40 #[.int .i64 x.ep, .int .i64 y.ep] W fun e w' => e = .returned (.int .i64 (cmpI x.ep y.ep)) ∧ w' = W) := Lib.hid fun W => cmpI_any x.ep y.ep W
  have HC3 : Hid (∀ W, Calls Try.prog 40 #[.int .i64 x.n, .int .i64 y.n] W fun e w' => e = .returned (.int .i64 (cmpI x.n y.n)) ∧ w' = W) := Lib.hid fun W => cmpI_any x.n y.n W
  generalize cmpI x.cl y.cl = a at *
  generalize cmpI x.ep y.ep = b at *
  generalize cmpI x.n y.n = c at *
  obtain ⟨x1, x2, x3⟩ := x
  obtain ⟨y1, y2, y3⟩ := y
  dsimp only at HC1 HC2 HC3 ⊢
  obtain ⟨W0, hW0⟩ : ∃ W0, (w.alloc (.cells #[.int .i64 x1, .int .i64 x2, .int .i64 x3] 24)).alloc (.cells #[.int .i64 y1, .int .i64 y2, .int .i64 y3] 24) = W0 := ⟨_, rfl⟩
  have HW : Hid (∃ q os', (W0.alloc (.cells #[.int .i64 a, .int .i64 b, .int .i64 c] 3)).drew = Go.Sort.grow (w.drewN q) os') := Lib.hid ⟨1, _, by rw [← hW0, Go.Sort.alloc_eq_grow, Go.Sort.alloc_eq_grow, Go.Sort.alloc_eq_grow, Go.Sort.grow_grow, Go.Sort.grow_grow]; rfl⟩
  have hB1 : Blk W0 w.heap.size 24 #[.int .i64 x1, .int .i64 x2, .int .i64 x3] := by rw [← hW0]; exact (Blk.new w _ _).alloc _
  have hB2 : Blk W0 (w.heap.size + 1) 24 #[.int .i64 y1, .int .i64 y2, .int .i64 y3] := by
    have := Blk.new (w.alloc (.cells #[.int .i64 x1, .int .i64 x2, .int .i64 x3] 24)) 24 #[.int .i64 y1, .int .i64 y2, .int .i64 y3]
    rw [hW0] at this
    simpa using this
  have hb3 := Ent.below_box W0 (.cells #[.int .i64 a, .int .i64 b, .int .i64 c] 3)
  have HZ : Hid (∀ W', Below W0.heap.size W0 W' → W'.cell? ⟨w.heap.size, 0, none⟩ = some (.int .i64 x1) ∧ W'.cell? ⟨w.heap.size, 1, none⟩ = some (.int .i64 x2) ∧ W'.cell? ⟨w.heap.size, 2, none⟩ = some (.int .i64 x3) ∧ W'.cell? ⟨w.heap.size + 1, 0, none⟩ = some (.int .i64 y1) ∧ W'.cell? ⟨w.heap.size + 1, 1, none⟩ = some (.int .i64 y2) ∧ W'.cell? ⟨w.heap.size + 1, 2, none⟩ = some (.int .i64 y3)) := Lib.hid fun W' hb =>
    ⟨(hB1.below hb hB1.lt).cell 0, (hB1.below hb hB1.lt).cell 1, (hB1.below hb hB1.lt).cell 2, (hB2.below hb hB2.lt).cell 0, (hB2.below hb hB2.lt).cell 1, (hB2.below hb hB2.lt).cell 2⟩
  have HZ0 := Lib.hid (HZ.out _ (Below.refl _ _))
  have HZ1 := Lib.hid (HZ.out _ (Below.refl _ _).drew)
  have HZa := Lib.hid (HZ.out _ hb3)
  have HZb := Lib.hid (HZ.out _ hb3.drew)
  have HO1 := Lib.hid (or3_any W0.heap.size a b c _ (Blk.new W0 3 #[.int .i64 a, .int .i64 b, .int .i64 c]))
  have HO2 := Lib.hid (or3_any W0.heap.size a b c (W0.alloc (.cells #[.int .i64 a, .int .i64 b, .int .i64 c] 3)).drew (Blk.new W0 3 #[.int .i64 a, .int .i64 b, .int .i64 c]))
  rw [hc] at HO1 HO2
  have HW0 := Lib.hid hW0
  clear hW0 hB1 hB2 hb3 HZ hc
  go_enter Try.func25, Try.ntmps25
  go_upto_region 1 with (fail)
  rw [HW0.out]
  obtain ⟨z1, z2, z3, z4, z5, z6⟩ := HZ0.out
  clear HW0
  go_region_held3 (fun W' => W'.cell? ⟨w.heap.size, 0, none⟩ = some (.int .i64 x1) ∧ W'.cell? ⟨w.heap.size, 1, none⟩ = some (.int .i64 x2) ∧ W'.cell? ⟨w.heap.size, 2, none⟩ = some (.int .i64 x3) ∧ W'.cell? ⟨w.heap.size + 1, 0, none⟩ = some (.int .i64 y1) ∧ W'.cell? ⟨w.heap.size + 1, 1, none⟩ = some (.int .i64 y2) ∧ W'.cell? ⟨w.heap.size + 1, 2, none⟩ = some (.int .i64 y3))
    (first | (with_reducible assumption) | (with_reducible exact HZ0.out) | (with_reducible exact HZ1.out) | (with_reducible exact HZa.out) | (with_reducible exact HZb.out)) (first
    | (go_at_call 40; (first | (with_reducible refine (HC1.out _).mono ?_) | (with_reducible refine (HC2.out _).mono ?_) | (with_reducible refine (HC3.out _).mono ?_)); rintro e w2 ⟨rfl, rfl⟩)
    | (go_at_call 39; (first | (with_reducible refine HO1.out.mono ?_) | (with_reducible refine HO2.out.mono ?_)); rintro e w2 ⟨rfl, rfl⟩))
  all_goals
    clear HC1 HC2 HC3 HZ0 HZ1 HZa HZb HO1 HO2
    go_wp2
    go_ret
    exact ⟨rfl, HW.out⟩
theorem grow_below {w : World} {q : Nat} {os : Array Obj} : Below w.heap.size w (Go.Sort.grow (w.drewN q) os) :=
  ⟨rfl, rfl, rfl, by simp [Go.Sort.grow], fun k hk => Go.Sort.heap_grow_old _ _ hk⟩
set_option maxRecDepth 100000 in
theorem less_any (a b : T3) (w : World) :
    Calls Try.prog 17 #[.agg #[.int .i64 a.cl, .int .i64 a.ep, .int .i64 a.n], .agg #[.int .i64 b.cl, .int .i64 b.ep, .int .i64 b.n]] w fun e w' => e = .returned (.bool (lessT a b)) ∧ Below w.heap.size w w' := by
  have hb1 := Ent.below_box w (.cells #[.int .i64 a.cl, .int .i64 a.ep, .int .i64 a.n] 24)
  have hB1 := Blk.new w 24 #[.int .i64 a.cl, .int .i64 a.ep, .int .i64 a.n]
  have hb2 := hb1.alloc (Nat.le_of_lt (Ent.alloc_lt _ _)) (.cells #[.int .i64 b.cl, .int .i64 b.ep, .int .i64 b.n] 24)
  have hB2 := Blk.new (w.alloc (.cells #[.int .i64 a.cl, .int .i64 a.ep, .int .i64 a.n] 24)) 24 #[.int .i64 b.cl, .int .i64 b.ep, .int .i64 b.n]
  have hB3 := hB1.alloc (.cells #[.int .i64 b.cl, .int .i64 b.ep, .int .i64 b.n] 24)
  obtain ⟨c0, c1, c2⟩ := tx_cells hB2
  obtain ⟨d0, d1, d2⟩ := tx_cells hB3
  clear hb1 hB1 hB2 hB3
  have HB := Lib.hid hb2
  clear hb2
  have HL := Lib.hid (cmpT_lt a b)
  have HC := fun W => compare_any a b W
  generalize cmpT a b = r at HL HC
  obtain ⟨a1, a2, a3⟩ := a
  obtain ⟨b1, b2, b3⟩ := b
  dsimp only at HB c0 c1 c2 d0 d1 d2 HC ⊢
  go_enter Try.func17, Try.ntmps17
  go_wp2_with (refine (HC _).mono ?_; rintro e w1 ⟨rfl, q, os, rfl⟩)
  go_ret
  exact ⟨by rw [← HL.out]; rfl, HB.out.trans (grow_below.mono HB.out.size)⟩
end Go.Proofs.Ytcpkngkeechjeaa.Past
