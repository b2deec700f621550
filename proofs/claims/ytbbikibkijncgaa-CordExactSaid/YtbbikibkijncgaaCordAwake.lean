/- The statements' own example (awake) is true. -/
import Derived.Test.YtbbikibkijncgaaCordTwo
namespace Go.Proofs.Ytbbikibkijncgaa.Cord
set_option maxRecDepth 100000
open Go.RowKit
open Go.Proofs.Ytbbikibkijncgaa.Mem
def sA : ByteArray := ⟨#[97]⟩
def sB : ByteArray := ⟨#[98]⟩
def eA1 : CE := ⟨3, 0, [sA], 0, fun _ => none, false⟩
def eA2 : CE := ⟨3, 0, [sA, sB], 0, fun _ => none, false⟩
def g0 : Gm := ⟨0, false, 3, 1, 0, sA⟩
def g1 : Gm := ⟨0, false, 3, 2, 0, sB⟩
def fB1 : Nat → Option ByteArray := fun x => if x ≤ 0 then none else upd (fun _ => none) 2 sB x
def eB1 : CE := ⟨3, 0, [], 0, fB1, true⟩
def fB2 : Nat → Option ByteArray := fun x => if x ≤ 2 then none else upd fB1 1 sA x
def eB2 : CE := ⟨3, 0, [], 2, fB2, true⟩
def fB3 : Nat → Option ByteArray := fun x => if x ≤ 2 then none else fB2 x
def eB3 : CE := ⟨3, 0, [], 2, fB3, true⟩
theorem t1X : takeX (newE 3) g1 = 0 := by decide
theorem t1L : takeL (newE 3) g1 = [] := rfl
theorem t1E : takeE (newE 3) g1 = eB1 := rfl
theorem t2X : takeX eB1 g0 = 0 := by decide
theorem t2L : takeL eB1 g0 = [sA, sB] := rfl
theorem t2E : takeE eB1 g0 = eB2 := rfl
theorem t3X : takeX eB2 g0 = 0 := by decide
theorem t3L : takeL eB2 g0 = [] := rfl
theorem t3E : takeE eB2 g0 = eB3 := rfl
theorem o1L : outL eA2 = [g0, g1] := rfl
theorem o2L : outL eB3 = [⟨0, false, 3, 0, 2, .empty⟩] := rfl
theorem grams2 {w : World} {B n : Nat} {v : Value} {x y : Gm} (h : w.ownsRow B 29 6 v n (gramsV [x, y])) (hn : n = 2) : ∃ g c, v = .slice (some ⟨g, 0, none⟩) 2 c ∧ B ≤ g ∧ g < w.heap.size ∧ ∀ j, j < 6 → w.cell? ⟨g, j, none⟩ = (gmV x).toList[j]? ∧ w.cell? ⟨g, 6 + j, none⟩ = (gmV y).toList[j]? := by
  subst hn
  obtain ⟨g, c, rfl, hb, hl, hc⟩ := own_pos h (by decide)
  refine ⟨g, c, rfl, own_ge h g hb, hl, fun j hj => ⟨?_, ?_⟩⟩
  · rw [hc j (by omega)]; have := grams_at [x, y] 0 x rfl j hj; simpa using this
  · rw [hc (6 + j) (by omega)]; exact grams_at [x, y] 1 y rfl j hj
theorem six0 {w : World} {g : Nat} (h : ∀ j, j < 6 → w.cell? ⟨g, j, none⟩ = (gmV g0).toList[j]? ∧ w.cell? ⟨g, 6 + j, none⟩ = (gmV g1).toList[j]?) :
    w.cell? ⟨g, 0, none⟩ = some (.int .i64 0) ∧ w.cell? ⟨g, 1, none⟩ = some (.bool false) ∧ w.cell? ⟨g, 2, none⟩ = some (.int .i64 3) ∧ w.cell? ⟨g, 3, none⟩ = some (.int .i64 1) ∧ w.cell? ⟨g, 4, none⟩ = some (.int .i64 0) ∧ w.cell? ⟨g, 5, none⟩ = some (.string ⟨#[97]⟩) :=
  ⟨(h 0 (by decide)).1, (h 1 (by decide)).1, (h 2 (by decide)).1, (h 3 (by decide)).1, (h 4 (by decide)).1, (h 5 (by decide)).1⟩
theorem six1 {w : World} {g : Nat} (h : ∀ j, j < 6 → w.cell? ⟨g, j, none⟩ = (gmV g0).toList[j]? ∧ w.cell? ⟨g, 6 + j, none⟩ = (gmV g1).toList[j]?) :
    w.cell? ⟨g, 6, none⟩ = some (.int .i64 0) ∧ w.cell? ⟨g, 7, none⟩ = some (.bool false) ∧ w.cell? ⟨g, 8, none⟩ = some (.int .i64 3) ∧ w.cell? ⟨g, 9, none⟩ = some (.int .i64 2) ∧ w.cell? ⟨g, 10, none⟩ = some (.int .i64 0) ∧ w.cell? ⟨g, 11, none⟩ = some (.string ⟨#[98]⟩) :=
  ⟨(h 0 (by decide)).2, (h 1 (by decide)).2, (h 2 (by decide)).2, (h 3 (by decide)).2, (h 4 (by decide)).2, (h 5 (by decide)).2⟩
theorem strs2 {w : World} {B n : Nat} {v : Value} {x y : ByteArray} (h : w.ownsRow B 9 1 v n (strsV [x, y])) (hn : n = 2) : ∃ g c, v = .slice (some ⟨g, 0, none⟩) 2 c ∧ B ≤ g ∧ g < w.heap.size ∧ w.cell? ⟨g, 0, none⟩ = some (.string x) ∧ w.cell? ⟨g, 1, none⟩ = some (.string y) := by
  subst hn
  obtain ⟨g, c, rfl, hb, hl, hc⟩ := own_pos h (by decide)
  exact ⟨g, c, rfl, own_ge h g hb, hl, hc 0 (by decide), hc 1 (by decide)⟩
theorem grams1 {w : World} {B n : Nat} {v : Value} {x : Gm} (h : w.ownsRow B 29 6 v n (gramsV [x])) (hn : n = 1) : ∃ g c, v = .slice (some ⟨g, 0, none⟩) 1 c ∧ B ≤ g ∧ g < w.heap.size ∧ ∀ j, j < 6 → w.cell? ⟨g, j, none⟩ = (gmV x).toList[j]? := by
  subst hn
  obtain ⟨g, c, rfl, hb, hl, hc⟩ := own_pos h (by decide)
  refine ⟨g, c, rfl, own_ge h g hb, hl, fun j hj => ?_⟩
  rw [hc j (by omega)]; have := grams_at [x] 0 x rfl j hj; simpa using this
set_option maxRecDepth 100000 in
set_option maxHeartbeats 4000000 in
theorem awake_any (w : World) : Calls Try.prog 8 #[] w fun e w' => e = .returned (.bool true) ∧ Below w.heap.size w w' := by
  go_enter Try.func8, Try.ntmps8
  go_wp2_with fail
  refine (new_any 3 w (by decide) (by decide)).mono ?_
  rintro r w1 ⟨a, rfl, hA, b1⟩
  have HA := Lib.hid hA
  have B1 := Lib.hid b1
  clear hA b1
  go_wp2_with fail
  refine (new_any 3 w1 (by decide) (by decide)).mono ?_
  rintro r w2 ⟨b, rfl, hB, b2⟩
  have H := Lib.hid (two_new HA.out B1.out hB b2)
  clear hB b2 HA B1
  go_wp2_with fail
  refine (new_none 0 w2 (by decide)).mono ?_
  rintro r _ ⟨rfl, rfl⟩
  go_wp2_with fail
  refine (H.out.send sA (c := 0) (e' := eA1) (by decide) rfl).mono ?_
  rintro r w3 ⟨rfl, h3, _⟩
  have H3 := Lib.hid h3
  clear h3 H
  go_wp2_with fail
  refine (H3.out.send sB (c := 0) (e' := eA2) (by decide) rfl).mono ?_
  rintro r w4 ⟨rfl, h4, _⟩
  have H4 := Lib.hid h4
  clear h4 H3
  go_wp2_with fail
  refine (H4.out.out (by decide) o1L (e' := eA2) rfl).mono ?_
  rintro r w5 ⟨v, q, rfl, ho, h5, _⟩
  obtain ⟨g, c, e1, hg1, hg2, hc⟩ := grams2 ho rfl
  injection e1 with e1 e2 e3
  subst e1
  have H5 := Lib.hid (h5.less (M' := fun k => k = g) (fun k hk => .inr ⟨by omega, by omega⟩))
  have HC : Hid (∀ w', Keep (fun k => k = g) w5 w' → (∀ j, j < 6 → w'.cell? ⟨g, j, none⟩ = (gmV g0).toList[j]? ∧ w'.cell? ⟨g, 6 + j, none⟩ = (gmV g1).toList[j]?)) := Lib.hid fun w' hk j hj => by
    rw [hk.cell (p := ⟨g, j, none⟩) rfl, hk.cell (p := ⟨g, 6 + j, none⟩) rfl]; exact hc j hj
  obtain ⟨i6, i7, i8, i9, i10, i11⟩ := six1 hc
  clear hc ho h5 H4
  go_wp2_with fail
  refine (H5.out.swap.take (by decide) g1 t1X t1L t1E).mono ?_
  rintro r w6 ⟨v6, q6, rfl, _, h6, k6⟩
  have H6 := Lib.hid (h6.less (M' := fun k => k = g) (fun k hk => .inl hk))
  have K6 := Lib.hid k6
  obtain ⟨i0, i1, i2, i3, i4, i5⟩ := six0 (HC.out w6 k6)
  clear i6 i7 i8 i9 i10 i11 h6 k6 H5
  go_wp2_with fail
  refine (H6.out.take (by decide) g0 t2X t2L t2E).mono ?_
  rintro r w7 ⟨v7, q7, rfl, o7, h7, k7⟩
  obtain ⟨gs, cs, e7, hgs1, hgs2, s0, s1⟩ := strs2 o7 rfl
  injection e7 with e7 _ _
  subst e7
  have H7 := Lib.hid (h7.less (M' := fun k => k = g ∨ k = gs) (fun k hk => hk.elim .inl (fun x => .inr ⟨by omega, by omega⟩)))
  obtain ⟨i0, i1, i2, i3, i4, i5⟩ := six0 (HC.out w7 (K6.out.trans k7))
  have HS : Hid (∀ w', Keep (fun k => k = g ∨ k = gs) w7 w' → w'.cell? ⟨gs, 0, none⟩ = some (.string sA)) := Lib.hid fun w' hk => (hk.cell (p := ⟨gs, 0, none⟩) (.inr rfl)).trans s0
  clear o7 h7 k7 H6 K6 HC s0 s1
  go_wp2_with fail
  refine (H7.out.take (by decide) g0 t3X t3L t3E).mono ?_
  rintro r w8 ⟨v8, q8, rfl, _, h8, k8⟩
  have s8 : w8.cell? ⟨gs, 0, none⟩ = some (.string ⟨#[97]⟩) := HS.out w8 k8
  have H8 := Lib.hid (h8.less (M' := fun k => k = g ∨ k = gs) (fun k hk => .inl hk))
  have HS8 : Hid (∀ w', Keep (fun k => k = g ∨ k = gs) w8 w' → w'.cell? ⟨gs, 0, none⟩ = some (.string ⟨#[97]⟩)) := Lib.hid fun w' hk => HS.out w' (k8.trans hk)
  clear i0 i1 i2 i3 i4 i5 h8 k8 H7 HS s8
  go_wp2_with fail
  refine (H8.out.out (by decide) o2L rfl).mono ?_
  rintro r w9 ⟨v9, q9, rfl, o9, h9, k9⟩
  obtain ⟨go, co, e9, hgo1, hgo2, hc9⟩ := grams1 o9 rfl
  injection e9 with e9 _ _
  subst e9
  have s9 := HS8.out w9 k9
  have H9 := Lib.hid h9
  have j0 : w9.cell? ⟨go, 0, none⟩ = some (.int .i64 0) := hc9 0 (by decide)
  have j1 : w9.cell? ⟨go, 1, none⟩ = some (.bool false) := hc9 1 (by decide)
  have j2 : w9.cell? ⟨go, 2, none⟩ = some (.int .i64 3) := hc9 2 (by decide)
  have j3 : w9.cell? ⟨go, 3, none⟩ = some (.int .i64 0) := hc9 3 (by decide)
  have j4 : w9.cell? ⟨go, 4, none⟩ = some (.int .i64 2) := hc9 4 (by decide)
  have j5 : w9.cell? ⟨go, 5, none⟩ = some (.string .empty) := hc9 5 (by decide)
  clear o9 h9 k9 H8 hc9 HS8
  go_wp2_with fail
  refine H9.out.owes.mono ?_
  rintro r _ ⟨rfl, rfl⟩
  rw [show owesB (outE eB3) = false from by decide]
  go_wp2_with fail
  refine H9.out.got.mono ?_
  rintro r _ ⟨rfl, rfl⟩
  rw [show ((outE eB3).got : Int) = 2 from rfl]
  go_wp2_with fail
  refine H9.out.swap.open_.mono ?_
  rintro r _ ⟨rfl, rfl⟩
  rw [show (eA2.op.length : Int) = 2 from rfl]
  go_wp2_with fail
  refine H9.out.swap.epoch.mono ?_
  rintro r _ ⟨rfl, rfl⟩
  rw [show eA2.ep = 3 from rfl]
  have HB := Lib.hid H9.out.bel
  clear H9
  go_wp2
  go_ret
  exact ⟨rfl, HB.out⟩
end Go.Proofs.Ytbbikibkijncgaa.Cord
