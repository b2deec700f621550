/- The statements' own example (awake) is true. -/
import Derived.Test.YthkgmfgchgoafaaMistSame
namespace Go.Proofs.Ythkgmfgchgoafaa.Mist
set_option maxRecDepth 100000
open Go.RowKit
open Go.Proofs.Ythkgmfgchgoafaa.Mem Go.Proofs.Ythkgmfgchgoafaa.CordG
def gm (s : ByteArray) : Gr := ⟨1, true, 0, 0, 0, s⟩
set_option maxRecDepth 100000 in
theorem gram_any (s : ByteArray) (w : World) : Calls Try.prog 26 #[.string s] w fun e w' => e = .returned (.agg #[.int .i64 1, .bool true, .int .i64 0, .int .i64 0, .int .i64 0, .string s]) ∧ Below w.heap.size w w' := by
  have hb := below_box w (.cells #[.int .i64 0, .bool false, .int .i64 0, .int .i64 0, .int .i64 0, .string ⟨#[]⟩] 29)
  have hX := Blk.new w 29 #[.int .i64 0, .bool false, .int .i64 0, .int .i64 0, .int .i64 0, .string ⟨#[]⟩]
  obtain ⟨W0, hW0⟩ : ∃ W0, w.alloc (.cells #[.int .i64 0, .bool false, .int .i64 0, .int .i64 0, .int .i64 0, .string ⟨#[]⟩] 29) = W0 := ⟨_, rfl⟩
  rw [hW0] at hX hb
  have HW0 := Lib.hid hW0
  have z0 := hX.cell 0
  have z1 := hX.cell 1
  have z2 := hX.cell 2
  have z3 := hX.cell 3
  have z4 := hX.cell 4
  have z5 := hX.cell 5
  obtain ⟨f0, f1, f2, f3, f4, f5⟩ := blk_fr hX
  have hX3 := six_blk hX (gm s)
  have hG := six_below hb (Nat.le_refl _) (gm s)
  obtain ⟨W3, hW3⟩ : ∃ W3, six W0 w.heap.size (gm s) = W3 := ⟨_, rfl⟩
  rw [hW3] at hX3 hG
  have HW3 : Hid ((((((W0.setCell ⟨w.heap.size, 0, none⟩ (.int .i64 1)).setCell ⟨w.heap.size, 1, none⟩ (.bool true)).setCell ⟨w.heap.size, 2, none⟩ (.int .i64 0)).setCell ⟨w.heap.size, 3, none⟩ (.int .i64 0)).setCell ⟨w.heap.size, 4, none⟩ (.int .i64 0)).setCell ⟨w.heap.size, 5, none⟩ (.string s) = W3) := Lib.hid hW3
  have HX3 := Lib.hid hX3
  have HG := Lib.hid hG
  clear hX hb hW0 hX3 hG hW3
  go_enter Try.func26, Try.ntmps26
  go_upto_region 1 with (fail)
  rw [HW0.out]
  clear HW0
  go_wp2
  rw [HW3.out]
  obtain ⟨d0, d1, d2, d3, d4, d5⟩ := blk_cells HX3.out
  dsimp only [gm] at d0 d1 d2 d3 d4 d5
  refine bodyPost_ret (v := .agg #[.int .i64 1, .bool true, .int .i64 0, .int .i64 0, .int .i64 0, .string s]) (by simp [results, Try.results26, go_sem, d0, d1, d2, d3, d4, d5]) rfl ?_
  exact ⟨rfl, HG.out⟩
theorem put_to {p : Nat} {M : Nat → Prop} {L L' : List Gr} {x : Gr} {c : Int} {w : World} (h : PQ 69 w p M L) (hn : L.length ≤ 30000) (hc : putX L x = c) (hl : putL L x = L') :
    Calls Try.prog 10 #[.pointer (some ⟨p, 0, none⟩), .agg #[.int .i64 x.cl, .bool x.up, .int .i64 x.ep, .int .i64 x.sq, .int .i64 x.ak, .string x.bd]] w fun e w' => e = .returned (.int .i64 c) ∧ PQ 69 w' p M L' ∧ Keep M w w' := by
  subst hc; subst hl
  exact put_any p M L x w h hn
theorem copy_to {p : Nat} {M : Nat → Prop} {L L' : List Gr} {c : Int} {u : Bool} {i : Int} {b : Bool} {w : World} (h : PQ 69 w p M L) (hn : L.length ≤ 30000) (hc : copyB L c u i = b) (hl : copyL L c u i = L') :
    Calls Try.prog 12 #[.pointer (some ⟨p, 0, none⟩), .int .i64 c, .bool u, .int .i64 i] w (CopyRes p M b L' w) := by
  subst hc; subst hl
  exact copy_any p M L c u i w h hn
theorem count_to {p : Nat} {M : Nat → Prop} {L : List Gr} {c : Int} {u : Bool} {n : Int} {w : World} (h : PQ 69 w p M L) (hn : L.length ≤ 30000) (hc : (countL L c u : Int) = n) :
    Calls Try.prog 14 #[.pointer (some ⟨p, 0, none⟩), .int .i64 c, .bool u] w fun e w' => e = .returned (.int .i64 n) ∧ Below w.heap.size w w' := by
  subst hc
  exact ncount_any p M L c u w h (by omega)
/-- Pick, or Eldest, of one that is there -/
theorem got_some {p : Nat} {M : Nat → Prop} {o : Option Gr} {x : Gr} {L : List Gr} {w : World} {e : Ending} {w' : World} (h : GotRes p M o L w e w') (ho : o = some x) : e = .returned (.tuple #[.agg #[.int .i64 x.cl, .bool x.up, .int .i64 x.ep, .int .i64 x.sq, .int .i64 x.ak, .string x.bd], .bool true]) ∧ PQ 69 w' p M L ∧ Keep M w w' := by
  obtain ⟨y, b, rfl, (⟨h1, _⟩ | ⟨h1, rfl⟩), h2, h3⟩ := h
  · rw [ho] at h1; cases h1
  · rw [ho] at h1; injection h1 with h1; subst h1; exact ⟨rfl, h2, h3⟩
theorem got_none {p : Nat} {M : Nat → Prop} {o : Option Gr} {L : List Gr} {w : World} {e : Ending} {w' : World} (h : GotRes p M o L w e w') (ho : o = none) : e = .returned (.tuple #[.agg #[.int .i64 0, .bool false, .int .i64 0, .int .i64 0, .int .i64 0, .string ⟨#[]⟩], .bool false]) ∧ PQ 69 w' p M L ∧ Keep M w w' := by
  obtain ⟨y, b, rfl, (⟨h1, rfl, rfl⟩ | ⟨h1, rfl⟩), h2, h3⟩ := h
  · exact ⟨rfl, h2, h3⟩
  · rw [ho] at h1; cases h1
def sA : ByteArray := ⟨#[97]⟩
def sB : ByteArray := ⟨#[98]⟩
/-- the net and the two boxes -/
structure AW (w0 W : World) (p g2 g4 : Nat) (L : List Gr) : Prop where
  pq : PQ 69 W p (fun k => k < w0.heap.size ∨ k = g2 ∨ k = g4) L
  b2 : Blk W g2 29 #[.int .i64 1, .bool true, .int .i64 0, .int .i64 0, .int .i64 0, .string ⟨#[98]⟩]
  b4 : Blk W g4 29 #[.int .i64 1, .bool true, .int .i64 0, .int .i64 0, .int .i64 0, .string ⟨#[97]⟩]
  bel : Below w0.heap.size w0 W
theorem AW.below {w0 W W' : World} {p g2 g4 : Nat} {L : List Gr} (h : AW w0 W p g2 g4 L) (hb : Below W.heap.size W W') : AW w0 W' p g2 g4 L :=
  ⟨h.pq.below hb, h.b2.below hb h.b2.lt, h.b4.below hb h.b4.lt, h.bel.trans (hb.mono h.bel.size)⟩
theorem AW.keep {w0 W W' : World} {p g2 g4 : Nat} {L L' : List Gr} (h : AW w0 W p g2 g4 L) (hp : PQ 69 W' p (fun k => k < w0.heap.size ∨ k = g2 ∨ k = g4) L') (hk : Keep (fun k => k < w0.heap.size ∨ k = g2 ∨ k = g4) W W') : AW w0 W' p g2 g4 L' :=
  ⟨hp, hk.blk h.b2 (.inr (.inl rfl)), hk.blk h.b4 (.inr (.inr rfl)), h.bel.trans (hk.below fun _ h => .inl h)⟩
theorem AW.cells {w0 W : World} {p g2 g4 : Nat} {L : List Gr} (h : AW w0 W p g2 g4 L) : (W.cell? ⟨g2, 0, none⟩ = some (.int .i64 1) ∧ W.cell? ⟨g2, 1, none⟩ = some (.bool true) ∧ W.cell? ⟨g2, 2, none⟩ = some (.int .i64 0) ∧ W.cell? ⟨g2, 3, none⟩ = some (.int .i64 0) ∧ W.cell? ⟨g2, 4, none⟩ = some (.int .i64 0) ∧ W.cell? ⟨g2, 5, none⟩ = some (.string ⟨#[98]⟩)) ∧
    (W.cell? ⟨g4, 0, none⟩ = some (.int .i64 1) ∧ W.cell? ⟨g4, 1, none⟩ = some (.bool true) ∧ W.cell? ⟨g4, 2, none⟩ = some (.int .i64 0) ∧ W.cell? ⟨g4, 3, none⟩ = some (.int .i64 0) ∧ W.cell? ⟨g4, 4, none⟩ = some (.int .i64 0) ∧ W.cell? ⟨g4, 5, none⟩ = some (.string ⟨#[97]⟩)) :=
  ⟨⟨h.b2.cell 0, h.b2.cell 1, h.b2.cell 2, h.b2.cell 3, h.b2.cell 4, h.b2.cell 5⟩, h.b4.cell 0, h.b4.cell 1, h.b4.cell 2, h.b4.cell 3, h.b4.cell 4, h.b4.cell 5⟩
theorem AW.gram {w0 W W1 : World} {p g2 g4 : Nat} {L : List Gr} (h : AW w0 W p g2 g4 L) (s : ByteArray) (hb : Below W.heap.size W W1) : Calls Try.prog 26 #[.string s] W1 fun e w' => e = .returned (.agg #[.int .i64 1, .bool true, .int .i64 0, .int .i64 0, .int .i64 0, .string s]) ∧ AW w0 w' p g2 g4 L :=
  (gram_any s W1).mono fun _ _ k => ⟨k.1, (h.below hb).below k.2⟩
theorem putX_gz (L : List Gr) : putX L gz = 1 := by unfold putX; rw [if_pos (Or.inl (by decide))]
theorem AW.put {w0 W W1 : World} {p g2 g4 : Nat} {L : List Gr} (h : AW w0 W p g2 g4 L) (hb : Below W.heap.size W W1) (hn : L.length ≤ 30000) : Calls Try.prog 10 #[.pointer (some ⟨p, 0, none⟩), .agg #[.int .i64 0, .bool false, .int .i64 0, .int .i64 0, .int .i64 0, .string ⟨#[]⟩]] W1 fun e w' => e = .returned (.int .i64 1) ∧ AW w0 w' p g2 g4 L :=
  (put_to (x := gz) (c := 1) (L' := L) (h.below hb).pq hn (putX_gz L) (by unfold putL; rw [putX_gz]; rfl)).mono fun _ _ k => ⟨k.1, (h.below hb).keep k.2.1 k.2.2⟩
theorem AW.clear_ {w0 W W1 : World} {p g2 g4 : Nat} (h : AW w0 W p g2 g4 [gm sA]) (hb : Below W.heap.size W W1) : Calls Try.prog 27 #[.pointer (some ⟨p, 0, none⟩), .int .i64 1] W1 fun e w' => e = .returned (.int .i64 1) ∧ AW w0 w' p g2 g4 [] :=
  (clear_any p _ _ 1 W1 (h.below hb).pq (by decide)).mono fun _ _ k => ⟨k.1.trans (by rfl), (h.below hb).keep k.2.1 k.2.2⟩
theorem AW.count {w0 W W1 : World} {p g2 g4 : Nat} (h : AW w0 W p g2 g4 []) (hb : Below W.heap.size W W1) : Calls Try.prog 14 #[.pointer (some ⟨p, 0, none⟩), .int .i64 1, .bool true] W1 fun e w' => e = .returned (.int .i64 0) ∧ AW w0 w' p g2 g4 [] :=
  (count_to (n := 0) (h.below hb).pq (by decide) rfl).mono fun _ _ k => ⟨k.1, (h.below hb).below k.2⟩
set_option maxRecDepth 100000 in
set_option maxHeartbeats 4000000 in
theorem awake_any (w : World) : Calls Try.prog 8 #[] w fun e w' => e = .returned (.bool true) ∧ Below w.heap.size w w' := by
  go_enter Try.func8, Try.ntmps8
  go_wp2_with fail
  refine (new_any w).mono ?_
  rintro e w1 ⟨rfl, h1, b1⟩
  have H := Lib.hid h1
  have HB := Lib.hid b1
  clear h1 b1
  go_wp2_with fail
  refine (gram_any sA w1).mono ?_
  rintro e w2 ⟨rfl, b2⟩
  have H2 := Lib.hid (H.out.below b2)
  have HB2 := Lib.hid (HB.out.trans (b2.mono HB.out.size))
  clear b2 H HB
  go_wp2_with fail
  refine (put_to (x := gm sA) (c := 0) (L' := [gm sA]) H2.out (by decide) (by decide) rfl).mono ?_
  rintro e w3 ⟨rfl, h3, k3⟩
  have H3 := Lib.hid h3
  have HB3 := Lib.hid (HB2.out.trans (k3.below fun _ h => h))
  clear h3 k3 H2 HB2
  go_wp2_with fail
  refine (gram_any sB w3).mono ?_
  rintro e w4 ⟨rfl, b4⟩
  have H4 := Lib.hid (H3.out.below b4)
  have HB4 := Lib.hid (HB3.out.trans (b4.mono HB3.out.size))
  clear b4 H3 HB3
  go_wp2_with fail
  refine (put_to (x := gm sB) (c := 0) (L' := [gm sA, gm sB]) H4.out (by decide) (by decide) rfl).mono ?_
  rintro e w5 ⟨rfl, h5, k5⟩
  have H5 := Lib.hid h5
  have HB5 := Lib.hid (HB4.out.trans (k5.below fun _ h => h))
  clear h5 k5 H4 HB4
  go_wp2_with fail
  refine (copy_to (b := true) (L' := [gm sA, gm sB, gm sA]) H5.out (by decide) (by decide) rfl).mono ?_
  rintro e w6 ⟨rfl, h6, k6⟩
  have H6 := Lib.hid h6
  have HB6 := Lib.hid (HB5.out.trans (k6.below fun _ h => h))
  clear h6 k6 H5 HB5
  go_wp2_with fail
  refine (count_to (n := 3) H6.out (by decide) (by decide)).mono ?_
  rintro e w7 ⟨rfl, b7⟩
  have H7 := Lib.hid (H6.out.below b7)
  have HB7 := Lib.hid (HB6.out.trans (b7.mono HB6.out.size))
  clear b7 H6 HB6
  go_wp2_with fail
  refine (pick_any _ _ _ 1 true 1 w7 H7.out (by decide)).mono ?_
  intro e w8 h8
  have h8' : e = .returned (.tuple #[.agg #[.int .i64 1, .bool true, .int .i64 0, .int .i64 0, .int .i64 0, .string ⟨#[98]⟩], .bool true]) ∧ PQ 69 w8 w.heap.size (fun k => k < w.heap.size) [gm sA, gm sA] ∧ Keep (fun k => k < w.heap.size) w7 w8 := got_some (x := gm sB) h8 rfl
  clear h8
  obtain ⟨rfl, h8, k8⟩ := h8'
  have hb8 := HB7.out.trans (k8.below fun _ h => h)
  have H9 := Lib.hid (h8.alloc (.cells #[.int .i64 1, .bool true, .int .i64 0, .int .i64 0, .int .i64 0, .string ⟨#[98]⟩] 29))
  have HX9 := Lib.hid (Blk.new w8 29 #[.int .i64 1, .bool true, .int .i64 0, .int .i64 0, .int .i64 0, .string ⟨#[98]⟩])
  have HB9 := Lib.hid (hb8.trans ((below_box w8 (.cells #[.int .i64 1, .bool true, .int .i64 0, .int .i64 0, .int .i64 0, .string ⟨#[98]⟩] 29)).mono hb8.size))
  clear h8 k8 H7 HB7 hb8
  go_wp2_with fail
  generalize hGen : w8.alloc (.cells #[.int .i64 1, .bool true, .int .i64 0, .int .i64 0, .int .i64 0, .string ⟨#[98]⟩] 29) = w9 at H9 HX9 HB9 ⊢
  clear hGen
  generalize w8.heap.size = g2 at *
  refine (eldest_any _ _ _ w9 H9.out (by decide)).mono ?_
  intro e w10 h10
  have h10' : e = .returned (.tuple #[.agg #[.int .i64 1, .bool true, .int .i64 0, .int .i64 0, .int .i64 0, .string ⟨#[97]⟩], .bool true]) ∧ PQ 69 w10 w.heap.size (fun k => k < w.heap.size ∨ k = g2) [gm sA] ∧ Keep (fun k => k < w.heap.size ∨ k = g2) w9 w10 := got_some (x := gm sA) h10 rfl
  clear h10
  obtain ⟨rfl, h10, k10⟩ := h10'
  have hb10 := HB9.out.trans (k10.below fun _ h => .inl h)
  have hx10 := k10.blk HX9.out (.inr rfl)
  have HA : Hid (AW w (w10.alloc (.cells #[.int .i64 1, .bool true, .int .i64 0, .int .i64 0, .int .i64 0, .string ⟨#[97]⟩] 29)) w.heap.size g2 w10.heap.size [gm sA]) := Lib.hid ⟨(h10.alloc (.cells #[.int .i64 1, .bool true, .int .i64 0, .int .i64 0, .int .i64 0, .string ⟨#[97]⟩] 29)).mono (fun k h => by rcases h with h | h | h; exact .inl (.inl h); exact .inl (.inr h); exact .inr h), hx10.alloc _, Blk.new w10 _ _, hb10.trans ((below_box w10 (.cells #[.int .i64 1, .bool true, .int .i64 0, .int .i64 0, .int .i64 0, .string ⟨#[97]⟩] 29)).mono hb10.size)⟩
  clear h10 k10 H9 HX9 HB9 hb10 hx10
  go_wp2_with fail
  generalize hGen : w10.alloc (.cells #[.int .i64 1, .bool true, .int .i64 0, .int .i64 0, .int .i64 0, .string ⟨#[97]⟩] 29) = w11 at HA ⊢
  clear hGen
  generalize w10.heap.size = g4 at *
  have hqA : ∀ W, (binOp .eql 29 (.agg #[.int .i64 1, .bool true, .int .i64 0, .int .i64 0, .int .i64 0, .string ⟨#[97]⟩]) (.agg #[.int .i64 1, .bool true, .int .i64 0, .int .i64 0, .int .i64 0, .string ⟨#[97]⟩])).run Try.prog W = .ok (.bool true) W := run_eqg (gm sA)
  have hqB : ∀ W, (binOp .eql 29 (.agg #[.int .i64 1, .bool true, .int .i64 0, .int .i64 0, .int .i64 0, .string ⟨#[98]⟩]) (.agg #[.int .i64 1, .bool true, .int .i64 0, .int .i64 0, .int .i64 0, .string ⟨#[98]⟩])).run Try.prog W = .ok (.bool true) W := run_eqg (gm sB)
  have hgd := fun (A B : Operand) xs ys W => run_guard_gram .eql A B xs ys W
  have hz4 := HA.out.cells
  go_region_held3 (fun w' => (w'.cell? ⟨g2, 0, none⟩ = some (.int .i64 1) ∧ w'.cell? ⟨g2, 1, none⟩ = some (.bool true) ∧ w'.cell? ⟨g2, 2, none⟩ = some (.int .i64 0) ∧ w'.cell? ⟨g2, 3, none⟩ = some (.int .i64 0) ∧ w'.cell? ⟨g2, 4, none⟩ = some (.int .i64 0) ∧ w'.cell? ⟨g2, 5, none⟩ = some (.string ⟨#[98]⟩)) ∧
    (w'.cell? ⟨g4, 0, none⟩ = some (.int .i64 1) ∧ w'.cell? ⟨g4, 1, none⟩ = some (.bool true) ∧ w'.cell? ⟨g4, 2, none⟩ = some (.int .i64 0) ∧ w'.cell? ⟨g4, 3, none⟩ = some (.int .i64 0) ∧ w'.cell? ⟨g4, 4, none⟩ = some (.int .i64 0) ∧ w'.cell? ⟨g4, 5, none⟩ = some (.string ⟨#[97]⟩))) (first | assumption) (first
    | (go_at_call 26; (with_reducible refine (HA.out.gram _ ?_).mono ?_); (first | assumption | exact (Below.refl _ _).drew | exact Below.refl _ _); rintro e wW ⟨rfl, hN⟩; have hz4 := hN.cells; have HA := Lib.hid hN; clear hN)
    | (go_at_call 10; (with_reducible refine (HA.out.put ?_ (by decide)).mono ?_); (first | assumption | exact (Below.refl _ _).drew | exact Below.refl _ _); rintro e wW ⟨rfl, hN⟩; have hz4 := hN.cells; have HA := Lib.hid hN; clear hN)
    | (go_at_call 27; (with_reducible refine (HA.out.clear_ ?_).mono ?_); (first | assumption | exact (Below.refl _ _).drew | exact Below.refl _ _); rintro e wW ⟨rfl, hN⟩; have hz4 := hN.cells; have HA := Lib.hid hN; clear hN)
    | (go_at_call 14; (with_reducible refine (HA.out.count ?_).mono ?_); (first | assumption | exact (Below.refl _ _).drew | exact Below.refl _ _); rintro e wW ⟨rfl, hN⟩; have hz4 := hN.cells; have HA := Lib.hid hN; clear hN))
  all_goals
    have HB := Lib.hid HA.out.bel
    clear HA hz4
    go_wp2
    go_ret
    exact ⟨rfl, HB.out⟩
end Go.Proofs.Ythkgmfgchgoafaa.Mist
