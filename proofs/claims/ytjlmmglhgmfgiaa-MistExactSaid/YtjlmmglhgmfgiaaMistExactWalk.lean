/- The walk of the statement MistExact. -/
import Derived.Test.YtjlmmglhgmfgiaaMistExact0
import Derived.Test.YtjlmmglhgmfgiaaMistQuiet
import Derived.StillTailTactics
import Derived.Deep.RegionHeld3
import Derived.Lib.QuietBelow
import Derived.Deep.CutBlock
import Derived.Deep.DeepCutAuto
import Derived.Sort.QuietIn
namespace Go.Proofs.Ytjlmmglhgmfgiaa.Mist
set_option maxRecDepth 100000
open Go.RowKit Go.Shelf Go.Sort
open Go.Proofs.Ytjlmmglhgmfgiaa.Mem Go.Proofs.Ytjlmmglhgmfgiaa.CordG
attribute [local go_sem] Oper.semAt_some
theorem run_equalIn_func (d : Nat) (fn : Fn) (x y : Array Value) (w : World) : (Op.equalIn (d + 1) 43 (.func fn x y) .nilFunc).run Try.prog w = .ok false w := by
  have hu := Try.underlying43
  simp [Op.equalIn, run_underlying hu]
theorem run_func_nil (fn : Fn) (x y : Array Value) (w : World) : (binOp .eql 43 (.func fn x y) .nilFunc).run Try.prog w = .ok (.bool false) w := by
  simp only [binOp]
  simp [Op.equal, Op.maxDepth, run_equalIn_func 9999 fn x y w]
/-- where no operation panics, what a panic would be asked is no matter -/
def onlyN (Q : Exit → Go.Act → World → Prop) : Exit → Go.Act → World → Prop
  | .normal, a, w => Q .normal a w
  | _, _, _ => False
theorem wp_only {P : Program} {c : Code} {Q : Exit → Go.Act → World → Prop} {a : Go.Act} {w : World} (h : c.wp P (onlyN Q) a w) : c.wp P Q a w :=
  Code.wp_mono (fun e a w he => by cases e <;> first | exact he | exact he.elim) h
theorem same_ne {z x : Gr} (h : z ≠ x) : sameG z x = false := by
  cases hs : sameG z x with
  | false => rfl
  | true =>
    exfalso
    apply h
    unfold sameG at hs
    simp only [Bool.and_eq_true, beq_iff_eq] at hs
    obtain ⟨h1, h2, h3, h4, h5, h6⟩ := hs
    rw [ByteArray.toList_eq, ByteArray.toList_eq] at h6
    have h7 := Go.WideShapes.bytes_inj h6
    cases z; cases x
    simp only at h1 h2 h3 h4 h5 h7
    subst h1; subst h2; subst h3; subst h4; subst h5; subst h7
    rfl
theorem not_pre {L pre : List Gr} {z x : Gr} (hz : L[pre.length]? = some z) (h : z ≠ x) : ¬ pre ++ [x] <+: L := by
  rintro ⟨t, rfl⟩
  apply h
  simp at hz
  exact hz.symm
def St (w0 W : World) (p q gU k : Nat) : Prop := ∃ L, SX w0 W p q w0.heap.size gU L ∧ L.length ≤ k
def RR (w0 W : World) (p q gR gU bx bg bh k : Nat) (c : Array Value) : Prop := ∃ L y, RX w0 W p q gR gU bx bg bh L L c y y ∧ L.length ≤ k
set_option maxRecDepth 100000 in
set_option maxHeartbeats 8000000 in
theorem exact_walk (a : Option Addr) (n cc : Nat) (zs : List Act) (w : World) (hI : Acts w a n zs) :
    Calls Try.prog 3 #[.slice a n cc] w fun e w' => e = .returned (.bool true) ∧ Below w.heap.size w w' := by
  have HI := Lib.hid hI
  have hmq := run_func_nil
  clear hI
  refine (callsIn_wide (n := 6)).1 ?_
  refine callsIn_of_wp_marks Try.func3 rfl trivial ?_ rfl
  refine wpIn_wide.2 ?_
  simp only [Try.ntmps3, List.size_toArray, List.length_cons, List.length_nil, Nat.reduceAdd, Nat.reduceSub, Array.replicate_succ, Array.replicate_zero, List.push_toArray, List.append_toArray, List.nil_append, List.cons_append]
  have hB := Blk.new w 4 #[.bool false]
  have hb0 := (Below.refl w.heap.size w).alloc (Nat.le_refl _) (.cells #[.bool false] 4)
  go_wp2_with fail
  generalize hGen : w.alloc (.cells #[.bool false] 4) = W0 at hB hb0 ⊢
  clear hGen
  refine (awake_any W0).mono ?_
  rintro e w1 ⟨rfl, b1⟩
  have hB1 := hB.below b1 hB.lt
  have hb1 := hb0.trans (b1.mono hb0.size)
  clear hB hb0 b1
  go_wp2_with fail
  refine (new_any w1).mono ?_
  rintro e w2 ⟨rfl, r1, b2⟩
  have ST : Hid (St w ((w2.alloc (.cells #[.slice none 0 0] 29)).alloc (.cells #[.pointer (some ⟨w2.heap.size, 0, none⟩)] 26)) w1.heap.size w2.heap.size (w2.heap.size + 1) 0) :=
    Lib.hid ⟨[], sx_new r1 (hB1.below b2 hB1.lt) (Nat.le_refl _) hB1.lt (hb1.trans (b2.mono hb1.size)), Nat.le_refl _⟩
  have HP : Hid (w.heap.size < w2.heap.size + 1) := Lib.hid (by have := hB1.lt; have := b2.size; omega)
  clear hB1 hb1 r1 b2
  generalize w1.heap.size = p at *
  have e1 : (w2.alloc (.cells #[.slice none 0 0] 29)).heap.size = w2.heap.size + 1 := by simp
  go_wp2_with fail
  try rw [e1]
  generalize hGen : (w2.alloc (.cells #[.slice none 0 0] 29)).alloc (.cells #[.pointer (some ⟨w2.heap.size, 0, none⟩)] 26) = W2 at ST ⊢
  clear hGen
  clear e1
  generalize w2.heap.size + 1 = gU at *
  generalize w2.heap.size = q at *
  go_loopw [5] (fun ti wr => ∃ k : Nat, k ≤ 200 ∧ k ≤ n ∧ ti = .int .i64 (k : Int) ∧ Hid (St w wr p q gU k)) (fun ti _ => 200 - (intOf ti).toNat)
  case atStart => exact ⟨0, Nat.zero_le _, Nat.zero_le _, rfl, ST⟩
  case round =>
    obtain ⟨k, hk, hkn, rfl, HK⟩ := hrel
    clear ST
    rcases (show (k < n ∧ k < 200) ∨ (k < n ∧ k = 200) ∨ k = n by omega) with ⟨hlt, hlt2⟩ | ⟨hlt, h⟩ | h
    · obtain ⟨L, hT, hL⟩ := HK.out
      obtain ⟨b, off, ⟨kd, ⟨cl, up, ep, sq, ak, bd⟩, at_⟩, rfl, -, hz, ⟨c0, c1, c2, c3, c4, c5, c6, c7⟩, hg⟩ := (HI.out.below hT.e.bel).at_ hlt
      dsimp only at c0 c1 c2 c3 c4 c5 c6 c7
      have HR := Lib.hid (rx_new hT #[.int .i64 kd, .int .i64 cl, .bool up, .int .i64 ep, .int .i64 sq, .int .i64 ak, .string bd, .int .i64 at_])
      have hgw := HP.out
      have hgU := hT.u.lt
      clear hz hg HK
      by_cases hbd : (4096 : Int) < (bd.size : Int)
      · have HBB := Lib.hid (hT.e.bel.trans ((below_box wr (.cells #[.int .i64 kd, .int .i64 cl, .bool up, .int .i64 ep, .int .i64 sq, .int .i64 ak, .string bd, .int .i64 at_] 33)).mono hT.e.bel.size))
        have r0 := (hT.r.below (below_box wr (.cells #[.int .i64 kd, .int .i64 cl, .bool up, .int .i64 ep, .int .i64 sq, .int .i64 ak, .string bd, .int .i64 at_] 33)) hT.r.lt).cell 0
        have rf := (hT.r.below (below_box wr (.cells #[.int .i64 kd, .int .i64 cl, .bool up, .int .i64 ep, .int .i64 sq, .int .i64 ak, .string bd, .int .i64 at_] 33)) hT.r.lt).frozen 0
        have hc5 := World.cell?_setCell_same (wr.alloc (.cells #[.int .i64 kd, .int .i64 cl, .bool up, .int .i64 ep, .int .i64 sq, .int .i64 ak, .string bd, .int .i64 at_] 33)) (⟨w.heap.size, 0, none⟩ : Addr) (.bool true) r0
        have HBF := Lib.hid (HBB.out.setCell (p := ⟨w.heap.size, 0, none⟩) (Nat.le_refl _) (.bool true))
        clear HR hT HBB
        go_wp2
        exact ⟨.bool true, by simp [results, Try.results3, go_sem, hc5], rfl, HBF.out⟩
      · clear hT
        go_upto_region 17 with (fail)
        generalize hGen : ((wr.alloc (.cells #[.int .i64 kd, .int .i64 cl, .bool up, .int .i64 ep, .int .i64 sq, .int .i64 ak, .string bd, .int .i64 at_] 33)).alloc (.cells #[.int .i64 0, .bool false, .int .i64 0, .int .i64 0, .int .i64 0, .string ⟨#[]⟩] 31)).alloc (.cells #[.int .i64 0, .bool false, .int .i64 0, .int .i64 0, .int .i64 0, .string ⟨#[]⟩] 31) = W1 at HR ⊢
        clear hGen
        have hi3 : wr.heap.size < wr.heap.size + 1 := by omega
        have hi4 : wr.heap.size + 1 < wr.heap.size + 1 + 1 := by omega
        generalize wr.heap.size + 1 + 1 = bh at *
        generalize wr.heap.size + 1 = bg at *
        generalize wr.heap.size = bx at *
        have HI1 := Lib.hid hgw
        have HI2 := Lib.hid hgU
        have HI3 := Lib.hid hi3
        have HI4 := Lib.hid hi4
        clear hgw hgU hi3 hi4 c0 c1 c2 c3 c4 c5 c6 c7 HI HP
        have hlk : L.length ≤ 200 := by omega
        have x0 := HR.out.x.cell 0
        obtain ⟨x1, x2, x3, x4, x5, x6, x7, u0⟩ := HR.out.cells
        go_upto_block 2 with (fail)
        go_cut [11, 12] from 21 to 134 (fun ta tb wx => ∃ bb : Bool, ta = .bool bb ∧ tb = .bool bb ∧ Hid (RR w wx p q w.heap.size gU bx bg bh (k + 1) #[.int .i64 kd, .int .i64 cl, .bool up, .int .i64 ep, .int .i64 sq, .int .i64 ak, .string bd, .int .i64 at_]))
        case first =>
          by_cases k1 : kd = 1
          · subst k1
            have hpl := put_len L (⟨cl, up, ep, sq, ak, bd⟩ : Gr)
            have HA : Hid (∀ W', Below W1.heap.size W1 W' → Calls Try.prog 9 #[.pointer (some ⟨p, 0, none⟩), .agg #[.int .i64 cl, .bool up, .int .i64 ep, .int .i64 sq, .int .i64 ak, .string bd]] W' fun r w5 => r = .returned (.int .i64 (putX L (⟨cl, up, ep, sq, ak, bd⟩ : Gr))) ∧ Hid (∀ W'', Below w5.heap.size w5 W'' → Calls Try.prog 10 #[.pointer (some ⟨q, 0, none⟩), .agg #[.int .i64 cl, .bool up, .int .i64 ep, .int .i64 sq, .int .i64 ak, .string bd]] W'' fun r w6 => r = .returned (.int .i64 (putX L (⟨cl, up, ep, sq, ak, bd⟩ : Gr))) ∧ Hid (RR w w6 p q w.heap.size gU bx bg bh (k + 1) #[.int .i64 1, .int .i64 cl, .bool up, .int .i64 ep, .int .i64 sq, .int .i64 ak, .string bd, .int .i64 at_]) ∧ w6.cell? ⟨bx, 1, none⟩ = some (.int .i64 cl) ∧ w6.cell? ⟨bx, 2, none⟩ = some (.bool up) ∧ w6.cell? ⟨bx, 3, none⟩ = some (.int .i64 ep) ∧ w6.cell? ⟨bx, 4, none⟩ = some (.int .i64 sq) ∧ w6.cell? ⟨bx, 5, none⟩ = some (.int .i64 ak) ∧ w6.cell? ⟨bx, 6, none⟩ = some (.string bd) ∧ w6.cell? ⟨gU, 0, none⟩ = some (.pointer (some ⟨q, 0, none⟩))) ∧ w5.cell? ⟨bx, 1, none⟩ = some (.int .i64 cl) ∧ w5.cell? ⟨bx, 2, none⟩ = some (.bool up) ∧ w5.cell? ⟨bx, 3, none⟩ = some (.int .i64 ep) ∧ w5.cell? ⟨bx, 4, none⟩ = some (.int .i64 sq) ∧ w5.cell? ⟨bx, 5, none⟩ = some (.int .i64 ak) ∧ w5.cell? ⟨bx, 6, none⟩ = some (.string bd) ∧ w5.cell? ⟨gU, 0, none⟩ = some (.pointer (some ⟨q, 0, none⟩))) := Lib.hid fun W' hb => by
              refine ((HR.out.below hb).onN (fun M h => put_any p M L (⟨cl, up, ep, sq, ak, bd⟩ : Gr) _ h (by omega))).mono ?_
              rintro r w5 ⟨rfl, h5⟩
              obtain ⟨k1, k2, k3, k4, k5, k6, _, k8⟩ := h5.cells
              refine ⟨rfl, Lib.hid fun W'' hb2 => ?_, k1, k2, k3, k4, k5, k6, k8⟩
              refine ((h5.below hb2).onM (fun M h => uput_any q M L (⟨cl, up, ep, sq, ak, bd⟩ : Gr) _ h (by omega))).mono ?_
              rintro r w6 ⟨rfl, h6⟩
              obtain ⟨k1, k2, k3, k4, k5, k6, _, k8⟩ := h6.cells
              exact ⟨rfl, Lib.hid ⟨_, _, h6, by omega⟩, k1, k2, k3, k4, k5, k6, k8⟩
            have HZ : Hid (W1.cell? ⟨bx, 1, none⟩ = some (.int .i64 cl) ∧ W1.cell? ⟨bx, 2, none⟩ = some (.bool up) ∧ W1.cell? ⟨bx, 3, none⟩ = some (.int .i64 ep) ∧ W1.cell? ⟨bx, 4, none⟩ = some (.int .i64 sq) ∧ W1.cell? ⟨bx, 5, none⟩ = some (.int .i64 ak) ∧ W1.cell? ⟨bx, 6, none⟩ = some (.string bd) ∧ W1.cell? ⟨gU, 0, none⟩ = some (.pointer (some ⟨q, 0, none⟩))) := Lib.hid ⟨x1, x2, x3, x4, x5, x6, u0⟩
            clear HR x1 x2 x3 x4 x5 x6 x7
            generalize putX L (⟨cl, up, ep, sq, ak, bd⟩ : Gr) = sx at HA
            have hsn : (sx != sx) = false := by simp
            go_wp2_with fail
            refine wp_only ?_
            go_region_held3 (fun W => W.cell? ⟨bx, 1, none⟩ = some (.int .i64 cl) ∧ W.cell? ⟨bx, 2, none⟩ = some (.bool up) ∧ W.cell? ⟨bx, 3, none⟩ = some (.int .i64 ep) ∧ W.cell? ⟨bx, 4, none⟩ = some (.int .i64 sq) ∧ W.cell? ⟨bx, 5, none⟩ = some (.int .i64 ak) ∧ W.cell? ⟨bx, 6, none⟩ = some (.string bd) ∧ W.cell? ⟨gU, 0, none⟩ = some (.pointer (some ⟨q, 0, none⟩))) (first | assumption | exact HZ.out) (first
              | (go_at_call 9; (with_reducible refine (HA.out _ ?_).mono ?_); (first | assumption | exact (Below.refl _ _).drew | exact Below.refl _ _); rintro r w5 ⟨rfl, HN, hz5⟩)
              | (go_at_call 10; (with_reducible refine (HN.out _ ?_).mono ?_); (first | assumption | exact (Below.refl _ _).drew | exact Below.refl _ _); rintro r w6 ⟨rfl, H6, hz6⟩))
            all_goals
              clear HA HN hz5 hz6 HZ u0
              unfold onlyN
              go_wp2_with fail
              go_meet
              exact ⟨true, rfl, rfl, H6⟩
          by_cases k2 : kd = 2
          · subst k2
            have hpl := pick_len L cl up at_
            have HP1 := Lib.hid (HR.out.onN (fun M h => (pick_any p M L cl up at_ _ h (by omega)).mono fun _ _ h => got_n h))
            clear x1 x2 x3 x4 x5 x6
            generalize hgg : gotG (pickO L cl up at_) = y at HP1
            generalize hgb : gotB (pickO L cl up at_) = bb at HP1
            have HY := Lib.hid (And.intro hgg hgb)
            clear hgg hgb
            go_wp2_with fail
            refine HP1.out.mono ?_
            rintro e W2 ⟨rfl, hR⟩
            have hR3 := RX.setG (y' := y) hR (Nat.le_refl _) HI1.out HI2.out HI3.out HI4.out
            obtain ⟨z0, z1, z2, z3, z4, z5⟩ := blk_cells hR.g
            obtain ⟨f0, f1, f2, f3, f4, f5⟩ := blk_fr hR.g
            obtain ⟨W3, hW3⟩ : ∃ W3, six W2 bg y = W3 := ⟨_, rfl⟩
            rw [hW3] at hR3
            have HW3 : Hid ((((((W2.setCell ⟨bg, 0, none⟩ (.int .i64 y.cl)).setCell ⟨bg, 1, none⟩ (.bool y.up)).setCell ⟨bg, 2, none⟩ (.int .i64 y.ep)).setCell ⟨bg, 3, none⟩ (.int .i64 y.sq)).setCell ⟨bg, 4, none⟩ (.int .i64 y.ak)).setCell ⟨bg, 5, none⟩ (.string y.bd) = W3) := Lib.hid hW3
            have HR3 := Lib.hid hR3
            have HP2 := Lib.hid (HR3.out.onM (fun M h => (upick_any q M L cl up at_ _ h (by omega)).mono fun _ _ h => got_m h))
            rw [HY.out.1, HY.out.2] at HP2
            clear HP1 HR hR hR3 hW3
            go_upto_region 23 with (fail)
            rw [HW3.out]
            clear HW3 z0 z1 z2 z3 z4 z5 f0 f1 f2 f3 f4 f5
            obtain ⟨_, _, _, _, _, _, v7, u1⟩ := HR3.out.cells
            go_wp2_with fail
            refine HP2.out.mono ?_
            rintro e W4 ⟨rfl, hR⟩
            have hR5 := RX.setH (y' := y) hR (Nat.le_refl _) HI1.out HI2.out HI3.out HI4.out
            obtain ⟨z0, z1, z2, z3, z4, z5⟩ := blk_cells hR.h
            obtain ⟨f0, f1, f2, f3, f4, f5⟩ := blk_fr hR.h
            obtain ⟨W5, hW5⟩ : ∃ W5, six W4 bh y = W5 := ⟨_, rfl⟩
            rw [hW5] at hR5
            have HW5 : Hid ((((((W4.setCell ⟨bh, 0, none⟩ (.int .i64 y.cl)).setCell ⟨bh, 1, none⟩ (.bool y.up)).setCell ⟨bh, 2, none⟩ (.int .i64 y.ep)).setCell ⟨bh, 3, none⟩ (.int .i64 y.sq)).setCell ⟨bh, 4, none⟩ (.int .i64 y.ak)).setCell ⟨bh, 5, none⟩ (.string y.bd) = W5) := Lib.hid hW5
            have H6 : Hid (RR w W5 p q w.heap.size gU bx bg bh (k + 1) #[.int .i64 2, .int .i64 cl, .bool up, .int .i64 ep, .int .i64 sq, .int .i64 ak, .string bd, .int .i64 at_]) := Lib.hid ⟨_, _, hR5, by omega⟩
            clear HP2 HR3 hR hR5 hW5 v7 u1 HY
            go_wp2_with fail
            rw [HW5.out]
            go_meet
            exact ⟨bb, rfl, rfl, H6⟩
          by_cases k3 : kd = 3
          · subst k3
            have hpl := copy_len L cl up at_
            have HP1 := Lib.hid (HR.out.onN (fun M h => copy_any p M L cl up at_ _ h (by omega)))
            clear x1 x2 x3 x4 x5 x6
            go_wp2_with fail
            refine HP1.out.mono ?_
            rintro e W2 ⟨rfl, hR⟩
            have HR3 := Lib.hid hR
            have HP2 := Lib.hid (HR3.out.onM (fun M h => ucopy_any q M L cl up at_ _ h (by omega)))
            obtain ⟨_, _, _, _, _, _, v7, u1⟩ := HR3.out.cells
            clear HP1 HR hR x7 u0 x0
            go_wp2_with fail
            refine HP2.out.mono ?_
            rintro e W4 ⟨rfl, hR⟩
            have H6 : Hid (RR w W4 p q w.heap.size gU bx bg bh (k + 1) #[.int .i64 3, .int .i64 cl, .bool up, .int .i64 ep, .int .i64 sq, .int .i64 ak, .string bd, .int .i64 at_]) := Lib.hid ⟨_, _, hR, by omega⟩
            clear HP2 HR3 hR v7 u1
            go_wp2_with fail
            go_meet
            exact ⟨_, rfl, rfl, H6⟩
          by_cases k4 : kd = 4
          · subst k4
            have hpl : L.tail.length ≤ L.length := by simp
            have HP1 := Lib.hid (HR.out.onN (fun M h => (eldest_any p M L _ h (by omega)).mono fun _ _ h => got_n h))
            clear x1 x2 x3 x4 x5 x6 x7
            generalize hgg : gotG (eldO L) = y at HP1
            generalize hgb : gotB (eldO L) = bb at HP1
            have HY := Lib.hid (And.intro hgg hgb)
            clear hgg hgb
            go_wp2_with fail
            refine HP1.out.mono ?_
            rintro e W2 ⟨rfl, hR⟩
            have hR3 := RX.setG (y' := y) hR (Nat.le_refl _) HI1.out HI2.out HI3.out HI4.out
            obtain ⟨z0, z1, z2, z3, z4, z5⟩ := blk_cells hR.g
            obtain ⟨f0, f1, f2, f3, f4, f5⟩ := blk_fr hR.g
            obtain ⟨W3, hW3⟩ : ∃ W3, six W2 bg y = W3 := ⟨_, rfl⟩
            rw [hW3] at hR3
            have HW3 : Hid ((((((W2.setCell ⟨bg, 0, none⟩ (.int .i64 y.cl)).setCell ⟨bg, 1, none⟩ (.bool y.up)).setCell ⟨bg, 2, none⟩ (.int .i64 y.ep)).setCell ⟨bg, 3, none⟩ (.int .i64 y.sq)).setCell ⟨bg, 4, none⟩ (.int .i64 y.ak)).setCell ⟨bg, 5, none⟩ (.string y.bd) = W3) := Lib.hid hW3
            have HR3 := Lib.hid hR3
            have HP2 := Lib.hid (HR3.out.onM (fun M h => (ueldest_any q M L _ h (by omega)).mono fun _ _ h => got_m h))
            rw [HY.out.1, HY.out.2] at HP2
            clear HP1 HR hR hR3 hW3
            go_upto_region 29 with (fail)
            rw [HW3.out]
            clear HW3 z0 z1 z2 z3 z4 z5 f0 f1 f2 f3 f4 f5
            obtain ⟨_, _, _, _, _, _, v7, u1⟩ := HR3.out.cells
            go_wp2_with fail
            refine HP2.out.mono ?_
            rintro e W4 ⟨rfl, hR⟩
            have hR5 := RX.setH (y' := y) hR (Nat.le_refl _) HI1.out HI2.out HI3.out HI4.out
            obtain ⟨z0, z1, z2, z3, z4, z5⟩ := blk_cells hR.h
            obtain ⟨f0, f1, f2, f3, f4, f5⟩ := blk_fr hR.h
            obtain ⟨W5, hW5⟩ : ∃ W5, six W4 bh y = W5 := ⟨_, rfl⟩
            rw [hW5] at hR5
            have HW5 : Hid ((((((W4.setCell ⟨bh, 0, none⟩ (.int .i64 y.cl)).setCell ⟨bh, 1, none⟩ (.bool y.up)).setCell ⟨bh, 2, none⟩ (.int .i64 y.ep)).setCell ⟨bh, 3, none⟩ (.int .i64 y.sq)).setCell ⟨bh, 4, none⟩ (.int .i64 y.ak)).setCell ⟨bh, 5, none⟩ (.string y.bd) = W5) := Lib.hid hW5
            have H6 : Hid (RR w W5 p q w.heap.size gU bx bg bh (k + 1) #[.int .i64 4, .int .i64 cl, .bool up, .int .i64 ep, .int .i64 sq, .int .i64 ak, .string bd, .int .i64 at_]) := Lib.hid ⟨_, _, hR5, by omega⟩
            clear HP2 HR3 hR hR5 hW5 v7 u1 HY
            go_wp2_with fail
            rw [HW5.out]
            go_meet
            exact ⟨bb, rfl, rfl, H6⟩
          by_cases k5 : kd = 5
          · subst k5
            have hpl : (L.filter (notC cl)).length ≤ L.length := List.length_filter_le _ _
            have HA : Hid (∀ W', Below W1.heap.size W1 W' → Calls Try.prog 17 #[.pointer (some ⟨p, 0, none⟩), .int .i64 cl] W' fun r w5 => r = .returned (.int .i64 (clearN L cl)) ∧ Hid (∀ W'', Below w5.heap.size w5 W'' → Calls Try.prog 18 #[.pointer (some ⟨q, 0, none⟩), .int .i64 cl] W'' fun r w6 => r = .returned (.int .i64 (clearN L cl)) ∧ Hid (RR w w6 p q w.heap.size gU bx bg bh (k + 1) #[.int .i64 5, .int .i64 cl, .bool up, .int .i64 ep, .int .i64 sq, .int .i64 ak, .string bd, .int .i64 at_]) ∧ w6.cell? ⟨bx, 1, none⟩ = some (.int .i64 cl) ∧ w6.cell? ⟨bx, 2, none⟩ = some (.bool up) ∧ w6.cell? ⟨bx, 3, none⟩ = some (.int .i64 ep) ∧ w6.cell? ⟨bx, 4, none⟩ = some (.int .i64 sq) ∧ w6.cell? ⟨bx, 5, none⟩ = some (.int .i64 ak) ∧ w6.cell? ⟨bx, 6, none⟩ = some (.string bd) ∧ w6.cell? ⟨gU, 0, none⟩ = some (.pointer (some ⟨q, 0, none⟩))) ∧ w5.cell? ⟨bx, 1, none⟩ = some (.int .i64 cl) ∧ w5.cell? ⟨bx, 2, none⟩ = some (.bool up) ∧ w5.cell? ⟨bx, 3, none⟩ = some (.int .i64 ep) ∧ w5.cell? ⟨bx, 4, none⟩ = some (.int .i64 sq) ∧ w5.cell? ⟨bx, 5, none⟩ = some (.int .i64 ak) ∧ w5.cell? ⟨bx, 6, none⟩ = some (.string bd) ∧ w5.cell? ⟨gU, 0, none⟩ = some (.pointer (some ⟨q, 0, none⟩))) := Lib.hid fun W' hb => by
              refine ((HR.out.below hb).onN (fun M h => clear_any p M L cl _ h (by omega))).mono ?_
              rintro r w5 ⟨rfl, h5⟩
              obtain ⟨k1, k2, k3, k4, k5, k6, _, k8⟩ := h5.cells
              refine ⟨rfl, Lib.hid fun W'' hb2 => ?_, k1, k2, k3, k4, k5, k6, k8⟩
              refine ((h5.below hb2).onM (fun M h => uclear_any q M L cl _ h (by omega))).mono ?_
              rintro r w6 ⟨rfl, h6⟩
              obtain ⟨k1, k2, k3, k4, k5, k6, _, k8⟩ := h6.cells
              exact ⟨rfl, Lib.hid ⟨_, _, h6, by omega⟩, k1, k2, k3, k4, k5, k6, k8⟩
            have HZ : Hid (W1.cell? ⟨bx, 1, none⟩ = some (.int .i64 cl) ∧ W1.cell? ⟨bx, 2, none⟩ = some (.bool up) ∧ W1.cell? ⟨bx, 3, none⟩ = some (.int .i64 ep) ∧ W1.cell? ⟨bx, 4, none⟩ = some (.int .i64 sq) ∧ W1.cell? ⟨bx, 5, none⟩ = some (.int .i64 ak) ∧ W1.cell? ⟨bx, 6, none⟩ = some (.string bd) ∧ W1.cell? ⟨gU, 0, none⟩ = some (.pointer (some ⟨q, 0, none⟩))) := Lib.hid ⟨x1, x2, x3, x4, x5, x6, u0⟩
            clear HR x1 x2 x3 x4 x5 x6 x7
            generalize clearN L cl = sx at HA
            have hsn : (sx != sx) = false := by simp
            go_wp2_with fail
            refine wp_only ?_
            go_region_held3 (fun W => W.cell? ⟨bx, 1, none⟩ = some (.int .i64 cl) ∧ W.cell? ⟨bx, 2, none⟩ = some (.bool up) ∧ W.cell? ⟨bx, 3, none⟩ = some (.int .i64 ep) ∧ W.cell? ⟨bx, 4, none⟩ = some (.int .i64 sq) ∧ W.cell? ⟨bx, 5, none⟩ = some (.int .i64 ak) ∧ W.cell? ⟨bx, 6, none⟩ = some (.string bd) ∧ W.cell? ⟨gU, 0, none⟩ = some (.pointer (some ⟨q, 0, none⟩))) (first | assumption | exact HZ.out) (first
              | (go_at_call 17; (with_reducible refine (HA.out _ ?_).mono ?_); (first | assumption | exact (Below.refl _ _).drew | exact Below.refl _ _); rintro r w5 ⟨rfl, HN, hz5⟩)
              | (go_at_call 18; (with_reducible refine (HN.out _ ?_).mono ?_); (first | assumption | exact (Below.refl _ _).drew | exact Below.refl _ _); rintro r w6 ⟨rfl, H6, hz6⟩))
            all_goals
              clear HA HN hz5 hz6 HZ u0
              unfold onlyN
              go_wp2_with fail
              go_meet
              exact ⟨true, rfl, rfl, H6⟩
          have n1 : (kd == 1) = false := by simpa using k1
          have n2 : (kd == 2) = false := by simpa using k2
          have n3 : (kd == 3) = false := by simpa using k3
          have n4 : (kd == 4) = false := by simpa using k4
          have n5 : (kd == 5) = false := by simpa using k5
          have H6 : Hid (RR w W1 p q w.heap.size gU bx bg bh (k + 1) #[.int .i64 kd, .int .i64 cl, .bool up, .int .i64 ep, .int .i64 sq, .int .i64 ak, .string bd, .int .i64 at_]) := Lib.hid ⟨_, _, HR.out, by omega⟩
          clear HR x1 x2 x3 x4 x5 x6 x7 u0 k1 k2 k3 k4 k5
          go_wp2_with fail
          go_meet
          exact ⟨true, rfl, rfl, H6⟩
        case rest =>
          obtain ⟨bb, rfl, rfl, hcut⟩ := hcut
          obtain ⟨L', y, hT, hL'⟩ := hcut.out
          have HT := Lib.hid hT
          have HL' := Lib.hid hL'
          obtain ⟨g0, g1, g2, g3, g4, g5⟩ := blk_cells hT.g
          obtain ⟨h0, h1, h2, h3, h4, h5⟩ := blk_cells hT.h
          have d8 := hT.u.cell 0
          clear hT hL' hcut HR x0 x1 x2 x3 x4 x5 x6 x7 u0
          have q0 := cell_regrown g0
          have q1 := cell_regrown g1
          have q2 := cell_regrown g2
          have q3 := cell_regrown g3
          have q4 := cell_regrown g4
          have q5 := cell_regrown g5
          have p0 := cell_regrown h0
          have p1 := cell_regrown h1
          have p2 := cell_regrown h2
          have p3 := cell_regrown h3
          have p4 := cell_regrown h4
          have p5 := cell_regrown h5
          have q8 := cell_regrown d8
          have hne := run_neg y
          have hgd := fun (A B : Operand) xs ys W => run_guard_gram .neq A B xs ys W
          have hbb : (bb != bb) = false := by simp
          have hl1 : L'.length ≤ 1000000 := by have := HL'.out; omega
          have cN : ∀ dd os, Calls Try.prog 19 #[.pointer (some ⟨p, 0, none⟩), .int .i64 cl, .bool up] (grow (redrawn wc dd) os) fun e w'' => e = .returned (.int .i64 (countL L' cl up : Int)) ∧ ∃ p : Regrown, w'' = grow (redrawn wc p.d) p.os := fun dd os => Calls.regrown_of ((HT.out.below (below_regrown wc dd os)).e.countN hl1 cl up)
          have cM : ∀ dd os, Calls Try.prog 20 #[.pointer (some ⟨q, 0, none⟩), .int .i64 cl, .bool up] (grow (redrawn wc dd) os) fun e w'' => e = .returned (.int .i64 (countL L' cl up : Int)) ∧ ∃ p : Regrown, w'' = grow (redrawn wc p.d) p.os := fun dd os => Calls.regrown_of ((HT.out.below (below_regrown wc dd os)).e.countM hl1 cl up)
          generalize countL L' cl up = m at cN cM
          have hmm : ((m : Int) != (m : Int)) = false := by simp
          go_wp2_with fail
          refine wp_region_quiet_below (by kernel_rfl) (by kernel_rfl) ?_
          repeat (go_big_quiet_step (first | (with_reducible exact cN _ _) | (with_reducible exact cM _ _)))
          refine wpQuiet_nil ?_
          intro _ hw'
          obtain ⟨⟨dq, osq⟩, hw''⟩ := hw'
          subst hw''
          have b5 := below_regrown wc dq osq
          generalize grow (redrawn wc dq) osq = W5 at b5 ⊢
          have ST : Hid (St w W5 p q gU (k + 1)) := Lib.hid ⟨L', (HT.out.done).below b5, HL'.out⟩
          clear b5 cN cM HT q0 q1 q2 q3 q4 q5 p0 p1 p2 p3 p4 p5 q8 g0 g1 g2 g3 g4 g5 h0 h1 h2 h3 h4 h5 d8
          go_wp2
          go_roundw
          case rel => exact ⟨k + 1, by omega, by omega, by go_num, ST⟩
          case measure => simp [intOf]; omega
    all_goals
      first | (have h9 : ¬ k < n := by omega) | (have h9 : ¬ k < 200 := by omega)
      clear h
      obtain ⟨L, hT, hL⟩ := HK.out
      have hlen : L.length ≤ 200 := by omega
      have HG := Lib.hid (rj_new hT)
      have HBS := Lib.hid ((Blk.new wr 24 #[.pointer (some ⟨p, 0, none⟩)]).alloc (.cells #[.int .i64 0] 3))
      have HI1 := HP
      have HI2 : Hid (gU < wr.heap.size + 1) := Lib.hid (Nat.lt_succ_of_lt hT.u.lt)
      clear HK hT hL HI HP
      go_wp2_with fail
      refine (all_any wr p).mono ?_
      rintro e w6 ⟨rfl, rfl⟩
      have e1 : (wr.alloc (.cells #[.pointer (some ⟨p, 0, none⟩)] 24)).heap.size = wr.heap.size + 1 := by simp
      go_wp2
      generalize hGen : (wr.alloc (.cells #[.pointer (some ⟨p, 0, none⟩)] 24)).alloc (.cells #[.int .i64 0] 3) = V at HG HBS ⊢
      clear hGen
      try rw [e1]
      clear e1
      generalize wr.heap.size + 1 = gK at HG HI2 ⊢
      generalize wr.heap.size = Bs at HBS ⊢
      have hVw := HG.out.e.bel.size
      have hVN := HG.out.k.lt
      obtain ⟨v, hnp⟩ := HG.out.np
      refine (wpIn_wide (n := 6)).1 ?_
      apply range_box (gf := 30) (lb := #[.pointer (some ⟨Bs, 0, none⟩)]) rfl (enters_of Try.func30 (by kernel_rfl) rfl)
        (nall_stops 5 (by omega) Bs gK p v L V hnp hVN (by omega) (HBS.out.cell 0)) (fun _ => rfl)
        (fun pre W => RJ w W p q w.heap.size gU gK L pre)
        (fun c pre W => ¬ pre <+: L)
        (fun pre W W' row h hg hr => h.grows hVw hg hr)
        (fun c pre W W' row h hg hr => h)
        HG.out
      case hassign =>
        intro l pre x X K hj hK
        have hlk := hj.k.lt
        have hbx := below_box X (.cells (gv x) 31)
        have HK := Lib.hid (hK X.heap.size (X.alloc (.cells (gv x) 31)) ((KeepsOthers.alloc _ _).from _) (keepN_below hbx) (hj.below hbx) (Blk.new X _ _) (by omega))
        dsimp only [gv] at HK
        clear hj hK hlk hbx
        dsimp only [encG]
        gi_wp2
        generalize X.heap.size = Bx at HK ⊢
        exact HK.out
      case hbody =>
        intro l pre x Bx W hG hBx hne hlt
        have hx : L[pre.length]? = some L[pre.length] := List.getElem?_eq_getElem hlt
        generalize L[pre.length] = z at hx
        have k0 := hG.k.cell 0
        have kf := hG.k.frozen 0
        have u0 := hG.u.cell 0
        have r0 := hG.r.cell 0
        have rf := hG.r.frozen 0
        obtain ⟨a4, c4, q0, hrow⟩ := hG.row
        obtain ⟨g, rfl, hc4, hgl, y0, y1, y2, y3, y4, y5⟩ := hrow z hx
        obtain ⟨b0, b1, b2, b3, b4, b5⟩ := blk_cells hBx
        have HGG := Lib.hid hG
        have HXX := Lib.hid hx
        have hltn : ¬ L.length ≤ pre.length := by omega
        have hlti : decide ((L.length : Int) ≤ (pre.length : Int)) = false := by simp; omega
        have hgd := fun (A B : Operand) xs ys W => run_guard_gram .neq A B xs ys W
        clear hG hx hBx hrow
        gi_wp2_with fail
        by_cases hzx : z = x
        · subst hzx
          have hne2 := run_neg z
          refine region_quiet_r (by rfl) (by kernel_rfl) (by kernel_rfl) ?_
          repeat (gi_big_quiet_step (fail))
          refine wpQuietIn_nil ?_
          intro _ hw'
          obtain ⟨nq, hw''⟩ := hw'
          subst hw''
          have HG2 := Lib.hid (HGG.out.below (drewN_below W nq))
          have HKO := Lib.hid (others_below (drewN_below W nq))
          have HKN := Lib.hid (keepN_below (b := gK) (drewN_below W nq))
          clear k0 kf u0 r0 rf q0 y0 y1 y2 y3 y4 y5 b0 b1 b2 b3 b4 b5 hne2 hgd HGG
          generalize W.drewN nq = W' at HG2 HKO HKN ⊢
          have k0 := HG2.out.k.cell 0
          have kf := HG2.out.k.frozen 0
          have HN := Lib.hid (HG2.out.next HXX.out (Nat.le_refl _) HI1.out HI2.out)
          have HKF : Hid (KeepsFrom V.heap.size W (W'.setCell ⟨gK, 0, none⟩ (.int .i64 ((pre.length : Int) + 1)))) := Lib.hid ((HKO.out.trans (KeepsOthers.setCell W' ⟨gK, 0, none⟩ (.int .i64 ((pre.length : Int) + 1)))).from _)
          have HKM := Lib.hid (keepN_t HKN.out (keepN_set W' 0 (.int .i64 ((pre.length : Int) + 1))))
          have hwn : IntKind.i64.wrap ((pre.length : Int) + 1) = (pre.length : Int) + 1 := by rw [IntKind.wrap_i64]; omega
          clear HG2 HKO HKN
          gi_wp2
          exact ⟨HKF.out, HKM.out, HN.out⟩
        · have hne2 : ∀ W, (binOp .neq 31 (.agg #[.int .i64 z.cl, .bool z.up, .int .i64 z.ep, .int .i64 z.sq, .int .i64 z.ak, .string z.bd]) (.agg #[.int .i64 x.cl, .bool x.up, .int .i64 x.ep, .int .i64 x.sq, .int .i64 x.ak, .string x.bd])).run Try.prog W = .ok (.bool true) W := fun W => by rw [run_ne_gram, same_ne hzx]; rfl
          have HNP := Lib.hid (not_pre HXX.out hzx)
          refine region_quiet_r (by rfl) (by kernel_rfl) (by kernel_rfl) ?_
          repeat (gi_big_quiet_step (fail))
          refine wpQuietIn_nil ?_
          intro _ hw'
          obtain ⟨nq, hw''⟩ := hw'
          subst hw''
          have HG2 := Lib.hid (HGG.out.below (drewN_below W nq))
          have HKO := Lib.hid (others_below (drewN_below W nq))
          clear k0 kf u0 r0 rf q0 y0 y1 y2 y3 y4 y5 b0 b1 b2 b3 b4 b5 hne2 hgd HGG
          generalize W.drewN nq = W' at HG2 HKO ⊢
          have r0 := HG2.out.r.cell 0
          have rf := HG2.out.r.frozen 0
          have HKF : Hid (KeepsFrom V.heap.size W (W'.setCell ⟨w.heap.size, 0, none⟩ (.bool false))) := Lib.hid ((HKO.out.trans (KeepsOthers.setCell W' ⟨w.heap.size, 0, none⟩ (.bool false))).from _)
          clear HG2 HKO
          gi_wp2
          exact ⟨HKF.out, HNP.out⟩
      case hstop =>
        rintro D c pre W hD ⟨m, hm, rfl⟩ hx hK
        exact (hx (List.take_prefix m L)).elim
      case hdone =>
        rintro D ys W hD rfl hG hK
        have k0 := hG.k.cell 0
        have u0 := hG.u.cell 0
        have r0 := hG.r.cell 0
        have rf := hG.r.frozen 0
        obtain ⟨a4, c4, q0, -⟩ := hG.row
        have hll : ((ys.length : Int) == (ys.length : Int)) = true := by simp
        have HGG := Lib.hid hG
        have HKK := Lib.hid hK
        clear hG hK
        go_upto_region 44 with (fail)
        refine wp_only ?_
        go_region_law (fail)
        all_goals
          unfold onlyN
          have hKa := (KeepsOthers.setCell W ⟨w.heap.size, 0, none⟩ (.bool true)).same D _ HKK.out rfl
          have hKd : (W.setCell ⟨w.heap.size, 0, none⟩ (.bool true)).drew.heap[D]? = some (.deferred (some [])) := hKa
          have hc0 : (W.setCell ⟨w.heap.size, 0, none⟩ (.bool true)).drew.cell? ⟨w.heap.size, 0, none⟩ = some (.bool true) := World.cell?_setCell_same _ _ _ r0
          have hc1 := cell_kept hc0 (grownBy_putObj' _ D (.deferred none)) (fun r e => by cases e; exact ⟨_, hKd, rfl⟩)
          have hbf := ((HGG.out.e.bel.setCell (p := ⟨w.heap.size, 0, none⟩) (Nat.le_refl _) (.bool true)).drew).trans (belowK_b (w := w) (Nat.le_refl _) _ D _ (.deferred none) (Nat.le_trans hVw hD) hKd rfl rfl)
          have HKA := Lib.hid hKd
          have HC1 := Lib.hid hc1
          have HBF := Lib.hid hbf
          clear hKa hKd hc0 hc1 hbf k0 u0 q0 HGG HKK
          go_wp2
          refine ⟨by simp, .inl ⟨_, _, rfl, run_takeDeferred HKA.out, ?_⟩⟩
          have hc5 := HC1.out
          exact ⟨.bool true, by simp [results, Try.results3, go_sem, hc5], rfl, HBF.out⟩
end Go.Proofs.Ytjlmmglhgmfgiaa.Mist
