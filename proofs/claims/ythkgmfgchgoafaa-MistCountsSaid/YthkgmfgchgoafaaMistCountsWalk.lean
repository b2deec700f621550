/- The walk of the statement MistCounts. -/
import Derived.Test.YthkgmfgchgoafaaMistCounts0
namespace Go.Proofs.Ythkgmfgchgoafaa.Mist
set_option maxRecDepth 100000
open Go.RowKit Go.Sort
open Go.Proofs.Ythkgmfgchgoafaa.Mem Go.Proofs.Ythkgmfgchgoafaa.CordG
theorem acts_again {w : World} {b off n k : Nat} {zs : List Act} {x : Act} (h : Acts w (some ⟨b, off, none⟩) n zs) (hk : k < n) (hx : zs.getD k noAct = x) : ActAt w b off k x := by
  obtain ⟨b', off', y, e, _, hy, hc, _⟩ := h.at_ hk
  injection e with e
  injection e with e1 e2
  subst e1; subst e2
  rw [← hx, hy]; exact hc
theorem held_al {W : World} {o : Obj} {a1 a2 a3 : Addr} {v1 v2 v3 : Value} (h : W.cell? a1 = some v1 ∧ W.cell? a2 = some v2 ∧ W.cell? a3 = some v3) : (W.alloc o).cell? a1 = some v1 ∧ (W.alloc o).cell? a2 = some v2 ∧ (W.alloc o).cell? a3 = some v3 :=
  ⟨((below_box W o).cell (World.block_lt_of_cell? W _ h.1)).trans h.1, ((below_box W o).cell (World.block_lt_of_cell? W _ h.2.1)).trans h.2.1, ((below_box W o).cell (World.block_lt_of_cell? W _ h.2.2)).trans h.2.2⟩
theorem held_st {W : World} {g i : Nat} {u : Value} {a1 a2 a3 : Addr} {v1 v2 v3 : Value} (h1 : a1.block ≠ g) (h2 : a2.block ≠ g) (h3 : a3.block ≠ g) (h : W.cell? a1 = some v1 ∧ W.cell? a2 = some v2 ∧ W.cell? a3 = some v3) : (W.setCell ⟨g, i, none⟩ u).cell? a1 = some v1 ∧ (W.setCell ⟨g, i, none⟩ u).cell? a2 = some v2 ∧ (W.setCell ⟨g, i, none⟩ u).cell? a3 = some v3 :=
  ⟨(World.cell?_of_block (w := W) (Below.heap_setCell W ⟨g, i, none⟩ u _ h1)).trans h.1, (World.cell?_of_block (w := W) (Below.heap_setCell W ⟨g, i, none⟩ u _ h2)).trans h.2.1, (World.cell?_of_block (w := W) (Below.heap_setCell W ⟨g, i, none⟩ u _ h3)).trans h.2.2⟩
def Cn (w0 W : World) (p gC k : Nat) : Prop := ∃ L, CS w0 W p gC (fun _ => False) L L ∧ L.length ≤ k
set_option maxRecDepth 100000 in
set_option maxHeartbeats 16000000 in
theorem counts_walk (a : Option Addr) (n cc : Nat) (zs : List Act) (w : World) (hI : Acts w a n zs) :
    Calls Try.prog 3 #[.slice a n cc] w fun e w' => e = .returned (.bool true) ∧ Below w.heap.size w w' := by
  have HI := Lib.hid hI
  clear hI
  go_enter Try.func3, Try.ntmps3
  go_wp2_with fail
  refine (awake_any w).mono ?_
  rintro e w1 ⟨rfl, b1⟩
  have HB1 := Lib.hid b1
  clear b1
  go_wp2_with fail
  refine (new_any w1).mono ?_
  rintro e w3 ⟨rfl, hn, b3⟩
  have HN := Lib.hid hn
  have HB3 := Lib.hid (HB1.out.trans (b3.mono HB1.out.size))
  have hw1 := HB1.out.size
  clear hn b3 HB1
  have ST : Hid (Cn w (w3.alloc (.cells #[.int .i64 0, .int .i64 0, .int .i64 0, .int .i64 0, .int .i64 0, .int .i64 0, .int .i64 0, .int .i64 0] 27)) w1.heap.size w3.heap.size 0) := by
    have hbx := below_box w3 (.cells #[.int .i64 0, .int .i64 0, .int .i64 0, .int .i64 0, .int .i64 0, .int .i64 0, .int .i64 0, .int .i64 0] 27)
    refine Lib.hid ⟨[], ⟨(HN.out.alloc (.cells #[.int .i64 0, .int .i64 0, .int .i64 0, .int .i64 0, .int .i64 0, .int .i64 0, .int .i64 0, .int .i64 0] 27)).mono fun k h => ?_, ⟨_, Blk.new w3 _ _, rfl, fun k hk => ?_⟩, HB3.out.trans (hbx.mono HB3.out.size), HB3.out.size, ok_nil⟩, Nat.le_refl _⟩
    · rcases h with h | h | h
      · exact .inl (by omega)
      · exact .inr h
      · exact h.elim
    · have e : cntV [] k = .int .i64 0 := rfl
      rw [e]
      rcases (show k = 0 ∨ k = 1 ∨ k = 2 ∨ k = 3 ∨ k = 4 ∨ k = 5 ∨ k = 6 ∨ k = 7 by omega) with rfl | rfl | rfl | rfl | rfl | rfl | rfl | rfl <;> rfl
  clear HN HB3 hw1
  generalize w1.heap.size = p at *
  go_wp2_with fail
  generalize w3.heap.size = gC at *
  go_loopw [5] (fun ti wr => ∃ k : Nat, k ≤ 200 ∧ k ≤ n ∧ ti = .int .i64 (k : Int) ∧ Hid (Cn w wr p gC k)) (fun ti _ => 200 - (intOf ti).toNat)
  case atStart => exact ⟨0, Nat.zero_le _, Nat.zero_le _, rfl, ST⟩
  case round =>
    obtain ⟨k, hk, hkn, rfl, HK⟩ := hrel
    clear ST
    rcases (show (k < n ∧ k < 200) ∨ (k < n ∧ k = 200) ∨ k = n by omega) with ⟨hlt, hlt2⟩ | ⟨hlt, h⟩ | h
    · obtain ⟨L, hT, hL⟩ := HK.out
      obtain ⟨b, off, ⟨kd, ⟨cl, up, ep, sq, ak, bd⟩, at_⟩, rfl, -, hz, ⟨c0, c1, c2, c3, c4, c5, c6, c7⟩, hg⟩ := (HI.out.below hT.bel).at_ hlt
      dsimp only at c0 c1 c2 c3 c4 c5 c6 c7
      have HT := Lib.hid hT
      have HZ := Lib.hid hz
      clear hT hz hg HK
      by_cases hbd : (4096 : Int) < (bd.size : Int)
      · have HBB := Lib.hid (HT.out.bel.trans ((below_box wr (.cells #[.int .i64 cl, .bool up, .int .i64 ep, .int .i64 sq, .int .i64 ak, .string bd] 29)).mono HT.out.bel.size))
        have z5 := (Blk.new wr 29 #[.int .i64 cl, .bool up, .int .i64 ep, .int .i64 sq, .int .i64 ak, .string bd]).cell 5
        clear HT
        go_wp2
        go_ret
        exact ⟨rfl, HBB.out⟩
      · obtain ⟨K, hKe, hK1, hK2⟩ := add_of cl 1 3 (by omega) (by omega) (by omega)
        have hbx := below_box wr (.cells #[.int .i64 (K : Int), .bool up, .int .i64 ep, .int .i64 sq, .int .i64 ak, .string bd] 29)
        have HKE := Lib.hid hKe
        have HX : Hid (Blk (wr.alloc (.cells #[.int .i64 (K : Int), .bool up, .int .i64 ep, .int .i64 sq, .int .i64 ak, .string bd] 29)) wr.heap.size 29 (gv ⟨(K : Int), up, ep, sq, ak, bd⟩)) := Lib.hid (Blk.new wr _ _)
        have HO := Lib.hid (HT.out.box hbx (g := wr.heap.size) ⟨Nat.le_refl _, by simp⟩)
        have HZ2 := Lib.hid (acts_again (HI.out.below HO.out.bel) hlt HZ.out)
        clear hbx hKe HT
        have z0 := (Blk.new wr 29 #[.int .i64 cl, .bool up, .int .i64 ep, .int .i64 sq, .int .i64 ak, .string bd]).cell 0
        have z5 := (Blk.new wr 29 #[.int .i64 cl, .bool up, .int .i64 ep, .int .i64 sq, .int .i64 ak, .string bd]).cell 5
        have zf := (Blk.new wr 29 #[.int .i64 cl, .bool up, .int .i64 ep, .int .i64 sq, .int .i64 ak, .string bd]).frozen 0
        go_upto_region 12 with (fail)
        try rw [HKE.out]
        generalize hGen : wr.alloc (.cells #[.int .i64 (K : Int), .bool up, .int .i64 ep, .int .i64 sq, .int .i64 ak, .string bd] 29) = W1 at HX HO HZ2 ⊢
        clear hGen
        generalize wr.heap.size = g1 at *
        clear HKE z0 z5 zf c0 c1 c2 c3 c4 c5 c6 c7
        have hK4 : K < 4 := by omega
        have hKc : 1 ≤ (K : Int) ∧ (K : Int) ≤ 3 := by omega
        cases up with
        | false =>
          obtain ⟨c0, c1, c2, c3, c4, c5, c6, c7⟩ := HZ2.out
          dsimp only at c0 c1 c2 c3 c4 c5 c6 c7
          obtain ⟨x0, x1, x2, x3, x4, x5⟩ := blk_cells HX.out
          dsimp only at x0 x1 x2 x3 x4 x5
          go_upto_block 2 with (fail)
          go_cut [] (fun wx => Cn w wx p gC (k + 1))
          case first =>
            clear c1 c2 c3 c4 c5 c6
            by_cases k1 : kd = 1
            · subst k1
              as_aux_lemma =>
                have HP := Lib.hid (put_any p _ L (⟨(K : Int), false, ep, sq, ak, bd⟩ : Gr) W1 HO.out.n (by omega))
                clear c0 c7
                go_wp2_with fail
                refine HP.out.mono ?_
                rintro e W2 ⟨rfl, hn, k5⟩
                have HO2 := Lib.hid (HO.out.call hn k5 (ok_put HO.out.ok hKc))
                have HX2 := Lib.hid (k5.blk HX.out (.inr (.inr (.inr rfl))))
                have hpl := put_len L (⟨(K : Int), false, ep, sq, ak, bd⟩ : Gr)
                clear HP hn k5 HO HX x0 x1 x2 x3 x4 x5
                by_cases h0 : putX L (⟨(K : Int), false, ep, sq, ak, bd⟩ : Gr) = 0
                · have hm := put_more h0
                  dsimp only at hm
                  rw [h0]
                  have a0 : W2.cell? ⟨gC, K * 2, none⟩ = some (.int .i64 (countL L (K : Int) false : Int)) := (HO2.out.at_ false hK4).1
                  have bf : W2.frozen? ⟨gC, K * 2, none⟩ = false := (HO2.out.at_ false hK4).2
                  have y0 := HX2.out.cell 0
                  dsimp only [gv] at y0
                  have FIN : Hid (Cn w (W2.setCell ⟨gC, K * 2, none⟩ (.int .i64 ((countL L (K : Int) false : Int) + 1))).drew p gC (k + 1)) := Lib.hid ⟨_, (CS.less (X' := fun _ => False) (HO2.out.set_ (u := false) hK4 (by rw [cnt_at, hm.1]; simp) hm.2) (fun _ h => h.elim)).below (drewN_below _ 1), by omega⟩
                  have hmx : countL L (K : Int) false ≤ L.length := count_le L _ _
                  have hwn : IntKind.i64.wrap ((countL L (K : Int) false : Int) + 1) = (countL L (K : Int) false : Int) + 1 := by rw [IntKind.wrap_i64]; omega
                  generalize countL L (K : Int) false = m at *
                  clear HO2 HX2 h0 hm hpl hmx
                  have hKi : (K : Int) < 4 := by omega
                  have hK0 : (0 : Int) ≤ (K : Int) := by omega
                  go_upto_region 18 with (fail)
                  go_region_law (fail)
                  all_goals
                    go_wp2
                    go_meet
                    exact FIN.out
                · have hpn := put_none h0
                  have h0b : (putX L (⟨(K : Int), false, ep, sq, ak, bd⟩ : Gr) == 0) = false := by simpa using h0
                  rw [hpn] at HO2
                  have FIN : Hid (Cn w W2 p gC (k + 1)) := Lib.hid ⟨L, HO2.out.less (fun _ h => h.elim), by omega⟩
                  clear HO2 HX2 hpn hpl h0
                  generalize putX L (⟨(K : Int), false, ep, sq, ak, bd⟩ : Gr) = e at *
                  go_wp2_with fail
                  go_meet
                  exact FIN.out
            by_cases k2 : kd = 2
            · subst k2
              have HP : Hid (∀ W, Below W1.heap.size W1 W → Calls Try.prog 11 #[.pointer (some ⟨p, 0, none⟩), .int .i64 (K : Int), .bool false, .int .i64 at_] W fun e W' => ∃ (x : Gr) (b : Bool), e = .returned (.tuple #[.agg #[.int .i64 x.cl, .bool x.up, .int .i64 x.ep, .int .i64 x.sq, .int .i64 x.ak, .string x.bd], .bool b]) ∧
                  ((pickO L (K : Int) false at_ = none ∧ b = false) ∨ ((∃ x, pickO L (K : Int) false at_ = some x) ∧ b = true)) ∧ CS w W' p gC (fun k => (False ∨ k = g1) ∨ (W1.heap.size ≤ k ∧ k < W.heap.size)) (pickL L (K : Int) false at_) L ∧ Blk W' g1 29 (gv (⟨(K : Int), false, ep, sq, ak, bd⟩ : Gr)) ∧ W.heap.size ≤ W'.heap.size ∧ (∀ (T : TypeId) (cs : Array Value) (g : Nat), W1.heap.size ≤ g → Blk W g T cs → Blk W' g T cs)) := Lib.hid fun W hb =>
                have h1 := HO.out.since hb
                (pick_any p _ L (K : Int) false at_ W h1.n (by omega)).mono fun e W' h => by
                  obtain ⟨x, b, rfl, hox, hn, hk⟩ := h
                  have hk3 : Ok3 (pickL L (K : Int) false at_) := by
                    cases ho : pickO L (K : Int) false at_ with
                    | none => rw [pick_none ho]; exact h1.ok
                    | some z => exact (pick_some ho).2 h1.ok
                  exact ⟨x, b, rfl, by rcases hox with ⟨a, b, c⟩ | ⟨a, b⟩; exact .inl ⟨a, b⟩; exact .inr ⟨⟨x, a⟩, b⟩, h1.call hn hk hk3, hk.blk (HX.out.below hb HX.out.lt) (.inr (.inr (.inl (.inr rfl)))), hk.size, fun T cs g hg hB => hk.blk hB (.inr (.inr (.inr ⟨hg, hB.lt⟩)))⟩
              have hg1 : g1 < W1.heap.size := HX.out.lt
              have hgC : gC < W1.heap.size := HO.out.c.lt
              have hwW : w.heap.size ≤ W1.heap.size := HO.out.bel.size
              have hbw : b < w.heap.size := by obtain ⟨b', off', y, e, hb', _⟩ := HI.out.at_ hlt; injection e with e; injection e with e1 e2; omega
              have hpl := pick_len L (K : Int) false at_
              clear x2 x3 x4 x5
              have hbz := below_box W1 (.cells #[.int .i64 0, .bool false, .int .i64 0, .int .i64 0, .int .i64 0, .string ⟨#[]⟩] 29)
              have c7a := (hbz.cell (World.block_lt_of_cell? W1 _ c7)).trans c7
              have x0a := (hbz.cell (World.block_lt_of_cell? W1 _ x0)).trans x0
              have x1a := (hbz.cell (World.block_lt_of_cell? W1 _ x1)).trans x1
              have c7b : (W1.alloc (.cells #[.int .i64 0, .bool false, .int .i64 0, .int .i64 0, .int .i64 0, .string ⟨#[]⟩] 29)).drew.cell? _ = _ := c7a
              have x0b : (W1.alloc (.cells #[.int .i64 0, .bool false, .int .i64 0, .int .i64 0, .int .i64 0, .string ⟨#[]⟩] 29)).drew.cell? _ = _ := x0a
              have x1b : (W1.alloc (.cells #[.int .i64 0, .bool false, .int .i64 0, .int .i64 0, .int .i64 0, .string ⟨#[]⟩] 29)).drew.cell? _ = _ := x1a
              clear hbz
              go_upto_region 20 with (fail)
              go_cut [9] (fun v wx => ∃ br, v = .bool br ∧ ((pickO L (K : Int) false at_ = none ∧ br = false) ∨ ((∃ x, pickO L (K : Int) false at_ = some x) ∧ br = true)) ∧ CS w wx p gC (fun _ => False) (pickL L (K : Int) false at_) L ∧ Blk wx g1 29 (gv (⟨(K : Int), false, ep, sq, ak, bd⟩ : Gr)))
              case first =>
                as_aux_lemma =>
                  have HZ : Hid (W1.cell? ⟨b, off + k * 8 + 1 + 1 + 1 + 1 + 1 + 1 + 1, none⟩ = some (.int .i64 at_) ∧ W1.cell? ⟨g1, 0, none⟩ = some (.int .i64 (K : Int)) ∧ W1.cell? ⟨g1, 1, none⟩ = some (.bool false)) := Lib.hid ⟨c7, x0, x1⟩
                  have HBB := Lib.hid HO.out.bel
                  have HZA := Lib.hid (And.intro c7a (And.intro x0a x1a))
                  have hn1 : b ≠ W1.heap.size := by omega
                  have hn2 : g1 ≠ W1.heap.size := by omega
                  have hn3 : gC ≠ W1.heap.size := by omega
                  clear HO HX
                  go_region_held3 (fun W => W.cell? ⟨b, off + k * 8 + 1 + 1 + 1 + 1 + 1 + 1 + 1, none⟩ = some (.int .i64 at_) ∧ W.cell? ⟨g1, 0, none⟩ = some (.int .i64 (K : Int)) ∧ W.cell? ⟨g1, 1, none⟩ = some (.bool false)) (first | (with_reducible assumption) | (with_reducible exact held_al hz5) | (with_reducible exact held_st hn1 hn2 hn2 (held_st hn1 hn2 hn2 (held_st hn1 hn2 hn2 (held_st hn1 hn2 hn2 (held_st hn1 hn2 hn2 (held_st hn1 hn2 hn2 hz5)))))) | exact HZ.out | exact HZA.out) (first
                    | (go_at_call 11; (with_reducible refine (HP.out _ ?_).mono ?_); (first | (with_reducible exact (Below.refl _ _).drew) | (with_reducible exact (Below.refl _ _).drew.alloc (Nat.le_refl _) _) | (with_reducible exact (below_box _ _).drew)); rintro e W2 ⟨xr, br, rfl, hob, hcs, hbx, hsz, hkp⟩; have HOB := Lib.hid hob; have HO2 := Lib.hid hcs; have HX2 := Lib.hid hbx; have hz5 : W2.cell? ⟨b, off + k * 8 + 1 + 1 + 1 + 1 + 1 + 1 + 1, none⟩ = some (.int .i64 at_) ∧ W2.cell? ⟨g1, 0, none⟩ = some (.int .i64 (K : Int)) ∧ W2.cell? ⟨g1, 1, none⟩ = some (.bool false) := ⟨(hcs.bel.cell (p := ⟨b, off + k * 8 + 1 + 1 + 1 + 1 + 1 + 1 + 1, none⟩) hbw).trans ((HBB.out.cell (p := ⟨b, off + k * 8 + 1 + 1 + 1 + 1 + 1 + 1 + 1, none⟩) hbw).symm.trans HZ.out.1), hbx.cell 0, hbx.cell 1⟩; (try (have hzz := hkp 29 #[.int .i64 0, .bool false, .int .i64 0, .int .i64 0, .int .i64 0, .string ⟨#[]⟩] W1.heap.size (Nat.le_refl _) (Blk.new W1.drew _ _); have zz0 := hzz.cell 0; have zz1 := hzz.cell 1; have zz2 := hzz.cell 2; have zz3 := hzz.cell 3; have zz4 := hzz.cell 4; have zz5 := hzz.cell 5; have zf0 := hzz.frozen 0; have zf1 := hzz.frozen 1; have zf2 := hzz.frozen 2; have zf3 := hzz.frozen 3; have zf4 := hzz.frozen 4; have zf5 := hzz.frozen 5; have HZS := Lib.hid hzz.lt; clear hzz)); clear hob hcs hbx hkp))
                  all_goals
                    go_wp2
                    go_meet
                    refine ⟨br, rfl, HOB.out, ?_, ?_⟩
                    · first
                        | (with_reducible exact (HO2.out.less (fun _ h => h.elim)).below (below_box W2 _))
                        | (with_reducible exact CS.less (X' := fun _ => False) (HO2.out.six (b := W1.heap.size) (.inr ⟨Nat.le_refl _, by simp⟩) hn3 hwW _ _ _ _ _ _) (fun _ h => h.elim))
                        | exact CS.less (X' := fun _ => False) (HO2.out.six (b := W1.heap.size) (.inr ⟨Nat.le_refl _, by simp⟩) (by omega) hwW _ _ _ _ _ _) (fun _ h => h.elim)
                    · first
                        | (with_reducible exact HX2.out.alloc _)
                        | (with_reducible exact blk_six (b := W1.heap.size) HX2.out hn2 _ _ _ _ _ _)
                        | exact blk_six (b := W1.heap.size) HX2.out (by omega) _ _ _ _ _ _
              case rest =>
                obtain ⟨br, rfl, hob, hcs, hbx⟩ := hcut
                have HO2 := Lib.hid hcs
                have HX2 := Lib.hid hbx
                clear hcs hbx HO HX HP x0 x1 c0 c7 c7a x0a x1a c7b x0b x1b hg1 hgC hwW
                rcases hob with ⟨hno, rfl⟩ | ⟨⟨x, hso⟩, rfl⟩
                · have hpn := pick_none hno
                  rw [hpn] at HO2
                  have FIN : Hid (Cn w wc p gC (k + 1)) := Lib.hid ⟨L, HO2.out, by omega⟩
                  clear HO2 HX2 hpn hno hpl
                  go_wp2_with fail
                  go_meet
                  exact FIN.out
                · have hm := (pick_some hso).1
                  have a0 : wc.cell? ⟨gC, K * 2, none⟩ = some (.int .i64 (countL L (K : Int) false : Int)) := (HO2.out.at_ false hK4).1
                  have bf : wc.frozen? ⟨gC, K * 2, none⟩ = false := (HO2.out.at_ false hK4).2
                  have y0 := HX2.out.cell 0
                  dsimp only [gv] at y0
                  have hm1 := hm.1
                  have FIN : Hid (Cn w (wc.setCell ⟨gC, K * 2, none⟩ (.int .i64 ((countL L (K : Int) false : Int) - 1))).drew p gC (k + 1)) := Lib.hid ⟨_, (HO2.out.set_ (u := false) hK4 (by rw [cnt_at]; congr 1; omega) (fun c v h => (hm.2 c v h).symm)).below (drewN_below _ 1), by omega⟩
                  have hmx : countL L (K : Int) false ≤ L.length := count_le L _ _
                  have hwn : IntKind.i64.wrap ((countL L (K : Int) false : Int) - 1) = (countL L (K : Int) false : Int) - 1 := by rw [IntKind.wrap_i64]; omega
                  clear hm hm1 hso HO2 HX2 hpl hmx
                  generalize countL L (K : Int) false = m at *
                  have hKi : (K : Int) < 4 := by omega
                  have hK0 : (0 : Int) ≤ (K : Int) := by omega
                  go_upto_region 22 with (fail)
                  go_region_law (fail)
                  all_goals
                    go_wp2
                    go_meet
                    exact FIN.out
            by_cases k3 : kd = 3
            · subst k3
              as_aux_lemma =>
                have h1 := HO.out.below (drewN_below W1 1)
                have HP := Lib.hid (copy_any p _ L (K : Int) false at_ W1.drew h1.n (by omega))
                have HX1 := Lib.hid (HX.out.below (drewN_below W1 1) HX.out.lt)
                have HO1 : Hid (CS w W1.drew p gC (fun k => False ∨ k = g1) L L) := Lib.hid h1
                clear h1 x2 x3 x4 x5
                go_upto_region 24 with (fail)
                go_still_tail 10, (by kernel_rfl)
                change wpList _ _ _ _ _ W1.drew
                go_wp2_with fail
                refine HP.out.mono ?_
                rintro e W2 ⟨rfl, hn, k5⟩
                have HO2 := Lib.hid (HO1.out.call hn k5 (ok_copy HO1.out.ok))
                have HX2 := Lib.hid (k5.blk HX1.out (.inr (.inr (.inr rfl))))
                have hpl := copy_len L (K : Int) false at_
                clear HP hn k5 HO HX HO1 HX1 x0 x1 c0 c7
                cases h0 : copyB L (K : Int) false at_ with
                | true =>
                  have hm := copy_true h0
                  have a0 : W2.cell? ⟨gC, K * 2, none⟩ = some (.int .i64 (countL L (K : Int) false : Int)) := (HO2.out.at_ false hK4).1
                  have bf : W2.frozen? ⟨gC, K * 2, none⟩ = false := (HO2.out.at_ false hK4).2
                  have y0 := HX2.out.cell 0
                  dsimp only [gv] at y0
                  have FIN : Hid (Cn w (W2.setCell ⟨gC, K * 2, none⟩ (.int .i64 ((countL L (K : Int) false : Int) + 1))).drew p gC (k + 1)) := Lib.hid ⟨_, (CS.less (X' := fun _ => False) (HO2.out.set_ (u := false) hK4 (by rw [cnt_at, hm.1]; simp) hm.2) (fun _ h => h.elim)).below (drewN_below _ 1), by omega⟩
                  have hmx : countL L (K : Int) false ≤ L.length := count_le L _ _
                  have hwn : IntKind.i64.wrap ((countL L (K : Int) false : Int) + 1) = (countL L (K : Int) false : Int) + 1 := by rw [IntKind.wrap_i64]; omega
                  generalize countL L (K : Int) false = m at *
                  clear HO2 HX2 h0 hm hpl hmx
                  have hKi : (K : Int) < 4 := by omega
                  have hK0 : (0 : Int) ≤ (K : Int) := by omega
                  go_upto_region 25 with (fail)
                  go_region_law (fail)
                  all_goals
                    go_wp2
                    go_meet
                    exact FIN.out
                | false =>
                  have hpn := copy_false h0
                  rw [hpn] at HO2
                  have FIN : Hid (Cn w W2 p gC (k + 1)) := Lib.hid ⟨L, HO2.out.less (fun _ h => h.elim), by omega⟩
                  clear HO2 HX2 hpn hpl h0
                  go_wp2_with fail
                  go_meet
                  exact FIN.out
            by_cases k4 : kd = 4
            · subst k4
              as_aux_lemma =>
                have HP := Lib.hid (eldest_any p _ L W1 HO.out.n (by omega))
                clear c0 c7 x0 x1 x2 x3 x4 x5
                go_wp2_with fail
                refine HP.out.mono ?_
                intro e W2 h2
                cases ho : eldO L with
                | none =>
                  obtain ⟨rfl, hn, k5⟩ := got_none h2 ho
                  rw [eld_none ho] at hn
                  have hb := below_box W2 (.cells #[.int .i64 0, .bool false, .int .i64 0, .int .i64 0, .int .i64 0, .string ⟨#[]⟩] 29)
                  have FIN : Hid (Cn w (W2.alloc (.cells #[.int .i64 0, .bool false, .int .i64 0, .int .i64 0, .int .i64 0, .string ⟨#[]⟩] 29)) p gC (k + 1)) := Lib.hid ⟨L, CS.less (X' := fun _ => False) ((HO.out.call hn k5 HO.out.ok).below hb) (fun _ h => h.elim), by omega⟩
                  clear h2 hn k5 HO HX HP ho hb
                  go_wp2_with fail
                  go_meet
                  exact FIN.out
                | some x =>
                  obtain ⟨rfl, hn, k5⟩ := got_some h2 ho
                  obtain ⟨hm, hok, hmem⟩ := eld_some ho
                  have hx3 := HO.out.ok.in3 x hmem
                  have HO1 := HO.out.call hn k5 (hok HO.out.ok)
                  obtain ⟨J, hJ⟩ : ∃ J : Nat, x.cl = (J : Int) := ⟨x.cl.toNat, by omega⟩
                  obtain ⟨xc, xu, x2, x3, x4, x5⟩ := x
                  dsimp only at hm hx3 hJ
                  subst hJ
                  have hJ4 : J < 4 := by omega
                  have hb := below_box W2 (.cells #[.int .i64 (J : Int), .bool xu, .int .i64 x2, .int .i64 x3, .int .i64 x4, .string x5] 29)
                  have HO2 := Lib.hid (HO1.below hb)
                  have HX2 := Lib.hid (Blk.new W2 29 #[.int .i64 (J : Int), .bool xu, .int .i64 x2, .int .i64 x3, .int .i64 x4, .string x5])
                  have htl : L.tail.length ≤ k + 1 := by simp; omega
                  have hle := HO.out.ok.le (J : Int) xu
                  clear h2 hn k5 HO HX HP ho hb HO1 hok hmem
                  go_upto_region 28 with (fail)
                  generalize hGen : W2.alloc (.cells #[.int .i64 (J : Int), .bool xu, .int .i64 x2, .int .i64 x3, .int .i64 x4, .string x5] 29) = W3 at HO2 HX2 ⊢
                  clear hGen
                  generalize W2.heap.size = g2 at *
                  have y0 := HX2.out.cell 0
                  have y1 := HX2.out.cell 1
                  have hm1 := hm.1
                  have hJ0 : ¬ (J : Int) < 1 := by omega
                  have hJ3 : ¬ 3 < (J : Int) := by omega
                  have hJn : ¬ 3 < J := by omega
                  have hJm : ¬ J < 1 := by omega
                  have hJz : ¬ J = 0 := by omega
                  cases xu with
                  | false =>
                    have a0 : W3.cell? ⟨gC, J * 2, none⟩ = some (.int .i64 (countL L (J : Int) false : Int)) := (HO2.out.at_ false hJ4).1
                    have bf : W3.frozen? ⟨gC, J * 2, none⟩ = false := (HO2.out.at_ false hJ4).2
                    have hJi : (J : Int) < 4 := by omega
                    have hJq : (0 : Int) ≤ (J : Int) := by omega
                    have FIN : Hid (Cn w (W3.setCell ⟨gC, J * 2, none⟩ (.int .i64 ((countL L (J : Int) false : Int) - 1))).drew p gC (k + 1)) := Lib.hid ⟨_, (CS.less (X' := fun _ => False) (HO2.out.set_ (u := false) hJ4 (by rw [cnt_at]; congr 1; omega) (fun c v h => (hm.2 c v h).symm)) (fun _ h => h.elim)).below (drewN_below _ 1), htl⟩
                    have hwn : IntKind.i64.wrap ((countL L (J : Int) false : Int) - 1) = (countL L (J : Int) false : Int) - 1 := by rw [IntKind.wrap_i64]; omega
                    clear hm hm1 HO2 HX2 htl hx3
                    generalize countL L (J : Int) false = m at *
                    go_upto_region 34 with (fail)
                    go_region_law (fail)
                    all_goals
                      go_wp2
                      go_meet
                      exact FIN.out
                  | true =>
                    have a0 : W3.cell? ⟨gC, J * 2 + 1, none⟩ = some (.int .i64 (countL L (J : Int) true : Int)) := (HO2.out.at_ true hJ4).1
                    have bf : W3.frozen? ⟨gC, J * 2 + 1, none⟩ = false := (HO2.out.at_ true hJ4).2
                    have hJi : (J : Int) < 4 := by omega
                    have hJq : (0 : Int) ≤ (J : Int) := by omega
                    have FIN : Hid (Cn w (W3.setCell ⟨gC, J * 2 + 1, none⟩ (.int .i64 ((countL L (J : Int) true : Int) - 1))).drew p gC (k + 1)) := Lib.hid ⟨_, (CS.less (X' := fun _ => False) (HO2.out.set_ (u := true) hJ4 (by rw [cnt_at]; congr 1; omega) (fun c v h => (hm.2 c v h).symm)) (fun _ h => h.elim)).below (drewN_below _ 1), htl⟩
                    have hwn : IntKind.i64.wrap ((countL L (J : Int) true : Int) - 1) = (countL L (J : Int) true : Int) - 1 := by rw [IntKind.wrap_i64]; omega
                    clear hm hm1 HO2 HX2 htl hx3
                    generalize countL L (J : Int) true = m at *
                    go_upto_region 34 with (fail)
                    go_region_law (fail)
                    all_goals
                      go_wp2
                      go_meet
                      exact FIN.out
            have n1 : (kd == 1) = false := by simpa using k1
            have n2 : (kd == 2) = false := by simpa using k2
            have n3 : (kd == 3) = false := by simpa using k3
            have n4 : (kd == 4) = false := by simpa using k4
            have FIN : Hid (Cn w W1 p gC (k + 1)) := Lib.hid ⟨L, HO.out.less (fun _ h => h.elim), by omega⟩
            clear HO HX c0 c7 x0 x1 x2 x3 x4 x5 k1 k2 k3 k4
            go_wp2_with fail
            go_meet
            exact FIN.out
          case rest =>
            obtain ⟨L', hT, hL'⟩ := hcut
            have ST := Lib.hid hT
            clear hT HO HX HZ2 c0 c1 c2 c3 c4 c5 c6 c7 x0 x1 x2 x3 x4 x5
            go_wp2_with fail
            go_loopw [13] (fun ti wr => ∃ j : Nat, 1 ≤ j ∧ j ≤ 4 ∧ ti = .int .i64 (j : Int) ∧ Hid (CS w wr p gC (fun _ => False) L' L')) (fun ti _ => 4 - (intOf ti).toNat)
            case atStart => exact ⟨1, Nat.le_refl _, by omega, rfl, ST⟩
            case round =>
              obtain ⟨j, hj1, hj2, rfl, HK⟩ := hrel
              clear ST
              by_cases hlt3 : j ≤ 3
              · have hj4 : j < 4 := by omega
                have hn8 : L'.length ≤ 30000 := by omega
                have d0 : wr.cell? ⟨gC, j * 2, none⟩ = some (.int .i64 (countL L' (j : Int) false : Int)) := (HK.out.at_ false hj4).1
                have d1 : wr.cell? ⟨gC, j * 2 + 1, none⟩ = some (.int .i64 (countL L' (j : Int) true : Int)) := (HK.out.at_ true hj4).1
                have q0 := cell_regrown d0
                have q1 := cell_regrown d1
                have l0 := HK.out.ok.le (j : Int) false
                have l1 := HK.out.ok.le (j : Int) true
                have m0 : decide (64 < countL L' (j : Int) false) = false := by simp; omega
                have m1 : decide (64 < countL L' (j : Int) true) = false := by simp; omega
                have m2 : decide ((64 : Int) < (countL L' (j : Int) false : Int)) = false := by simp; omega
                have m3 : decide ((64 : Int) < (countL L' (j : Int) true : Int)) = false := by simp; omega
                have e0 : ∀ dd os, Calls Try.prog 14 #[.pointer (some ⟨p, 0, none⟩), .int .i64 (j : Int), .bool false] (grow (redrawn wr dd) os) fun e w'' => e = .returned (.int .i64 (countL L' (j : Int) false : Int)) ∧ ∃ p : Regrown, w'' = grow (redrawn wr p.d) p.os := fun dd os => Calls.regrown_of (count_to (n := (countL L' (j : Int) false : Int)) (HK.out.below (below_regrown wr dd os)).n hn8 rfl)
                have e1 : ∀ dd os, Calls Try.prog 14 #[.pointer (some ⟨p, 0, none⟩), .int .i64 (j : Int), .bool true] (grow (redrawn wr dd) os) fun e w'' => e = .returned (.int .i64 (countL L' (j : Int) true : Int)) ∧ ∃ p : Regrown, w'' = grow (redrawn wr p.d) p.os := fun dd os => Calls.regrown_of (count_to (n := (countL L' (j : Int) true : Int)) (HK.out.below (below_regrown wr dd os)).n hn8 rfl)
                generalize countL L' (j : Int) false = mf at *
                generalize countL L' (j : Int) true = mt at *
                clear d0 d1 l0 l1
                go_wp2_with fail
                refine wp_region_quiet_below (by kernel_rfl) (by kernel_rfl) ?_
                repeat (go_big_quiet_step (first | (with_reducible exact e0 _ _) | (with_reducible exact e1 _ _)))
                refine wpQuiet_nil ?_
                intro _ hw'
                obtain ⟨⟨dq, osq⟩, hw''⟩ := hw'
                subst hw''
                have b5 := below_regrown wr dq osq
                generalize grow (redrawn wr dq) osq = W5 at b5 ⊢
                have ST := Lib.hid (HK.out.below b5)
                clear b5 q0 q1 e0 e1 HK m0 m1 m2 m3
                go_wp2
                go_roundw
                case rel => exact ⟨j + 1, by omega, by omega, by go_num, ST⟩
                case measure => simp [intOf]; omega
              · have hj4 : j = 4 := by omega
                have hltn : ¬ j ≤ 3 := hlt3
                have ST : Hid (Cn w wr p gC (k + 1)) := Lib.hid ⟨L', HK.out, hL'⟩
                clear HK hj4
                go_wp2
                go_roundw
                case rel => exact ⟨k + 1, by omega, by omega, by go_num, ST⟩
                case measure => simp [intOf]; omega
        | true =>
          obtain ⟨c0, c1, c2, c3, c4, c5, c6, c7⟩ := HZ2.out
          dsimp only at c0 c1 c2 c3 c4 c5 c6 c7
          obtain ⟨x0, x1, x2, x3, x4, x5⟩ := blk_cells HX.out
          dsimp only at x0 x1 x2 x3 x4 x5
          go_upto_block 2 with (fail)
          go_cut [] (fun wx => Cn w wx p gC (k + 1))
          case first =>
            clear c1 c2 c3 c4 c5 c6
            by_cases k1 : kd = 1
            · subst k1
              as_aux_lemma =>
                have HP := Lib.hid (put_any p _ L (⟨(K : Int), true, ep, sq, ak, bd⟩ : Gr) W1 HO.out.n (by omega))
                clear c0 c7
                go_wp2_with fail
                refine HP.out.mono ?_
                rintro e W2 ⟨rfl, hn, k5⟩
                have HO2 := Lib.hid (HO.out.call hn k5 (ok_put HO.out.ok hKc))
                have HX2 := Lib.hid (k5.blk HX.out (.inr (.inr (.inr rfl))))
                have hpl := put_len L (⟨(K : Int), true, ep, sq, ak, bd⟩ : Gr)
                clear HP hn k5 HO HX x0 x1 x2 x3 x4 x5
                by_cases h0 : putX L (⟨(K : Int), true, ep, sq, ak, bd⟩ : Gr) = 0
                · have hm := put_more h0
                  dsimp only at hm
                  rw [h0]
                  have a0 : W2.cell? ⟨gC, K * 2 + 1, none⟩ = some (.int .i64 (countL L (K : Int) true : Int)) := (HO2.out.at_ true hK4).1
                  have bf : W2.frozen? ⟨gC, K * 2 + 1, none⟩ = false := (HO2.out.at_ true hK4).2
                  have y0 := HX2.out.cell 0
                  dsimp only [gv] at y0
                  have FIN : Hid (Cn w (W2.setCell ⟨gC, K * 2 + 1, none⟩ (.int .i64 ((countL L (K : Int) true : Int) + 1))).drew p gC (k + 1)) := Lib.hid ⟨_, (CS.less (X' := fun _ => False) (HO2.out.set_ (u := true) hK4 (by rw [cnt_at, hm.1]; simp) hm.2) (fun _ h => h.elim)).below (drewN_below _ 1), by omega⟩
                  have hmx : countL L (K : Int) true ≤ L.length := count_le L _ _
                  have hwn : IntKind.i64.wrap ((countL L (K : Int) true : Int) + 1) = (countL L (K : Int) true : Int) + 1 := by rw [IntKind.wrap_i64]; omega
                  generalize countL L (K : Int) true = m at *
                  clear HO2 HX2 h0 hm hpl hmx
                  have hKi : (K : Int) < 4 := by omega
                  have hK0 : (0 : Int) ≤ (K : Int) := by omega
                  go_upto_region 18 with (fail)
                  go_region_law (fail)
                  all_goals
                    go_wp2
                    go_meet
                    exact FIN.out
                · have hpn := put_none h0
                  have h0b : (putX L (⟨(K : Int), true, ep, sq, ak, bd⟩ : Gr) == 0) = false := by simpa using h0
                  rw [hpn] at HO2
                  have FIN : Hid (Cn w W2 p gC (k + 1)) := Lib.hid ⟨L, HO2.out.less (fun _ h => h.elim), by omega⟩
                  clear HO2 HX2 hpn hpl h0
                  generalize putX L (⟨(K : Int), true, ep, sq, ak, bd⟩ : Gr) = e at *
                  go_wp2_with fail
                  go_meet
                  exact FIN.out
            by_cases k2 : kd = 2
            · subst k2
              have HP : Hid (∀ W, Below W1.heap.size W1 W → Calls Try.prog 11 #[.pointer (some ⟨p, 0, none⟩), .int .i64 (K : Int), .bool true, .int .i64 at_] W fun e W' => ∃ (x : Gr) (b : Bool), e = .returned (.tuple #[.agg #[.int .i64 x.cl, .bool x.up, .int .i64 x.ep, .int .i64 x.sq, .int .i64 x.ak, .string x.bd], .bool b]) ∧
                  ((pickO L (K : Int) true at_ = none ∧ b = false) ∨ ((∃ x, pickO L (K : Int) true at_ = some x) ∧ b = true)) ∧ CS w W' p gC (fun k => (False ∨ k = g1) ∨ (W1.heap.size ≤ k ∧ k < W.heap.size)) (pickL L (K : Int) true at_) L ∧ Blk W' g1 29 (gv (⟨(K : Int), true, ep, sq, ak, bd⟩ : Gr)) ∧ W.heap.size ≤ W'.heap.size ∧ (∀ (T : TypeId) (cs : Array Value) (g : Nat), W1.heap.size ≤ g → Blk W g T cs → Blk W' g T cs)) := Lib.hid fun W hb =>
                have h1 := HO.out.since hb
                (pick_any p _ L (K : Int) true at_ W h1.n (by omega)).mono fun e W' h => by
                  obtain ⟨x, b, rfl, hox, hn, hk⟩ := h
                  have hk3 : Ok3 (pickL L (K : Int) true at_) := by
                    cases ho : pickO L (K : Int) true at_ with
                    | none => rw [pick_none ho]; exact h1.ok
                    | some z => exact (pick_some ho).2 h1.ok
                  exact ⟨x, b, rfl, by rcases hox with ⟨a, b, c⟩ | ⟨a, b⟩; exact .inl ⟨a, b⟩; exact .inr ⟨⟨x, a⟩, b⟩, h1.call hn hk hk3, hk.blk (HX.out.below hb HX.out.lt) (.inr (.inr (.inl (.inr rfl)))), hk.size, fun T cs g hg hB => hk.blk hB (.inr (.inr (.inr ⟨hg, hB.lt⟩)))⟩
              have hg1 : g1 < W1.heap.size := HX.out.lt
              have hgC : gC < W1.heap.size := HO.out.c.lt
              have hwW : w.heap.size ≤ W1.heap.size := HO.out.bel.size
              have hbw : b < w.heap.size := by obtain ⟨b', off', y, e, hb', _⟩ := HI.out.at_ hlt; injection e with e; injection e with e1 e2; omega
              have hpl := pick_len L (K : Int) true at_
              clear x2 x3 x4 x5
              have hbz := below_box W1 (.cells #[.int .i64 0, .bool false, .int .i64 0, .int .i64 0, .int .i64 0, .string ⟨#[]⟩] 29)
              have c7a := (hbz.cell (World.block_lt_of_cell? W1 _ c7)).trans c7
              have x0a := (hbz.cell (World.block_lt_of_cell? W1 _ x0)).trans x0
              have x1a := (hbz.cell (World.block_lt_of_cell? W1 _ x1)).trans x1
              have c7b : (W1.alloc (.cells #[.int .i64 0, .bool false, .int .i64 0, .int .i64 0, .int .i64 0, .string ⟨#[]⟩] 29)).drew.cell? _ = _ := c7a
              have x0b : (W1.alloc (.cells #[.int .i64 0, .bool false, .int .i64 0, .int .i64 0, .int .i64 0, .string ⟨#[]⟩] 29)).drew.cell? _ = _ := x0a
              have x1b : (W1.alloc (.cells #[.int .i64 0, .bool false, .int .i64 0, .int .i64 0, .int .i64 0, .string ⟨#[]⟩] 29)).drew.cell? _ = _ := x1a
              clear hbz
              go_upto_region 20 with (fail)
              go_cut [9] (fun v wx => ∃ br, v = .bool br ∧ ((pickO L (K : Int) true at_ = none ∧ br = false) ∨ ((∃ x, pickO L (K : Int) true at_ = some x) ∧ br = true)) ∧ CS w wx p gC (fun _ => False) (pickL L (K : Int) true at_) L ∧ Blk wx g1 29 (gv (⟨(K : Int), true, ep, sq, ak, bd⟩ : Gr)))
              case first =>
                as_aux_lemma =>
                  have HZ : Hid (W1.cell? ⟨b, off + k * 8 + 1 + 1 + 1 + 1 + 1 + 1 + 1, none⟩ = some (.int .i64 at_) ∧ W1.cell? ⟨g1, 0, none⟩ = some (.int .i64 (K : Int)) ∧ W1.cell? ⟨g1, 1, none⟩ = some (.bool true)) := Lib.hid ⟨c7, x0, x1⟩
                  have HBB := Lib.hid HO.out.bel
                  have HZA := Lib.hid (And.intro c7a (And.intro x0a x1a))
                  have hn1 : b ≠ W1.heap.size := by omega
                  have hn2 : g1 ≠ W1.heap.size := by omega
                  have hn3 : gC ≠ W1.heap.size := by omega
                  clear HO HX
                  go_region_held3 (fun W => W.cell? ⟨b, off + k * 8 + 1 + 1 + 1 + 1 + 1 + 1 + 1, none⟩ = some (.int .i64 at_) ∧ W.cell? ⟨g1, 0, none⟩ = some (.int .i64 (K : Int)) ∧ W.cell? ⟨g1, 1, none⟩ = some (.bool true)) (first | (with_reducible assumption) | (with_reducible exact held_al hz5) | (with_reducible exact held_st hn1 hn2 hn2 (held_st hn1 hn2 hn2 (held_st hn1 hn2 hn2 (held_st hn1 hn2 hn2 (held_st hn1 hn2 hn2 (held_st hn1 hn2 hn2 hz5)))))) | exact HZ.out | exact HZA.out) (first
                    | (go_at_call 11; (with_reducible refine (HP.out _ ?_).mono ?_); (first | (with_reducible exact (Below.refl _ _).drew) | (with_reducible exact (Below.refl _ _).drew.alloc (Nat.le_refl _) _) | (with_reducible exact (below_box _ _).drew)); rintro e W2 ⟨xr, br, rfl, hob, hcs, hbx, hsz, hkp⟩; have HOB := Lib.hid hob; have HO2 := Lib.hid hcs; have HX2 := Lib.hid hbx; have hz5 : W2.cell? ⟨b, off + k * 8 + 1 + 1 + 1 + 1 + 1 + 1 + 1, none⟩ = some (.int .i64 at_) ∧ W2.cell? ⟨g1, 0, none⟩ = some (.int .i64 (K : Int)) ∧ W2.cell? ⟨g1, 1, none⟩ = some (.bool true) := ⟨(hcs.bel.cell (p := ⟨b, off + k * 8 + 1 + 1 + 1 + 1 + 1 + 1 + 1, none⟩) hbw).trans ((HBB.out.cell (p := ⟨b, off + k * 8 + 1 + 1 + 1 + 1 + 1 + 1 + 1, none⟩) hbw).symm.trans HZ.out.1), hbx.cell 0, hbx.cell 1⟩; (try (have hzz := hkp 29 #[.int .i64 0, .bool false, .int .i64 0, .int .i64 0, .int .i64 0, .string ⟨#[]⟩] W1.heap.size (Nat.le_refl _) (Blk.new W1.drew _ _); have zz0 := hzz.cell 0; have zz1 := hzz.cell 1; have zz2 := hzz.cell 2; have zz3 := hzz.cell 3; have zz4 := hzz.cell 4; have zz5 := hzz.cell 5; have zf0 := hzz.frozen 0; have zf1 := hzz.frozen 1; have zf2 := hzz.frozen 2; have zf3 := hzz.frozen 3; have zf4 := hzz.frozen 4; have zf5 := hzz.frozen 5; have HZS := Lib.hid hzz.lt; clear hzz)); clear hob hcs hbx hkp))
                  all_goals
                    go_wp2
                    go_meet
                    refine ⟨br, rfl, HOB.out, ?_, ?_⟩
                    · first
                        | (with_reducible exact (HO2.out.less (fun _ h => h.elim)).below (below_box W2 _))
                        | (with_reducible exact CS.less (X' := fun _ => False) (HO2.out.six (b := W1.heap.size) (.inr ⟨Nat.le_refl _, by simp⟩) hn3 hwW _ _ _ _ _ _) (fun _ h => h.elim))
                        | exact CS.less (X' := fun _ => False) (HO2.out.six (b := W1.heap.size) (.inr ⟨Nat.le_refl _, by simp⟩) (by omega) hwW _ _ _ _ _ _) (fun _ h => h.elim)
                    · first
                        | (with_reducible exact HX2.out.alloc _)
                        | (with_reducible exact blk_six (b := W1.heap.size) HX2.out hn2 _ _ _ _ _ _)
                        | exact blk_six (b := W1.heap.size) HX2.out (by omega) _ _ _ _ _ _
              case rest =>
                obtain ⟨br, rfl, hob, hcs, hbx⟩ := hcut
                have HO2 := Lib.hid hcs
                have HX2 := Lib.hid hbx
                clear hcs hbx HO HX HP x0 x1 c0 c7 c7a x0a x1a c7b x0b x1b hg1 hgC hwW
                rcases hob with ⟨hno, rfl⟩ | ⟨⟨x, hso⟩, rfl⟩
                · have hpn := pick_none hno
                  rw [hpn] at HO2
                  have FIN : Hid (Cn w wc p gC (k + 1)) := Lib.hid ⟨L, HO2.out, by omega⟩
                  clear HO2 HX2 hpn hno hpl
                  go_wp2_with fail
                  go_meet
                  exact FIN.out
                · have hm := (pick_some hso).1
                  have a0 : wc.cell? ⟨gC, K * 2 + 1, none⟩ = some (.int .i64 (countL L (K : Int) true : Int)) := (HO2.out.at_ true hK4).1
                  have bf : wc.frozen? ⟨gC, K * 2 + 1, none⟩ = false := (HO2.out.at_ true hK4).2
                  have y0 := HX2.out.cell 0
                  dsimp only [gv] at y0
                  have hm1 := hm.1
                  have FIN : Hid (Cn w (wc.setCell ⟨gC, K * 2 + 1, none⟩ (.int .i64 ((countL L (K : Int) true : Int) - 1))).drew p gC (k + 1)) := Lib.hid ⟨_, (HO2.out.set_ (u := true) hK4 (by rw [cnt_at]; congr 1; omega) (fun c v h => (hm.2 c v h).symm)).below (drewN_below _ 1), by omega⟩
                  have hmx : countL L (K : Int) true ≤ L.length := count_le L _ _
                  have hwn : IntKind.i64.wrap ((countL L (K : Int) true : Int) - 1) = (countL L (K : Int) true : Int) - 1 := by rw [IntKind.wrap_i64]; omega
                  clear hm hm1 hso HO2 HX2 hpl hmx
                  generalize countL L (K : Int) true = m at *
                  have hKi : (K : Int) < 4 := by omega
                  have hK0 : (0 : Int) ≤ (K : Int) := by omega
                  go_upto_region 22 with (fail)
                  go_region_law (fail)
                  all_goals
                    go_wp2
                    go_meet
                    exact FIN.out
            by_cases k3 : kd = 3
            · subst k3
              as_aux_lemma =>
                have h1 := HO.out.below (drewN_below W1 1)
                have HP := Lib.hid (copy_any p _ L (K : Int) true at_ W1.drew h1.n (by omega))
                have HX1 := Lib.hid (HX.out.below (drewN_below W1 1) HX.out.lt)
                have HO1 : Hid (CS w W1.drew p gC (fun k => False ∨ k = g1) L L) := Lib.hid h1
                clear h1 x2 x3 x4 x5
                go_upto_region 24 with (fail)
                go_still_tail 10, (by kernel_rfl)
                change wpList _ _ _ _ _ W1.drew
                go_wp2_with fail
                refine HP.out.mono ?_
                rintro e W2 ⟨rfl, hn, k5⟩
                have HO2 := Lib.hid (HO1.out.call hn k5 (ok_copy HO1.out.ok))
                have HX2 := Lib.hid (k5.blk HX1.out (.inr (.inr (.inr rfl))))
                have hpl := copy_len L (K : Int) true at_
                clear HP hn k5 HO HX HO1 HX1 x0 x1 c0 c7
                cases h0 : copyB L (K : Int) true at_ with
                | true =>
                  have hm := copy_true h0
                  have a0 : W2.cell? ⟨gC, K * 2 + 1, none⟩ = some (.int .i64 (countL L (K : Int) true : Int)) := (HO2.out.at_ true hK4).1
                  have bf : W2.frozen? ⟨gC, K * 2 + 1, none⟩ = false := (HO2.out.at_ true hK4).2
                  have y0 := HX2.out.cell 0
                  dsimp only [gv] at y0
                  have FIN : Hid (Cn w (W2.setCell ⟨gC, K * 2 + 1, none⟩ (.int .i64 ((countL L (K : Int) true : Int) + 1))).drew p gC (k + 1)) := Lib.hid ⟨_, (CS.less (X' := fun _ => False) (HO2.out.set_ (u := true) hK4 (by rw [cnt_at, hm.1]; simp) hm.2) (fun _ h => h.elim)).below (drewN_below _ 1), by omega⟩
                  have hmx : countL L (K : Int) true ≤ L.length := count_le L _ _
                  have hwn : IntKind.i64.wrap ((countL L (K : Int) true : Int) + 1) = (countL L (K : Int) true : Int) + 1 := by rw [IntKind.wrap_i64]; omega
                  generalize countL L (K : Int) true = m at *
                  clear HO2 HX2 h0 hm hpl hmx
                  have hKi : (K : Int) < 4 := by omega
                  have hK0 : (0 : Int) ≤ (K : Int) := by omega
                  go_upto_region 25 with (fail)
                  go_region_law (fail)
                  all_goals
                    go_wp2
                    go_meet
                    exact FIN.out
                | false =>
                  have hpn := copy_false h0
                  rw [hpn] at HO2
                  have FIN : Hid (Cn w W2 p gC (k + 1)) := Lib.hid ⟨L, HO2.out.less (fun _ h => h.elim), by omega⟩
                  clear HO2 HX2 hpn hpl h0
                  go_wp2_with fail
                  go_meet
                  exact FIN.out
            by_cases k4 : kd = 4
            · subst k4
              as_aux_lemma =>
                have HP := Lib.hid (eldest_any p _ L W1 HO.out.n (by omega))
                clear c0 c7 x0 x1 x2 x3 x4 x5
                go_wp2_with fail
                refine HP.out.mono ?_
                intro e W2 h2
                cases ho : eldO L with
                | none =>
                  obtain ⟨rfl, hn, k5⟩ := got_none h2 ho
                  rw [eld_none ho] at hn
                  have hb := below_box W2 (.cells #[.int .i64 0, .bool false, .int .i64 0, .int .i64 0, .int .i64 0, .string ⟨#[]⟩] 29)
                  have FIN : Hid (Cn w (W2.alloc (.cells #[.int .i64 0, .bool false, .int .i64 0, .int .i64 0, .int .i64 0, .string ⟨#[]⟩] 29)) p gC (k + 1)) := Lib.hid ⟨L, CS.less (X' := fun _ => False) ((HO.out.call hn k5 HO.out.ok).below hb) (fun _ h => h.elim), by omega⟩
                  clear h2 hn k5 HO HX HP ho hb
                  go_wp2_with fail
                  go_meet
                  exact FIN.out
                | some x =>
                  obtain ⟨rfl, hn, k5⟩ := got_some h2 ho
                  obtain ⟨hm, hok, hmem⟩ := eld_some ho
                  have hx3 := HO.out.ok.in3 x hmem
                  have HO1 := HO.out.call hn k5 (hok HO.out.ok)
                  obtain ⟨J, hJ⟩ : ∃ J : Nat, x.cl = (J : Int) := ⟨x.cl.toNat, by omega⟩
                  obtain ⟨xc, xu, x2, x3, x4, x5⟩ := x
                  dsimp only at hm hx3 hJ
                  subst hJ
                  have hJ4 : J < 4 := by omega
                  have hb := below_box W2 (.cells #[.int .i64 (J : Int), .bool xu, .int .i64 x2, .int .i64 x3, .int .i64 x4, .string x5] 29)
                  have HO2 := Lib.hid (HO1.below hb)
                  have HX2 := Lib.hid (Blk.new W2 29 #[.int .i64 (J : Int), .bool xu, .int .i64 x2, .int .i64 x3, .int .i64 x4, .string x5])
                  have htl : L.tail.length ≤ k + 1 := by simp; omega
                  have hle := HO.out.ok.le (J : Int) xu
                  clear h2 hn k5 HO HX HP ho hb HO1 hok hmem
                  go_upto_region 28 with (fail)
                  generalize hGen : W2.alloc (.cells #[.int .i64 (J : Int), .bool xu, .int .i64 x2, .int .i64 x3, .int .i64 x4, .string x5] 29) = W3 at HO2 HX2 ⊢
                  clear hGen
                  generalize W2.heap.size = g2 at *
                  have y0 := HX2.out.cell 0
                  have y1 := HX2.out.cell 1
                  have hm1 := hm.1
                  have hJ0 : ¬ (J : Int) < 1 := by omega
                  have hJ3 : ¬ 3 < (J : Int) := by omega
                  have hJn : ¬ 3 < J := by omega
                  have hJm : ¬ J < 1 := by omega
                  have hJz : ¬ J = 0 := by omega
                  cases xu with
                  | false =>
                    have a0 : W3.cell? ⟨gC, J * 2, none⟩ = some (.int .i64 (countL L (J : Int) false : Int)) := (HO2.out.at_ false hJ4).1
                    have bf : W3.frozen? ⟨gC, J * 2, none⟩ = false := (HO2.out.at_ false hJ4).2
                    have hJi : (J : Int) < 4 := by omega
                    have hJq : (0 : Int) ≤ (J : Int) := by omega
                    have FIN : Hid (Cn w (W3.setCell ⟨gC, J * 2, none⟩ (.int .i64 ((countL L (J : Int) false : Int) - 1))).drew p gC (k + 1)) := Lib.hid ⟨_, (CS.less (X' := fun _ => False) (HO2.out.set_ (u := false) hJ4 (by rw [cnt_at]; congr 1; omega) (fun c v h => (hm.2 c v h).symm)) (fun _ h => h.elim)).below (drewN_below _ 1), htl⟩
                    have hwn : IntKind.i64.wrap ((countL L (J : Int) false : Int) - 1) = (countL L (J : Int) false : Int) - 1 := by rw [IntKind.wrap_i64]; omega
                    clear hm hm1 HO2 HX2 htl hx3
                    generalize countL L (J : Int) false = m at *
                    go_upto_region 34 with (fail)
                    go_region_law (fail)
                    all_goals
                      go_wp2
                      go_meet
                      exact FIN.out
                  | true =>
                    have a0 : W3.cell? ⟨gC, J * 2 + 1, none⟩ = some (.int .i64 (countL L (J : Int) true : Int)) := (HO2.out.at_ true hJ4).1
                    have bf : W3.frozen? ⟨gC, J * 2 + 1, none⟩ = false := (HO2.out.at_ true hJ4).2
                    have hJi : (J : Int) < 4 := by omega
                    have hJq : (0 : Int) ≤ (J : Int) := by omega
                    have FIN : Hid (Cn w (W3.setCell ⟨gC, J * 2 + 1, none⟩ (.int .i64 ((countL L (J : Int) true : Int) - 1))).drew p gC (k + 1)) := Lib.hid ⟨_, (CS.less (X' := fun _ => False) (HO2.out.set_ (u := true) hJ4 (by rw [cnt_at]; congr 1; omega) (fun c v h => (hm.2 c v h).symm)) (fun _ h => h.elim)).below (drewN_below _ 1), htl⟩
                    have hwn : IntKind.i64.wrap ((countL L (J : Int) true : Int) - 1) = (countL L (J : Int) true : Int) - 1 := by rw [IntKind.wrap_i64]; omega
                    clear hm hm1 HO2 HX2 htl hx3
                    generalize countL L (J : Int) true = m at *
                    go_upto_region 34 with (fail)
                    go_region_law (fail)
                    all_goals
                      go_wp2
                      go_meet
                      exact FIN.out
            have n1 : (kd == 1) = false := by simpa using k1
            have n2 : (kd == 2) = false := by simpa using k2
            have n3 : (kd == 3) = false := by simpa using k3
            have n4 : (kd == 4) = false := by simpa using k4
            have FIN : Hid (Cn w W1 p gC (k + 1)) := Lib.hid ⟨L, HO.out.less (fun _ h => h.elim), by omega⟩
            clear HO HX c0 c7 x0 x1 x2 x3 x4 x5 k1 k2 k3 k4
            go_wp2_with fail
            go_meet
            exact FIN.out
          case rest =>
            obtain ⟨L', hT, hL'⟩ := hcut
            have ST := Lib.hid hT
            clear hT HO HX HZ2 c0 c1 c2 c3 c4 c5 c6 c7 x0 x1 x2 x3 x4 x5
            go_wp2_with fail
            go_loopw [13] (fun ti wr => ∃ j : Nat, 1 ≤ j ∧ j ≤ 4 ∧ ti = .int .i64 (j : Int) ∧ Hid (CS w wr p gC (fun _ => False) L' L')) (fun ti _ => 4 - (intOf ti).toNat)
            case atStart => exact ⟨1, Nat.le_refl _, by omega, rfl, ST⟩
            case round =>
              obtain ⟨j, hj1, hj2, rfl, HK⟩ := hrel
              clear ST
              by_cases hlt3 : j ≤ 3
              · have hj4 : j < 4 := by omega
                have hn8 : L'.length ≤ 30000 := by omega
                have d0 : wr.cell? ⟨gC, j * 2, none⟩ = some (.int .i64 (countL L' (j : Int) false : Int)) := (HK.out.at_ false hj4).1
                have d1 : wr.cell? ⟨gC, j * 2 + 1, none⟩ = some (.int .i64 (countL L' (j : Int) true : Int)) := (HK.out.at_ true hj4).1
                have q0 := cell_regrown d0
                have q1 := cell_regrown d1
                have l0 := HK.out.ok.le (j : Int) false
                have l1 := HK.out.ok.le (j : Int) true
                have m0 : decide (64 < countL L' (j : Int) false) = false := by simp; omega
                have m1 : decide (64 < countL L' (j : Int) true) = false := by simp; omega
                have m2 : decide ((64 : Int) < (countL L' (j : Int) false : Int)) = false := by simp; omega
                have m3 : decide ((64 : Int) < (countL L' (j : Int) true : Int)) = false := by simp; omega
                have e0 : ∀ dd os, Calls Try.prog 14 #[.pointer (some ⟨p, 0, none⟩), .int .i64 (j : Int), .bool false] (grow (redrawn wr dd) os) fun e w'' => e = .returned (.int .i64 (countL L' (j : Int) false : Int)) ∧ ∃ p : Regrown, w'' = grow (redrawn wr p.d) p.os := fun dd os => Calls.regrown_of (count_to (n := (countL L' (j : Int) false : Int)) (HK.out.below (below_regrown wr dd os)).n hn8 rfl)
                have e1 : ∀ dd os, Calls Try.prog 14 #[.pointer (some ⟨p, 0, none⟩), .int .i64 (j : Int), .bool true] (grow (redrawn wr dd) os) fun e w'' => e = .returned (.int .i64 (countL L' (j : Int) true : Int)) ∧ ∃ p : Regrown, w'' = grow (redrawn wr p.d) p.os := fun dd os => Calls.regrown_of (count_to (n := (countL L' (j : Int) true : Int)) (HK.out.below (below_regrown wr dd os)).n hn8 rfl)
                generalize countL L' (j : Int) false = mf at *
                generalize countL L' (j : Int) true = mt at *
                clear d0 d1 l0 l1
                go_wp2_with fail
                refine wp_region_quiet_below (by kernel_rfl) (by kernel_rfl) ?_
                repeat (go_big_quiet_step (first | (with_reducible exact e0 _ _) | (with_reducible exact e1 _ _)))
                refine wpQuiet_nil ?_
                intro _ hw'
                obtain ⟨⟨dq, osq⟩, hw''⟩ := hw'
                subst hw''
                have b5 := below_regrown wr dq osq
                generalize grow (redrawn wr dq) osq = W5 at b5 ⊢
                have ST := Lib.hid (HK.out.below b5)
                clear b5 q0 q1 e0 e1 HK m0 m1 m2 m3
                go_wp2
                go_roundw
                case rel => exact ⟨j + 1, by omega, by omega, by go_num, ST⟩
                case measure => simp [intOf]; omega
              · have hj4 : j = 4 := by omega
                have hltn : ¬ j ≤ 3 := hlt3
                have ST : Hid (Cn w wr p gC (k + 1)) := Lib.hid ⟨L', HK.out, hL'⟩
                clear HK hj4
                go_wp2
                go_roundw
                case rel => exact ⟨k + 1, by omega, by omega, by go_num, ST⟩
                case measure => simp [intOf]; omega
    all_goals
      first | (have h9 : ¬ k < n := by omega) | (have h9 : ¬ k < 200 := by omega)
      clear h
      obtain ⟨L, hT, hL⟩ := HK.out
      have HBB := Lib.hid hT.bel
      clear HK hT
      go_wp2
      go_ret
      exact ⟨rfl, HBB.out⟩
end Go.Proofs.Ythkgmfgchgoafaa.Mist
