/- mend.begin, walked. Undo and Restart of a log that clients made, and of its pages: what they leave. -/
import Derived.Test.YtkeocnhndnbamaaGreatQBook26
import Derived.Test.YtkeocnhndnbamaaGreatQBook27
import Derived.Test.YtkeocnhndnbamaaGreatQBook28
namespace Go.Proofs.YtkeocnhndnbamaaGreat.Mend
set_option maxRecDepth 100000
open Go.RowKit Go.Sort Go.Maps
open Go.Proofs.YtkeocnhndnbamaaGreat.Mem
open Go.Proofs.YtkeocnhndnbamaaGreat.Slab (Slot Slots)
open Go.Proofs.YtkeocnhndnbamaaGreat.Ent (Ent goodB Ents EntAt SmallE entA cellsE noE)
open Go.Proofs.YtkeocnhndnbamaaGreat.Past (T3 txE SmT AppRes cellsG readV Rows3)
open Go.Proofs.YtkeocnhndnbamaaGreat.Latch (MapN Sm sm_of)
theorem los_next {cl : Int} {V : List (T3 × Int)} {k : Nat} {y : T3 × Int} (h : V[k]? = some y) : los cl (V.take (k + 1)) = if (decide (cl = 0) || decide (y.1.cl = cl)) = true then los cl (V.take k) ++ [y] else los cl (V.take k) := by
  unfold los
  rw [List.take_add_one, h, Option.toList_some, List.filter_append]
  cases hc : (decide (cl = 0) || decide (y.1.cl = cl)) with
  | true => rw [if_pos rfl]; simp [hc]
  | false => rw [if_neg (by simp)]; simp [hc]
set_option maxRecDepth 100000 in
set_option maxHeartbeats 16000000 in
theorem begin_any (la : Option Addr) (n lc : Nat) (L : List Ent) (a : Option Addr) (m c : Nat) (ls : List Lf) (cl : Int) (w : World) (hL : Ents w la n L) (h : LeavesI w a m ls) (hn : n ≤ 100000) (hm : m ≤ 100) (hok : PagesOK ls) (hG : ∀ x ∈ L, goodB x = true) :
    Calls Tryz.prog 28 #[.slice la n lc, .slice a m c, .int .i64 cl] w (BegRes L ls cl w) := by
  have HL := Lib.hid hL
  have HV := Lib.hid h
  have HOK := Lib.hid hok
  have HG := Lib.hid hG
  have HLL := Lib.hid h.1
  clear hL h hok hG
  go_enter Tryz.func28, Tryz.ntmps28
  go_upto_region 2 with (first
    | (with_reducible refine (mread_any la n lc L _ HL.out HG.out hn).mono ?_
       rintro e w1 ⟨ml, mf, rfl, t1, b1⟩
       have T1 := Lib.hid t1
       have B1' := Lib.hid b1
       clear t1 b1)
    | (with_reducible refine (places_any a m c ls _ (HV.out.below B1'.out) hm HOK.out).mono ?_
       rintro e w2 ⟨mp, rfl, p2⟩
       have P2 := Lib.hid p2
       clear p2))
  have hbx := Ent.below_box w2 (.cells #[.slice la n lc, .map (some ml), .map (some mf), .slice none 0 0, .map (some mp), .slice none 0 0, .slice none 0 0, .slice none 0 0] 92)
  have HX := Lib.hid (show ∀ W, w2.alloc (.cells #[.slice la n lc, .map (some ml), .map (some mf), .slice none 0 0, .map (some mp), .slice none 0 0, .slice none 0 0, .slice none 0 0] 92) = W →
      (Below w.heap.size w W ∧ (w.heap.size ≤ w2.heap.size ∧ w2.heap.size < W.heap.size) ∧ TR W w.heap.size ml mf n L ∧ MapN W mp ls.length (plF ls) ∧ (ml ≠ w2.heap.size ∧ mf ≠ w2.heap.size ∧ mp ≠ w2.heap.size) ∧
      B1 W W w2.heap.size ⟨la, n, lc, ml, mf, mp, .slice none 0 0, .slice none 0 0, .slice none 0 0, .slice none 0 0⟩ (.slice none 0 0) []) from fun W e => by
    subst e
    have t2 := T1.out.below P2.out.bel
    have hb2 := below_go B1'.out P2.out.bel
    have l1 := t2.mt.lt
    have l2 := t2.mp.lt
    have l3 := P2.out.mp.lt
    refine ⟨below_go hb2 hbx, ⟨hb2.size, by simp⟩, t2.below hbx, P2.out.mp.same (hbx.block _ l3), ⟨by omega, by omega, by omega⟩, Keep.refl _ _, Blk.new _ _ _, ⟨own_nil _ _ _ _, fun y h => nomatch h⟩, fun y h => nomatch h⟩)
  have HX := Lib.hid (HX.out _ rfl)
  clear hbx T1 P2 B1'
  obtain ⟨u, hu⟩ : ∃ u, w2.heap.size = u := ⟨_, rfl⟩
  rw [hu] at HX
  try rw [hu]
  clear hu
  generalize hGen : w2.alloc (.cells #[.slice la n lc, .map (some ml), .map (some mf), .slice none 0 0, .map (some mp), .slice none 0 0, .slice none 0 0, .slice none 0 0] 92) = W2 at HX ⊢
  clear hGen
  obtain ⟨D, hD⟩ : ∃ D : WD, (⟨la, n, lc, ml, mf, mp, .slice none 0 0, .slice none 0 0, .slice none 0 0, .slice none 0 0⟩ : WD) = D := ⟨_, rfl⟩
  have HD := Lib.hid hD
  rw [hD] at HX
  clear hD
  go_wp2_with fail
  go_loopw [20] (fun iv wr => ∃ (k : Nat) (v : Value) (P : List Ro), k ≤ m ∧ iv = .int .i64 (k : Int) ∧ P.map (·.x) = ls.take k ∧ Hid (B1 W2 wr u D v P)) (fun iv _ => m - intN iv)
  case atStart => exact ⟨0, _, [], Nat.zero_le _, rfl, rfl, Lib.hid HX.out.2.2.2.2.2⟩
  case round =>
    obtain ⟨j, v, P, hj, rfl, hP, H⟩ := hrel
    have hPl : P.length = j := by
      have := congrArg List.length hP
      rw [List.length_map, List.length_take, HLL.out] at this
      omega
    have HPM := Lib.hid hP
    have HPL := Lib.hid hPl
    clear hP hPl
    have HBW := Lib.hid (show Below w.heap.size w wr from HX.out.1.trans (H.out.keep.below fun k hk => ⟨by have := HX.out.2.1; omega, by have := HX.out.2.1; omega⟩))
    by_cases hjl : j < m
    · obtain ⟨b, off, a', n', c', x, rfl, hbl, hx, c1, c2, c3, hsl, hml⟩ := (HV.out.below HBW.out).at_ hjl
      have hd2 : decide ((j : Int) < (m : Int)) = true := decide_eq_true (by omega)
      have hxm := List.mem_of_getElem? hx
      have hgood := HOK.out.good x hxm
      have hz32 : n' ≤ 1000000 := by have := hsl.len; have := (Slab.good_parts hgood).2.2.1; omega
      have HXB := Lib.hid (HV.out.2.1 x hxm)
      have HXT := Lib.hid (show ls.take (j + 1) = ls.take j ++ [x] by rw [List.take_add_one, hx]; rfl)
      have hbx := Ent.below_box wr (.cells #[.int .i64 x.n, .int .i64 x.l, .slice a' n' c'] 54)
      have H1 := Lib.hid (H.out.below hbx)
      have HBX := Lib.hid hbx
      have hSL := Lib.hid (hsl.below hbx)
      have hB := Lib.hid (Blk.new wr 54 #[.int .i64 x.n, .int .i64 x.l, .slice a' n' c'])
      have HGL := Lib.hid (Nat.le_refl wr.heap.size)
      clear hsl hml hbx hgood hx hxm
      go_upto_region 5 with (fail)
      obtain ⟨gl, hgl⟩ : ∃ gl, wr.heap.size = gl := ⟨_, rfl⟩
      rw [hgl] at hB
      try rw [hgl]
      have HGE := Lib.hid hgl
      clear hgl c1 c2 c3
      generalize hGen : wr.alloc (.cells #[.int .i64 x.n, .int .i64 x.l, .slice a' n' c'] 54) = W1 at H1 hB hSL HBX ⊢
      clear hGen
      have q0 := hB.out.cell 0
      have q1 := hB.out.cell 1
      have q2 := hB.out.cell 2
      have HC := Lib.hid (Slab.clone_any a' n' c' x.z W1 hSL.out hz32)
      have HB1 := hB.out
      have fz : ∀ w5, Below W1.heap.size W1 w5 → w5.frozen? ⟨gl, 2, none⟩ = false ∧ w5.cell? ⟨gl, 2, none⟩ = some (.slice a' n' c') := fun w5 hb => ⟨(HB1.below hb HB1.lt).frozen 2, (HB1.below hb HB1.lt).cell 2⟩
      have HFZ := Lib.hid fz
      clear HB1 fz
      go_upto_region 6 with ((with_reducible refine HC.out.mono ?_); rintro e w5 ⟨a5, c5, rfl, s5, b5, f5⟩; have f52 := (HFZ.out w5 b5).1; have q52 := (HFZ.out w5 b5).2; have S5 := Lib.hid s5; have B5 := Lib.hid b5; have F5 := Lib.hid f5; clear s5 b5 f5)
      have hbs : Below W1.heap.size W1 w5 := B5.out
      have hglt : gl < W1.heap.size := hB.out.lt
      have HB6 := Lib.hid (show Blk (w5.setCell ⟨gl, 2, none⟩ (.slice a5 n' c5)) gl 54 #[.int .i64 x.n, .int .i64 x.l, .slice a5 n' c5] from (hB.out.below hbs hglt).set_ 2 _)
      have HW6 := Lib.hid (show Below wr.heap.size wr (w5.setCell ⟨gl, 2, none⟩ (.slice a5 n' c5)) from (below_go HBX.out hbs).setCell (p := ⟨gl, 2, none⟩) (by rw [HGE.out]; exact Nat.le_refl _) _)
      have HS6 := Lib.hid (show Slots (w5.setCell ⟨gl, 2, none⟩ (.slice a5 n' c5)) a5 n' x.z from slots_same S5.out (by simp) fun b off e ha h0 => Below.heap_setCell _ ⟨gl, 2, none⟩ _ b (fun e2 => by have := F5.out b off e ha; have e2 : b = gl := e2; omega))
      have HF6 := Lib.hid (show ∀ b off e, a5 = some ⟨b, off, e⟩ → wr.heap.size ≤ b from fun b off e ha => by have := F5.out b off e ha; have := HBX.out.size; omega)
      clear q0 q1 q2 q52 f52 hbs hglt HC HFZ B5 S5 F5 hB hSL H1
      generalize hGen : w5.setCell ⟨gl, 2, none⟩ (.slice a5 n' c5) = W6 at HB6 HW6 HS6 ⊢
      clear hGen
      have h6 := H.out.below HW6.out
      obtain ⟨va, vc, hv⟩ := own_shape h6.row.row
      subst hv
      have HO := Lib.hid h6.row.row
      have u3 : W6.cell? ⟨u, 3, none⟩ = some (.slice va P.length vc) := h6.blk.cell 3
      have hbx2 := Ent.below_box W6 (.cells #[.int .i64 x.n, .int .i64 x.l, .slice a5 n' c5] 54)
      have u4 : (W6.alloc (.cells #[.int .i64 x.n, .int .i64 x.l, .slice a5 n' c5] 54)).cell? ⟨u, 3, none⟩ = some (.slice va P.length vc) := (h6.below hbx2).blk.cell 3
      have hX2 := Lib.hid (Blk.new W6 54 #[.int .i64 x.n, .int .i64 x.l, .slice a5 n' c5])
      have hbx2 := Lib.hid hbx2
      have HBB := Lib.hid (show W2.heap.size ≤ W6.heap.size from h6.keep.size)
      have HPL9 := Lib.hid (show P.length ≤ 900000 by have := HPL.out; omega)
      have g0 := HB6.out.cell 0
      have g1 := HB6.out.cell 1
      have g2 := HB6.out.cell 2
      have FIN := Lib.hid (show ∀ (wa w9 : World) (v9 : Value), Below W6.heap.size W6 wa → AppRes wa w9 W2.heap.size 54 3 (.slice va P.length vc) v9 (P.length + 1) (cellsG lrV (P ++ [⟨x, a5, n', c5⟩])) →
          (w9.cell? ⟨u, 3, none⟩ = some (.slice va P.length vc) ∧ w9.frozen? ⟨u, 3, none⟩ = false) ∧ B1 W2 (w9.setCell ⟨u, 3, none⟩ v9) u D v9 (P ++ [⟨x, a5, n', c5⟩]) from fun wa w9 v9 hb hA =>
        H.out.add HX.out.2.1.2 (below_go HW6.out hb) (HS6.out.below hb) hz32 HXB.out HF6.out hA)
      clear h6
      go_region_law (refine step_lf (wr := W6) rfl (.tmp 34) (.tmp 36) rfl W2.heap.size (.slice va P.length vc) P (by simp [Act.eval]) W6.heap.size ⟨x, a5, n', c5⟩ (by simp [Act.eval]) ?hp HO.out HBB.out HPL9.out ?_; (case hp => first | exact ⟨hbx2.out.drew, hX2.out⟩ | exact ⟨hbx2.out, hX2.out⟩); intro v9 w9 hb9 hA9; have HE := Lib.hid (FIN.out _ _ _ hb9 hA9); obtain ⟨a9, c9, e9⟩ := own_shape hA9.1; subst e9; have k9 := HE.out.1.1; have f9 := HE.out.1.2; clear hb9 hA9)
      all_goals
        have HM2 := Lib.hid (show (P ++ [(⟨x, a5, n', c5⟩ : Ro)]).map (·.x) = ls.take (j + 1) by rw [List.map_append, HXT.out, HPM.out]; rfl)
        have HE2 := Lib.hid HE.out.2
        clear g0 g1 g2 u3 u4 k9 f9 HE FIN
        go_wp2
        go_roundw
        case rel => exact ⟨j + 1, _, _, by omega, by go_num, HM2.out, HE2⟩
        case measure => simp [intN]; omega
    · obtain rfl : j = m := by omega
      have hd2 : decide ((j : Int) < (j : Int)) = false := decide_eq_false (by omega)
      have hPM := HPM.out
      rw [List.take_of_length_le (by rw [HLL.out]; exact Nat.le_refl _)] at hPM
      have HPM := Lib.hid hPM
      obtain ⟨V, hV⟩ : ∃ V, readV L 1 = V := ⟨_, rfl⟩
      have hRD := Past.read_any la n lc L 1 wr (HL.out.next HBW.out) hn
      have hvl : (readV L 1).los.length ≤ 100000 := Nat.le_trans los_len (by rw [HL.out.1]; exact hn)
      rw [hV] at hRD hvl
      have HRD := Lib.hid hRD
      have HVL := Lib.hid hvl
      have HVV := Lib.hid hV
      clear hPM hV hRD hvl
      go_wp2_with ((with_reducible refine HRD.out.mono ?_); rintro e w8 ⟨sl, dn, pg, rfl, r8, b8⟩; obtain ⟨sa, sc, hsl⟩ := own_shape r8.lo; subst hsl; have hfd : ∀ W, (Instr.field 120 (.agg #[.slice sa V.los.length sc, dn, pg]) 0).run Tryz.prog W = .ok (.slice sa V.los.length sc) W := (fun _ => by kernel_rfl); have R8 := Lib.hid r8; have B8 := Lib.hid b8; clear r8 b8)
      have H8 := Lib.hid (H.out.below B8.out)
      have HU8 := Lib.hid (show u < w8.heap.size by have := HX.out.2.1.2; have := H8.out.keep.size; omega)
      have HUr := Lib.hid (show u < wr.heap.size by have := HX.out.2.1.2; have := H.out.keep.size; omega)
      obtain ⟨n8, hn8⟩ : ∃ n8, wr.heap.size = n8 := ⟨_, rfl⟩
      rw [hn8] at R8 HUr
      clear hn8
      have HS := Lib.hid (show B2 w8 w8 u { D with pv := v } (.slice none 0 0) [] from ⟨Keep.refl _ _, by have hb := H8.out.blk; rw [← HD.out] at hb ⊢; exact hb, own_nil _ _ _ _, fun z hz => (nomatch hz), List.nodup_nil⟩)
      go_loopw [45] (fun iv W => ∃ (k : Nat) (lv : Value) (Z : List LZ), k ≤ V.los.length ∧ iv = .int .i64 (k : Int) ∧ Z.map (fun z => (z.t, z.last)) = los cl (V.los.take k) ∧ Hid (B2 w8 W u { D with pv := v } lv Z)) (fun iv _ => V.los.length - intN iv)
      case atStart => exact ⟨0, _, [], Nat.zero_le _, rfl, rfl, HS⟩
      case round =>
        clear HS
        obtain ⟨k, lv, Z, hk, rfl, hZ, H2⟩ := hrel
        have HZ := Lib.hid hZ
        clear hZ
        by_cases hkl : k < V.los.length
        · obtain ⟨y, hy⟩ : ∃ y, V.los[k]? = some y := ⟨_, List.getElem?_eq_getElem hkl⟩
          have hd3 : decide ((k : Int) < (V.los.length : Int)) = true := decide_eq_true (by omega)
          have hkn : k < 100000 := by have := HVL.out; omega
          obtain ⟨g, gc, e, hg, -, d0', d1', d2', d3'⟩ := R8.out.loser hy
          have hgr : n8 ≤ g := Past.own_ge R8.out.lo (by rw [e]; rfl)
          injection e with e1 e2 e3
          subst e1
          have htr : ∀ i, wr.cell? ⟨g, i, none⟩ = w8.cell? ⟨g, i, none⟩ := fun i => H2.out.keep.cell (p := ⟨g, i, none⟩) ⟨hg, fun e => by have e : g = u := e; have := HUr.out; omega⟩
          have d0 := (htr _).trans d0'
          have d1 := (htr _).trans d1'
          have d2 := (htr _).trans d2'
          have d3 := (htr _).trans d3'
          clear d0' d1' d2' d3' htr e3 hg hgr
          have hb1 := Ent.below_box wr (.cells #[.int .i64 y.1.cl, .int .i64 y.1.ep, .int .i64 y.1.n, .int .i64 y.2] 123)
          have hB := Lib.hid (Blk.new wr 123 #[.int .i64 y.1.cl, .int .i64 y.1.ep, .int .i64 y.1.n, .int .i64 y.2])
          go_upto_region 11 with (fail)
          obtain ⟨gl, hgl⟩ : ∃ gl, wr.heap.size = gl := ⟨_, rfl⟩
          rw [hgl] at hB
          try rw [hgl]
          clear hgl d0 d1 d2 d3
          generalize hGen : wr.alloc (.cells #[.int .i64 y.1.cl, .int .i64 y.1.ep, .int .i64 y.1.n, .int .i64 y.2] 123) = W1 at hB hb1 ⊢
          clear hGen
          have q0 := hB.out.cell 0
          have q1 := hB.out.cell 1
          have q2 := hB.out.cell 2
          have q3 := hB.out.cell 3
          by_cases h0 : cl = 0
          · have g1 : (cl == 0) = true := by simp [h0]
            have g2 : decide (cl = 0) = true := decide_eq_true h0
            have hcy : (decide (cl = 0) || decide (y.1.cl = cl)) = true := by rw [g2]; rfl
            clear h0
            have HZN := Lib.hid (show (Z ++ [(⟨W1.heap.size, y.1, y.2, noE, 0⟩ : LZ)]).map (fun z => (z.t, z.last)) = los cl (V.los.take (k + 1)) by rw [los_next hy, hcy, if_pos rfl, List.map_append, HZ.out]; rfl)
            have hA := Lib.hid hb1
            have H3 := Lib.hid (H2.out.below hb1)
            obtain ⟨lva, lvc, hlv⟩ := own_shape H3.out.lo
            subst hlv
            clear hy hcy
            have hbx := Ent.below_box W1 (.cells #[.int .i64 y.1.cl, .int .i64 y.1.ep, .int .i64 y.1.n, .int .i64 y.2, .int .i64 0, .int .i64 0, .int .i64 0, .int .i64 0, .int .i64 0, .int .i64 0, .int .i64 0, .int .i64 0, .bool false, .string ⟨#[]⟩, .bool false, .string ⟨#[]⟩, .int .i64 0, .int .i64 0] 126)
            have hbx2 := Ent.below_box (W1.alloc (.cells #[.int .i64 y.1.cl, .int .i64 y.1.ep, .int .i64 y.1.n, .int .i64 y.2, .int .i64 0, .int .i64 0, .int .i64 0, .int .i64 0, .int .i64 0, .int .i64 0, .int .i64 0, .int .i64 0, .bool false, .string ⟨#[]⟩, .bool false, .string ⟨#[]⟩, .int .i64 0, .int .i64 0] 126)) (.cells #[ptrV W1.heap.size] 124)
            have hX2 := Lib.hid (Blk.new (W1.alloc (.cells #[.int .i64 y.1.cl, .int .i64 y.1.ep, .int .i64 y.1.n, .int .i64 y.2, .int .i64 0, .int .i64 0, .int .i64 0, .int .i64 0, .int .i64 0, .int .i64 0, .int .i64 0, .int .i64 0, .bool false, .string ⟨#[]⟩, .bool false, .string ⟨#[]⟩, .int .i64 0, .int .i64 0] 126)) 124 #[ptrV W1.heap.size])
            have hsz1 : (W1.alloc (.cells #[.int .i64 y.1.cl, .int .i64 y.1.ep, .int .i64 y.1.n, .int .i64 y.2, .int .i64 0, .int .i64 0, .int .i64 0, .int .i64 0, .int .i64 0, .int .i64 0, .int .i64 0, .int .i64 0, .bool false, .string ⟨#[]⟩, .bool false, .string ⟨#[]⟩, .int .i64 0, .int .i64 0] 126)).heap.size = W1.heap.size + 1 := by simp
            have H4 := Lib.hid (H3.out.below hbx)
            have hlb := Lib.hid (Blk.new W1 126 #[.int .i64 y.1.cl, .int .i64 y.1.ep, .int .i64 y.1.n, .int .i64 y.2, .int .i64 0, .int .i64 0, .int .i64 0, .int .i64 0, .int .i64 0, .int .i64 0, .int .i64 0, .int .i64 0, .bool false, .string ⟨#[]⟩, .bool false, .string ⟨#[]⟩, .int .i64 0, .int .i64 0])
            have u5 : W1.cell? ⟨u, 5, none⟩ = some (.slice lva (bsOf Z).length lvc) := H3.out.blk.cell 5
            have u6 : (W1.alloc (.cells #[.int .i64 y.1.cl, .int .i64 y.1.ep, .int .i64 y.1.n, .int .i64 y.2, .int .i64 0, .int .i64 0, .int .i64 0, .int .i64 0, .int .i64 0, .int .i64 0, .int .i64 0, .int .i64 0, .bool false, .string ⟨#[]⟩, .bool false, .string ⟨#[]⟩, .int .i64 0, .int .i64 0] 126)).cell? ⟨u, 5, none⟩ = some (.slice lva (bsOf Z).length lvc) := H4.out.blk.cell 5
            have hgl : ∀ wa, Below W1.heap.size W1 wa → wa.cell? ⟨gl, 0, none⟩ = some (.int .i64 y.1.cl) ∧ wa.cell? ⟨gl, 1, none⟩ = some (.int .i64 y.1.ep) ∧ wa.cell? ⟨gl, 2, none⟩ = some (.int .i64 y.1.n) ∧ wa.cell? ⟨gl, 3, none⟩ = some (.int .i64 y.2) := fun wa hb => ⟨(hB.out.below hb hB.out.lt).cell 0, (hB.out.below hb hB.out.lt).cell 1, (hB.out.below hb hB.out.lt).cell 2, (hB.out.below hb hB.out.lt).cell 3⟩
            obtain ⟨q4, q5, q6, q7⟩ := hgl _ hbx
            have u7' : (World.alloc _ _).cell? ⟨u, 5, none⟩ = some (.slice lva (bsOf Z).length lvc) := (H4.out.below hbx2).blk.cell 5
            have HO := Lib.hid H4.out.lo
            have HBB := Lib.hid (show w8.heap.size ≤ (W1.alloc (.cells #[.int .i64 y.1.cl, .int .i64 y.1.ep, .int .i64 y.1.n, .int .i64 y.2, .int .i64 0, .int .i64 0, .int .i64 0, .int .i64 0, .int .i64 0, .int .i64 0, .int .i64 0, .int .i64 0, .bool false, .string ⟨#[]⟩, .bool false, .string ⟨#[]⟩, .int .i64 0, .int .i64 0] 126)).heap.size from H4.out.keep.size)
            have HZL := Lib.hid (show (bsOf Z).length ≤ 900000 by have h9 := congrArg List.length HZ.out; rw [List.length_map] at h9; have h8 : (los cl (V.los.take k)).length ≤ (V.los.take k).length := List.length_filter_le _ _; rw [List.length_take] at h8; unfold bsOf; rw [List.length_map]; have := HVL.out; omega)
            rw [hsz1] at hX2
            have FIN := Lib.hid (show ∀ (wa w9 : World) (v9 : Value), Below (W1.alloc (.cells #[.int .i64 y.1.cl, .int .i64 y.1.ep, .int .i64 y.1.n, .int .i64 y.2, .int .i64 0, .int .i64 0, .int .i64 0, .int .i64 0, .int .i64 0, .int .i64 0, .int .i64 0, .int .i64 0, .bool false, .string ⟨#[]⟩, .bool false, .string ⟨#[]⟩, .int .i64 0, .int .i64 0] 126)).heap.size (W1.alloc (.cells #[.int .i64 y.1.cl, .int .i64 y.1.ep, .int .i64 y.1.n, .int .i64 y.2, .int .i64 0, .int .i64 0, .int .i64 0, .int .i64 0, .int .i64 0, .int .i64 0, .int .i64 0, .int .i64 0, .bool false, .string ⟨#[]⟩, .bool false, .string ⟨#[]⟩, .int .i64 0, .int .i64 0] 126)) wa → AppRes wa w9 w8.heap.size 124 1 (.slice lva (bsOf Z).length lvc) v9 ((bsOf Z).length + 1) ((bsOf Z ++ [W1.heap.size]).map ptrV) →
                (w9.cell? ⟨u, 5, none⟩ = some (.slice lva (bsOf Z).length lvc) ∧ w9.frozen? ⟨u, 5, none⟩ = false) ∧ B2 w8 (w9.setCell ⟨u, 5, none⟩ v9) u { D with pv := v } v9 (Z ++ [⟨W1.heap.size, y.1, y.2, noE, 0⟩]) from fun wa w9 v9 hb hA9 =>
              H3.out.add HU8.out (z := ⟨W1.heap.size, y.1, y.2, noE, 0⟩) (below_go hbx hb) (hlb.out.below hb hlb.out.lt) (Nat.le_refl _) hA9)
            have hbx := Lib.hid hbx
            have hbx2 := Lib.hid hbx2
            clear hgl hsz1 hb1
            have u7 := u7'
            clear u7'
            unfold ptrV at hX2 hbx2 u7
            go_upto_region 12 with (fail)
            go_region_law (refine step_ptrL (W := W1.alloc (.cells #[.int .i64 y.1.cl, .int .i64 y.1.ep, .int .i64 y.1.n, .int .i64 y.2, .int .i64 0, .int .i64 0, .int .i64 0, .int .i64 0, .int .i64 0, .int .i64 0, .int .i64 0, .int .i64 0, .bool false, .string ⟨#[]⟩, .bool false, .string ⟨#[]⟩, .int .i64 0, .int .i64 0] 126)) rfl (.tmp 62) (.tmp 69) rfl w8.heap.size (.slice lva (bsOf Z).length lvc) (bsOf Z) (by simp [Act.eval]) (W1.heap.size + 1) W1.heap.size (by simp [Act.eval]) ?hp HO.out HZL.out HBB.out ?_; (case hp => first | exact ⟨hbx2.out.drew, hX2.out⟩ | exact ⟨hbx2.out, hX2.out⟩); intro v9 w9 hb9 hA9; have HE := Lib.hid (FIN.out _ _ _ hb9 hA9); obtain ⟨a9, c9, e9⟩ := own_shape hA9.1; subst e9; have k9 := HE.out.1.1; have f9 := HE.out.1.2; clear hb9 hA9)
            all_goals
              have HE2 := Lib.hid HE.out.2
              clear q0 q1 q2 q3 q4 q5 q6 q7 u5 u6 u7 k9 f9 HE FIN
              go_wp2
              go_roundw
              case rel => exact ⟨k + 1, _, _, by omega, by go_num, HZN.out, HE2⟩
              case measure => simp [intN]; omega
          · have g1 : (cl == 0) = false := by simp [h0]
            have g2 : decide (cl = 0) = false := decide_eq_false h0
            clear h0
            by_cases h1 : y.1.cl = cl
            · have g3 : (y.1.cl == cl) = true := by simp [h1]
              have g4 : decide (y.1.cl = cl) = true := decide_eq_true h1
              have hcy : (decide (cl = 0) || decide (y.1.cl = cl)) = true := by rw [g4]; simp
              clear h1
              have HZN := Lib.hid (show (Z ++ [(⟨W1.heap.size, y.1, y.2, noE, 0⟩ : LZ)]).map (fun z => (z.t, z.last)) = los cl (V.los.take (k + 1)) by rw [los_next hy, hcy, if_pos rfl, List.map_append, HZ.out]; rfl)
              have hA := Lib.hid hb1
              have H3 := Lib.hid (H2.out.below hb1)
              obtain ⟨lva, lvc, hlv⟩ := own_shape H3.out.lo
              subst hlv
              clear hy hcy
              have hbx := Ent.below_box W1 (.cells #[.int .i64 y.1.cl, .int .i64 y.1.ep, .int .i64 y.1.n, .int .i64 y.2, .int .i64 0, .int .i64 0, .int .i64 0, .int .i64 0, .int .i64 0, .int .i64 0, .int .i64 0, .int .i64 0, .bool false, .string ⟨#[]⟩, .bool false, .string ⟨#[]⟩, .int .i64 0, .int .i64 0] 126)
              have hbx2 := Ent.below_box (W1.alloc (.cells #[.int .i64 y.1.cl, .int .i64 y.1.ep, .int .i64 y.1.n, .int .i64 y.2, .int .i64 0, .int .i64 0, .int .i64 0, .int .i64 0, .int .i64 0, .int .i64 0, .int .i64 0, .int .i64 0, .bool false, .string ⟨#[]⟩, .bool false, .string ⟨#[]⟩, .int .i64 0, .int .i64 0] 126)) (.cells #[ptrV W1.heap.size] 124)
              have hX2 := Lib.hid (Blk.new (W1.alloc (.cells #[.int .i64 y.1.cl, .int .i64 y.1.ep, .int .i64 y.1.n, .int .i64 y.2, .int .i64 0, .int .i64 0, .int .i64 0, .int .i64 0, .int .i64 0, .int .i64 0, .int .i64 0, .int .i64 0, .bool false, .string ⟨#[]⟩, .bool false, .string ⟨#[]⟩, .int .i64 0, .int .i64 0] 126)) 124 #[ptrV W1.heap.size])
              have hsz1 : (W1.alloc (.cells #[.int .i64 y.1.cl, .int .i64 y.1.ep, .int .i64 y.1.n, .int .i64 y.2, .int .i64 0, .int .i64 0, .int .i64 0, .int .i64 0, .int .i64 0, .int .i64 0, .int .i64 0, .int .i64 0, .bool false, .string ⟨#[]⟩, .bool false, .string ⟨#[]⟩, .int .i64 0, .int .i64 0] 126)).heap.size = W1.heap.size + 1 := by simp
              have H4 := Lib.hid (H3.out.below hbx)
              have hlb := Lib.hid (Blk.new W1 126 #[.int .i64 y.1.cl, .int .i64 y.1.ep, .int .i64 y.1.n, .int .i64 y.2, .int .i64 0, .int .i64 0, .int .i64 0, .int .i64 0, .int .i64 0, .int .i64 0, .int .i64 0, .int .i64 0, .bool false, .string ⟨#[]⟩, .bool false, .string ⟨#[]⟩, .int .i64 0, .int .i64 0])
              have u5 : W1.cell? ⟨u, 5, none⟩ = some (.slice lva (bsOf Z).length lvc) := H3.out.blk.cell 5
              have u6 : (W1.alloc (.cells #[.int .i64 y.1.cl, .int .i64 y.1.ep, .int .i64 y.1.n, .int .i64 y.2, .int .i64 0, .int .i64 0, .int .i64 0, .int .i64 0, .int .i64 0, .int .i64 0, .int .i64 0, .int .i64 0, .bool false, .string ⟨#[]⟩, .bool false, .string ⟨#[]⟩, .int .i64 0, .int .i64 0] 126)).cell? ⟨u, 5, none⟩ = some (.slice lva (bsOf Z).length lvc) := H4.out.blk.cell 5
              have hgl : ∀ wa, Below W1.heap.size W1 wa → wa.cell? ⟨gl, 0, none⟩ = some (.int .i64 y.1.cl) ∧ wa.cell? ⟨gl, 1, none⟩ = some (.int .i64 y.1.ep) ∧ wa.cell? ⟨gl, 2, none⟩ = some (.int .i64 y.1.n) ∧ wa.cell? ⟨gl, 3, none⟩ = some (.int .i64 y.2) := fun wa hb => ⟨(hB.out.below hb hB.out.lt).cell 0, (hB.out.below hb hB.out.lt).cell 1, (hB.out.below hb hB.out.lt).cell 2, (hB.out.below hb hB.out.lt).cell 3⟩
              obtain ⟨q4, q5, q6, q7⟩ := hgl _ hbx
              have u7' : (World.alloc _ _).cell? ⟨u, 5, none⟩ = some (.slice lva (bsOf Z).length lvc) := (H4.out.below hbx2).blk.cell 5
              have HO := Lib.hid H4.out.lo
              have HBB := Lib.hid (show w8.heap.size ≤ (W1.alloc (.cells #[.int .i64 y.1.cl, .int .i64 y.1.ep, .int .i64 y.1.n, .int .i64 y.2, .int .i64 0, .int .i64 0, .int .i64 0, .int .i64 0, .int .i64 0, .int .i64 0, .int .i64 0, .int .i64 0, .bool false, .string ⟨#[]⟩, .bool false, .string ⟨#[]⟩, .int .i64 0, .int .i64 0] 126)).heap.size from H4.out.keep.size)
              have HZL := Lib.hid (show (bsOf Z).length ≤ 900000 by have h9 := congrArg List.length HZ.out; rw [List.length_map] at h9; have h8 : (los cl (V.los.take k)).length ≤ (V.los.take k).length := List.length_filter_le _ _; rw [List.length_take] at h8; unfold bsOf; rw [List.length_map]; have := HVL.out; omega)
              rw [hsz1] at hX2
              have FIN := Lib.hid (show ∀ (wa w9 : World) (v9 : Value), Below (W1.alloc (.cells #[.int .i64 y.1.cl, .int .i64 y.1.ep, .int .i64 y.1.n, .int .i64 y.2, .int .i64 0, .int .i64 0, .int .i64 0, .int .i64 0, .int .i64 0, .int .i64 0, .int .i64 0, .int .i64 0, .bool false, .string ⟨#[]⟩, .bool false, .string ⟨#[]⟩, .int .i64 0, .int .i64 0] 126)).heap.size (W1.alloc (.cells #[.int .i64 y.1.cl, .int .i64 y.1.ep, .int .i64 y.1.n, .int .i64 y.2, .int .i64 0, .int .i64 0, .int .i64 0, .int .i64 0, .int .i64 0, .int .i64 0, .int .i64 0, .int .i64 0, .bool false, .string ⟨#[]⟩, .bool false, .string ⟨#[]⟩, .int .i64 0, .int .i64 0] 126)) wa → AppRes wa w9 w8.heap.size 124 1 (.slice lva (bsOf Z).length lvc) v9 ((bsOf Z).length + 1) ((bsOf Z ++ [W1.heap.size]).map ptrV) →
                  (w9.cell? ⟨u, 5, none⟩ = some (.slice lva (bsOf Z).length lvc) ∧ w9.frozen? ⟨u, 5, none⟩ = false) ∧ B2 w8 (w9.setCell ⟨u, 5, none⟩ v9) u { D with pv := v } v9 (Z ++ [⟨W1.heap.size, y.1, y.2, noE, 0⟩]) from fun wa w9 v9 hb hA9 =>
                H3.out.add HU8.out (z := ⟨W1.heap.size, y.1, y.2, noE, 0⟩) (below_go hbx hb) (hlb.out.below hb hlb.out.lt) (Nat.le_refl _) hA9)
              have hbx := Lib.hid hbx
              have hbx2 := Lib.hid hbx2
              clear hgl hsz1 hb1
              have u7 := u7'
              clear u7'
              unfold ptrV at hX2 hbx2 u7
              go_upto_region 12 with (fail)
              go_region_law (refine step_ptrL (W := W1.alloc (.cells #[.int .i64 y.1.cl, .int .i64 y.1.ep, .int .i64 y.1.n, .int .i64 y.2, .int .i64 0, .int .i64 0, .int .i64 0, .int .i64 0, .int .i64 0, .int .i64 0, .int .i64 0, .int .i64 0, .bool false, .string ⟨#[]⟩, .bool false, .string ⟨#[]⟩, .int .i64 0, .int .i64 0] 126)) rfl (.tmp 62) (.tmp 69) rfl w8.heap.size (.slice lva (bsOf Z).length lvc) (bsOf Z) (by simp [Act.eval]) (W1.heap.size + 1) W1.heap.size (by simp [Act.eval]) ?hp HO.out HZL.out HBB.out ?_; (case hp => first | exact ⟨hbx2.out.drew, hX2.out⟩ | exact ⟨hbx2.out, hX2.out⟩); intro v9 w9 hb9 hA9; have HE := Lib.hid (FIN.out _ _ _ hb9 hA9); obtain ⟨a9, c9, e9⟩ := own_shape hA9.1; subst e9; have k9 := HE.out.1.1; have f9 := HE.out.1.2; clear hb9 hA9)
              all_goals
                have HE2 := Lib.hid HE.out.2
                clear q0 q1 q2 q3 q4 q5 q6 q7 u5 u6 u7 k9 f9 HE FIN
                go_wp2
                go_roundw
                case rel => exact ⟨k + 1, _, _, by omega, by go_num, HZN.out, HE2⟩
                case measure => simp [intN]; omega
            · have g3 : (y.1.cl == cl) = false := by simp [h1]
              have g4 : decide (y.1.cl = cl) = false := decide_eq_false h1
              have hcy : (decide (cl = 0) || decide (y.1.cl = cl)) = false := by rw [g2, g4]; rfl
              clear h1
              have HZN := Lib.hid (show Z.map (fun z => (z.t, z.last)) = los cl (V.los.take (k + 1)) by rw [los_next hy, hcy, if_neg (by simp), HZ.out])
              have HE2 := Lib.hid (H2.out.below hb1)
              clear hy hcy hb1
              go_wp2
              go_roundw
              case rel => exact ⟨k + 1, _, _, by omega, by go_num, HZN.out, HE2⟩
              case measure => simp [intN]; omega
        · obtain rfl : k = V.los.length := by omega
          have hd3 : decide ((V.los.length : Int) < (V.los.length : Int)) = false := decide_eq_false (by omega)
          have hZ := HZ.out
          rw [List.take_of_length_le (Nat.le_refl _)] at hZ
          obtain ⟨M, f1, f2⟩ := beg_end (D := { D with pv := v }) (L := L) (ls := ls) (by rw [← HD.out]; exact HL.out) HX.out.1 HX.out.2.1 (by have := HX.out.2.2.1; rw [← HD.out]; exact this) (by have := HX.out.2.2.2.1; rw [← HD.out]; exact this) (by have := HX.out.2.2.2.2.1; rw [← HD.out]; exact this) ⟨H8.out.keep, H8.out.blk, H8.out.row, H8.out.old⟩ (by rw [← HD.out]) (by rw [← HD.out]) H2.out
          have HF := Lib.hid (show BegRes L ls cl w (.returned (.pointer (some ⟨u, 0, none⟩))) wr from ⟨u, M, _, P, Z, rfl, f1, f2, HPM.out, by rw [HVV.out]; exact hZ⟩)
          clear f1 f2 hZ
          go_wp2
          exact bodyPost_ret (v := .pointer (some ⟨u, 0, none⟩)) (by simp [results, Tryz.results28, go_sem]) rfl HF.out
end Go.Proofs.YtkeocnhndnbamaaGreat.Mend
namespace Go.Proofs.YtkeocnhndnbamaaGreat.Mend
set_option maxRecDepth 100000
open Go.RowKit
open Go.Proofs.YtkeocnhndnbamaaGreat.Mem
open Go.Proofs.YtkeocnhndnbamaaGreat.Slab (Slot Slots)
open Go.Proofs.YtkeocnhndnbamaaGreat.Ent (Ent goodB longB Ents)
open Go.Proofs.YtkeocnhndnbamaaGreat.Past (T3 txE ofL endedB lastOf readV)
open Go.Proofs.YtkeocnhndnbamaaGreat.MLog
open Go.Proofs.YtkeocnhndnbamaaGreat.Patch (allR)
/-- whose losers -/
def whoC (cl : Int) (t : T3) : Prop := cl = 0 ∨ t.cl = cl
/-- the pages of a log -/
structure LogOK (L : List Ent) (s : St T3 Slot Im) (ls : List Lf) (K : Int) : Prop where
  log : Log G i0 (L.map enE) s
  good : ∀ x ∈ L, goodB x = true
  lsn : ∀ x ∈ L, x.lsn ≤ K
  k : 0 ≤ K ∧ K ≤ 1000000
  len : L.length ≤ 1000
  ok : PagesOK ls
  fit : Fits L ls
section
variable {L : List Ent} {s : St T3 Slot Im} {ls : List Lf} {K : Int}
theorem ended_is (hL : Log G i0 (L.map enE) s) (hg : ∀ x ∈ L, goodB x = true) (t : T3) : endedB L t = s.ended t := by
  have h := (ended_log hL t).1
  have h2 : endedB L t = true ↔ s.ended t = true := by
    rw [h]
    unfold endedB
    rw [List.any_eq_true]
    constructor
    · rintro ⟨x, hx, he⟩
      obtain ⟨hxL, hgx, htx⟩ := of_mem.1 hx
      have hk := Ent.kind_fits hgx
      unfold Past.endB at he
      have he := of_decide_eq_true he
      refine ⟨enE x, List.mem_map_of_mem hxL, htx, ?_⟩
      show x.kind.toNat = 3 ∨ x.kind.toNat = 4
      omega
    · rintro ⟨e, he, h1, h2⟩
      obtain ⟨x, hx, rfl⟩ := mem_map he
      refine ⟨x, of_mem.2 ⟨hx, hg x hx, h1⟩, ?_⟩
      unfold Past.endB
      have h2 : x.kind.toNat = 3 ∨ x.kind.toNat = 4 := h2
      exact decide_eq_true (by omega)
  cases h3 : endedB L t with
  | true => exact (h2.1 h3).symm
  | false =>
    cases h4 : s.ended t with
    | false => rfl
    | true => rw [h2.2 h4] at h3; cases h3
theorem los_in {cl : Int} {y : T3 × Int} (h : LogOK L s ls K) : y ∈ los cl (readV L 1).los ↔ whoC cl y.1 ∧ 0 < s.last y.1 ∧ s.ended y.1 = false ∧ y.2 = s.last y.1 := by
  have hl := last_is L h.good h.log y.1
  have he := ended_is h.log h.good y.1
  unfold los whoC
  rw [List.mem_filter, Bool.or_eq_true, decide_eq_true_iff, decide_eq_true_iff]
  constructor
  · rintro ⟨h1, h2⟩
    obtain ⟨h3, h4⟩ := los_mem h1
    rw [he] at h3
    rw [hl] at h4
    by_cases h0 : 0 < s.last y.1
    · rw [if_pos h0] at h4
      injection h4 with h4
      exact ⟨h2, h0, h3, h4.symm⟩
    · rw [if_neg h0] at h4; cases h4
  · rintro ⟨h1, h2, h3, h4⟩
    refine ⟨?_, h1⟩
    have := los_of (L := L) (t := y.1) (l := y.2) (by rw [he]; exact h3) (by rw [hl, if_pos h2, h4])
    exact this
theorem LogOK.cx (h : LogOK L s ls K) (cl : Int) (hp : ∀ x ∈ ls, x.l = (s.pg x.n).1 ∧ x.z = (s.pg x.n).2.1) : Cx (whoC cl) L s ls K ((los cl (readV L 1).los).map (·.1)) := by
  refine ⟨h.log, h.good, h.lsn, h.k, h.len, h.ok, h.fit, hp, ?_, fun t => ?_⟩
  · have := los_nodup (L := L)
    exact List.Sublist.nodup (List.Sublist.map _ List.filter_sublist) this
  · constructor
    · intro ht
      obtain ⟨y, hy, rfl⟩ := List.mem_map.1 ht
      have := (los_in h).1 hy
      exact ⟨this.1, this.2.1, this.2.2.1⟩
    · rintro ⟨h1, h2, h3⟩
      exact List.mem_map.2 ⟨(t, s.last t), (los_in h).2 ⟨h1, h2, h3, rfl⟩, rfl⟩
/-- Undo -/
theorem undo_any (h : LogOK L s ls K) (hp : ∀ x ∈ ls, x.l = (s.pg x.n).1 ∧ x.z = (s.pg x.n).2.1) (la : Option Addr) (n lc : Nat) (a : Option Addr) (m c : Nat) (cl : Int) (w : World) (hL : Ents w la n L) (hv : LeavesI w a m ls) (hm : m ≤ 100) (hcl : 0 ≤ cl ∧ cl ≤ 8) :
    Calls Tryz.prog 15 #[.slice la n lc, .slice a m c, .int .i64 cl] w (UndoRes (PostU (whoC cl) L s ls K) w) := by
  have hn : n ≤ 1000 := by rw [← hL.1]; exact h.len
  refine undo_walk la n lc L a m c ls cl w hL hv (by omega) hm h.ok h.fit h.good hcl _ fun W hb => ?_
  refine (begin_any la n lc L a m c ls cl W (hL.next hb) (hv.below hb) (by omega) hm h.ok h.good).mono ?_
  rintro e w' ⟨u, M, D, P, Z, rfl, h1, h2, h3, h4⟩
  refine ⟨u, M, D, P, Z, rfl, h1, h2, plan_is (h.cx cl hp) h3 ?_ (fun z hz => ?_) h1.zn⟩
  · rw [← h4, List.map_map]; rfl
  · have : (z.t, z.last) ∈ los cl (readV L 1).los := by rw [← h4]; exact List.mem_map.2 ⟨z, hz, rfl⟩
    exact ((los_in h).1 this).2.2.2
/-- Restart, where redoing brings each page to where the log says that it is -/
theorem restart_any (h : LogOK L s ls K) (hr : ∀ x ∈ ls, allR x.n x.l x.z L = (0, (s.pg x.n).1, (s.pg x.n).2.1)) (la : Option Addr) (n lc : Nat) (a : Option Addr) (m c : Nat) (w : World) (hL : Ents w la n L) (hv : LeavesI w a m ls) (hm : m ≤ 100) :
    Calls Tryz.prog 11 #[.slice la n lc, .slice a m c] w (UndoRes (PostU (fun _ => True) L s ls K) w) := by
  have hn : n ≤ 1000 := by rw [← hL.1]; exact h.len
  have hC : whoC 0 = fun _ => True := by funext t; exact propext ⟨fun _ => trivial, fun _ => .inl rfl⟩
  have hlen : ls.length = m := hv.1
  have hls : ls.map (redoLf L) = ls.map (fun x => (⟨x.n, (s.pg x.n).1, (s.pg x.n).2.1⟩ : Lf)) := List.map_congr_left fun x hx => by unfold redoLf; rw [hr x hx]
  have hn2 : (ls.map (redoLf L)).map (·.n) = ls.map (·.n) := by rw [List.map_map]; rfl
  have hK : ∀ e ∈ L.map enE, e.lsn ≤ K := fun e he => by obtain ⟨x, hx, rfl⟩ := mem_map he; exact h.lsn x hx
  have hidx : ∀ q, idxL (ls.map (redoLf L)) q = idxL ls q := fun q => by
    unfold idxL
    rw [List.findIdx?_map]; rfl
  have h2 : LogOK L s (ls.map (redoLf L)) K := by
    refine ⟨h.log, h.good, h.lsn, h.k, h.len, ⟨?_, fun x hx => ?_, fun x hx => ?_⟩, fun x hx => ⟨(h.fit x hx).1, fun hl => by rw [hidx]; exact (h.fit x hx).2 hl⟩⟩
    · have := h.ok.apart
      unfold Apart at this ⊢
      rw [List.pairwise_map]
      exact this
    · obtain ⟨y, hy, rfl⟩ := List.mem_map.1 hx
      exact h.ok.num y hy
    · obtain ⟨y, hy, rfl⟩ := List.mem_map.1 hx
      unfold redoLf
      rw [hr y hy]
      have h0 := (inv_log h.log).pgs y.n
      have h1 := log_page h.log h.k.1 hK y.n
      have h3 := h.k.2
      show Slab.goodB (s.pg y.n).1 (s.pg y.n).2.1 = true
      exact good_at h0 (by omega)
  refine restart_walk la n lc L a m c ls w hlen (redo_pages la n lc L a m c ls w hL hv (by omega) hm h.ok h.fit fun x hx => by rw [hr x hx]) _ fun W a' c' hb hlv => ?_
  have hu := undo_any h2 (fun x hx => by
    rw [hls] at hx
    obtain ⟨y, hy, rfl⟩ := List.mem_map.1 hx
    exact ⟨rfl, rfl⟩) la n lc a' m c' 0 W (hL.next hb) hlv hm (by omega)
  rw [hC] at hu
  refine hu.mono ?_
  rintro e w' ⟨E, R, a1, a2, c1, c2, e1, ⟨B, F, m', z, p1, p2, p3, p4, p5⟩, q2, q3, q4⟩
  refine ⟨E, R, a1, a2, c1, c2, e1, ⟨B, F, m', z, p1, p2, ?_, p4, p5⟩, q2, q3, q4⟩
  rw [p3, List.map_map]; rfl
end
end Go.Proofs.YtkeocnhndnbamaaGreat.Mend
