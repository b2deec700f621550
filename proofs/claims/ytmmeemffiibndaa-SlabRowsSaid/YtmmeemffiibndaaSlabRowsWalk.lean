/- The walk of the statement SlabRows. -/
import Derived.Test.YtmmeemffiibndaaSlabRowsIt
import Derived.Test.YtmmeemffiibndaaSlabAwake
import Derived.Test.YtmmeemffiibndaaSlabVacantMath
import Derived.Test.YtmmeemffiibndaaHold
namespace Go.Proofs.Ytmmeemffiibndaa.Slab
open Go.RowKit Go.Shelf Go.Sort
attribute [local go_sem] Oper.semAt_some

theorem upTo_beyond {Z : List Slot} (m : Nat) : upTo Z (Z.length + m) = upTo Z Z.length := by
  induction m with
  | zero => rfl
  | succ m ih => rw [← Nat.add_assoc, upTo_miss (by rw [getD_out (by omega)]; rfl), ih]
theorem upTo_mono {Z : List Slot} {k : Nat} (m : Nat) : (upTo Z k).length ≤ (upTo Z (k + m)).length := by
  induction m with
  | zero => exact Nat.le_refl _
  | succ m ih => rw [← Nat.add_assoc, upTo, List.length_append]; omega
theorem upTo_rise {Z : List Slot} : ∀ k, (upTo Z k).Pairwise (fun x y => x.i < y.i)
  | 0 => List.Pairwise.nil
  | k + 1 => by
    rw [upTo, List.pairwise_append]
    refine ⟨upTo_rise k, ?_, fun x hx y hy => ?_⟩
    · unfold rowAt; split
      · exact List.pairwise_singleton _ _
      · exact List.Pairwise.nil
    · unfold rowAt at hy
      split at hy
      · simp at hy; rw [hy]; exact upTo_lt hx
      · cases hy
theorem run_equalIn_func (d : Nat) (fn : Fn) (x y : Array Value) (w : World) : (Op.equalIn (d + 1) 38 (.func fn x y) .nilFunc).run Try.prog w = .ok false w := by
  have hu := Try.underlying38
  simp [Op.equalIn, run_underlying hu]
theorem run_func_nil (fn : Fn) (x y : Array Value) (w : World) : (binOp .eql 38 (.func fn x y) .nilFunc).run Try.prog w = .ok (.bool false) w := by
  simp only [binOp]
  simp [Op.equal, Op.maxDepth, run_equalIn_func 9999 fn x y w]
def rowsOf (lsn : Int) (zs : List Slot) : List Slot := if goodB lsn zs then zs else []
theorem rows_at (lsn : Int) (zs : List Slot) (i : Nat) : atL lsn zs (i : Int) = (rowsOf lsn zs).getD i nos := by
  unfold rowsOf
  cases hg : goodB lsn zs with
  | true => rw [if_pos rfl, atL_getD hg]
  | false => rw [if_neg (by simp), atL_bad hg]; rfl

theorem keeps_below {X X1 : World} (h : Below X.heap.size X X1) : KeepsOthers X X1 := ⟨h.size, fun k _ hk _ => (h.block k (Array.getElem?_eq_some_iff.1 hk).1).trans hk⟩
set_option maxRecDepth 100000 in
set_option maxHeartbeats 8000000 in
theorem rows_walk (lsn : Int) (a : Option Addr) (n c : Nat) (zs : List Slot) (st : Int) (w : World) (_hl : -9223372036854775808 ≤ lsn ∧ lsn ≤ 9223372036854775807) (h : Slots w a n zs) (_hs : -9223372036854775808 ≤ st ∧ st ≤ 9223372036854775807) :
    Calls Try.prog 4 #[.agg #[.int .i64 lsn, .slice a n c], .int .i64 st] w fun e w' => e = .returned (.bool true) ∧ Below w.heap.size w w' := by
  have H0 := (Hold.nil (Below.refl w.heap.size w)).box2 (.int .i64 lsn) (.slice a n c) 24
  have HO := Lib.hid h
  have hmq := run_func_nil
  clear h
  refine (callsIn_wide (n := 6)).1 ?_
  refine callsIn_of_wp_marks Try.func4 rfl trivial ?_ rfl
  refine wpIn_wide.2 ?_
  simp only [Try.ntmps4, List.size_toArray, List.length_cons, List.length_nil, Nat.reduceAdd, Nat.reduceSub, Array.replicate_succ, Array.replicate_zero, List.push_toArray, List.append_toArray, List.nil_append, List.cons_append]
  go_wp2_with fail
  have H1 := (H0.box1 (.int .i64 st) 3).box1 (.bool false) 4
  rw [World.size_alloc] at H1
  have hR := Blk.new ((w.alloc (.cells #[.int .i64 lsn, .slice a n c] 24)).alloc (.cells #[.int .i64 st] 3)) 4 #[.bool false]
  have hT := (Blk.new (w.alloc (.cells #[.int .i64 lsn, .slice a n c] 24)) 3 #[.int .i64 st]).alloc (.cells #[.bool false] 4)
  have hP := ((Blk.new w 24 #[.int .i64 lsn, .slice a n c]).alloc (.cells #[.int .i64 st] 3)).alloc (.cells #[.bool false] 4)
  rw [World.size_alloc, World.size_alloc] at hR
  rw [World.size_alloc] at hT
  have hb1 := H1.b
  clear H0 H1
  generalize hGen : ((w.alloc (.cells #[.int .i64 lsn, .slice a n c] 24)).alloc (.cells #[.int .i64 st] 3)).alloc (.cells #[.bool false] 4) = W at hR hT hP hb1 ⊢
  clear hGen
  refine (awake_any _).mono ?_
  rintro e w1 ⟨rfl, b1⟩
  have hR1 := hR.below b1 hR.lt
  have hT1 := hT.below b1 hT.lt
  have hP1 := hP.below b1 hP.lt
  have hb2 := hb1.trans (b1.mono hb1.size)
  clear hR hT hP hb1 b1
  have p0 := hP1.cell 0
  have p1 := hP1.cell 1
  cases hgr : greatB zs with
  | true =>
    have HGR := Lib.hid hgr
    clear hgr
    go_wp2_with fail
    refine (great_any lsn a n c zs _ (HO.out.below hb2)).mono ?_
    rw [HGR.out]
    rintro e w2 ⟨rfl, b2⟩
    have hR2 := hR1.below b2 hR1.lt
    have r0 := hR2.cell 0
    have rf0 := hR2.frozen 0
    go_wp2
    exact ⟨.bool true, by simp [results, Try.results4, go_sem, r0], rfl, (hb2.trans (b2.mono hb2.size)).setCell (p := ⟨w.heap.size + 1 + 1, 0, none⟩) (by simp; omega) _⟩
  | false =>
    have hn : n ≤ 1000000 := by have := HO.out.len; simp [greatB] at hgr; omega
    have HGR := Lib.hid hgr
    clear hgr
    go_wp2_with fail
    refine (great_any lsn a n c zs _ (HO.out.below hb2)).mono ?_
    rw [HGR.out]
    rintro e w2 ⟨rfl, b2⟩
    have hR2 := hR1.below b2 hR1.lt
    have hT2 := hT1.below b2 hT1.lt
    have hP2 := hP1.below b2 hP1.lt
    have hb3 := hb2.trans (b2.mono hb2.size)
    clear hR1 hT1 hP1 hb2 b2 p0 p1
    have p0 := hP2.cell 0
    have p1 := hP2.cell 1
    go_wp2_with fail
    have hrow := rows_any lsn a n c zs w2 (HO.out.below hb3) hn
    refine hrow.mono ?_
    clear hrow
    rintro e w3 ⟨Bs, aS, nS, cS, rfl, hBs, hBl, hBg, sS, hnS, b3, hbg⟩
    have sS' : Slots w3 aS nS (rowsOf lsn zs) := sS
    clear sS
    have hat := rows_at lsn zs
    generalize rowsOf lsn zs = Z at sS' hat
    have hR3 := hR2.below b3 hR2.lt
    have hT3 := hT2.below b3 hT2.lt
    have hP3 := hP2.below b3 hP2.lt
    have hb4 := hb3.trans (b3.mono hb3.size)
    have HSS := Lib.hid sS'
    have HAT := Lib.hid hat
    have hR2l := hR2.lt
    clear hR2 hT2 hP2 hb3 b3 p0 p1 sS' hat
    obtain ⟨S, hS, hSl⟩ := cut_of st 40 (by omega) (by omega)
    have t0 := hT3.cell 0
    have tf0 := hT3.frozen 0
    go_wp2_with fail
    rw [hS]
    have hz2 : w.heap.size + 1 + 1 < w2.heap.size := hR2l
    have hTS := hT3.set_ 0 (.int .i64 (S : Int))
    have hRS := hR3.far (p := ⟨w.heap.size + 1, 0, none⟩) (by simp) (.int .i64 (S : Int))
    have hPS := hP3.far (p := ⟨w.heap.size + 1, 0, none⟩) (by simp) (.int .i64 (S : Int))
    have hbS := hb4.setCell (p := ⟨w.heap.size + 1, 0, none⟩) (by simp) (.int .i64 (S : Int))
    have hSS := HSS.out.setCell (g := w.heap.size + 1) (i := 0) (.int .i64 (S : Int)) (fun b off e h0 => by have := hbg b off e h0; omega)
    have hBsS : (w3.setCell ⟨w.heap.size + 1, 0, none⟩ (.int .i64 (S : Int))).cell? ⟨Bs, 0, none⟩ = some (.slice aS nS cS) := by
      rw [World.cell?_setCell_other _ _ _ _ (fun e => by cases e; omega)]; exact hBs
    have hBlS : Bs < (w3.setCell ⟨w.heap.size + 1, 0, none⟩ (.int .i64 (S : Int))).heap.size := by simpa using hBl
    have hsz : w3.heap.size = (w3.setCell ⟨w.heap.size + 1, 0, none⟩ (.int .i64 (S : Int))).heap.size := by simp
    simp only [List.setIfInBounds_toArray, List.set_cons_zero] at hTS
    have hbsl : 0 < nS → ∀ b off, aS = some ⟨b, off, none⟩ → b < (w3.setCell ⟨w.heap.size + 1, 0, none⟩ (.int .i64 (S : Int))).heap.size := fun h0 b off e => by
      obtain ⟨b', off', e', hlt, _⟩ := hSS.2.2 h0
      rw [e] at e'; cases e'; exact hlt
    rw [hsz]
    clear hT3 hR3 hP3 hb4 HSS hBs hBl hBg hbg hS t0 tf0 hR2l
    generalize hGen : w3.setCell ⟨w.heap.size + 1, 0, none⟩ (.int .i64 (S : Int)) = V at hTS hRS hPS hbS hSS hBsS hBlS hbsl ⊢
    clear hGen hsz
    have HSS := Lib.hid hSS
    have hbx0 := Boxed.new V 3 (.int .i64 0)
    have hV0 : V.heap.size ≤ (V.alloc (.cells #[.int .i64 0] 3)).heap.size := by simp
    refine (wpIn_wide (n := 6)).1 ?_
    apply wpIn_rangeFunc_ownF (F := Fence.wide) (n := 6) rfl (by omega) (gf := 39) (lb := #[.pointer (some ⟨Bs, 0, none⟩)]) rfl trivial (enters_of Try.func39 (by kernel_rfl) rfl)
      (rows_stops Fence.wide 5 trivial rfl (by omega) Bs V.heap.size nS cS aS Z (by omega) (V.alloc (.cells #[.int .i64 0] 3)) hV0 hbsl ((World.cell?_alloc_lt _ _ _ hBlS).trans hBsS) (Nat.lt_of_lt_of_le hBlS hV0) (hSS.below ((Below.refl _ _).alloc (Nat.le_refl _) _)))
      (fun h k => belowK_t h k) (belowK_b hV0) (Below.refl _ _) (fun _ => rfl)
      (fun pre W => (Boxed W V.heap.size 3 (.int .i64 (pre.length : Int)) ∧ pre.length ≤ S) ∧ Below V.heap.size V W)
      (fun c pre W => (c = .exit 0 ∧ pre.length = S + 1 ∧ Boxed W V.heap.size 3 (.int .i64 (pre.length : Int))) ∧ Below V.heap.size V W)
      (OwnFrom.and (OwnFrom.and (Own.from (boxed_own _ _ (fun (pre : List (Rw Z)) => Value.int .i64 (pre.length : Int))) _) (ownFrom_pure _ _)) (ownFrom_below (Nat.le_refl _) hV0))
      (fun c => OwnFrom.and (Own.from (fun s A B row hs hg hr => ⟨hs.1, hs.2.1, boxed_own _ _ (fun (pre : List (Rw Z)) => Value.int .i64 (pre.length : Int)) s A B row hs.2.2 hg hr⟩) _) (ownFrom_below (Nat.le_refl _) hV0))
      ⟨⟨hbx0, Nat.zero_le _⟩, (Below.refl _ _).alloc (Nat.le_refl _) _⟩
    case hassign =>
      intro l x W K hK
      dsimp only [encR]
      gi_wp2
      exact hK
    case hbody =>
      rintro l pre x W ⟨⟨hbx, hp⟩, hB⟩ hlt
      have hcr := hbx.cell
      have hfr := hbx.frozen
      have t0 := (hB.cell (p := ⟨w.heap.size + 1, 0, none⟩) (hTS.lt)).trans (hTS.cell 0)
      have hSn : (S : Int) < 40 := by omega
      have hVz : w.heap.size + 1 < V.heap.size := hTS.lt
      have hne1 : ¬ V.heap.size = w.heap.size + 1 := by omega
      have hne2 : ¬ w.heap.size + 1 = V.heap.size := by omega
      have hpl : (pre ++ [x]).length = pre.length + 1 := by simp
      have HPL := Lib.hid hpl
      have HBS := Lib.hid (hbx.set (.int .i64 ((pre.length : Int) + 1)))
      have HBB := Lib.hid (hB.setCell (p := ⟨V.heap.size, 0, none⟩) (Nat.le_refl _) (.int .i64 ((pre.length : Int) + 1)))
      have HBK := Lib.hid ((Below.refl V.heap.size W).setCell (p := ⟨V.heap.size, 0, none⟩) (Nat.le_refl _) (.int .i64 ((pre.length : Int) + 1)))
      clear hpl
      by_cases hst : pre.length + 1 ≤ S
      · gi_wp2
        exact ⟨KeepsOthers.setCell _ _ _, HBK.out, ⟨by rw [HPL.out]; exact HBS.out, by rw [HPL.out]; exact hst⟩, HBB.out⟩
      · gi_wp2
        exact ⟨KeepsOthers.setCell _ _ _, ⟨rfl, by rw [HPL.out]; omega, by rw [HPL.out]; exact HBS.out⟩, HBB.out⟩
    all_goals
      first
      | (rintro D ys W hD rfl ⟨⟨hbx, hp⟩, hB⟩ hK
         obtain ⟨N1, hN1⟩ : ∃ N1 : Nat, N1 = (upTo Z nS).length := ⟨_, rfl⟩
         have HN1 := Lib.hid (show N1 = min (upTo Z nS).length (S + 1) by omega)
         rw [← hN1] at hbx)
      | (rintro D c pre W hD ⟨m, hm, rfl⟩ ⟨⟨rfl, hlen2, hbx⟩, hB⟩ hK
         refine wpIn_wide.2 ?_
         obtain ⟨N1, hN1⟩ : ∃ N1 : Nat, N1 = (upTo Z m).length := ⟨_, rfl⟩
         have HN1 := Lib.hid (show N1 = min (upTo Z nS).length (S + 1) by
           have h1 := upTo_mono (Z := Z) (k := m) (nS - m)
           rw [show m + (nS - m) = nS by omega] at h1
           omega)
         rw [← hN1] at hbx)
      have hbx1 := hbx.cell
      go_wp2_with fail
      have hKl : D < W.heap.size := (Array.getElem?_eq_some_iff.1 hK).1
      have hVW : V.heap.size < W.heap.size := hbx.lt
      have hBsW := (hB.cell (p := ⟨Bs, 0, none⟩) hBlS).trans hBsS
      have hSW := HSS.out.below hB
      have hPW : Blk W w.heap.size 24 #[.int .i64 lsn, .slice a n c] := hPS.below hB hPS.lt
      have hW0 : W.heap.size ≤ ((W.alloc (.cells #[.int .i64 (-1)] 3)).alloc (.cells #[.int .i64 0] 3)).heap.size := by simp; omega
      have hWb : Below W.heap.size W ((W.alloc (.cells #[.int .i64 (-1)] 3)).alloc (.cells #[.int .i64 0] 3)) := ((Below.refl _ _).alloc (Nat.le_refl _) _).alloc (by simp) _
      have hx7 := (Boxed.new W 3 (.int .i64 (-1))).alloc (.cells #[.int .i64 0] 3)
      have hx8 := Boxed.new (W.alloc (.cells #[.int .i64 (-1)] 3)) 3 (.int .i64 0)
      rw [World.size_alloc] at hx8
      have hbW := hbS.trans (hB.mono hbS.size)
      refine (wpIn_wide (n := 6)).1 ?_
      apply wpIn_rangeFunc_ownF (F := Fence.wide) (n := 6) rfl (by omega) (gf := 39) (lb := #[.pointer (some ⟨Bs, 0, none⟩)]) rfl trivial (enters_of Try.func39 (by kernel_rfl) rfl)
        (rows_stops Fence.wide 5 trivial rfl (by omega) Bs W.heap.size nS cS aS Z (by omega) ((W.alloc (.cells #[.int .i64 (-1)] 3)).alloc (.cells #[.int .i64 0] 3)) hW0 (fun h0 b off e => by have := hbsl h0 b off e; omega) ((hWb.cell (p := ⟨Bs, 0, none⟩) (by show Bs < _; omega)).trans hBsW) (by omega) (hSW.below hWb))
        (fun h k => belowK_t h k) (belowK_b hW0) (Below.refl _ _) (fun _ => rfl)
        (fun pre X => (((∃ m : Int, Boxed X W.heap.size 3 (.int .i64 m) ∧ (∀ y ∈ pre, (y.i : Int) ≤ m) ∧ (m = -1 ∨ ∃ y ∈ pre, (y.i : Int) = m)) ∧ Boxed X (W.heap.size + 1) 3 (.int .i64 (pre.length : Int))) ∧ pre.Pairwise (fun x y => x.i < y.i)) ∧ Below W.heap.size W X)
        (fun c pre X => ¬ pre.Pairwise (fun x y => x.i < y.i))
        (OwnFrom.and (OwnFrom.and (Own.from (fun s A B row hs hg hr => by
          obtain ⟨⟨m, h1, h2, h3⟩, h4⟩ := hs
          exact ⟨⟨m, boxed_own _ _ (fun (_ : Unit) => Value.int .i64 m) () A B row h1 hg hr, h2, h3⟩, boxed_own _ _ (fun (pre : List (Rw Z)) => Value.int .i64 (pre.length : Int)) s A B row h4 hg hr⟩) _) (ownFrom_pure _ _)) (ownFrom_below (Nat.le_refl _) hW0))
        (fun c => ownFrom_pure _ _)
        ⟨⟨⟨⟨-1, hx7, by simp, .inl rfl⟩, hx8⟩, List.Pairwise.nil⟩, hWb⟩
      case hassign =>
        intro l x X K hK2
        dsimp only [encR]
        gi_wp2
        exact hK2
      case hbody =>
        rintro l pre x X ⟨⟨⟨⟨m, hbm, hmx, hmm⟩, hbc⟩, hri⟩, hBX⟩ hlt
        have hcm := hbm.cell
        have hfm := hbm.frozen
        have hcc := hbc.cell
        have hfc := hbc.frozen
        have hPX : Blk X w.heap.size 24 #[.int .i64 lsn, .slice a n c] := hPW.below hBX hPW.lt
        have p0 := hPX.cell 0
        have p1 := hPX.cell 1
        have hRX : Blk X (w.heap.size + 1 + 1) 4 #[.bool false] := (hRS.below hB hRS.lt).below hBX (Nat.lt_of_lt_of_le hRS.lt hB.size)
        have r0 := hRX.cell 0
        have rf0 := hRX.frozen 0
        have hxn : x.i ≤ 32 := by have h1 := x.lt; have h2 := HSS.out.len; omega
        have hcall := at_any lsn a n c zs (x.i : Int) X (HO.out.below (hbW.trans (hBX.mono hbW.size))) hn
        rw [HAT.out x.i, x.h] at hcall
        simp only [slotV] at hcall
        have HCALL := Lib.hid hcall
        obtain ⟨xi, xd, xh⟩ := x
        clear hcall
        by_cases hle : (xi : Int) ≤ m
        · have hno : ¬ (pre ++ [(⟨xi, xd, xh⟩ : Rw Z)]).Pairwise (fun x y => x.i < y.i) := fun hp => by
            rcases hmm with rfl | ⟨y, hy, hym⟩
            · omega
            · have := (List.pairwise_append.1 hp).2.2 y hy ⟨xi, xd, xh⟩ (by simp)
              simp only at this
              omega
          have HNO := Lib.hid hno
          clear hno hmx hmm hri
          gi_wp2
          refine ⟨trivial, ?_⟩
          gi_wp2
          exact ⟨KeepsOthers.setCell _ _ _, HNO.out⟩
        · have hps : (pre ++ [(⟨xi, xd, xh⟩ : Rw Z)]).Pairwise (fun x y => x.i < y.i) := List.pairwise_append.2 ⟨hri, List.pairwise_singleton _ _, fun y hy z hz => by simp at hz; subst hz; have := hmx y hy; simp only; omega⟩
          have hall : ∀ y ∈ pre ++ [(⟨xi, xd, xh⟩ : Rw Z)], (y.i : Int) ≤ (xi : Int) := fun y hy => by
            rcases List.mem_append.1 hy with h1 | h1
            · have := hmx y h1; omega
            · simp at h1; rw [h1]; exact Int.le_refl _
          have HPS := Lib.hid hps
          have HALL := Lib.hid hall
          have hplen : (pre ++ [(⟨xi, xd, xh⟩ : Rw Z)]).length = pre.length + 1 := by simp
          have HPL := Lib.hid hplen
          have hpn : pre.length ≤ 32 := by omega
          clear hps hall hplen hmx hmm hri
          gi_wp2_with fail
          refine ⟨trivial, ?_⟩
          refine (CallsIn.inRound l (callsIn_wide.2 HCALL.out)).mono ?_
          rintro e X1 ⟨rfl, bX1⟩
          have hk1 : KeepsOthers X X1 := keeps_below bX1
          have hbm1 : Boxed X1 W.heap.size 3 (.int .i64 m) := (bX1.block _ hbm.lt).trans hbm
          have hbc1 : Boxed X1 (W.heap.size + 1) 3 (.int .i64 (pre.length : Int)) := (bX1.block _ hbc.lt).trans hbc
          have hBX1 : Below W.heap.size W X1 := hBX.trans (bX1.mono hBX.size)
          have hBX2 : Below W.heap.size X X1 := bX1.mono hBX.size
          have cm1 := hbm1.cell
          have fm1 := hbm1.frozen
          have cc1 := hbc1.cell
          have fc1 := hbc1.frozen
          have he := run_ne_slot true true xd xd
          rw [sameB_refl] at he
          have hgd := run_guard_slot
          have HM2 := Lib.hid ((hbm1.set (.int .i64 (xi : Int))).other (B' := W.heap.size + 1) (by omega) (.int .i64 ((pre.length : Int) + 1)))
          have HC2 := Lib.hid ((hbc1.other (B' := W.heap.size) (by omega) (.int .i64 (xi : Int))).set (.int .i64 ((pre.length : Int) + 1)))
          have HB2 := Lib.hid ((hBX1.setCell (p := ⟨W.heap.size, 0, none⟩) (Nat.le_refl _) (.int .i64 (xi : Int))).setCell (p := ⟨W.heap.size + 1, 0, none⟩) (by simp) (.int .i64 ((pre.length : Int) + 1)))
          have HB3 := Lib.hid ((hBX2.setCell (p := ⟨W.heap.size, 0, none⟩) (Nat.le_refl _) (.int .i64 (xi : Int))).setCell (p := ⟨W.heap.size + 1, 0, none⟩) (by simp) (.int .i64 ((pre.length : Int) + 1)))
          have HK2 := Lib.hid ((hk1.trans (KeepsOthers.setCell X1 ⟨W.heap.size, 0, none⟩ (.int .i64 (xi : Int)))).trans (KeepsOthers.setCell _ ⟨W.heap.size + 1, 0, none⟩ (.int .i64 ((pre.length : Int) + 1))))
          clear hcm hfm hcc hfc p0 p1 r0 rf0
          gi_wp2
          exact ⟨HK2.out, HB3.out, ⟨⟨⟨_, HM2.out, HALL.out, .inr ⟨⟨xi, xd, xh⟩, by simp, rfl⟩⟩, by rw [HPL.out]; exact HC2.out⟩, HPS.out⟩, HB2.out⟩
      case hstop =>
        rintro D2 c pre X hD2 ⟨m, hm, rfl⟩ hno hK2
        exact absurd (upTo_rise m) hno
      case hdone =>
        rintro D2 ys X hD2 rfl ⟨⟨⟨⟨m, hbm, -, -⟩, hbc⟩, -⟩, hBX⟩ hK2
        have hlenZ := HSS.out.len
        have hU32 : ∀ j, j = 32 → (upTo Z j).length = (upTo Z nS).length := fun j hj => by
          have := upTo_beyond (Z := Z) (j - Z.length)
          rw [show Z.length + (j - Z.length) = j by omega, hlenZ] at this
          rw [this]
        have HU := Lib.hid hU32
        have hUn := upTo_len Z nS
        have HL := Lib.hid hlenZ
        clear hU32 hlenZ
        generalize hGen : (upTo Z nS).length = U at hbc HU HN1 hUn
        clear hGen
        have hPX : Blk X w.heap.size 24 #[.int .i64 lsn, .slice a n c] := hPW.below hBX hPW.lt
        have hRX : Blk X (w.heap.size + 1 + 1) 4 #[.bool false] := (hRS.below hB hRS.lt).below hBX (Nat.lt_of_lt_of_le hRS.lt hB.size)
        have hTX : Blk X (w.heap.size + 1) 3 #[.int .i64 (S : Int)] := (hTS.below hB hTS.lt).below hBX (Nat.lt_of_lt_of_le hTS.lt hB.size)
        have hNX : Boxed X V.heap.size 3 (.int .i64 (N1 : Int)) := (hBX.block _ hbx.lt).trans hbx
        have hbX := hbW.trans (hBX.mono hbW.size)
        have hKX := (hBX.block D hKl).trans hK
        have hDD : D ≠ D2 := by
          have h1 : W.heap.size ≤ D2 := Nat.le_trans hW0 hD2
          omega
        have hKl2 : D2 < X.heap.size := (Array.getElem?_eq_some_iff.1 hK2).1
        have hwD : w.heap.size ≤ D := by
          have h1 : V.heap.size ≤ D := Nat.le_trans hV0 hD
          have h2 := hTS.lt
          omega
        have hwD2 : w.heap.size ≤ D2 := by
          have h1 : W.heap.size ≤ D2 := Nat.le_trans hW0 hD2
          omega
        have HK2 := Lib.hid hK2
        have HKX := Lib.hid hKX
        have HBC := Lib.hid hbc
        have HNX := Lib.hid hNX
        have HDD := Lib.hid hDD
        have HBX := Lib.hid hBX
        try clear hp
        try clear hlen2
        clear hN1 hSS hbm hbx hbx1 hK hK2 hKX hbc hNX hDD hBX hmq hbsl hBsS hBlS hVW hBsW hSW hWb hx7 hx8 hbS hB hbx0 hW0 hV0 hD2 hD
        go_wp2
        go_loopw [11, 12] (fun v i wr => ∃ k M : Nat, k ≤ 32 ∧ i = .int .i64 (k : Int) ∧ v = .int .i64 (M : Int) ∧ M ≤ k ∧ Hid ((upTo Z k).length = M) ∧ Below X.heap.size X wr) (fun _ i _ => 32 - (intOf i).toNat)
        case atStart => exact ⟨0, 0, Nat.zero_le _, rfl, rfl, Nat.le_refl _, Lib.hid rfl, Below.refl _ _⟩
        case round =>
          obtain ⟨k, M, hk, rfl, rfl, hMk, HM, hbel⟩ := hrel
          have HBL := Lib.hid hbel
          by_cases hlt2 : k < 32
          · have hPr := hPX.below hbel hPX.lt
            have p0 := hPr.cell 0
            have p1 := hPr.cell 1
            obtain ⟨xu, xd, hxx⟩ : ∃ xu xd, Z.getD k nos = ⟨xu, xd⟩ := ⟨_, _, rfl⟩
            have hp := at_any lsn a n c zs (k : Int) wr (HO.out.below (hbX.trans (hbel.mono hbX.size))) hn
            rw [HAT.out k, hxx] at hp
            simp only [slotV] at hp
            have HP := Lib.hid hp
            clear hp hbel
            cases xu with
            | true =>
              have HH := Lib.hid (show (upTo Z (k + 1)).length = M + 1 by rw [upTo_hit hxx, ← HM.out]; simp)
              clear hxx HM
              go_wp2_with fail
              refine HP.out.mono ?_
              rintro e w9 ⟨rfl, b9⟩
              have hfd := run_used true xd
              go_wp2
              go_roundw
              case rel => exact ⟨k + 1, M + 1, by omega, by go_num, by go_num, by omega, HH, HBL.out.trans (b9.mono HBL.out.size)⟩
              case measure => simp [intOf]; omega
            | false =>
              have HH := Lib.hid (show (upTo Z (k + 1)).length = M by rw [upTo_miss (by rw [hxx]), HM.out])
              clear hxx HM
              go_wp2_with fail
              refine HP.out.mono ?_
              rintro e w9 ⟨rfl, b9⟩
              have hfd := run_used false xd
              go_wp2
              go_roundw
              case rel => exact ⟨k + 1, M, by omega, by go_num, rfl, by omega, HH, HBL.out.trans (b9.mono HBL.out.size)⟩
              case measure => simp [intOf]; omega
          · have hk32 : k = 32 := by omega
            obtain rfl : U = M := by have h1 := HM.out; have h2 := HU.out k hk32; omega
            clear HM
            subst hk32
            have hbcr := Boxed.cell (show Boxed wr (W.heap.size + 1) 3 (.int .i64 (U : Int)) from (hbel.block _ HBC.out.lt).trans HBC.out)
            have hNr := Boxed.cell (show Boxed wr V.heap.size 3 (.int .i64 (N1 : Int)) from (hbel.block _ HNX.out.lt).trans HNX.out)
            have hTr := (hTX.below hbel hTX.lt).cell 0
            have hRr := hRX.below hbel hRX.lt
            have r0 := hRr.cell 0
            have rf0 := hRr.frozen 0
            have hmin : ((N1 : Int) == min (U : Int) ((S : Int) + 1)) = true := by rw [beq_iff_eq]; have := HN1.out; omega
            have hSn : (S : Int) < 40 := by omega
            have hK2r := (hbel.block D2 hKl2).trans HK2.out
            have hKr := (hbel.block D (Nat.lt_of_lt_of_le hKl HBX.out.size)).trans HKX.out
            have hbr := hbX.trans (hbel.mono hbX.size)
            have hKa := (KeepsOthers.setCell wr ⟨w.heap.size + 1 + 1, 0, none⟩ (.bool true)).same D2 _ hK2r rfl
            have hKb0 := (KeepsOthers.setCell wr ⟨w.heap.size + 1 + 1, 0, none⟩ (.bool true)).same D _ hKr rfl
            have hKb : ((wr.setCell ⟨w.heap.size + 1 + 1, 0, none⟩ (.bool true)).putObj D2 (.deferred none)).heap[D]? = some (.deferred (some [])) := (World.putObj_heap_other HDD.out).trans hKb0
            have hc0 : (wr.setCell ⟨w.heap.size + 1 + 1, 0, none⟩ (.bool true)).cell? ⟨w.heap.size + 1 + 1, 0, none⟩ = some (.bool true) := World.cell?_setCell_same _ _ _ (show wr.cell? ⟨w.heap.size + 1 + 1, 0, none⟩ = some (.bool false) from r0)
            have hc1 := cell_kept hc0 (grownBy_putObj' _ D2 (.deferred none)) (fun r e => by cases e; exact ⟨_, hKa, rfl⟩)
            have hc2 := cell_kept hc1 (grownBy_putObj' _ D (.deferred none)) (fun r e => by cases e; exact ⟨_, hKb, rfl⟩)
            have hbf := ((hbr.setCell (p := ⟨w.heap.size + 1 + 1, 0, none⟩) (by simp; omega) (.bool true)).trans (belowK_b (w := w) (Nat.le_refl _) _ D2 _ (.deferred none) hwD2 hKa rfl rfl)).trans (belowK_b (w := w) (Nat.le_refl _) _ D _ (.deferred none) hwD hKb rfl rfl)
            have HKA := Lib.hid hKa
            have HKB := Lib.hid hKb
            have HC2 := Lib.hid hc2
            have HBF := Lib.hid hbf
            clear hbel hK2r hKr hbr hKa hKb0 hKb hc0 hc1 hc2 hbf
            go_wp2
            refine ⟨by simp, .inl ⟨_, _, rfl, run_takeDeferred HKA.out, ?_⟩⟩
            refine ⟨by simp, .inl ⟨_, _, rfl, run_takeDeferred HKB.out, ?_⟩⟩
            have hc5 := HC2.out
            exact ⟨.bool true, by simp [results, Try.results4, go_sem, hc5], rfl, HBF.out⟩
end Go.Proofs.Ytmmeemffiibndaa.Slab
