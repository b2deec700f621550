/- The document's own Read. -/
import Derived.Test.YtcpkngkeechjeaaPastRX
import Derived.Test.YtcpkngkeechjeaaPastRes
import Derived.Deep.Cut
import Derived.Deep.DeepCutAuto
namespace Go.Proofs.Ytcpkngkeechjeaa.Past
set_option maxRecDepth 100000
open Go.RowKit Go.Sort
open Go.Proofs.Ytcpkngkeechjeaa.Mem
open Go.Proofs.Ytcpkngkeechjeaa.Ent (Ent goodB Ents EntAt SmallE noE entA cellsE)
theorem RX.lookF {w wr w' : World} {B r u gx : Nat} {x : Ent} {sl dn pg : Value} {V : Vw} (h : RX w wr B r u gx x sl dn pg V) (hb : Below wr.heap.size wr w') {i : Nat} {y : Int × Int} (hi : V.pg[i]? = some y) {g c m : Nat} (e : pg = .slice (some ⟨g, 0, none⟩) m c) :
    w'.cell? ⟨gx, 6, none⟩ = some (.int .i64 x.page) ∧ w'.cell? ⟨u, 2, none⟩ = some pg ∧ w'.cell? ⟨g, i * 2, none⟩ = some (.int .i64 y.1) ∧ w'.cell? ⟨g, i * 2 + 1, none⟩ = some (.int .i64 y.2) := by
  have h2 := h.below hb
  obtain ⟨g', c', e', -, -, y0, y1⟩ := h2.page hi
  rw [e] at e'
  injection e' with e1 e2 e3
  injection e1 with e1
  injection e1 with e1
  subst e1
  exact ⟨h2.ent.cell 6, h2.blk.cell 2, y0, y1⟩
theorem rd_start (w : World) : w.heap.size + 2 ≤ ((w.alloc (.cells #[.slice none 0 0, .slice none 0 0, .slice none 0 0] 37)).alloc (.cells #[.slice none 0 0, .slice none 0 0, .slice none 0 0] 37)).heap.size ∧
    RD w ((w.alloc (.cells #[.slice none 0 0, .slice none 0 0, .slice none 0 0] 37)).alloc (.cells #[.slice none 0 0, .slice none 0 0, .slice none 0 0] 37)) (w.heap.size + 2) w.heap.size (w.heap.size + 1) (.slice none 0 0) (.slice none 0 0) (.slice none 0 0) v0 := by
  have hs : (w.alloc (.cells #[.slice none 0 0, .slice none 0 0, .slice none 0 0] 37)).heap.size = w.heap.size + 1 := by simp
  have h2 := Blk.new (w.alloc (.cells #[.slice none 0 0, .slice none 0 0, .slice none 0 0] 37)) 37 #[.slice none 0 0, .slice none 0 0, .slice none 0 0]
  rw [hs] at h2
  refine ⟨by simp, { toRows3 := rows3_nil _ _, blk := h2, lt := by omega, bel := (Ent.below_box w _).alloc (by omega) _, res := (Blk.new w 37 #[.slice none 0 0, .slice none 0 0, .slice none 0 0]).alloc _, rlt := by omega, rne := by omega, old := by omega }⟩
set_option maxRecDepth 100000 in
set_option maxHeartbeats 64000000 in
theorem uread_any (a : Option Addr) (n c : Nat) (L : List Ent) (first : Int) (w : World) (h : Ents w a n L) (hn : n ≤ 1000000) (hf1 : 1 ≤ first) (hf2 : first ≤ 1099511627776) :
    Calls Try.prog 14 #[.slice a n c, .int .i64 first] w (ViewRes (readN L first L.length) w) := by
  have hL : L.length = n := h.1
  have HE := Lib.hid h
  clear h
  go_enter Try.func14, Try.ntmps14
  have hd1 : decide (first < 1) = false := decide_eq_false (by omega)
  have hd2 : decide (first > 1099511627776) = false := decide_eq_false (by omega)
  have HS := Lib.hid (rd_start w)
  go_upto_region 4 with (fail)
  generalize hGen : ((w.alloc (.cells #[.slice none 0 0, .slice none 0 0, .slice none 0 0] 37)).alloc (.cells #[.slice none 0 0, .slice none 0 0, .slice none 0 0] 37)) = W at HS ⊢
  clear hGen
  go_wp2
  go_loopw [6] (fun i wr => ∃ k : Nat, k ≤ n ∧ i = .int .i64 (k : Int) ∧ Hid (w.heap.size + 2 ≤ wr.heap.size ∧ ∃ sl dn pg, RD w wr (w.heap.size + 2) w.heap.size (w.heap.size + 1) sl dn pg (readN L first k))) (fun i _ => n - intV i)
  case atStart => exact ⟨0, Nat.zero_le _, rfl, Lib.hid ⟨HS.out.1, _, _, _, HS.out.2⟩⟩
  case round =>
    obtain ⟨k, hk, rfl, HR⟩ := hrel
    by_cases hlt : k < n
    · as_aux_lemma =>
        have hx : L[k]? = some (L[k]'(by omega)) := List.getElem?_eq_getElem _
        generalize L[k]'(by omega) = x at hx
        obtain ⟨b, off, rfl, hbw, hat, hsm, -⟩ := ents_mem HE.out hx
        have HAT := Lib.hid hat
        have HSM := Lib.hid (show Ent.Small x from hsm)
        have HN := Lib.hid (read_next (first := first) hx)
        clear hat hsm hx
        obtain ⟨hsz, sl, dn, pg, hrd⟩ := HR.out
        have HD := Lib.hid hrd
        clear hrd
        obtain ⟨c0, c1, c2, c3, c4, c5, c6, c7, c8, c9, c10, c11, c12⟩ := (HAT.out.next HD.out.bel hbw).cells
        have HX := Lib.hid (HD.out.box hsz x)
        go_upto_region 8 with (fail)
        clear c0 c1 c2 c3 c4 c5 c6 c7 c8 c9 c10 c11 c12
        generalize hV : readN L first k = V at *
        have hxd : ∀ g, dn.ownBlock = some g → g < wr.heap.size := fun g e => own_lt HD.out.tx e
        obtain ⟨a1, k1, rfl⟩ := own_shape HD.out.lo
        obtain ⟨a2, k2, rfl⟩ := own_shape HD.out.tx
        obtain ⟨a3, k3, rfl⟩ := own_shape HD.out.fi
        generalize hGen : wr.alloc (.cells #[.int .i64 x.kind, .int .i64 x.cl, .int .i64 x.ep, .int .i64 x.n, .int .i64 x.lsn, .int .i64 x.prev, .int .i64 x.page, .int .i64 x.slot, .bool x.wu, .string x.wd, .bool x.iu, .string x.id, .int .i64 x.next] 31) = W1 at HX ⊢
        clear hGen
        obtain ⟨c0, c1, c2, c3, c4, c5, c6, c7, c8, c9, c10, c11, c12⟩ := Ent.ent_cells HX.out.ent
        have CG := Lib.hid (fun W => Ent.rgood_any x W HSM.out)
        have CE := Lib.hid (fun W (hE : Ents W (some ⟨b, off, none⟩) n L) => uended_any _ n c L (txE x) W hE hn)
        go_wp2_with fail
        refine (CG.out _).mono ?_
        rintro e w2 ⟨rfl, b2⟩
        have HX2 := Lib.hid (HX.out.below b2)
        clear c0 c1 c2 c3 c4 c5 c6 c7 c8 c9 c10 c11 c12 b2
        cases hg : goodB x with
        | false =>
          have HN2 := Lib.hid (show readN L first (k + 1) = V by rw [HN.out]; unfold stepV; rw [if_pos hg])
          clear hg
          go_wp2
          go_roundw
          case rel => exact ⟨k + 1, by omega, by go_num, Lib.hid ⟨HX2.out.size, _, _, _, by rw [HN2.out]; exact HX2.out.toRD⟩⟩
          case measure => simp [intV]; omega
        | true =>
          as_aux_lemma =>
            obtain ⟨c0, c1, c2, c3, c4, c5, c6, c7, c8, c9, c10, c11, c12⟩ := Ent.ent_cells HX2.out.ent
            go_wp2_with fail
            refine (CE.out _ (HE.out.next HX2.out.bel)).mono ?_
            rintro e w3 ⟨rfl, b3⟩
            have HX3 := Lib.hid (HX2.out.below b3)
            clear c0 c1 c2 c3 c4 c5 c6 c7 c8 c9 c10 c11 c12 b3
            go_upto_if 41 with (fail)
            go_cut [8, 9, 10] from 24 to 203 (fun _ _ _ wx => Hid (∃ sl', RX w wx (w.heap.size + 2) w.heap.size (w.heap.size + 1) wr.heap.size x sl' (.slice a2 V.dn.length k2) (.slice a3 V.pg.length k3) ⟨if endedB L (txE x) = true then V.los else putK lessT true (txE x) x.lsn V.los, V.dn, V.pg⟩))
            case first =>
              as_aux_lemma =>
                cases he : endedB L (txE x) with
                | true =>
                  go_wp2
                  go_meet
                  case rel => exact Lib.hid ⟨_, by rw [he, if_pos rfl]; exact HX3.out⟩
                | false =>
                  as_aux_lemma =>
                    have HPI := Lib.hid (show ∀ sl' wx, RX w wx (w.heap.size + 2) w.heap.size (w.heap.size + 1) wr.heap.size x sl' (.slice a2 V.dn.length k2) (.slice a3 V.pg.length k3) ⟨putK lessT true (txE x) x.lsn V.los, V.dn, V.pg⟩ → Hid (∃ sl', RX w wx (w.heap.size + 2) w.heap.size (w.heap.size + 1) wr.heap.size x sl' (.slice a2 V.dn.length k2) (.slice a3 V.pg.length k3) ⟨if endedB L (txE x) = true then V.los else putK lessT true (txE x) x.lsn V.los, V.dn, V.pg⟩) from fun sl' wx h => Lib.hid ⟨sl', by rw [he, if_neg (by simp)]; exact h⟩)
                    have HRI := Lib.hid (show Rise lessT V.los by rw [← hV]; exact (read_rise k).1)
                    have HLN := Lib.hid (show V.los.length ≤ k by rw [← hV]; exact (read_len L first k).1)
                    clear hV he
                    go_upto_region 10 with (fail)
                    have HO0 := Lib.hid (own_new w3 43 4)
                    have HX4 := Lib.hid (Ent.below_box w3 (.cells #[] 43))
                    go_wp2
                    go_loopw [8, 9, 10] (fun v d i wz => ∃ (j : Nat) (dd : Bool) (N : List (T3 × Int)), j ≤ V.los.length ∧ i = .int .i64 (j : Int) ∧ d = .bool dd ∧ Hid (InsD lessT true (txE x) x.lsn (V.los.take j) dd N ∧ N.length ≤ j + 1 ∧ wz.ownsRow w3.heap.size 43 4 v N.length (cellsG loV N) ∧ Below w3.heap.size w3 wz)) (fun _ _ i _ => V.los.length - intV i)
                    case atStart => exact ⟨0, false, [], Nat.zero_le _, rfl, rfl, Lib.hid ⟨by rw [List.take_zero]; exact ins_nil _ _ _ _, by simp, HO0.out, HX4.out⟩⟩
                    case round =>
                      obtain ⟨j, dd, N, hj, rfl, rfl, HQ⟩ := hrel
                      obtain ⟨va, vc, rfl⟩ := own_shape HQ.out.2.2.1
                      have HXZ := Lib.hid (HX3.out.below HQ.out.2.2.2)
                      by_cases hjl : j < V.los.length
                      · as_aux_lemma =>
                          have hy : V.los[j]? = some (V.los[j]'hjl) := List.getElem?_eq_getElem hjl
                          generalize V.los[j]'hjl = y at hy
                          obtain ⟨g, c', e, hgl, -, -⟩ := HX3.out.loser hy
                          injection e with e1 e2 e3
                          subst e1 e3
                          clear e2
                          have HY := Lib.hid hy
                          obtain ⟨x1, x2, x3, x4, d0, y0, y1, y2, y3⟩ := HX3.out.lookL HQ.out.2.2.2 hy rfl
                          have hnl := HQ.out.2.1
                          have hln := HLN.out
                          have hsz3 := HQ.out.2.2.2.size
                          have hTN : V.los.take (j + 1) = V.los.take j ++ [y] := by rw [List.take_add_one, hy]; rfl
                          have HTN := Lib.hid hTN
                          have HRJ := Lib.hid (show Rise lessT (V.los.take j ++ [y]) by rw [← hTN]; exact HRI.out.sublist (List.take_sublist _ _))
                          clear hy hTN
                          have HH := Lib.hid (And.intro HQ.out.2.2.1 HQ.out.2.2.2)
                          cases dd with
                          | true =>
                            as_aux_lemma =>
                              have HNE := Lib.hid (ins_ne HQ.out.1 HRJ.out)
                              have HNX := Lib.hid (ins_past order_less (y := y) HQ.out.1)
                              have hsT : sameT y.1 (txE x) = false := by rw [sameT_eq]; exact decide_eq_false HNE.out
                              have hq := fun W => run_eq_txn y.1 (txE x) W
                              rw [hsT] at hq
                              unfold txE at hq
                              dsimp only at hq
                              have hgd := fun (A B : Operand) xs ys w => run_guard_txn .eql A B xs ys w
                              clear hsT
                              go_upto_region 15 with (fail)
                              go_quiet (fail)
                              have H5 := Lib.hid (quiet_next HH.out.1 HH.out.2 nq)
                              generalize wr.drewN nq = w5 at H5 ⊢
                              clear x1 x2 x3 x4 d0 y0 y1 y2 y3
                              obtain ⟨x1, x2, x3, x4, d0, y0, y1, y2, y3⟩ := HX3.out.lookL H5.out.2 HY.out rfl
                              go_upto_region 18 with (fail)
                              go_quiet (fail)
                              have H6 := Lib.hid (quiet_next H5.out.1 H5.out.2 nq)
                              generalize w5.drewN nq = w6 at H6 ⊢
                              clear x1 x2 x3 x4 d0 y0 y1 y2 y3
                              obtain ⟨x1, x2, x3, x4, d0, y0, y1, y2, y3⟩ := HX3.out.lookL H6.out.2 HY.out rfl
                              have hs7 := H6.out.2.size
                              go_wp2_with (at_builtin; refine wpList_appL rfl _ _ rfl w3.heap.size _ (N) rfl y (own_below H6.out.1 (Ent.below_box _ _)) w6.heap.size rfl (Blk.new w6 _ _) (by first | omega | (simp only [List.length_append, List.length_cons, List.length_nil]; omega)) (by simp; omega) ?_)
                              intro v7 w7 hA7
                              have H7 := Lib.hid (app_next H6.out.1 H6.out.2 hA7)
                              generalize hN7 : N ++ [y] = N7 at H7
                              have hl7 : N7.length = N.length + 1 := by rw [← hN7, List.length_append]; rfl
                              try rw [← hl7] at H7
                              have HN7 := Lib.hid hN7
                              have HL7 := Lib.hid hl7
                              clear hl7
                              clear hN7
                              obtain ⟨va7, vc7, rfl⟩ := own_shape H7.out.1
                              clear hA7 hs7
                              clear x1 x2 x3 x4 d0 y0 y1 y2 y3
                              go_wp2
                              go_roundw
                              case rel =>
                                refine ⟨_, _, _, _, _, _, _, _, _, _, _, _, _, _, _, _, _, _, _, _, _, _, _, _, _, _, _, _, _, _, _, _, _, _, _, _, _, _, _, _, _, _, _, _, _, _, _, _, _, _, _, _, _, _, _, _, ?_, rfl⟩
                                exact ⟨j + 1, true, N7, by omega, by go_num, rfl, Lib.hid ⟨by rw [HTN.out, ← HN7.out]; exact HNX.out, by have := HL7.out; omega, H7.out⟩⟩
                              case measure => simp [intV]; omega
                          | false =>
                            as_aux_lemma =>
                              have hnl : N.length ≤ j := by
                                have := (HQ.out.1.1 rfl).2
                                rw [this, List.length_take]; omega
                              have q0 := cell_regrown x1
                              have q1 := cell_regrown x2
                              have q2 := cell_regrown x3
                              have q3 := cell_regrown x4
                              have q4 := cell_regrown d0
                              have q5 := cell_regrown y0
                              have q6 := cell_regrown y1
                              have q7 := cell_regrown y2
                              have q8 := cell_regrown y3
                              have cL : ∀ dd os, Calls Try.prog 29 #[.agg #[.int .i64 (txE x).cl, .int .i64 (txE x).ep, .int .i64 (txE x).n], .agg #[.int .i64 y.1.cl, .int .i64 y.1.ep, .int .i64 y.1.n]] (grow (redrawn wr dd) os) fun e w'' => e = .returned (.bool (lessT (txE x) y.1)) ∧ ∃ p : Regrown, w'' = grow (redrawn wr p.d) p.os := fun dd os => Calls.regrown_of (uless_any (txE x) y.1 _)
                              cases hl : lessT (txE x) y.1 with
                              | true =>
                                as_aux_lemma =>
                                  rw [hl] at cL
                                  unfold txE at cL
                                  dsimp only at cL
                                  have HNX := Lib.hid (ins_lt order_less HQ.out.1 hl)
                                  have hsT : sameT y.1 (txE x) = false := by rw [sameT_eq]; exact decide_eq_false (order_less.ne hl).symm
                                  have hq := fun W => run_eq_txn y.1 (txE x) W
                                  rw [hsT] at hq
                                  unfold txE at hq
                                  dsimp only at hq
                                  have hgd := fun (A B : Operand) xs ys w => run_guard_txn .eql A B xs ys w
                                  clear hsT
                                  clear hl
                                  go_upto_region 15 with (fail)
                                  refine wp_region_quiet_below (by kernel_rfl) (by kernel_rfl) ?_
                                  repeat (go_big_quiet_step ((with_reducible exact cL _ _)))
                                  refine wpQuiet_nil ?_
                                  intro _ hw'
                                  obtain ⟨⟨dq, osq⟩, hw''⟩ := hw'
                                  subst hw''
                                  have b5 := below_regrown wr dq osq
                                  generalize grow (redrawn wr dq) osq = w5 at b5 ⊢
                                  have H5 := Lib.hid (calls_next HH.out.1 HH.out.2 b5)
                                  clear cL b5
                                  clear q0 q1 q2 q3 q4 q5 q6 q7 q8
                                  clear x1 x2 x3 x4 d0 y0 y1 y2 y3
                                  obtain ⟨x1, x2, x3, x4, d0, y0, y1, y2, y3⟩ := HX3.out.lookL H5.out.2 HY.out rfl
                                  have hs6 := H5.out.2.size
                                  go_wp2_with (at_builtin; refine wpList_appL rfl _ _ rfl w3.heap.size _ (N) rfl (txE x, x.lsn) (own_below H5.out.1 (Ent.below_box _ _)) w5.heap.size rfl (Blk.new w5 _ _) (by first | omega | (simp only [List.length_append, List.length_cons, List.length_nil]; omega)) (by simp; omega) ?_)
                                  intro v6 w6 hA6
                                  have H6 := Lib.hid (app_next H5.out.1 H5.out.2 hA6)
                                  generalize hN6 : N ++ [(txE x, x.lsn)] = N6 at H6
                                  have hl6 : N6.length = N.length + 1 := by rw [← hN6, List.length_append]; rfl
                                  try rw [← hl6] at H6
                                  have HN6 := Lib.hid hN6
                                  have HL6 := Lib.hid hl6
                                  clear hl6
                                  clear hN6
                                  obtain ⟨va6, vc6, rfl⟩ := own_shape H6.out.1
                                  clear hA6 hs6
                                  clear x1 x2 x3 x4 d0 y0 y1 y2 y3
                                  obtain ⟨x1, x2, x3, x4, d0, y0, y1, y2, y3⟩ := HX3.out.lookL H6.out.2 HY.out rfl
                                  go_upto_region 18 with (fail)
                                  go_quiet (fail)
                                  have H7 := Lib.hid (quiet_next H6.out.1 H6.out.2 nq)
                                  generalize w6.drewN nq = w7 at H7 ⊢
                                  clear x1 x2 x3 x4 d0 y0 y1 y2 y3
                                  obtain ⟨x1, x2, x3, x4, d0, y0, y1, y2, y3⟩ := HX3.out.lookL H7.out.2 HY.out rfl
                                  have hs8 := H7.out.2.size
                                  go_wp2_with (at_builtin; refine wpList_appL rfl _ _ rfl w3.heap.size _ N6 rfl y (own_below H7.out.1 (Ent.below_box _ _)) w7.heap.size rfl (Blk.new w7 _ _) (by first | (have := HL6.out; omega) | (simp only [List.length_append, List.length_cons, List.length_nil]; omega)) (by simp; omega) ?_)
                                  intro v8 w8 hA8
                                  have H8 := Lib.hid (app_next H7.out.1 H7.out.2 hA8)
                                  generalize hN8 : N6 ++ [y] = N8 at H8
                                  have hl8 : N8.length = N6.length + 1 := by rw [← hN8, List.length_append]; rfl
                                  try rw [← hl8] at H8
                                  have HN8 := Lib.hid hN8
                                  have HL8 := Lib.hid hl8
                                  clear hl8
                                  clear hN8
                                  obtain ⟨va8, vc8, rfl⟩ := own_shape H8.out.1
                                  clear hA8 hs8
                                  clear x1 x2 x3 x4 d0 y0 y1 y2 y3
                                  go_wp2
                                  go_roundw
                                  case rel =>
                                    refine ⟨_, _, _, _, _, _, _, _, _, _, _, _, _, _, _, _, _, _, _, _, _, _, _, _, _, _, _, _, _, _, _, _, _, _, _, _, _, _, _, _, _, _, _, _, _, _, _, _, _, _, _, _, _, _, _, _, ?_, rfl⟩
                                    exact ⟨j + 1, true, N8, by omega, by go_num, rfl, Lib.hid ⟨by rw [HTN.out, ← HN8.out, ← HN6.out]; exact HNX.out, by have := HL8.out; have := HL6.out; omega, H8.out⟩⟩
                                  case measure => simp [intV]; omega
                              | false =>
                                as_aux_lemma =>
                                  rw [hl] at cL
                                  unfold txE at cL
                                  dsimp only at cL
                                  go_upto_region 15 with (fail)
                                  refine wp_region_quiet_below (by kernel_rfl) (by kernel_rfl) ?_
                                  repeat (go_big_quiet_step ((with_reducible exact cL _ _)))
                                  refine wpQuiet_nil ?_
                                  intro _ hw'
                                  obtain ⟨⟨dq, osq⟩, hw''⟩ := hw'
                                  subst hw''
                                  have b5 := below_regrown wr dq osq
                                  generalize grow (redrawn wr dq) osq = w5 at b5 ⊢
                                  have H5 := Lib.hid (calls_next HH.out.1 HH.out.2 b5)
                                  clear cL b5
                                  clear q0 q1 q2 q3 q4 q5 q6 q7 q8
                                  clear x1 x2 x3 x4 d0 y0 y1 y2 y3
                                  obtain ⟨x1, x2, x3, x4, d0, y0, y1, y2, y3⟩ := HX3.out.lookL H5.out.2 HY.out rfl
                                  by_cases hn : y.1 = txE x
                                  · as_aux_lemma =>
                                      have HNX := Lib.hid (ins_eq order_less HQ.out.1 hn)
                                      rw [if_pos rfl] at HNX
                                      have hsT : sameT y.1 (txE x) = true := by rw [sameT_eq]; exact decide_eq_true hn
                                      have hq := fun W => run_eq_txn y.1 (txE x) W
                                      rw [hsT] at hq
                                      unfold txE at hq
                                      dsimp only at hq
                                      have hgd := fun (A B : Operand) xs ys w => run_guard_txn .eql A B xs ys w
                                      clear hsT
                                      clear hl hn
                                      go_upto_region 18 with (fail)
                                      go_quiet (fail)
                                      have H6 := Lib.hid (quiet_next H5.out.1 H5.out.2 nq)
                                      generalize w5.drewN nq = w6 at H6 ⊢
                                      clear x1 x2 x3 x4 d0 y0 y1 y2 y3
                                      obtain ⟨x1, x2, x3, x4, d0, y0, y1, y2, y3⟩ := HX3.out.lookL H6.out.2 HY.out rfl
                                      have hs7 := H6.out.2.size
                                      go_wp2_with (at_builtin; refine wpList_appL rfl _ _ rfl w3.heap.size _ (N) rfl (txE x, x.lsn) (own_below H6.out.1 (Ent.below_box _ _)) w6.heap.size rfl (Blk.new w6 _ _) (by first | omega | (simp only [List.length_append, List.length_cons, List.length_nil]; omega)) (by simp; omega) ?_)
                                      intro v7 w7 hA7
                                      have H7 := Lib.hid (app_next H6.out.1 H6.out.2 hA7)
                                      generalize hN7 : N ++ [(txE x, x.lsn)] = N7 at H7
                                      have hl7 : N7.length = N.length + 1 := by rw [← hN7, List.length_append]; rfl
                                      try rw [← hl7] at H7
                                      have HN7 := Lib.hid hN7
                                      have HL7 := Lib.hid hl7
                                      clear hl7
                                      clear hN7
                                      obtain ⟨va7, vc7, rfl⟩ := own_shape H7.out.1
                                      clear hA7 hs7
                                      clear x1 x2 x3 x4 d0 y0 y1 y2 y3
                                      go_wp2
                                      go_roundw
                                      case rel =>
                                        refine ⟨_, _, _, _, _, _, _, _, _, _, _, _, _, _, _, _, _, _, _, _, _, _, _, _, _, _, _, _, _, _, _, _, _, _, _, _, _, _, _, _, _, _, _, _, _, _, _, _, _, _, _, _, _, _, _, _, ?_, rfl⟩
                                        exact ⟨j + 1, true, N7, by omega, by go_num, rfl, Lib.hid ⟨by rw [HTN.out, ← HN7.out]; exact HNX.out, by have := HL7.out; omega, H7.out⟩⟩
                                      case measure => simp [intV]; omega
                                  · as_aux_lemma =>
                                      have HNX := Lib.hid (ins_gt order_less HQ.out.1 hl hn)
                                      have hsT : sameT y.1 (txE x) = false := by rw [sameT_eq]; exact decide_eq_false hn
                                      have hq := fun W => run_eq_txn y.1 (txE x) W
                                      rw [hsT] at hq
                                      unfold txE at hq
                                      dsimp only at hq
                                      have hgd := fun (A B : Operand) xs ys w => run_guard_txn .eql A B xs ys w
                                      clear hsT
                                      clear hl hn
                                      go_upto_region 18 with (fail)
                                      go_quiet (fail)
                                      have H6 := Lib.hid (quiet_next H5.out.1 H5.out.2 nq)
                                      generalize w5.drewN nq = w6 at H6 ⊢
                                      clear x1 x2 x3 x4 d0 y0 y1 y2 y3
                                      obtain ⟨x1, x2, x3, x4, d0, y0, y1, y2, y3⟩ := HX3.out.lookL H6.out.2 HY.out rfl
                                      have hs7 := H6.out.2.size
                                      go_wp2_with (at_builtin; refine wpList_appL rfl _ _ rfl w3.heap.size _ (N) rfl y (own_below H6.out.1 (Ent.below_box _ _)) w6.heap.size rfl (Blk.new w6 _ _) (by first | omega | (simp only [List.length_append, List.length_cons, List.length_nil]; omega)) (by simp; omega) ?_)
                                      intro v7 w7 hA7
                                      have H7 := Lib.hid (app_next H6.out.1 H6.out.2 hA7)
                                      generalize hN7 : N ++ [y] = N7 at H7
                                      have hl7 : N7.length = N.length + 1 := by rw [← hN7, List.length_append]; rfl
                                      try rw [← hl7] at H7
                                      have HN7 := Lib.hid hN7
                                      have HL7 := Lib.hid hl7
                                      clear hl7
                                      clear hN7
                                      obtain ⟨va7, vc7, rfl⟩ := own_shape H7.out.1
                                      clear hA7 hs7
                                      clear x1 x2 x3 x4 d0 y0 y1 y2 y3
                                      go_wp2
                                      go_roundw
                                      case rel =>
                                        refine ⟨_, _, _, _, _, _, _, _, _, _, _, _, _, _, _, _, _, _, _, _, _, _, _, _, _, _, _, _, _, _, _, _, _, _, _, _, _, _, _, _, _, _, _, _, _, _, _, _, _, _, _, _, _, _, _, _, ?_, rfl⟩
                                        exact ⟨j + 1, false, N7, by omega, by go_num, rfl, Lib.hid ⟨by rw [HTN.out, ← HN7.out]; exact HNX.out, by have := HL7.out; omega, H7.out⟩⟩
                                      case measure => simp [intV]; omega
                      · as_aux_lemma =>
                          obtain rfl : j = V.los.length := by omega
                          have hE1 := HQ.out.1
                          rw [List.take_length] at hE1
                          have hdg : ∀ g, Value.ownBlock (.slice a2 V.dn.length k2) = some g ∨ Value.ownBlock (.slice a3 V.pg.length k3) = some g → g < w3.heap.size := fun g e => e.elim (own_lt HX3.out.tx) (own_lt HX3.out.fi)
                          obtain ⟨c0, c1, c2, c3, c4, c5, c6, c7, c8, c9, c10, c11, c12⟩ := Ent.ent_cells HXZ.out.ent
                          obtain ⟨d0, d1, d2, f0, f1, f2⟩ := HXZ.out.toVV.cells
                          have hnl := HQ.out.2.1
                          have hln := HLN.out
                          have hsz3 := HQ.out.2.2.2.size
                          cases dd with
                          | true =>
                            obtain ⟨-, rfl⟩ := hE1.2 rfl
                            have HP := Lib.hid (RX.setLos HXZ.out HQ.out.2.2.1 HX3.out.size hdg)
                            clear hE1
                            go_wp2
                            go_meet
                            case rel => exact HPI.out _ _ HP.out
                          | false =>
                            as_aux_lemma =>
                              have hE2 := ins_end order_less hE1
                              have HE2 := Lib.hid hE2
                              clear hE1 hE2
                              go_wp2_with (at_builtin; refine wpList_appL rfl _ _ rfl w3.heap.size _ N rfl (txE x, x.lsn) (own_below HQ.out.2.2.1 (Ent.below_box _ _)) wr.heap.size rfl (Blk.new wr _ _) (by omega) (by simp; omega) ?_)
                              intro v' w6 hA
                              have H6 := Lib.hid (app_next HQ.out.2.2.1 HQ.out.2.2.2 hA)
                              clear hA c0 c1 c2 c3 c4 c5 c6 c7 c8 c9 c10 c11 c12 d0 d1 d2 f0 f1 f2
                              have hlen : N.length + 1 = (putK lessT true (txE x) x.lsn V.los).length := by rw [← HE2.out, List.length_append]; rfl
                              rw [HE2.out, hlen] at H6
                              have HX6 := Lib.hid (HX3.out.below H6.out.2)
                              obtain ⟨d0, d1, d2, f0, f1, f2⟩ := HX6.out.toVV.cells
                              have HP := Lib.hid (RX.setLos HX6.out H6.out.1 HX3.out.size hdg)
                              obtain ⟨va2, vc2, rfl⟩ := own_shape H6.out.1
                              go_wp2
                              go_meet
                              case rel => exact HPI.out _ _ HP.out
            case rest =>
              as_aux_lemma =>
                obtain ⟨sl4, hX⟩ := hcut.out
                obtain ⟨LO, hLO⟩ : ∃ LO, (if endedB L (txE x) = true then V.los else putK lessT true (txE x) x.lsn V.los) = LO := ⟨_, rfl⟩
                rw [hLO] at hX
                obtain ⟨DN, hDN⟩ : ∃ DN, (if x.kind = 3 ∧ txE x ∉ V.dn then V.dn ++ [txE x] else V.dn) = DN := ⟨_, rfl⟩
                obtain ⟨PG, hPG⟩ : ∃ PG, (if x.kind < 3 then putK ltI false x.page (first + k) V.pg else V.pg) = PG := ⟨_, rfl⟩
                have HST := Lib.hid (show readN L first (k + 1) = ⟨LO, DN, PG⟩ by
                  rw [HN.out]
                  unfold stepV
                  rw [if_neg (by rw [hg]; simp), hLO, hDN, hPG])
                have HDN := Lib.hid hDN
                have HPG := Lib.hid hPG
                have HRI := Lib.hid (show Rise ltI V.pg by rw [← hV]; exact (read_rise k).2)
                have HLN := Lib.hid (show V.dn.length ≤ k ∧ V.pg.length ≤ k by rw [← hV]; exact (read_len L first k).2)
                have HXD := Lib.hid hxd
                have HX4 := Lib.hid hX
                obtain ⟨a4, k4, rfl⟩ := own_shape hX.lo
                clear hX hLO hDN hPG hV hcut HX3 HX2 HX HD CG CE hg HN hxd
                obtain ⟨c0, c1, c2, c3, c4, c5, c6, c7, c8, c9, c10, c11, c12⟩ := Ent.ent_cells HX4.out.ent
                obtain ⟨d0, d1, d2, f0, f1, f2⟩ := HX4.out.toVV.cells
                go_upto_if 110 with (fail)
                go_cut [11, 12] from 24 to 203 (fun _ _ wx => Hid (∃ dn', RX w wx (w.heap.size + 2) w.heap.size (w.heap.size + 1) wr.heap.size x (.slice a4 LO.length k4) dn' (.slice a3 V.pg.length k3) ⟨LO, DN, V.pg⟩))
                case first =>
                  as_aux_lemma =>
                    by_cases hk3 : x.kind = 3
                    · as_aux_lemma =>
                        have e3 : (x.kind == 3) = true := by simp [hk3]
                        have HDN2 := Lib.hid (show (if txE x ∉ V.dn then V.dn ++ [txE x] else V.dn) = DN by rw [← HDN.out]; simp [hk3])
                        have hln := HLN.out.1
                        clear hk3
                        go_wp2
                        go_loopw [11, 12] (fun b i wz => ∃ (j : Nat) (bb : Bool) (q : Nat), j ≤ V.dn.length ∧ i = .int .i64 (j : Int) ∧ b = .bool bb ∧ wz = wc.drewN q ∧ Hid (bb = decide (txE x ∈ V.dn.take j))) (fun _ i _ => V.dn.length - intV i)
                        case atStart => exact ⟨0, false, 0, Nat.zero_le _, rfl, rfl, rfl, Lib.hid (by simp)⟩
                        case round =>
                          obtain ⟨j, bb, q, hj, rfl, rfl, rfl, HBB⟩ := hrel
                          by_cases hjl : j < V.dn.length
                          · as_aux_lemma =>
                              have hy : V.dn[j]? = some (V.dn[j]'hjl) := List.getElem?_eq_getElem hjl
                              generalize V.dn[j]'hjl = y at hy
                              obtain ⟨g, c', e, hgl, -, y0, y1, y2⟩ := HX4.out.done hy
                              injection e with e1 e2 e3'
                              subst e1 e3'
                              clear e2
                              have hd1 : decide ((j : Int) < (V.dn.length : Int)) = true := decide_eq_true (by omega)
                              have y0 : (wc.drewN q).cell? ⟨g, j * 3, none⟩ = some (.int .i64 y.cl) := y0
                              have y1 : (wc.drewN q).cell? ⟨g, j * 3 + 1, none⟩ = some (.int .i64 y.ep) := y1
                              have y2 : (wc.drewN q).cell? ⟨g, j * 3 + 2, none⟩ = some (.int .i64 y.n) := y2
                              have x1 : (wc.drewN q).cell? ⟨wr.heap.size, 1, none⟩ = some (.int .i64 x.cl) := c1
                              have x2 : (wc.drewN q).cell? ⟨wr.heap.size, 2, none⟩ = some (.int .i64 x.ep) := c2
                              have x3 : (wc.drewN q).cell? ⟨wr.heap.size, 3, none⟩ = some (.int .i64 x.n) := c3
                              have u1 : (wc.drewN q).cell? ⟨w.heap.size + 1, 1, none⟩ = some (.slice (some ⟨g, 0, none⟩) V.dn.length k2) := d1
                              have HTK := Lib.hid (show decide (txE x ∈ V.dn.take (j + 1)) = (bb || sameT y (txE x)) by
                                have e : (txE x = y) ↔ (y = txE x) := ⟨Eq.symm, Eq.symm⟩
                                rw [HBB.out, sameT_eq, List.take_add_one, hy]
                                show decide (txE x ∈ V.dn.take j ++ [y]) = _
                                rw [Bool.eq_iff_iff]
                                simp only [decide_eq_true_eq, Bool.or_eq_true, List.mem_append, List.mem_singleton, e])
                              have hq := fun W => run_eq_txn y (txE x) W
                              have hgd := fun (A B : Operand) xs ys w => run_guard_txn .eql A B xs ys w
                              generalize sameT y (txE x) = sb at hq HTK
                              unfold txE at hq
                              dsimp only at hq
                              clear hy HBB
                              cases bb with
                              | true =>
                                have HB2 := Lib.hid (show true = decide (txE x ∈ V.dn.take (j + 1)) by rw [HTK.out]; rfl)
                                clear HTK
                                go_upto_region 30 with (fail)
                                go_quiet (fail)
                                rw [World.drewN_drewN]
                                go_wp2
                                go_roundw
                                case rel => exact ⟨j + 1, true, q + nq, by omega, by go_num, rfl, by first | rfl | trivial, HB2⟩
                                case measure => simp [intV]; omega
                              | false =>
                                have HB2 := Lib.hid (show sb = decide (txE x ∈ V.dn.take (j + 1)) by rw [HTK.out]; rfl)
                                clear HTK
                                go_upto_region 30 with (fail)
                                go_quiet (fail)
                                rw [World.drewN_drewN]
                                go_wp2
                                go_roundw
                                case rel => exact ⟨j + 1, sb, q + nq, by omega, by go_num, rfl, by first | rfl | trivial, HB2⟩
                                case measure => simp [intV]; omega
                          · as_aux_lemma =>
                              obtain rfl : j = V.dn.length := by omega
                              have hd1 : decide ((V.dn.length : Int) < (V.dn.length : Int)) = false := decide_eq_false (by omega)
                              have HB2 := Lib.hid (show bb = decide (txE x ∈ V.dn) by rw [HBB.out, List.take_length])
                              have HX5 := Lib.hid (HX4.out.below (show Below wc.heap.size wc (wc.drewN q) from ⟨rfl, rfl, rfl, Nat.le_refl _, fun _ _ => rfl⟩))
                              have u1 : (wc.drewN q).cell? ⟨w.heap.size + 1, 1, none⟩ = some (.slice a2 V.dn.length k2) := d1
                              have x1 : (wc.drewN q).cell? ⟨wr.heap.size, 1, none⟩ = some (.int .i64 x.cl) := c1
                              have x2 : (wc.drewN q).cell? ⟨wr.heap.size, 2, none⟩ = some (.int .i64 x.ep) := c2
                              have x3 : (wc.drewN q).cell? ⟨wr.heap.size, 3, none⟩ = some (.int .i64 x.n) := c3
                              clear HBB c0 c1 c2 c3 c4 c5 c6 c7 c8 c9 c10 c11 c12 d0 d1 d2 f0 f1 f2
                              generalize wc.drewN q = wq at HX5 u1 x1 x2 x3 ⊢
                              cases bb with
                              | true =>
                                have HF := Lib.hid (show DN = V.dn by rw [← HDN2.out]; have := HB2.out; simp at this; simp [this])
                                clear HX4
                                go_wp2
                                go_meet
                                case rel => exact Lib.hid ⟨_, by rw [HF.out]; exact HX5.out⟩
                              | false =>
                                as_aux_lemma =>
                                  have HF := Lib.hid (show DN = V.dn ++ [txE x] by rw [← HDN2.out]; have := HB2.out; simp at this; simp [this])
                                  clear HX4
                                  have hbs := HX5.out.size
                                  go_wp2_with (at_builtin; refine wpList_appT rfl _ _ rfl (w.heap.size + 2) _ V.dn rfl (txE x) (own_below HX5.out.tx (Ent.below_box _ _)) wq.heap.size rfl (Blk.new wq _ _) (by omega) (by simp; omega) ?_)
                                  intro v6 w6 hA6
                                  rw [show V.dn.length + 1 = (V.dn ++ [txE x]).length by simp] at hA6
                                  have HX6 := Lib.hid (HX5.out.below (Ent.below_box wq (.cells #[.int .i64 x.cl, .int .i64 x.ep, .int .i64 x.n] 24)))
                                  have HX7 := Lib.hid (RX.addDn HX6.out hA6 HXD.out)
                                  rw [← HF.out] at hA6 HX7
                                  have hub : Blk w6 (w.heap.size + 1) 37 #[.slice a4 LO.length k4, .slice a2 V.dn.length k2, .slice a3 V.pg.length k3] := HX6.out.blk.grown hA6.2.1 (fun e => own_off HX6.out.tx HX6.out.toRD.toVV.lt e.symm)
                                  have u1' := hub.cell 1
                                  have uf1' := hub.frozen 1
                                  obtain ⟨va6, vc6, rfl⟩ := own_shape hA6.1
                                  clear hA6 hub HX6 HX5 u1 x1 x2 x3 hbs
                                  go_wp2
                                  go_meet
                                  case rel => exact Lib.hid ⟨_, HX7.out⟩
                    · have e3 : (x.kind == 3) = false := by simp [hk3]
                      have HF := Lib.hid (show DN = V.dn by rw [← HDN.out]; simp [hk3])
                      clear hk3
                      go_wp2
                      go_meet
                      case rel => exact Lib.hid ⟨_, by rw [HF.out]; exact HX4.out⟩
                case rest =>
                  as_aux_lemma =>
                    obtain ⟨dn4, hX⟩ := hcut.out
                    have HX5 := Lib.hid hX
                    obtain ⟨a5, k5, rfl⟩ := own_shape hX.tx
                    clear hX hcut HX4 HDN c0 c1 c2 c3 c4 c5 c6 c7 c8 c9 c10 c11 c12 d0 d1 d2 f0 f1 f2
                    obtain ⟨c0, c1, c2, c3, c4, c5, c6, c7, c8, c9, c10, c11, c12⟩ := Ent.ent_cells HX5.out.ent
                    by_cases hk2 : x.kind < 3
                    · as_aux_lemma =>
                        have e4 : decide (x.kind < 3) = true := decide_eq_true hk2
                        have HPG2 := Lib.hid (show putK ltI false x.page (first + k) V.pg = PG by rw [← HPG.out]; simp [hk2])
                        have hln := HLN.out.2
                        have hw1 : IntKind.i64.wrap (first + (k : Int)) = first + (k : Int) := by rw [IntKind.wrap_i64]; omega
                        clear hk2
                        go_upto_region 34 with (fail)
                        have HO0 := Lib.hid (own_new wc 45 2)
                        have HX6 := Lib.hid (Ent.below_box wc (.cells #[] 45))
                        clear c0 c1 c2 c3 c4 c5 c6 c7 c8 c9 c10 c11 c12
                        obtain ⟨d0, d1, d2, f0, f1, f2⟩ := (HX5.out.below HX6.out).toVV.cells
                        go_wp2
                        clear d0 d1 d2 f0 f1 f2
                        go_loopw [13, 14, 15] (fun v d i wz => ∃ (j : Nat) (dd : Bool) (N : List (Int × Int)), j ≤ V.pg.length ∧ i = .int .i64 (j : Int) ∧ d = .bool dd ∧ Hid (InsD ltI false x.page (first + k) (V.pg.take j) dd N ∧ N.length ≤ j + 1 ∧ wz.ownsRow wc.heap.size 45 2 v N.length (cellsG fiV N) ∧ Below wc.heap.size wc wz)) (fun _ _ i _ => V.pg.length - intV i)
                        case atStart => exact ⟨0, false, [], Nat.zero_le _, rfl, rfl, Lib.hid ⟨by rw [List.take_zero]; exact ins_nil _ _ _ _, by simp, HO0.out, HX6.out⟩⟩
                        case round =>
                          obtain ⟨j, dd, N, hj, rfl, rfl, HQ⟩ := hrel
                          obtain ⟨va, vc, rfl⟩ := own_shape HQ.out.2.2.1
                          have HXZ := Lib.hid (HX5.out.below HQ.out.2.2.2)
                          by_cases hjl : j < V.pg.length
                          · as_aux_lemma =>
                              have hy : V.pg[j]? = some (V.pg[j]'hjl) := List.getElem?_eq_getElem hjl
                              generalize V.pg[j]'hjl = y at hy
                              obtain ⟨g, c', e, hgl, -, -⟩ := HX5.out.page hy
                              injection e with e1 e2 e3'
                              subst e1 e3'
                              clear e2
                              have HY := Lib.hid hy
                              have hd1 : decide ((j : Int) < (V.pg.length : Int)) = true := decide_eq_true (by omega)
                              obtain ⟨x6, d2, y0, y1⟩ := HX5.out.lookF HQ.out.2.2.2 hy rfl
                              have hnl := HQ.out.2.1
                              have hsz3 := HQ.out.2.2.2.size
                              have hTN : V.pg.take (j + 1) = V.pg.take j ++ [y] := by rw [List.take_add_one, hy]; rfl
                              have HTN := Lib.hid hTN
                              have HRJ := Lib.hid (show Rise ltI (V.pg.take j ++ [y]) by rw [← hTN]; exact HRI.out.sublist (List.take_sublist _ _))
                              clear hy hTN
                              have HH := Lib.hid (And.intro HQ.out.2.2.1 HQ.out.2.2.2)
                              cases dd with
                              | true =>
                                as_aux_lemma =>
                                  have HNX := Lib.hid (ins_past order_int (y := y) HQ.out.1)
                                  go_upto_region 39 with (fail)
                                  go_quiet (fail)
                                  have H5 := Lib.hid (quiet_next HH.out.1 HH.out.2 nq)
                                  generalize wr.drewN nq = w5 at H5 ⊢
                                  clear x6 d2 y0 y1
                                  obtain ⟨x6, d2, y0, y1⟩ := HX5.out.lookF H5.out.2 HY.out rfl
                                  go_upto_region 42 with (fail)
                                  go_quiet (fail)
                                  have H6 := Lib.hid (quiet_next H5.out.1 H5.out.2 nq)
                                  generalize w5.drewN nq = w6 at H6 ⊢
                                  clear x6 d2 y0 y1
                                  obtain ⟨x6, d2, y0, y1⟩ := HX5.out.lookF H6.out.2 HY.out rfl
                                  have hs7 := H6.out.2.size
                                  go_wp2_with (at_builtin; refine wpList_appF rfl _ _ rfl wc.heap.size _ (N) rfl y (own_below H6.out.1 (Ent.below_box _ _)) w6.heap.size rfl (Blk.new w6 _ _) (by first | omega | omega) (by simp; omega) ?_)
                                  intro v7 w7 hA7
                                  have H7 := Lib.hid (app_next H6.out.1 H6.out.2 hA7)
                                  generalize hN7 : N ++ [y] = N7 at H7
                                  have hl7 : N7.length = N.length + 1 := by rw [← hN7, List.length_append]; rfl
                                  try rw [← hl7] at H7
                                  have HN7 := Lib.hid hN7
                                  have HL7 := Lib.hid hl7
                                  clear hl7
                                  clear hN7
                                  obtain ⟨va7, vc7, rfl⟩ := own_shape H7.out.1
                                  clear hA7 hs7
                                  clear x6 d2 y0 y1
                                  go_wp2
                                  go_roundw
                                  case rel => exact ⟨j + 1, true, _, by omega, by go_num, rfl, Lib.hid ⟨by rw [HTN.out, ← HN7.out]; exact HNX.out, by have := HL7.out; omega, H7.out⟩⟩
                                  case measure => simp [intV]; omega
                              | false =>
                                as_aux_lemma =>
                                  have hnl : N.length ≤ j := by
                                    have := (HQ.out.1.1 rfl).2
                                    rw [this, List.length_take]; omega
                                  by_cases hl : x.page < y.1
                                  · as_aux_lemma =>
                                      have e5 : decide (x.page < y.1) = true := decide_eq_true hl
                                      have HNX := Lib.hid (ins_lt order_int HQ.out.1 (y := y) (show ltI x.page y.1 = true from decide_eq_true hl))
                                      clear hl
                                      go_upto_region 39 with (fail)
                                      go_quiet (fail)
                                      have H5 := Lib.hid (quiet_next HH.out.1 HH.out.2 nq)
                                      generalize wr.drewN nq = w5 at H5 ⊢
                                      clear x6 d2 y0 y1
                                      obtain ⟨x6, d2, y0, y1⟩ := HX5.out.lookF H5.out.2 HY.out rfl
                                      have hs6 := H5.out.2.size
                                      go_wp2_with (at_builtin; refine wpList_appF rfl _ _ rfl wc.heap.size _ (N) rfl (x.page, first + (k : Int)) (own_below H5.out.1 (Ent.below_box _ _)) w5.heap.size rfl (Blk.new w5 _ _) (by first | omega | omega) (by simp; omega) ?_)
                                      intro v6 w6 hA6
                                      have H6 := Lib.hid (app_next H5.out.1 H5.out.2 hA6)
                                      generalize hN6 : N ++ [(x.page, first + (k : Int))] = N6 at H6
                                      have hl6 : N6.length = N.length + 1 := by rw [← hN6, List.length_append]; rfl
                                      try rw [← hl6] at H6
                                      have HN6 := Lib.hid hN6
                                      have HL6 := Lib.hid hl6
                                      clear hl6
                                      clear hN6
                                      obtain ⟨va6, vc6, rfl⟩ := own_shape H6.out.1
                                      clear hA6 hs6
                                      clear x6 d2 y0 y1
                                      obtain ⟨x6, d2, y0, y1⟩ := HX5.out.lookF H6.out.2 HY.out rfl
                                      go_upto_region 42 with (fail)
                                      go_quiet (fail)
                                      have H7 := Lib.hid (quiet_next H6.out.1 H6.out.2 nq)
                                      generalize w6.drewN nq = w7 at H7 ⊢
                                      clear x6 d2 y0 y1
                                      obtain ⟨x6, d2, y0, y1⟩ := HX5.out.lookF H7.out.2 HY.out rfl
                                      have hs8 := H7.out.2.size
                                      go_wp2_with (at_builtin; refine wpList_appF rfl _ _ rfl wc.heap.size _ (N6) rfl y (own_below H7.out.1 (Ent.below_box _ _)) w7.heap.size rfl (Blk.new w7 _ _) (by first | omega | (have := HL6.out; omega)) (by simp; omega) ?_)
                                      intro v8 w8 hA8
                                      have H8 := Lib.hid (app_next H7.out.1 H7.out.2 hA8)
                                      generalize hN8 : N6 ++ [y] = N8 at H8
                                      have hl8 : N8.length = N6.length + 1 := by rw [← hN8, List.length_append]; rfl
                                      try rw [← hl8] at H8
                                      have HN8 := Lib.hid hN8
                                      have HL8 := Lib.hid hl8
                                      clear hl8
                                      clear hN8
                                      obtain ⟨va8, vc8, rfl⟩ := own_shape H8.out.1
                                      clear hA8 hs8
                                      clear x6 d2 y0 y1
                                      go_wp2
                                      go_roundw
                                      case rel => exact ⟨j + 1, true, _, by omega, by go_num, rfl, Lib.hid ⟨by rw [HTN.out, ← HN8.out, ← HN6.out]; exact HNX.out, by have := HL8.out; have := HL6.out; omega, H8.out⟩⟩
                                      case measure => simp [intV]; omega
                                  · as_aux_lemma =>
                                      have e5 : decide (x.page < y.1) = false := decide_eq_false hl
                                      by_cases hn : y.1 = x.page
                                      · as_aux_lemma =>
                                          have HNX := Lib.hid (ins_eq order_int HQ.out.1 (y := y) hn)
                                          rw [if_neg (by simp)] at HNX
                                          have e6 : (y.1 == x.page) = true := by simp [hn]
                                          clear hl hn
                                          go_upto_region 39 with (fail)
                                          go_quiet (fail)
                                          have H5 := Lib.hid (quiet_next HH.out.1 HH.out.2 nq)
                                          generalize wr.drewN nq = w5 at H5 ⊢
                                          clear x6 d2 y0 y1
                                          obtain ⟨x6, d2, y0, y1⟩ := HX5.out.lookF H5.out.2 HY.out rfl
                                          go_upto_region 42 with (fail)
                                          go_quiet (fail)
                                          have H6 := Lib.hid (quiet_next H5.out.1 H5.out.2 nq)
                                          generalize w5.drewN nq = w6 at H6 ⊢
                                          clear x6 d2 y0 y1
                                          obtain ⟨x6, d2, y0, y1⟩ := HX5.out.lookF H6.out.2 HY.out rfl
                                          have hs7 := H6.out.2.size
                                          go_wp2_with (at_builtin; refine wpList_appF rfl _ _ rfl wc.heap.size _ (N) rfl y (own_below H6.out.1 (Ent.below_box _ _)) w6.heap.size rfl (Blk.new w6 _ _) (by first | omega | omega) (by simp; omega) ?_)
                                          intro v7 w7 hA7
                                          have H7 := Lib.hid (app_next H6.out.1 H6.out.2 hA7)
                                          generalize hN7 : N ++ [y] = N7 at H7
                                          have hl7 : N7.length = N.length + 1 := by rw [← hN7, List.length_append]; rfl
                                          try rw [← hl7] at H7
                                          have HN7 := Lib.hid hN7
                                          have HL7 := Lib.hid hl7
                                          clear hl7
                                          clear hN7
                                          obtain ⟨va7, vc7, rfl⟩ := own_shape H7.out.1
                                          clear hA7 hs7
                                          clear x6 d2 y0 y1
                                          go_wp2
                                          go_roundw
                                          case rel => exact ⟨j + 1, true, _, by omega, by go_num, rfl, Lib.hid ⟨by rw [HTN.out, ← HN7.out]; exact HNX.out, by have := HL7.out; omega, H7.out⟩⟩
                                          case measure => simp [intV]; omega
                                      · as_aux_lemma =>
                                          have HNX := Lib.hid (ins_gt order_int HQ.out.1 (y := y) (show ltI x.page y.1 = false from decide_eq_false hl) hn)
                                          have e6 : (y.1 == x.page) = false := by simp [hn]
                                          clear hl hn
                                          go_upto_region 39 with (fail)
                                          go_quiet (fail)
                                          have H5 := Lib.hid (quiet_next HH.out.1 HH.out.2 nq)
                                          generalize wr.drewN nq = w5 at H5 ⊢
                                          clear x6 d2 y0 y1
                                          obtain ⟨x6, d2, y0, y1⟩ := HX5.out.lookF H5.out.2 HY.out rfl
                                          go_upto_region 42 with (fail)
                                          go_quiet (fail)
                                          have H6 := Lib.hid (quiet_next H5.out.1 H5.out.2 nq)
                                          generalize w5.drewN nq = w6 at H6 ⊢
                                          clear x6 d2 y0 y1
                                          obtain ⟨x6, d2, y0, y1⟩ := HX5.out.lookF H6.out.2 HY.out rfl
                                          have hs7 := H6.out.2.size
                                          go_wp2_with (at_builtin; refine wpList_appF rfl _ _ rfl wc.heap.size _ (N) rfl y (own_below H6.out.1 (Ent.below_box _ _)) w6.heap.size rfl (Blk.new w6 _ _) (by first | omega | omega) (by simp; omega) ?_)
                                          intro v7 w7 hA7
                                          have H7 := Lib.hid (app_next H6.out.1 H6.out.2 hA7)
                                          generalize hN7 : N ++ [y] = N7 at H7
                                          have hl7 : N7.length = N.length + 1 := by rw [← hN7, List.length_append]; rfl
                                          try rw [← hl7] at H7
                                          have HN7 := Lib.hid hN7
                                          have HL7 := Lib.hid hl7
                                          clear hl7
                                          clear hN7
                                          obtain ⟨va7, vc7, rfl⟩ := own_shape H7.out.1
                                          clear hA7 hs7
                                          clear x6 d2 y0 y1
                                          go_wp2
                                          go_roundw
                                          case rel => exact ⟨j + 1, false, _, by omega, by go_num, rfl, Lib.hid ⟨by rw [HTN.out, ← HN7.out]; exact HNX.out, by have := HL7.out; omega, H7.out⟩⟩
                                          case measure => simp [intV]; omega
                          · as_aux_lemma =>
                              obtain rfl : j = V.pg.length := by omega
                              have hd1 : decide ((V.pg.length : Int) < (V.pg.length : Int)) = false := decide_eq_false (by omega)
                              have hE1 := HQ.out.1
                              rw [List.take_length] at hE1
                              have hdg : ∀ g, Value.ownBlock (.slice a5 DN.length k5) = some g ∨ Value.ownBlock (.slice a4 LO.length k4) = some g → g < wc.heap.size := fun g e => e.elim (own_lt HX5.out.tx) (own_lt HX5.out.lo)
                              obtain ⟨c0, c1, c2, c3, c4, c5, c6, c7, c8, c9, c10, c11, c12⟩ := Ent.ent_cells HXZ.out.ent
                              obtain ⟨d0, d1, d2, f0, f1, f2⟩ := HXZ.out.toVV.cells
                              have hnl := HQ.out.2.1
                              have hsz3 := HQ.out.2.2.2.size
                              cases dd with
                              | true =>
                                obtain ⟨-, hNP⟩ := hE1.2 rfl
                                have HF := Lib.hid (show N = PG by rw [hNP]; exact HPG2.out)
                                have HP := Lib.hid (RX.setPg HXZ.out HQ.out.2.2.1 HX5.out.size hdg)
                                clear hE1 hNP
                                go_wp2
                                go_roundw
                                case rel => exact ⟨k + 1, by omega, by go_num, Lib.hid ⟨HP.out.size, _, _, _, by rw [HST.out, ← HF.out]; exact HP.out.toRD⟩⟩
                                case measure => simp [intV]; omega
                              | false =>
                                as_aux_lemma =>
                                  have HE2 := Lib.hid (ins_end order_int hE1)
                                  clear hE1
                                  go_wp2_with (at_builtin; refine wpList_appF rfl _ _ rfl wc.heap.size _ N rfl (x.page, first + (k : Int)) (own_below HQ.out.2.2.1 (Ent.below_box _ _)) wr.heap.size rfl (Blk.new wr _ _) (by omega) (by simp; omega) ?_)
                                  intro v' w6 hA
                                  have H6 := Lib.hid (app_next HQ.out.2.2.1 HQ.out.2.2.2 hA)
                                  clear hA c0 c1 c2 c3 c4 c5 c6 c7 c8 c9 c10 c11 c12 d0 d1 d2 f0 f1 f2
                                  have hlen : N.length + 1 = PG.length := by rw [← HPG2.out, ← HE2.out, List.length_append]; rfl
                                  rw [HE2.out, HPG2.out, hlen] at H6
                                  have HX7 := Lib.hid (HX5.out.below H6.out.2)
                                  obtain ⟨d0, d1, d2, f0, f1, f2⟩ := HX7.out.toVV.cells
                                  have HP := Lib.hid (RX.setPg HX7.out H6.out.1 HX5.out.size hdg)
                                  obtain ⟨va2, vc2, rfl⟩ := own_shape H6.out.1
                                  clear hlen
                                  go_wp2
                                  go_roundw
                                  case rel => exact ⟨k + 1, by omega, by go_num, Lib.hid ⟨HP.out.size, _, _, _, by rw [HST.out]; exact HP.out.toRD⟩⟩
                                  case measure => simp [intV]; omega
                    · have e4 : decide (x.kind < 3) = false := decide_eq_false hk2
                      have HF := Lib.hid (show PG = V.pg by rw [← HPG.out]; simp [hk2])
                      clear hk2
                      go_wp2
                      go_roundw
                      case rel => exact ⟨k + 1, by omega, by go_num, Lib.hid ⟨HX5.out.size, _, _, _, by rw [HST.out, HF.out]; exact HX5.out.toRD⟩⟩
                      case measure => simp [intV]; omega
    · as_aux_lemma =>
        obtain rfl : k = n := by omega
        have hd1 : decide ((k : Int) < (k : Int)) = false := decide_eq_false (by omega)
        obtain ⟨hsz, sl, dn, pg, h1⟩ := HR.out
        obtain ⟨V, hV⟩ : ∃ V, readN L first k = V := ⟨_, rfl⟩
        rw [hV] at h1
        have HVE := Lib.hid (show readN L first L.length = V by rw [hL]; exact hV)
        clear hV
        obtain ⟨a1, k1, rfl⟩ := own_shape h1.lo
        obtain ⟨a2, k2, rfl⟩ := own_shape h1.tx
        obtain ⟨a3, k3, rfl⟩ := own_shape h1.fi
        obtain ⟨d0, d1, d2, f0, f1, f2⟩ := h1.toVV.cells
        have r0 := h1.res.cell 0
        have r1 := h1.res.cell 1
        have r2 := h1.res.cell 2
        have g0 := h1.res.frozen 0
        have g1 := h1.res.frozen 1
        have g2 := h1.res.frozen 2
        have hk1 := ((h1.res.set_ 0 (.slice a1 V.los.length k1)).set_ 1 (.slice a2 V.dn.length k2)).set_ 2 (.slice a3 V.pg.length k3)
        have k0' := hk1.cell 0
        have k1' := hk1.cell 1
        have k2' := hk1.cell 2
        have HF := Lib.hid (show Rows3 (((wr.setCell ⟨w.heap.size, 0, none⟩ (.slice a1 V.los.length k1)).setCell ⟨w.heap.size, 1, none⟩ (.slice a2 V.dn.length k2)).setCell ⟨w.heap.size, 2, none⟩ (.slice a3 V.pg.length k3)) w.heap.size (.slice a1 V.los.length k1) (.slice a2 V.dn.length k2) (.slice a3 V.pg.length k3) V ∧
            Below w.heap.size w (((wr.setCell ⟨w.heap.size, 0, none⟩ (.slice a1 V.los.length k1)).setCell ⟨w.heap.size, 1, none⟩ (.slice a2 V.dn.length k2)).setCell ⟨w.heap.size, 2, none⟩ (.slice a3 V.pg.length k3)) from by
          have hr := h1.toRows3.base (show w.heap.size ≤ w.heap.size + 2 by omega)
          have b1 := own_off h1.lo h1.rlt
          have b2 := own_off h1.tx h1.rlt
          have b3 := own_off h1.fi h1.rlt
          exact ⟨{ lo := own_set (own_set (own_set hr.lo b1 _ _) b1 _ _) b1 _ _, tx := own_set (own_set (own_set hr.tx b2 _ _) b2 _ _) b2 _ _, fi := own_set (own_set (own_set hr.fi b3 _ _) b3 _ _) b3 _ _, d1 := hr.d1, d2 := hr.d2, d3 := hr.d3 },
            ((h1.bel.setCell (p := ⟨w.heap.size, 0, none⟩) (Nat.le_refl _) _).setCell (p := ⟨w.heap.size, 1, none⟩) (Nat.le_refl _) _).setCell (p := ⟨w.heap.size, 2, none⟩) (Nat.le_refl _) _⟩)
        clear hk1 h1 HR HE hL
        go_wp2
        refine bodyPost_ret (v := .agg #[.slice a1 V.los.length k1, .slice a2 V.dn.length k2, .slice a3 V.pg.length k3]) ?_ rfl ?_
        · simp [results, Try.results14, go_sem, k0', k1', k2']
        · exact ⟨_, _, _, rfl, by rw [HVE.out]; exact HF.out.1, HF.out.2⟩
set_option maxRecDepth 100000 in
set_option maxHeartbeats 2000000 in
theorem uread_bad (a : Option Addr) (n c : Nat) (first : Int) (w : World) (hf : okFirst first = false) :
    Calls Try.prog 14 #[.slice a n c, .int .i64 first] w (ViewRes v0 w) := by
  have hf : ¬ (1 ≤ first ∧ first ≤ 1099511627776) := by unfold okFirst at hf; simpa using hf
  obtain ⟨hsz, h1⟩ := rd_start w
  obtain ⟨d0, d1, d2, f0, f1, f2⟩ := h1.toVV.cells
  have r0 := h1.res.cell 0
  have r1 := h1.res.cell 1
  have r2 := h1.res.cell 2
  have g0 := h1.res.frozen 0
  have g1 := h1.res.frozen 1
  have g2 := h1.res.frozen 2
  have hk1 := ((h1.res.set_ 0 (.slice none 0 0)).set_ 1 (.slice none 0 0)).set_ 2 (.slice none 0 0)
  have k0' := hk1.cell 0
  have k1' := hk1.cell 1
  have k2' := hk1.cell 2
  have HB := Lib.hid (((h1.bel.setCell (p := ⟨w.heap.size, 0, none⟩) (Nat.le_refl _) (.slice none 0 0)).setCell (p := ⟨w.heap.size, 1, none⟩) (Nat.le_refl _) (.slice none 0 0)).setCell (p := ⟨w.heap.size, 2, none⟩) (Nat.le_refl _) (.slice none 0 0))
  clear h1 hk1 hsz
  go_enter Try.func14, Try.ntmps14
  go_upto_region 2 with (fail)
  generalize hGen : ((w.alloc (.cells #[.slice none 0 0, .slice none 0 0, .slice none 0 0] 37)).alloc (.cells #[.slice none 0 0, .slice none 0 0, .slice none 0 0] 37)) = W at d0 d1 d2 f0 f1 f2 r0 r1 r2 g0 g1 g2 k0' k1' k2' HB ⊢
  clear hGen
  by_cases h1 : first < 1
  · have e1 : decide (first < 1) = true := decide_eq_true h1
    go_wp2
    refine bodyPost_ret (v := .agg #[.slice none 0 0, .slice none 0 0, .slice none 0 0]) ?_ rfl ?_
    · simp [results, Try.results14, go_sem, k0', k1', k2']
    · exact ⟨_, _, _, rfl, rows3_nil _ _, HB.out⟩
  · have e1 : decide (first < 1) = false := decide_eq_false h1
    have e2 : decide (first > 1099511627776) = true := decide_eq_true (by omega)
    go_wp2
    refine bodyPost_ret (v := .agg #[.slice none 0 0, .slice none 0 0, .slice none 0 0]) ?_ rfl ?_
    · simp [results, Try.results14, go_sem, k0', k1', k2']
    · exact ⟨_, _, _, rfl, rows3_nil _ _, HB.out⟩
theorem ureadV_any (a : Option Addr) (n c : Nat) (L : List Ent) (first : Int) (w : World) (h : Ents w a n L) (hn : n ≤ 1000000) :
    Calls Try.prog 14 #[.slice a n c, .int .i64 first] w (ViewRes (readV L first) w) := by
  cases hok : okFirst first with
  | true =>
    have hf : 1 ≤ first ∧ first ≤ 1099511627776 := by unfold okFirst at hok; simpa using hok
    have := uread_any a n c L first w h hn hf.1 hf.2
    unfold readV
    rw [hok, if_pos rfl]
    exact this
  | false =>
    have := uread_bad a n c first w hok
    unfold readV
    rw [hok, if_neg (by simp)]
    exact this
end Go.Proofs.Ytcpkngkeechjeaa.Past
