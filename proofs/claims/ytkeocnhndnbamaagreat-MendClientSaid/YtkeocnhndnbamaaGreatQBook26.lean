/- The program's Read. mend.begin: the work's own things are laid: the trail, the places, the pages with images of their own, the losers. -/
import Derived.Test.YtkeocnhndnbamaaGreatQBook25
import Derived.Test.YtkeocnhndnbamaaGreatQBook21
import Derived.Test.YtkeocnhndnbamaaGreatQBook2
import Derived.Deep.RegionLaw
namespace Go.Proofs.YtkeocnhndnbamaaGreat.Past
set_option maxRecDepth 100000
open Go.RowKit Go.Sort
open Go.Proofs.YtkeocnhndnbamaaGreat.Mem
open Go.Maps
open Go.Proofs.YtkeocnhndnbamaaGreat.Ent (Ent goodB Ents EntAt SmallE noE entA cellsE)
set_option maxRecDepth 100000 in
theorem numbers_any (first : Int) (w : World) : Calls Tryz.prog 69 #[.int .i64 first] w fun e w' => e = .returned (.bool (okFirst first)) ∧ w' = w := by
  obtain ⟨b, hb⟩ : ∃ b, okFirst first = b := ⟨_, rfl⟩
  rw [hb]
  have HB := Lib.hid hb
  clear hb
  unfold okFirst at HB
  by_cases h1 : 1 ≤ first
  · have e1 : decide (1 ≤ first) = true := decide_eq_true h1
    by_cases h2 : first ≤ 1099511627776
    · have e2 : decide (first ≤ 1099511627776) = true := decide_eq_true h2
      have HF := Lib.hid (show true = b by rw [← HB.out]; exact (decide_eq_true ⟨h1, h2⟩).symm)
      clear HB
      go_enter Tryz.func69, Tryz.ntmps69
      go_wp2
      go_ret
      exact ⟨by rw [← HF.out]; rfl, rfl⟩
    · have e2 : decide (first ≤ 1099511627776) = false := decide_eq_false h2
      have HF := Lib.hid (show false = b by rw [← HB.out]; exact (decide_eq_false fun h => h2 h.2).symm)
      clear HB
      go_enter Tryz.func69, Tryz.ntmps69
      go_wp2
      go_ret
      exact ⟨by rw [← HF.out]; rfl, rfl⟩
  · have e1 : decide (1 ≤ first) = false := decide_eq_false h1
    have HF := Lib.hid (show false = b by rw [← HB.out]; exact (decide_eq_false fun h => h1 h.1).symm)
    clear HB
    go_enter Tryz.func69, Tryz.ntmps69
    go_wp2
    go_ret
    exact ⟨by rw [← HF.out]; rfl, rfl⟩
def kvV (y : Int × Int) : List Value := [.int .i64 y.1]
theorem kvV_cells (L : List (Int × Int)) : (L.map (·.1)).map (Value.int .i64) = cellsG kvV L := by
  induction L with
  | nil => rfl
  | cons x r ih => simp only [List.map_cons, ih]; rfl
theorem take_lose {T : Tl} {ss : List T3} {k : Nat} {t : T3} (h : ss[k]? = some t) : (ss.take (k + 1)).filterMap (loseO T) = match loseO T t with | none => (ss.take k).filterMap (loseO T) | some y => (ss.take k).filterMap (loseO T) ++ [y] := by
  rw [List.take_add_one, h, List.filterMap_append]
  cases e : loseO T t with
  | none => simp [e]
  | some y => simp [e]
theorem lose_len {T : Tl} (ss : List T3) (k : Nat) : ((ss.take k).filterMap (loseO T)).length ≤ k := Nat.le_trans (List.length_filterMap_le _ _) (by rw [List.length_take]; omega)
set_option maxRecDepth 100000 in
set_option maxHeartbeats 16000000 in
theorem read_any (a : Option Addr) (n c : Nat) (L : List Ent) (first : Int) (w : World) (h : Ents w a n L) (hn : n ≤ 100000) :
    Calls Tryz.prog 47 #[.slice a n c, .int .i64 first] w (ViewRes (readV L first) w) := by
  have hL : L.length = n := h.1
  have HE := Lib.hid h
  clear h
  have HB0 := Lib.hid (Ent.below_box w (.cells #[.slice none 0 0, .slice none 0 0, .slice none 0 0] 120))
  have HR0 := Lib.hid (Blk.new w 120 #[.slice none 0 0, .slice none 0 0, .slice none 0 0])
  have HS0 := Lib.hid (show (w.alloc (.cells #[.slice none 0 0, .slice none 0 0, .slice none 0 0] 120)).heap.size = w.heap.size + 1 by simp)
  have HN := Lib.hid (fun W => numbers_any first W)
  cases hok : okFirst first with
  | false =>
    have HV := Lib.hid (show readV L first = v0 by unfold readV; rw [hok]; rfl)
    rw [hok] at HN
    rw [HV.out]
    clear hok HV
    go_enter Tryz.func47, Tryz.ntmps47
    go_wp2_with fail
    generalize hGen : w.alloc (.cells #[.slice none 0 0, .slice none 0 0, .slice none 0 0] 120) = W0 at HB0 HR0 HS0 ⊢
    clear hGen
    refine (HN.out _).mono ?_
    rintro e w1 ⟨rfl, rfl⟩
    have r0 := HR0.out.cell 0
    have r1 := HR0.out.cell 1
    have r2 := HR0.out.cell 2
    have g0 := HR0.out.frozen 0
    have g1 := HR0.out.frozen 1
    have g2 := HR0.out.frozen 2
    have hk1 := (((HR0.out.set_ 0 (.slice none 0 0)).set_ 1 (.slice none 0 0)).set_ 2 (.slice none 0 0))
    have k0 := hk1.cell 0
    have k1 := hk1.cell 1
    have k2 := hk1.cell 2
    have HF := Lib.hid ((((HB0.out).setCell (p := ⟨w.heap.size, 0, none⟩) (Nat.le_refl _) (.slice none 0 0)).setCell (p := ⟨w.heap.size, 1, none⟩) (Nat.le_refl _) (.slice none 0 0)).setCell (p := ⟨w.heap.size, 2, none⟩) (Nat.le_refl _) (.slice none 0 0))
    clear hk1 HR0 HB0 HE HN
    go_wp2
    refine bodyPost_ret (v := .agg #[.slice none 0 0, .slice none 0 0, .slice none 0 0]) ?_ rfl ?_
    · simp [results, Tryz.results47, go_sem, k0, k1, k2]
    · exact ⟨_, _, _, rfl, rows3_nil _ _, HF.out⟩
  | true =>
    have hf : 1 ≤ first ∧ first ≤ 1099511627776 := by unfold okFirst at hok; simpa using hok
    obtain ⟨f1, f2⟩ := hf
    have HV := Lib.hid (show readV L first = readN L first L.length by unfold readV; rw [hok]; rfl)
    rw [hok] at HN
    rw [HV.out]
    clear hok HV
    go_enter Tryz.func47, Tryz.ntmps47
    go_wp2_with fail
    generalize hGen : w.alloc (.cells #[.slice none 0 0, .slice none 0 0, .slice none 0 0] 120) = W0 at HB0 HR0 HS0 ⊢
    clear hGen
    refine (HN.out _).mono ?_
    rintro e w1 ⟨rfl, rfl⟩
    have HT := Lib.hid (tell_any a n c L w1 (HE.out.next HB0.out) hn)
    clear HN
    go_wp2_with fail
    refine HT.out.mono ?_
    rintro e w2 ⟨g, m1, m2, dv, T, rfl, ta, te, b2⟩
    obtain ⟨da, dc, rfl⟩ := own_shape ta.row
    have HPR := Lib.hid (page_rise (L := L) (first := first))
    have HPM := Lib.hid (fun p => page_mem (first := first) te p)
    have HPV : Hid (∀ y ∈ (readN L first L.length).pg, ∃ k : Int, T.pg y.1 = some k ∧ y.2 = first + k ∧ 0 ≤ k ∧ k < L.length) := Lib.hid fun y hy => by
      obtain ⟨k, h1, h2⟩ := page_val te hy
      exact ⟨k, h1, h2, pg_bound te h1⟩
    have HDN := Lib.hid (done_are (first := first) te)
    have HPL := Lib.hid (read_len L first L.length).2.2
    have HLO : Hid (∀ ss : List T3, ss.Pairwise (fun a b => lessT a b = true) → (∀ t, t ∈ ss ↔ T.tx t ≠ none) → ss.filterMap (loseO T) = (readN L first L.length).los) := Lib.hid fun ss h1 h2 => losers_are te h1 h2
    obtain ⟨V, hV⟩ : ∃ V, readN L first L.length = V := ⟨_, rfl⟩
    rw [hV] at HPR HPM HPV HDN HPL HLO
    have HVE := Lib.hid hV
    clear hV
    clear te
    have HTA := Lib.hid ta
    have HB2 := Lib.hid b2
    clear ta b2 HT
    go_upto_region 4 with (fail)
    obtain ⟨g5, hg5⟩ : ∃ g5, w2.heap.size = g5 := ⟨_, rfl⟩
    have HG5 := Lib.hid hg5
    have HK3 := Lib.hid (Blk.new w2 146 #[.map (some m1), .map (some m2), .slice da T.dn.length dc])
    have HB3 := Lib.hid (Ent.below_box w2 (.cells #[.map (some m1), .map (some m2), .slice da T.dn.length dc] 146))
    have HS3 := Lib.hid (show (w2.alloc (.cells #[.map (some m1), .map (some m2), .slice da T.dn.length dc] 146)).heap.size = w2.heap.size + 1 by simp)
    rw [hg5] at HK3
    clear hg5
    rw [HG5.out]
    generalize w2.alloc (.cells #[.map (some m1), .map (some m2), .slice da T.dn.length dc] 146) = w3 at HK3 HB3 HS3 ⊢
    have HTA3 := Lib.hid ((HTA.out.below HB3.out).rebox HK3.out (by have := HTA.out.size; have := HG5.out; omega))
    have t2 := HTA3.out.blk.cell 2
    go_upto_region 5 with (fail)
    obtain ⟨u, hu⟩ : ∃ u, w3.heap.size = u := ⟨_, rfl⟩
    have HU := Lib.hid hu
    clear t2
    have HRP : Hid (RP w (w3.alloc (.cells #[.slice none 0 0, .slice da T.dn.length dc, .slice none 0 0] 120)) w1.heap.size w.heap.size g5 u m1 m2 (2 * L.length) (.slice da T.dn.length dc) (.slice none 0 0) (.slice none 0 0) T [] []) := by
      have hb4 := Ent.below_box w3 (.cells #[.slice none 0 0, .slice da T.dn.length dc, .slice none 0 0] 120)
      have hub := Blk.new w3 120 #[.slice none 0 0, .slice da T.dn.length dc, .slice none 0 0]
      rw [hu] at hub
      have h1 := HS0.out
      have h2 := HB2.out.size
      have h3 := HS3.out
      have hb23 := HB2.out.trans (HB3.out.mono h2)
      exact Lib.hid { ta := HTA3.out.below hb4, ub := hub, rb := (HR0.out.below hb23 HR0.out.lt).alloc _, lo := own_nil _ _ _ _, fi := own_nil _ _ _ _, bel := (HB0.out.trans (hb23.mono (by omega))).trans (hb4.mono (by have := HB3.out.size; omega)), old := ⟨Nat.le_refl _, by omega, by omega⟩ }
    have HNE := Lib.hid (show u ≠ g5 by have := HG5.out; have := HS3.out; omega)
    clear hu
    rw [HU.out]
    generalize w3.alloc (.cells #[.slice none 0 0, .slice da T.dn.length dc, .slice none 0 0] 120) = w4 at HRP ⊢
    have HMW := Lib.hid (show 2 * L.length ≤ 1000000 by omega)
    clear HTA HK3 HB3 HTA3 HR0 HB2
    obtain ⟨t0, t1, t2, -, -, -⟩ := HRP.out.ta.cells
    have HKT := Lib.hid (keysT_any (some m1) w4)
    have HST := Lib.hid (sortedT_any m1 (2 * L.length) w4 HRP.out.ta.mt HMW.out)
    have HB5 := Lib.hid (Ent.below_box w4 (.cells #[.map (some m1)] 144))
    go_wp2_with fail
    refine HKT.out.mono ?_
    rintro e w5 ⟨rfl, rfl⟩
    go_wp2_with fail
    refine HST.out.mono ?_
    rintro e w6 ⟨nv, ss, rfl, hm, hp, hrow, b6⟩
    have HRP6 := Lib.hid ((HRP.out.below HB5.out).below b6)
    have HROW := Lib.hid hrow
    have hss : ss.length ≤ 400000 := by
      have := namesT_len (ss := ss) HRP.out.ta.mt ⟨(hp.imp fun hab => order_less.ne hab), hm⟩
      omega
    have HM := Lib.hid (show ∀ t, t ∈ ss ↔ T.tx t ≠ none from fun t => (hm t).trans (not_congr Option.map_eq_none_iff))
    have HLS := Lib.hid (HLO.out ss hp HM.out)
    obtain ⟨na, nc, rfl⟩ := own_shape hrow
    obtain ⟨B1, hB1⟩ : ∃ B1, (w4.alloc (.cells #[.map (some m1)] 144)).heap.size = B1 := ⟨_, rfl⟩
    rw [hB1] at HROW
    clear hB1 hrow hp hm b6 HB5 HST HKT HRP t0 t1 t2
    go_wp2_with fail
    go_loopw [26] (fun i wr => ∃ (k : Nat) (sl : Value), k ≤ ss.length ∧ i = .int .i64 (k : Int) ∧ Hid (RP w wr w1.heap.size w.heap.size g5 u m1 m2 (2 * L.length) (.slice da T.dn.length dc) sl (.slice none 0 0) T ((ss.take k).filterMap (loseO T)) [] ∧ wr.ownsRow B1 56 3 (.slice na ss.length nc) ss.length (cellsG txV ss))) (fun i _ => ss.length - intN i)
    case atStart => exact ⟨0, _, Nat.zero_le _, rfl, Lib.hid ⟨by rw [List.take_zero]; exact HRP6.out, HROW.out⟩⟩
    case round =>
      obtain ⟨k, sl, hk, rfl, HR⟩ := hrel
      clear HRP6 HROW
      obtain ⟨sa, sc, rfl⟩ := own_shape HR.out.1.lo
      by_cases hlt : k < ss.length
      · have hx : ss[k]? = some ss[k] := List.getElem?_eq_getElem hlt
        generalize ss[k] = t at hx
        have hd1 : decide ((k : Int) < (ss.length : Int)) = true := decide_eq_true (by omega)
        obtain ⟨gn, cn, en, -, hgn, -, hcn⟩ := own_at (f := txV) (m := 3) tx_len HR.out.2 hx
        injection en with en1 en2 en3
        subst en1
        subst en3
        clear en2
        have n0 : wr.cell? ⟨gn, k * 3, none⟩ = some (.int .i64 t.cl) := hcn 0 _ (by decide) rfl
        have n1 : wr.cell? ⟨gn, k * 3 + 1, none⟩ = some (.int .i64 t.ep) := hcn 1 _ (by decide) rfl
        have n2 : wr.cell? ⟨gn, k * 3 + 2, none⟩ = some (.int .i64 t.n) := hcn 2 _ (by decide) rfl
        obtain ⟨cr, hcr⟩ : ∃ cr, T.tx t = some cr := by
          have := (HM.out t).1 (List.mem_of_getElem? hx)
          cases e : T.tx t with
          | none => exact absurd e this
          | some c => exact ⟨c, rfl⟩
        have hsm := HR.out.1.ta.mt.dom t (by rw [hcr]; simp)
        have HTL := Lib.hid (take_lose (T := T) hx)
        have HLO := Lib.hid (show loseO T t = if cr.fin = true then none else some (t, cr.last) by unfold loseO; rw [hcr])
        have HA1 := Lib.hid (HR.out.1.below (Ent.below_box wr (.cells #[.int .i64 t.cl, .int .i64 t.ep, .int .i64 t.n] 56)))
        have HX1 := Lib.hid (Blk.new wr 56 #[.int .i64 t.cl, .int .i64 t.ep, .int .i64 t.n])
        have HN1 := Lib.hid (own_below HR.out.2 (Ent.below_box wr (.cells #[.int .i64 t.cl, .int .i64 t.ep, .int .i64 t.n] 56)))
        have hs1 : wr.heap.size < (wr.alloc (.cells #[.int .i64 t.cl, .int .i64 t.ep, .int .i64 t.n] 56)).heap.size := by simp
        clear hx hcn HR
        go_upto_region 8 with (fail)
        generalize wr.alloc (.cells #[.int .i64 t.cl, .int .i64 t.ep, .int .i64 t.n] 56) = W1 at HA1 HX1 HN1 hs1 ⊢
        generalize wr.heap.size = gt at HX1 hs1 ⊢
        clear n0 n1 n2
        obtain ⟨t0, t1, t2, -, -, -⟩ := HA1.out.ta.cells
        obtain ⟨x0, x1, x2⟩ := tx_cells HX1.out
        have l1 := HA1.out.ta.look hsm
        rw [hcr] at l1
        simp only [Option.getD_some] at l1
        have HA2 := Lib.hid (HA1.out.below (Ent.below_box W1 (.cells #[.int .i64 cr.beg, .int .i64 cr.last, .bool cr.com, .bool cr.fin] 153)))
        have HC2 := Lib.hid (Blk.new W1 153 #[.int .i64 cr.beg, .int .i64 cr.last, .bool cr.com, .bool cr.fin])
        have HX2 := Lib.hid (HX1.out.alloc (.cells #[.int .i64 cr.beg, .int .i64 cr.last, .bool cr.com, .bool cr.fin] 153))
        have HN2 := Lib.hid (own_below HN1.out (Ent.below_box W1 (.cells #[.int .i64 cr.beg, .int .i64 cr.last, .bool cr.com, .bool cr.fin] 153)))
        clear hcr HA1 HN1
        go_upto_region 9 with (fail)
        have hs2 : W1.heap.size < (W1.alloc (.cells #[.int .i64 cr.beg, .int .i64 cr.last, .bool cr.com, .bool cr.fin] 153)).heap.size := by simp
        generalize W1.alloc (.cells #[.int .i64 cr.beg, .int .i64 cr.last, .bool cr.com, .bool cr.fin] 153) = W2 at HA2 HC2 HX2 HN2 hs2 ⊢
        generalize W1.heap.size = gc at HC2 hs2 ⊢
        clear t0 t1 t2 x0 x1 x2 l1 HX1 hs1
        have q1 := HC2.out.cell 1
        have q3 := HC2.out.cell 3
        obtain ⟨cb, cl, cm, cf⟩ := cr
        dsimp only at q1 q3 HLO
        cases cf with
        | true =>
          have HTK := Lib.hid (show (ss.take (k + 1)).filterMap (loseO T) = (ss.take k).filterMap (loseO T) by rw [HTL.out, HLO.out]; rfl)
          have H2 := Lib.hid (And.intro HA2.out HN2.out)
          clear HA2 HN2 HX2 HC2 hs2 HTL HLO
          go_wp2
          go_roundw
          case rel => exact ⟨k + 1, _, by omega, by go_num, by rw [HTK.out]; exact H2⟩
          case measure => simp [intN]; omega
        | false =>
          have HTK := Lib.hid (show (ss.take (k + 1)).filterMap (loseO T) = (ss.take k).filterMap (loseO T) ++ [(t, cl)] by rw [HTL.out, HLO.out]; rfl)
          have hlen := lose_len (T := T) ss k
          generalize (ss.take k).filterMap (loseO T) = O at HA2 HTK hlen
          obtain ⟨x0, x1, x2⟩ := tx_cells HX2.out
          have v0 := HA2.out.ub.cell 0
          have hBs := HA2.out.size
          clear HTL HLO
          go_wp2_with (at_builtin; refine wpList_appL rfl _ _ rfl w1.heap.size _ O rfl (t, cl) (own_below HA2.out.lo (Ent.below_box _ _)) W2.heap.size rfl (Blk.new W2 _ _) (by omega) (by simp; omega) ?_)
          intro v6 w6 hA6
          obtain ⟨O2, hO2⟩ : ∃ O2, O ++ [(t, cl)] = O2 := ⟨_, rfl⟩
          have hl2 : O.length + 1 = O2.length := by rw [← hO2]; simp
          rw [hl2, hO2] at hA6
          rw [hO2] at HTK
          clear hl2 hO2
          have H6 := Lib.hid (show RP w (w6.setCell ⟨u, 0, none⟩ v6) w1.heap.size w.heap.size g5 u m1 m2 (2 * L.length) (.slice da T.dn.length dc) v6 (.slice none 0 0) T O2 [] ∧ (w6.setCell ⟨u, 0, none⟩ v6).ownsRow B1 56 3 (.slice (some ⟨gn, 0, none⟩) ss.length nc) ss.length (cellsG txV ss) from by
            have hb3 := Ent.below_box W2 (.cells #[.int .i64 t.cl, .int .i64 t.ep, .int .i64 t.n, .int .i64 cl] 123)
            have h3 := HA2.out.below hb3
            exact ⟨h3.addLo HNE.out hA6, row_stays (own_below HN2.out hb3) h3.lo (by decide) hA6 h3.ub (by decide) (by decide)⟩)
          have HUB := Lib.hid (show Blk w6 u 120 #[.slice sa O.length sc, .slice da T.dn.length dc, .slice none 0 0] from by
            have hb3 := Ent.below_box W2 (.cells #[.int .i64 t.cl, .int .i64 t.ep, .int .i64 t.n, .int .i64 cl] 123)
            have h3 := HA2.out.below hb3
            exact h3.ub.grown hA6.2.1 (fun e => own_ty h3.lo h3.ub (by decide) e.symm))
          obtain ⟨va6, vc6, rfl⟩ := own_shape hA6.1
          have u0 := HUB.out.cell 0
          have uf0 := HUB.out.frozen 0
          clear hA6 HUB HA2 HN2 HX2 HC2 hs2 x0 x1 x2 v0 q1 q3 hBs
          go_wp2
          go_roundw
          case rel => exact ⟨k + 1, _, by omega, by go_num, by rw [HTK.out]; exact H6⟩
          case measure => simp [intN]; omega
      · obtain rfl : k = ss.length := by omega
        have hd1 : decide ((ss.length : Int) < (ss.length : Int)) = false := decide_eq_false (by omega)
        have h1 := HR.out.1
        rw [List.take_length, HLS.out] at h1
        have HP1 := Lib.hid h1
        clear h1
        clear HR HLS HM
        obtain ⟨t0, t1, t2, -, -, -⟩ := HP1.out.ta.cells
        have HKP := Lib.hid (keysP_any (some m2) wr)
        have HSP := Lib.hid (sortedP_any HP1.out.ta.mp HMW.out (ks := V.pg.map (·.1)) HPR.out (fun p => (HPM.out p).trans (not_congr Option.map_eq_none_iff).symm))
        have HPB := Lib.hid (Ent.below_box wr (.cells #[.map (some m2)] 88))
        obtain ⟨sl, hsl⟩ : ∃ sl, Value.slice sa V.los.length sc = sl := ⟨_, rfl⟩
        rw [hsl] at HP1
        clear hsl HPR HPM
        go_wp2_with fail
        refine HKP.out.mono ?_
        rintro e w5 ⟨rfl, rfl⟩
        go_wp2_with fail
        refine HSP.out.mono ?_
        rintro e w6 ⟨nv, rfl, hrow, b6⟩
        have HP6 := Lib.hid ((HP1.out.below HPB.out).below b6)
        rw [kvV_cells, List.length_map] at hrow
        obtain ⟨na2, nc2, rfl⟩ := own_shape hrow
        have HROW := Lib.hid hrow
        obtain ⟨B2, hB2⟩ : ∃ B2, (wr.alloc (.cells #[.map (some m2)] 88)).heap.size = B2 := ⟨_, rfl⟩
        rw [hB2] at HROW
        clear hB2 hrow b6 HPB HSP HKP HP1 t0 t1 t2
        go_wp2_with fail
        go_loopw [52] (fun i wr => ∃ (k : Nat) (pg : Value), k ≤ V.pg.length ∧ i = .int .i64 (k : Int) ∧ Hid (RP w wr w1.heap.size w.heap.size g5 u m1 m2 (2 * L.length) (.slice da T.dn.length dc) sl pg T V.los (V.pg.take k) ∧ wr.ownsRow B2 3 1 (.slice na2 V.pg.length nc2) V.pg.length (cellsG kvV V.pg))) (fun i _ => V.pg.length - intN i)
        case atStart => exact ⟨0, _, Nat.zero_le _, rfl, Lib.hid ⟨by rw [List.take_zero]; exact HP6.out, HROW.out⟩⟩
        case round =>
          obtain ⟨k, pg, hk, rfl, HR⟩ := hrel
          clear HP6 HROW
          obtain ⟨pa, pc, rfl⟩ := own_shape HR.out.1.fi
          by_cases hlt : k < V.pg.length
          · have hx : V.pg[k]? = some V.pg[k] := List.getElem?_eq_getElem hlt
            have hmem : V.pg[k] ∈ V.pg := List.getElem_mem hlt
            generalize V.pg[k] = y at hx hmem
            have hd1 : decide ((k : Int) < (V.pg.length : Int)) = true := decide_eq_true (by omega)
            obtain ⟨kk, hk1, hk2, hk3, hk4⟩ := HPV.out y hmem
            obtain ⟨gn, cn, en, -, hgn, -, hcn⟩ := own_at (f := kvV) (m := 1) (fun _ => rfl) HR.out.2 hx
            injection en with en1 en2 en3
            subst en1
            subst en3
            clear en2
            have n0 : wr.cell? ⟨gn, k, none⟩ = some (.int .i64 y.1) := by have := hcn 0 _ (by decide) rfl; rw [Nat.mul_one, Nat.add_zero] at this; exact this
            have hTK : V.pg.take (k + 1) = V.pg.take k ++ [y] := by rw [List.take_add_one, hx]; rfl
            obtain ⟨p, q⟩ := y
            dsimp only at hk1 hk2 n0
            subst hk2
            have hsm := HR.out.1.ta.mp.dom p (by rw [hk1]; simp)
            have l1 := HR.out.1.ta.lookP hsm
            rw [hk1] at l1
            simp only [Option.getD_some] at l1
            have hw1 : IntKind.i64.wrap (first + kk) = first + kk := by rw [IntKind.wrap_i64]; omega
            obtain ⟨t0, t1, t2, -, -, -⟩ := HR.out.1.ta.cells
            have v2 := HR.out.1.ub.cell 2
            have hBs := HR.out.1.size
            have HTK := Lib.hid hTK
            have hpl := HPL.out
            have hlen : (V.pg.take k).length ≤ k := by rw [List.length_take]; omega
            generalize V.pg.take k = O at HR HTK hlen v2
            clear hx hmem hcn hk1 hTK hsm
            go_wp2_with (at_builtin; refine wpList_appF rfl _ _ rfl w1.heap.size _ O rfl (p, first + kk) (own_below HR.out.1.fi (Ent.below_box _ _)) wr.heap.size rfl (Blk.new wr _ _) (by omega) (by simp; omega) ?_)
            intro v6 w6 hA6
            obtain ⟨O2, hO2⟩ : ∃ O2, O ++ [(p, first + kk)] = O2 := ⟨_, rfl⟩
            have hl2 : O.length + 1 = O2.length := by rw [← hO2]; simp
            rw [hl2, hO2] at hA6
            rw [hO2] at HTK
            clear hl2 hO2
            have H6 := Lib.hid (show RP w (w6.setCell ⟨u, 2, none⟩ v6) w1.heap.size w.heap.size g5 u m1 m2 (2 * L.length) (.slice da T.dn.length dc) sl v6 T V.los O2 ∧ (w6.setCell ⟨u, 2, none⟩ v6).ownsRow B2 3 1 (.slice (some ⟨gn, 0, none⟩) V.pg.length nc2) V.pg.length (cellsG kvV V.pg) from by
              have hb3 := Ent.below_box wr (.cells #[.int .i64 p, .int .i64 (first + kk)] 157)
              have h3 := HR.out.1.below hb3
              exact ⟨h3.addPg HNE.out hA6, row_stays (own_below HR.out.2 hb3) h3.fi (by decide) hA6 h3.ub (by decide) (by decide)⟩)
            have HUB := Lib.hid (show Blk w6 u 120 #[sl, .slice da T.dn.length dc, .slice pa O.length pc] from by
              have hb3 := Ent.below_box wr (.cells #[.int .i64 p, .int .i64 (first + kk)] 157)
              have h3 := HR.out.1.below hb3
              exact h3.ub.grown hA6.2.1 (fun e => own_ty h3.fi h3.ub (by decide) e.symm))
            obtain ⟨va6, vc6, rfl⟩ := own_shape hA6.1
            have u0 := HUB.out.cell 2
            have uf0 := HUB.out.frozen 2
            clear hA6 HUB HR t0 t1 t2 v2 n0 l1 hBs
            go_wp2
            go_roundw
            case rel => exact ⟨k + 1, _, by omega, by go_num, by rw [HTK.out]; exact H6⟩
            case measure => simp [intN]; omega
          · obtain rfl : k = V.pg.length := by omega
            have hd1 : decide ((V.pg.length : Int) < (V.pg.length : Int)) = false := decide_eq_false (by omega)
            have h1 := HR.out.1
            rw [List.take_length] at h1
            obtain ⟨sa2, sc2, rfl⟩ := own_shape h1.lo
            have u0 := h1.ub.cell 0
            have u1 := h1.ub.cell 1
            have u2 := h1.ub.cell 2
            have r0 := h1.rb.cell 0
            have r1 := h1.rb.cell 1
            have r2 := h1.rb.cell 2
            have g0 := h1.rb.frozen 0
            have g1 := h1.rb.frozen 1
            have g2 := h1.rb.frozen 2
            have hk1 := ((h1.rb.set_ 0 (.slice sa2 V.los.length sc2)).set_ 1 (.slice da T.dn.length dc)).set_ 2 (.slice pa V.pg.length pc)
            have k0 := hk1.cell 0
            have k1 := hk1.cell 1
            have k2 := hk1.cell 2
            have HF := Lib.hid (show Rows3 (((wr.setCell ⟨w.heap.size, 0, none⟩ (.slice sa2 V.los.length sc2)).setCell ⟨w.heap.size, 1, none⟩ (.slice da T.dn.length dc)).setCell ⟨w.heap.size, 2, none⟩ (.slice pa V.pg.length pc)) w.heap.size (.slice sa2 V.los.length sc2) (.slice da T.dn.length dc) (.slice pa V.pg.length pc) V ∧
                Below w.heap.size w (((wr.setCell ⟨w.heap.size, 0, none⟩ (.slice sa2 V.los.length sc2)).setCell ⟨w.heap.size, 1, none⟩ (.slice da T.dn.length dc)).setCell ⟨w.heap.size, 2, none⟩ (.slice pa V.pg.length pc)) from by
              have hB := h1.old
              have a1 := own_base h1.lo (show w.heap.size ≤ w1.heap.size by omega)
              have a2 := own_base h1.ta.row (show w.heap.size ≤ w1.heap.size by omega)
              have a3 := own_base h1.fi (show w.heap.size ≤ w1.heap.size by omega)
              have b1 := own_ty h1.lo h1.rb (by decide)
              have b2 := own_ty h1.ta.row h1.rb (by decide)
              have b3 := own_ty h1.fi h1.rb (by decide)
              have hr : Rows3 wr w.heap.size (.slice sa2 V.los.length sc2) (.slice da T.dn.length dc) (.slice pa V.pg.length pc) V :=
                { lo := a1, tx := by rw [← HDN.out]; exact a2, fi := a3, d1 := own_own a1 a2 (by decide), d2 := own_own a1 a3 (by decide), d3 := own_own a2 a3 (by decide) }
              exact ⟨{ lo := own_set (own_set (own_set hr.lo b1 _ _) b1 _ _) b1 _ _, tx := own_set (own_set (own_set hr.tx b2 _ _) b2 _ _) b2 _ _, fi := own_set (own_set (own_set hr.fi b3 _ _) b3 _ _) b3 _ _, d1 := hr.d1, d2 := hr.d2, d3 := hr.d3 },
                ((h1.bel.setCell (p := ⟨w.heap.size, 0, none⟩) (Nat.le_refl _) _).setCell (p := ⟨w.heap.size, 1, none⟩) (Nat.le_refl _) _).setCell (p := ⟨w.heap.size, 2, none⟩) (Nat.le_refl _) _⟩)
            clear hk1 h1 HR HPV HDN HLO HE
            go_wp2
            refine bodyPost_ret (v := .agg #[.slice sa2 V.los.length sc2, .slice da T.dn.length dc, .slice pa V.pg.length pc]) ?_ rfl ?_
            · simp [results, Tryz.results47, go_sem, k0, k1, k2]
            · exact ⟨_, _, _, rfl, by rw [HVE.out]; exact HF.out.1, HF.out.2⟩
end Go.Proofs.YtkeocnhndnbamaaGreat.Past
namespace Go.Proofs.YtkeocnhndnbamaaGreat.Mend
set_option maxRecDepth 100000
open Go.RowKit Go.Sort Go.Maps
open Go.Proofs.YtkeocnhndnbamaaGreat.Mem
open Go.Proofs.YtkeocnhndnbamaaGreat.Slab (Slot Slots)
open Go.Proofs.YtkeocnhndnbamaaGreat.Ent (Ent goodB Ents EntAt SmallE entA cellsE noE)
open Go.Proofs.YtkeocnhndnbamaaGreat.Past (T3 txE SmT AppRes cellsG cellsG_snoc readV run_appW step_known Rows3)
open Go.Proofs.YtkeocnhndnbamaaGreat.Latch (MapN Sm sm_of)
theorem step_lf {ops : Array Oper} {o : Oper} {a : Act} {w wr : World} {K : Act → World → Prop} {Q : Exit → Act → World → Prop} {E : Prop} (hg : o.guard = none) (s x : Operand)
    (hop : o.op = .call { callee := .builtin .append, args := #[s, x], argTypes := #[30, 30] }) (B : Nat)
    (v : Value) (R : List Ro) (hs : a.eval s = v) (vb : Nat) (y : Ro) (hx : a.eval x = .slice (some ⟨vb, 0, none⟩) 1 1) (hP : Below wr.heap.size wr w ∧ Blk w vb 54 #[.int .i64 y.x.n, .int .i64 y.x.l, .slice y.a y.n y.c])
    (hown : wr.ownsRow B 54 3 v R.length (cellsG lrV R)) (hB : B ≤ wr.heap.size) (hn : R.length ≤ 900000)
    (hK : ∀ v' w', Below wr.heap.size wr w → AppRes w w' B 54 3 v v' (R.length + 1) (cellsG lrV (R ++ [y])) → K (a.put o.dst v') w') :
    if Region.wanted o (yielded ops a.tmps) = true then Oper.wp Tryz.prog o a w K Q else E := by
  obtain ⟨v', w', hr, h2⟩ := run_appW (ty := o.type) Tryz.underlying30 info_lf rfl (by decide) (by decide) (own_below hown hP.1) (some ⟨vb, 0, none⟩) 1 1 (lrV y) (by rfl) (fun _ => ⟨_, rfl, fun j u hj => by
      have h2 : (Addr.mk vb 0 none).add j = ⟨vb, j, none⟩ := by unfold Addr.add; split <;> simp_all
      rw [h2, hP.2.cell, ← Array.getElem?_toList]; exact hj⟩) (fun u hu => by simp [lrV] at hu; rcases hu with rfl | rfl | rfl <;> rfl) (by omega) (Nat.le_trans hB hP.1.size)
  rw [cellsG_snoc] at h2
  exact step_known hg s x 30 30 hop v (.slice (some ⟨vb, 0, none⟩) 1 1) hs hx hr (hK v' w' hP.1 h2)
theorem step_ptrL {W w : World} {ops : Array Oper} {o : Oper} {a : Go.Act} {K : Go.Act → World → Prop} {R : Exit → Go.Act → World → Prop} {E : Prop} (hg : o.guard = none) (s x : Operand)
    (hop : o.op = .call { callee := .builtin .append, args := #[s, x], argTypes := #[89, 89] })
    (B : Nat) (v : Value) (zs : List Nat) (hs : a.eval s = v) (vb : Nat) (p : Nat) (hx : a.eval x = .slice (some ⟨vb, 0, none⟩) 1 1) (hP : Below W.heap.size W w ∧ Blk w vb 124 #[ptrV p])
    (hown : W.ownsRow B 124 1 v zs.length (zs.map ptrV)) (hn : zs.length ≤ 900000) (hB : B ≤ W.heap.size)
    (hK : ∀ v' w', Below W.heap.size W w → AppRes w w' B 124 1 v v' (zs.length + 1) ((zs ++ [p]).map ptrV) → K (a.put o.dst v') w') :
    if Region.wanted o (yielded ops a.tmps) = true then Oper.wp Tryz.prog o a w K R else E := by
  have hown2 : w.ownsRow B 124 1 v zs.length (zs.map ptrV) := own_same hown fun g hg => hP.1.block g (own_lt hown hg)
  obtain ⟨v', w', hr, h2⟩ := Past.run_appW (ty := o.type) (z := .pointer none) Tryz.underlying89 info_p rfl (by decide) (by decide) hown2 (some ⟨vb, 0, none⟩) 1 1 [ptrV p] rfl (fun _ => ⟨_, rfl, fun j u hj => by
      rw [Addr.add_lit, Nat.zero_add, hP.2.cell, ← Array.getElem?_toList]; exact hj⟩) (fun u hu => by simp at hu; subst hu; rfl) (by omega) (Nat.le_trans hB hP.1.size)
  refine step_known hg s x 89 89 hop v (.slice (some ⟨vb, 0, none⟩) 1 1) hs hx hr (hK v' w' hP.1 ?_)
  rw [List.map_append]; exact h2
/-- the pages so far -/
structure B1 (w2 W : World) (u : Nat) (D : WD) (v : Value) (P : List Ro) : Prop where
  keep : Keep (fun k => k < w2.heap.size ∧ k ≠ u) w2 W
  blk : Blk W u 92 (workA { D with pv := v })
  row : RD w2 W v P
  old : ∀ y ∈ P, y.n ≤ 1000000 ∧ ∀ b off e, y.a = some ⟨b, off, e⟩ → 0 < y.n → w2.heap.size ≤ b ∧ b < W.heap.size
section
variable {w2 W W' : World} {u : Nat} {D : WD} {v : Value} {P : List Ro}
theorem B1.below (h : B1 w2 W u D v P) (hb : Below W.heap.size W W') : B1 w2 W' u D v P :=
  ⟨h.keep.trans (Keep.of_below hb fun _ hk => Nat.lt_of_lt_of_le hk.1 h.keep.size), h.blk.below hb h.blk.lt, h.row.below hb, fun y hy => ⟨(h.old y hy).1, fun b off e ha h0 => ⟨((h.old y hy).2 b off e ha h0).1, Nat.lt_of_lt_of_le ((h.old y hy).2 b off e ha h0).2 hb.size⟩⟩⟩
theorem B1.add (h : B1 w2 W u D v P) (hu : u < w2.heap.size) {x : Lf} {a : Option Addr} {n c : Nat} {W4 W5 : World} (hb : Below W.heap.size W W4) (hs : Slots W4 a n x.z) (hn : n ≤ 1000000) (hx : -9223372036854775808 ≤ x.n ∧ x.n ≤ 9223372036854775807)
    (hf : ∀ b off e, a = some ⟨b, off, e⟩ → W.heap.size ≤ b) {v' : Value} (hA : AppRes W4 W5 w2.heap.size 54 3 v v' (P.length + 1) (cellsG lrV (P ++ [⟨x, a, n, c⟩]))) :
    (W5.cell? ⟨u, 3, none⟩ = some v ∧ W5.frozen? ⟨u, 3, none⟩ = false) ∧ B1 w2 (W5.setCell ⟨u, 3, none⟩ v') u D v' (P ++ [⟨x, a, n, c⟩]) := by
  have h4 := h.below hb
  have hvg : ∀ g, v.ownBlock = some g → g < W.heap.size ∧ w2.heap.size ≤ g := fun g hg => ⟨own_lt h.row.row hg, Past.own_ge h.row.row hg⟩
  have hblt : ∀ b off e, a = some ⟨b, off, e⟩ → 0 < n → b < W4.heap.size := fun b off e ha h0 => by
    obtain ⟨b', off', ha', hlt, -⟩ := hs.2.2 h0
    rw [ha] at ha'
    cases ha'
    exact hlt
  have hsz := h.keep.size
  have h5 : RD w2 W5 v' (P ++ [⟨x, a, n, c⟩]) := h4.row.add hA hs (by unfold maxLen; show n ≤ _; omega) hx (fun b off e ha h0 => ⟨fun e2 => by have := (hvg b e2).1; have := hf b off e ha; omega, hblt b off e ha h0⟩) fun z hz b off e ha h0 => ((h4.old z hz).2 b off e ha h0).2
  have hug : some u ≠ v.ownBlock := fun e => by have := (hvg u e.symm).2; omega
  have hu5 : Blk W5 u 92 (workA { D with pv := v }) := h4.blk.grown hA.2.1 hug
  have hvu : v'.ownBlock ≠ some u := fun e => by have := Past.own_ge hA.1 e; omega
  have hold : ∀ y ∈ P ++ [(⟨x, a, n, c⟩ : Ro)], y.n ≤ 1000000 ∧ ∀ b off e, y.a = some ⟨b, off, e⟩ → 0 < y.n → w2.heap.size ≤ b ∧ b < W5.heap.size := fun y hy => by
    have hg := hA.2.1.size
    rcases List.mem_append.1 hy with hy | hy
    · exact ⟨(h4.old y hy).1, fun b off e ha h0 => by have := (h4.old y hy).2 b off e ha h0; omega⟩
    · have e : y = ⟨x, a, n, c⟩ := by simpa using hy
      subst e
      exact ⟨hn, fun b off e ha h0 => by have := hf b off e ha; have := hblt b off e ha h0; omega⟩
  refine ⟨⟨hu5.cell 3, hu5.frozen 3⟩, ?_, hu5.set_ 3 v', ⟨own_set h5.row hvu 3 v', fun y hy => ?_⟩, fun y hy => ?_⟩
  · exact (h4.keep.grown hA.2.1 (fun k _ => by have := h4.keep.size; omega) fun k hk _ => by have := (hvg k hk).2; omega).set_ (fun hm => hm.2 rfl) 3 v'
  · obtain ⟨y1, y2, y3, y4⟩ := h5.sl y hy
    refine ⟨slots_same y1 (by simp) fun b off e ha h0 => ?_, y2, y3, y4⟩
    have := ((hold y hy).2 b off e ha h0).1
    exact Below.heap_setCell W5 ⟨u, 3, none⟩ v' b (fun e2 => by have e2 : b = u := e2; omega)
  · exact ⟨(hold y hy).1, fun b off e ha h0 => by have := (hold y hy).2 b off e ha h0; simpa using this⟩
end
/-- the losers so far -/
structure B2 (w8 W : World) (u : Nat) (D : WD) (lv : Value) (Z : List LZ) : Prop where
  keep : Keep (fun k => k < w8.heap.size ∧ k ≠ u) w8 W
  blk : Blk W u 92 (workA { D with lv := lv })
  lo : W.ownsRow w8.heap.size 124 1 lv (bsOf Z).length ((bsOf Z).map ptrV)
  lz : ∀ z ∈ Z, Blk W z.b 126 (loserA z) ∧ w8.heap.size ≤ z.b
  zn : (bsOf Z).Nodup
section
variable {w8 W W' : World} {u : Nat} {D : WD} {lv : Value} {Z : List LZ}
theorem B2.below (h : B2 w8 W u D lv Z) (hb : Below W.heap.size W W') : B2 w8 W' u D lv Z :=
  ⟨h.keep.trans (Keep.of_below hb fun _ hk => Nat.lt_of_lt_of_le hk.1 h.keep.size), h.blk.below hb h.blk.lt, own_below h.lo hb, fun z hz => ⟨(h.lz z hz).1.below hb (h.lz z hz).1.lt, (h.lz z hz).2⟩, h.zn⟩
theorem B2.add (h : B2 w8 W u D lv Z) (hu : u < w8.heap.size) {z : LZ} {W4 W5 : World} (hb : Below W.heap.size W W4) (hz : Blk W4 z.b 126 (loserA z)) (hzb : W.heap.size ≤ z.b) {lv' : Value}
    (hA : AppRes W4 W5 w8.heap.size 124 1 lv lv' ((bsOf Z).length + 1) ((bsOf Z ++ [z.b]).map ptrV)) :
    (W5.cell? ⟨u, 5, none⟩ = some lv ∧ W5.frozen? ⟨u, 5, none⟩ = false) ∧ B2 w8 (W5.setCell ⟨u, 5, none⟩ lv') u D lv' (Z ++ [z]) := by
  have h4 := h.below hb
  have hvg : ∀ g, lv.ownBlock = some g → w8.heap.size ≤ g := fun g hg => Past.own_ge h.lo hg
  have hsz := h.keep.size
  have hug : some u ≠ lv.ownBlock := fun e => by have := hvg u e.symm; omega
  have hu5 : Blk W5 u 92 (workA { D with lv := lv }) := h4.blk.grown hA.2.1 hug
  have hvu : lv'.ownBlock ≠ some u := fun e => by have := Past.own_ge hA.1 e; omega
  have hbs : bsOf (Z ++ [z]) = bsOf Z ++ [z.b] := by simp [bsOf]
  refine ⟨⟨hu5.cell 5, hu5.frozen 5⟩, ?_, hu5.set_ 5 lv', ?_, fun y hy => ?_, ?_⟩
  · exact (h4.keep.grown hA.2.1 (fun k hk => by have := h4.keep.size; omega) fun k hk hm => by have := hvg k hk; omega).set_ (fun hm => hm.2 rfl) 5 lv'
  · rw [hbs, List.length_append, List.length_singleton]
    exact own_set hA.1 hvu 5 lv'
  · have hy4 : Blk W4 y.b 126 (loserA y) ∧ w8.heap.size ≤ y.b := by
      rcases List.mem_append.1 hy with hy | hy
      · exact h4.lz y hy
      · have e : y = z := by simpa using hy
        rw [e]; exact ⟨hz, by omega⟩
    refine ⟨(hy4.1.grown hA.2.1 fun e => own_ty h4.lo hy4.1 (by decide) e.symm).far (p := ⟨u, 5, none⟩) (fun e => ?_) lv', hy4.2⟩
    have e : y.b = u := e
    have := hy4.2
    omega
  · rw [hbs, List.nodup_append]
    refine ⟨h.zn, by simp, fun b hb1 b2 hb2 e => ?_⟩
    have e2 : b2 = z.b := by simpa using hb2
    obtain ⟨y, hy, rfl⟩ := List.mem_map.1 hb1
    have := (h.lz y hy).1.lt
    omega
end
def los (cl : Int) (V : List (T3 × Int)) : List (T3 × Int) := V.filter fun y => decide (cl = 0) || decide (y.1.cl = cl)
def BegRes (L : List Ent) (ls : List Lf) (cl : Int) (w : World) (e : Ending) (w' : World) : Prop :=
  ∃ u M D P Z, e = .returned (.pointer (some ⟨u, 0, none⟩)) ∧ WM w' w.heap.size u M D L ls P Z [] [] ∧ Below w.heap.size w w' ∧ P.map (·.x) = ls ∧ Z.map (fun z => (z.t, z.last)) = los cl (readV L 1).los
/-- the end: all of it -/
theorem beg_end {w w2 w8 W : World} {u : Nat} {D : WD} {L : List Ent} {ls : List Lf} {P : List Ro} {Z : List LZ} {lv : Value} (hL : Ents w D.a D.n L) (h0 : Below w.heap.size w w2) (hu : w.heap.size ≤ u ∧ u < w2.heap.size)
    (ht : TR w2 w.heap.size D.ml D.mf D.n L) (hp : MapN w2 D.mp ls.length (plF ls)) (hne : D.ml ≠ u ∧ D.mf ≠ u ∧ D.mp ≠ u)
    (h1 : B1 w2 w8 u D D.pv P) (hq : D.qv = .slice none 0 0) (ha : D.av = .slice none 0 0) (h2 : B2 w8 W u D lv Z) :
    ∃ M, WM W w.heap.size u M { D with lv := lv } L ls P Z [] [] ∧ Below w.heap.size w W := by
  have s1 := h1.keep.size
  have s2 := h2.keep.size
  have s0 := h0.size
  have hw2 : ∀ k, k < w2.heap.size → k ≠ u → W.heap[k]? = w2.heap[k]? := fun k hk hne => (h2.keep.block k ⟨by omega, hne⟩).trans (h1.keep.block k ⟨hk, hne⟩)
  have hbel : Below w.heap.size w W := ⟨h2.keep.os.trans (h1.keep.os.trans h0.os), h2.keep.tape.trans (h1.keep.tape.trans h0.tape), h2.keep.output.trans (h1.keep.output.trans h0.output), by omega, fun k hk => (hw2 k (by omega) (by omega)).trans (h0.block k hk)⟩
  have hlvg : ∀ g, lv.ownBlock = some g → w8.heap.size ≤ g := fun g hg => Past.own_ge h2.lo hg
  have hpvg : ∀ g, D.pv.ownBlock = some g → w2.heap.size ≤ g ∧ g < w8.heap.size := fun g hg => ⟨Past.own_ge h1.row.row hg, own_lt h1.row.row hg⟩
  have hml := ht.mt.lt
  have hmf := ht.mp.lt
  have hmp := hp.lt
  have hMs : ∀ k, k < w2.heap.size → k ≠ u → (k < w8.heap.size ∧ k ≠ u ∧ D.pv.ownBlock ≠ some k) := fun k hk hne => ⟨by omega, hne, fun e => by have := (hpvg k e).1; omega⟩
  refine ⟨fun k => (k < w8.heap.size ∧ k ≠ u ∧ D.pv.ownBlock ≠ some k) ∨ lv.ownBlock = some k, ⟨⟨?_, ?_, ⟨.inl (hMs _ hml hne.1), .inl (hMs _ hmf hne.2.1), .inl (hMs _ hmp hne.2.2), fun b off e ha2 hn => ?_⟩, ⟨ls.length, hp.same (hw2 _ hmp hne.2.2)⟩, Past.own_base h2.lo (by omega), fun g hg => .inr hg, fun k hk => ?_⟩, ?_, hu.1, ?_, ?_, fun y hy => ?_, ?_, fun z hz => ?_, h2.zn, ?_, ?_, fun q hq => (nomatch hq), ?_, ?_⟩, hbel⟩
  · exact ht.same (hw2 _ hml hne.1) (hw2 _ hmf hne.2.1)
  · exact hL.next hbel
  · obtain ⟨b', off', ha', hlt, -⟩ := hL.2.2 hn
    have ha2 : D.a = some ⟨b, off, e⟩ := ha2
    rw [ha2] at ha'
    cases ha'
    exact .inl (hMs b (by omega) (by omega))
  · rcases hk with hk | hk
    · omega
    · exact own_lt h2.lo hk
  · have := h2.blk
    exact this
  · rintro (hm | hm)
    · exact hm.2.1 rfl
    · have := hlvg u hm; omega
  · refine Past.own_base (own_same h1.row.row fun g hg => h2.keep.block g ⟨(hpvg g hg).2, by have := (hpvg g hg).1; omega⟩) (by omega)
  · obtain ⟨y1, y2, y3, y4⟩ := h1.row.sl y hy
    have ho := h1.old y hy
    refine ⟨slots_same y1 s2 fun b off e ha2 hn => h2.keep.block b ⟨(ho.2 b off e ha2 hn).2, by have := (ho.2 b off e ha2 hn).1; omega⟩, ho.1, fun b off e ha2 hn => .inl ⟨(ho.2 b off e ha2 hn).2, by have := (ho.2 b off e ha2 hn).1; omega, y4 b off e ha2 hn⟩⟩
  · rintro g hg (hm | hm)
    · exact hm.2.2 hg
    · have := hlvg g hm; have := (hpvg g hg).2; omega
  · obtain ⟨z1, z2⟩ := h2.lz z hz
    refine ⟨z1, by omega, ?_⟩
    rintro (hm | hm)
    · omega
    · exact own_ty h2.lo z1 (by decide) hm
  · show W.ownsRow _ _ 1 D.qv 0 []
    rw [hq]; exact own_nil _ _ _ _
  · intro g hg
    have hg : D.qv.ownBlock = some g := hg
    rw [hq] at hg; cases hg
  · show W.ownsRow _ _ 13 D.av 0 []
    rw [ha]; exact own_nil _ _ _ _
  · intro g hg
    have hg : D.av.ownBlock = some g := hg
    rw [ha] at hg; cases hg
end Go.Proofs.YtkeocnhndnbamaaGreat.Mend
