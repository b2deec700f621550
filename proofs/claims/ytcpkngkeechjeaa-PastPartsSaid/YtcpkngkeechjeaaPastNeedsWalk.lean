/- The walk of the statement PastNeeds. -/
import Derived.Test.YtcpkngkeechjeaaPastGreat
import Derived.Test.YtcpkngkeechjeaaPastLaws
import Derived.Test.YtcpkngkeechjeaaPastIns
import Derived.Test.YtcpkngkeechjeaaEntCut
import Derived.Test.YtcpkngkeechjeaaArr
namespace Go.Proofs.Ytcpkngkeechjeaa.Past
set_option maxRecDepth 100000
open Go.RowKit Go.Sort
open Go.Proofs.Ytcpkngkeechjeaa.Mem
open Go.Proofs.Ytcpkngkeechjeaa.Ent (Ent goodB Ents EntAt SmallE noE entA cellsE)
theorem sub_step {α : Type} [DecidableEq α] {w v : α} {W V : List α} (h : (v :: V).Sublist (w :: W)) : (w = v → V.Sublist W) ∧ (w ≠ v → (v :: V).Sublist W) := by
  constructor
  · intro _
    cases h with
    | cons _ h => exact List.sublist_of_cons_sublist h
    | cons_cons _ h => exact h
  · intro e
    cases h with
    | cons _ h => exact h
    | cons_cons _ h => exact absurd rfl e
/-- a view in a variable -/
structure VB (w : World) (u : Nat) (sl dn pg : Value) (V : Vw) : Prop where
  blk : Blk w u 37 #[sl, dn, pg]
  rows : ∃ B, Rows3 w B sl dn pg V
theorem VB.below {w w' : World} {u : Nat} {sl dn pg : Value} {V : Vw} (h : VB w u sl dn pg V) (hb : Below w.heap.size w w') : VB w' u sl dn pg V := by
  obtain ⟨B, hr⟩ := h.rows
  exact ⟨h.blk.below hb h.blk.lt, B, hr.below hb⟩
theorem VB.new {w : World} {B : Nat} {sl dn pg : Value} {V : Vw} (h : Rows3 w B sl dn pg V) : VB (w.alloc (.cells #[sl, dn, pg] 37)) w.heap.size sl dn pg V :=
  ⟨Blk.new w _ _, B, h.below (Ent.below_box _ _)⟩
theorem drewN_below (w : World) (q : Nat) : Below w.heap.size w (w.drewN q) := ⟨rfl, rfl, rfl, Nat.le_refl _, fun _ _ => rfl⟩
set_option maxRecDepth 100000 in
set_option maxHeartbeats 8000000 in
theorem needs_walk (a : Option Addr) (n c : Nat) (L : List Ent) (f0 : Int) (w : World) (h : Ents w a n L) (hc : n ≤ c) (_hf : -9223372036854775808 ≤ f0 ∧ f0 ≤ 9223372036854775807) :
    Calls Try.prog 5 #[.slice a n c, .int .i64 f0] w fun e w' => e = .returned (.bool true) ∧ Below w.heap.size w w' := by
  have HE := Lib.hid h
  have HG := Lib.hid (fun W (h : Ents W a n L) => great_any a n c L W h)
  have HL := Lib.hid h.1
  clear h
  obtain ⟨K, hKe, hK⟩ := cut_of f0 1000 (by omega) (by omega)
  go_enter Try.func5, Try.ntmps5
  go_wp2_with fail
  refine (awake_any _).mono ?_
  rintro e w1 ⟨rfl, b1⟩
  have HB1 := Lib.hid b1
  clear b1
  go_wp2_with fail
  refine (HG.out _ (HE.out.next HB1.out)).mono ?_
  rintro e w2 ⟨G, rfl, hG, rfl⟩
  clear HG
  cases G with
  | true =>
    go_wp2
    go_ret
    exact ⟨rfl, HB1.out⟩
  | false =>
    have hn80 := hG rfl
    clear hG
    have HE1 := Lib.hid (HE.out.next HB1.out)
    obtain ⟨fi, hfi⟩ : ∃ fi : Int, 1 + (K : Int) = fi := ⟨_, rfl⟩
    have hf1 : 1 ≤ fi := by omega
    have hf2 : fi ≤ 1000 := by omega
    have HFI := Lib.hid hfi
    have hw1 : IntKind.i64.wrap (1 + (K : Int)) = 1 + (K : Int) := by rw [IntKind.wrap_i64]; omega
    have hok : okFirst fi = true := by unfold okFirst; simp; omega
    have HNE := Lib.hid (needed_any a n c L fi w2 HE1.out (by omega))
    rw [needV_is, hok, if_pos rfl] at HNE
    have HRD : Hid (∀ W, Below w2.heap.size w2 W → Calls Try.prog 13 #[.slice a n c, .int .i64 fi] W (ViewRes (readN L fi L.length) W)) := Lib.hid fun W hb => by
      have := read_any a n c L fi W (HE1.out.next hb) (by omega)
      unfold readV at this
      rw [hok, if_pos rfl] at this
      exact this
    clear HE hok
    cases hni : needI L with
    | none =>
      rw [hni] at HNE
      have HLS := Lib.hid (need_none (first := fi) hni)
      have hz : needO fi none = 0 := rfl
      rw [hz] at HNE
      clear hni hz
      go_upto_region 6 with (fail)
      clear hfi
      go_wp2_with fail
      refine HNE.out.mono ?_
      rintro e w3 ⟨rfl, b3⟩
      have HB3 := Lib.hid b3
      clear b3 HNE
      go_wp2_with fail
      refine (HRD.out _ HB3.out).mono ?_
      rintro e w4 ⟨sl, dn, pg, rfl, hr, b4⟩
      have HB4 := Lib.hid (below_go (below_go HB1.out HB3.out) b4)
      have hlo := hr.lo
      rw [HLS.out] at hlo
      obtain ⟨sa, sc, rfl⟩ := own_shape hlo
      obtain ⟨da, dc, rfl⟩ := own_shape hr.tx
      obtain ⟨pa, pc, rfl⟩ := own_shape hr.fi
      have HB5 := Lib.hid (below_go HB4.out (Ent.below_box w4 (.cells #[.slice sa 0 sc, .slice da (readN L fi L.length).dn.length dc, .slice pa (readN L fi L.length).pg.length pc] 37)))
      clear hlo hr b4 HRD HLS
      go_wp2
      go_ret
      exact ⟨rfl, HB5.out⟩
    | some i =>
      rw [hni] at HNE
      obtain ⟨hil, hne⟩ := need_some (first := fi) hni
      have HSUB := Lib.hid (fun f2 => needs_sub (first := fi) (first2 := f2) hni)
      have hz : needO fi (some i) = fi + (i : Int) := rfl
      rw [hz] at HNE
      rw [HL.out] at hil
      have HNEL := Lib.hid hne
      clear hni hz hne
      go_upto_region 6 with (fail)
      clear hfi
      go_wp2_with fail
      refine HNE.out.mono ?_
      rintro e w3 ⟨rfl, b3⟩
      have HB3 := Lib.hid b3
      clear b3 HNE
      go_wp2_with fail
      refine (HRD.out _ HB3.out).mono ?_
      rintro e w4 ⟨sl, dn, pg, rfl, hr, b4⟩
      have HB34 := Lib.hid (below_go HB3.out b4)
      have HB4 := Lib.hid (below_go HB1.out HB34.out)
      have hvl : (readN L fi L.length).los.length ≤ 80 := by have := (read_len L fi L.length).1; have := HL.out; omega
      generalize readN L fi L.length = V at hr HNEL HSUB hvl
      obtain ⟨sa, sc, rfl⟩ := own_shape hr.lo
      obtain ⟨da, dc, rfl⟩ := own_shape hr.tx
      obtain ⟨pa, pc, rfl⟩ := own_shape hr.fi
      have hvb := VB.new hr
      have hbx := Ent.below_box w4 (.cells #[.slice sa V.los.length sc, .slice da V.dn.length dc, .slice pa V.pg.length pc] 37)
      have HB5 := Lib.hid (below_go HB4.out hbx)
      have HB25 := Lib.hid (below_go HB34.out hbx)
      have HVB := Lib.hid hvb
      have hn0 : (fi + (i : Int) == 0) = false := by simp; omega
      have hd1 : decide (fi + (i : Int) < fi) = false := decide_eq_false (by omega)
      have hw2 : IntKind.i64.wrap (fi + (i : Int) - fi) = (i : Int) := by rw [IntKind.wrap_i64]; omega
      have hd2 : decide ((i : Int) ≥ (n : Int)) = false := decide_eq_false (by omega)
      have htl := fun W => Patch.run_tail a n c i (by omega) W
      clear hr hvb hbx b4 HRD
      go_upto_region 8 with (fail)
      generalize w4.alloc (.cells #[.slice sa V.los.length sc, .slice da V.dn.length dc, .slice pa V.pg.length pc] 37) = w5 at HB5 HB25 HVB ⊢
      generalize w4.heap.size = u1 at HVB ⊢
      have HRD2 : Hid (Calls Try.prog 13 #[.slice (Patch.tailA a c i) (n - i) (c - i), .int .i64 (fi + (i : Int))] w5 (ViewRes (readN (L.drop i) (fi + (i : Int)) (L.drop i).length) w5)) := by
        have := read_any (Patch.tailA a c i) (n - i) (c - i) (L.drop i) (fi + (i : Int)) w5 (Patch.ents_tail (HE1.out.next HB25.out) (by omega) hc) (by omega)
        unfold readV at this
        rw [show okFirst (fi + (i : Int)) = true from by unfold okFirst; simp; omega, if_pos rfl] at this
        exact Lib.hid this
      go_wp2_with fail
      refine HRD2.out.mono ?_
      rintro e w6 ⟨sl2, dn2, pg2, rfl, hr, b6⟩
      have HS := Lib.hid (HSUB.out (fi + (i : Int)))
      have HV6 := Lib.hid (HVB.out.below b6)
      have HB6 := Lib.hid (below_go HB5.out b6)
      have hul : (readN (L.drop i) (fi + (i : Int)) (L.drop i).length).los.length ≤ 80 := by have := (read_len (L.drop i) (fi + (i : Int)) (L.drop i).length).1; rw [List.length_drop] at this ⊢; have := HL.out; omega
      generalize readN (L.drop i) (fi + (i : Int)) (L.drop i).length = U at hr HS hul
      obtain ⟨sa2, sc2, rfl⟩ := own_shape hr.lo
      obtain ⟨da2, dc2, rfl⟩ := own_shape hr.tx
      obtain ⟨pa2, pc2, rfl⟩ := own_shape hr.fi
      have hbx := Ent.below_box w6 (.cells #[.slice sa2 U.los.length sc2, .slice da2 U.dn.length dc2, .slice pa2 U.pg.length pc2] 37)
      have HU := Lib.hid (VB.new hr)
      have HV7 := Lib.hid (HV6.out.below hbx)
      have HB7 := Lib.hid (below_go HB6.out hbx)
      clear hr b6 hbx HRD2 HVB HV6 HSUB htl hw2 hd1 hd2 hn0
      go_upto_region 13 with (fail)
      generalize w6.alloc (.cells #[.slice sa2 U.los.length sc2, .slice da2 U.dn.length dc2, .slice pa2 U.pg.length pc2] 37) = w7 at HU HV7 HB7 ⊢
      generalize w6.heap.size = u2 at HU ⊢
      have hlen := HS.out.length_le
      have hpos : 0 < V.los.length := by
        have := HNEL.out
        cases e : V.los with
        | nil => exact absurd e this
        | cons _ _ => simp
      have v0 := HV7.out.blk.cell 0
      have z0 := HU.out.blk.cell 0
      have e1 : ((V.los.length : Int) == 0) = false := beq_eq_false_iff_ne.2 (by omega)
      have e2 : decide ((U.los.length : Int) < (V.los.length : Int)) = false := decide_eq_false (by omega)
      clear HB5 HB25 HE1 HB1 HB3 HB34 HB4 HNEL
      go_wp2
      go_loopw [8, 9] (fun kv iv wr => ∃ (k j q : Nat), k ≤ V.los.length ∧ j ≤ U.los.length ∧ kv = .int .i64 (k : Int) ∧ iv = .int .i64 (j : Int) ∧ wr = w7.drewN q ∧ Hid ((V.los.drop k).Sublist (U.los.drop j))) (fun _ iv _ => U.los.length - intN iv)
      case atStart => exact ⟨0, 0, 0, Nat.zero_le _, Nat.zero_le _, rfl, rfl, rfl, Lib.hid (by simpa using HS.out)⟩
      case round =>
        obtain ⟨k, j, q, hk, hj, rfl, rfl, rfl, HSJ⟩ := hrel
        have v0 : (w7.drewN q).cell? ⟨u1, 0, none⟩ = some (.slice sa V.los.length sc) := v0
        have z0 : (w7.drewN q).cell? ⟨u2, 0, none⟩ = some (.slice sa2 U.los.length sc2) := z0
        by_cases hjl : j < U.los.length
        · have f1 : decide ((j : Int) < (U.los.length : Int)) = true := decide_eq_true (by omega)
          by_cases hkl : k < V.los.length
          · have f2 : decide ((k : Int) < (V.los.length : Int)) = true := decide_eq_true (by omega)
            have hy : U.los[j]? = some (U.los[j]'hjl) := List.getElem?_eq_getElem hjl
            have hv : V.los[k]? = some (V.los[k]'hkl) := List.getElem?_eq_getElem hkl
            have hdy : U.los.drop j = U.los[j]'hjl :: U.los.drop (j + 1) := List.drop_eq_getElem_cons hjl
            have hdv : V.los.drop k = V.los[k]'hkl :: V.los.drop (k + 1) := List.drop_eq_getElem_cons hkl
            generalize U.los[j]'hjl = y at hy hdy
            generalize V.los[k]'hkl = v at hv hdv
            have hst := HSJ.out
            rw [hdy, hdv] at hst
            have HST := Lib.hid (sub_step hst)
            have HDV := Lib.hid hdv
            obtain ⟨BU, hru⟩ := HU.out.rows
            obtain ⟨BV, hrv⟩ := HV7.out.rows
            obtain ⟨g2, cc2, eU, hg2, -, y0, y1, y2, y3⟩ := hru.loser hy
            obtain ⟨g1, cc1, eV, hg1, -, x0, x1, x2, x3⟩ := hrv.loser hv
            injection eU with eU1 eU2 eU3
            injection eV with eV1 eV2 eV3
            subst eU1 eU3 eV1 eV3
            have y0 : (w7.drewN q).cell? ⟨g2, j * 4, none⟩ = some (.int .i64 y.1.cl) := y0
            have y1 : (w7.drewN q).cell? ⟨g2, j * 4 + 1, none⟩ = some (.int .i64 y.1.ep) := y1
            have y2 : (w7.drewN q).cell? ⟨g2, j * 4 + 2, none⟩ = some (.int .i64 y.1.n) := y2
            have y3 : (w7.drewN q).cell? ⟨g2, j * 4 + 3, none⟩ = some (.int .i64 y.2) := y3
            have x0 : (w7.drewN q).cell? ⟨g1, k * 4, none⟩ = some (.int .i64 v.1.cl) := x0
            have x1 : (w7.drewN q).cell? ⟨g1, k * 4 + 1, none⟩ = some (.int .i64 v.1.ep) := x1
            have x2 : (w7.drewN q).cell? ⟨g1, k * 4 + 2, none⟩ = some (.int .i64 v.1.n) := x2
            have x3 : (w7.drewN q).cell? ⟨g1, k * 4 + 3, none⟩ = some (.int .i64 v.2) := x3
            have hq := fun W => run_eq_lo y v W
            have hgd := fun (A B : Operand) xs ys W => run_guard_lo .eql A B xs ys W
            obtain ⟨sb, hsb⟩ : ∃ sb, sameLo y v = sb := ⟨_, rfl⟩
            rw [hsb] at hq
            have HSB := Lib.hid (show sb = decide (y = v) by rw [← hsb]; exact sameLo_eq y v)
            clear hsb hru hrv hy hv hst hdy hdv eU2 eV2 HSJ
            cases sb with
            | true =>
              have HN := Lib.hid (show (V.los.drop (k + 1)).Sublist (U.los.drop (j + 1)) from HST.out.1 (by have := HSB.out; simpa using this))
              clear HST HDV HSB
              go_upto_region 19 with (fail)
              go_quiet (fail)
              rw [World.drewN_drewN]
              go_wp2
              go_roundw
              case rel => exact ⟨k + 1, j + 1, q + nq, by omega, by omega, by go_num, by go_num, by first | rfl | trivial, HN⟩
              case measure => simp [intN]; omega
            | false =>
              have HN := Lib.hid (show (V.los.drop k).Sublist (U.los.drop (j + 1)) by rw [HDV.out]; exact HST.out.2 (by have := HSB.out; simpa using this))
              clear HST HDV HSB
              go_upto_region 19 with (fail)
              go_quiet (fail)
              rw [World.drewN_drewN]
              go_wp2
              go_roundw
              case rel => exact ⟨k, j + 1, q + nq, by omega, by omega, by first | rfl | go_num, by go_num, by first | rfl | trivial, HN⟩
              case measure => simp [intN]; omega
          · obtain rfl : k = V.los.length := by omega
            have f2 : decide ((V.los.length : Int) < (V.los.length : Int)) = false := decide_eq_false (by omega)
            have e9 : ((V.los.length : Int) == (V.los.length : Int)) = true := by simp
            have HF := Lib.hid (below_go HB7.out (drewN_below w7 q))
            clear HSJ HS
            go_wp2
            go_ret
            exact ⟨rfl, HF.out⟩
        · obtain rfl : j = U.los.length := by omega
          have f1 : decide ((U.los.length : Int) < (U.los.length : Int)) = false := decide_eq_false (by omega)
          have hkk : k = V.los.length := by
            have h1 := HSJ.out
            rw [List.drop_length] at h1
            have h2 := List.eq_nil_of_sublist_nil h1
            rw [List.drop_eq_nil_iff] at h2
            omega
          subst hkk
          have e9 : ((V.los.length : Int) == (V.los.length : Int)) = true := by simp
          have HF := Lib.hid (below_go HB7.out (drewN_below w7 q))
          clear HSJ HS
          go_wp2
          go_ret
          exact ⟨rfl, HF.out⟩
end Go.Proofs.Ytcpkngkeechjeaa.Past
