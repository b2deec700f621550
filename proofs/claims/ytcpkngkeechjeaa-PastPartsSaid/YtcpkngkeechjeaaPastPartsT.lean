/- Proved here: for every input the Go function PastParts returns true, ends, does not panic, and leaves its arguments as they were (a transaction of a list is a loser or at its end, never both, and each is told once; losers rise by their names, pages rise). Conditions: none beside the form's own. -/
import Derived.Test.YtcpkngkeechjeaaPastNeedsWalk
import Derived.ProofKit
import Derived.OpenShut
import Derived.ShutString
import Derived.ChangeOld
import Derived.Below
import Derived.Carry
import Derived.SizedLaws
import Derived.ChangeMaps5
import Derived.KernelRfl
namespace Go.Proofs.Ytcpkngkeechjeaa.Past
set_option maxRecDepth 100000
open Go.RowKit Go.Sort
open Go.Proofs.Ytcpkngkeechjeaa.Mem
open Go.Proofs.Ytcpkngkeechjeaa.Ent (Ent goodB Ents EntAt SmallE noE entA cellsE)
theorem any_next {α : Type} {O : List α} {k : Nat} {x : α} (p : α → Bool) (h : O[k]? = some x) : (O.take (k + 1)).any p = ((O.take k).any p || p x) := by
  rw [List.take_add_one, h, List.any_append]; simp
theorem cnt_next {α : Type} {O : List α} {k : Nat} {x : α} (p : α → Bool) (h : O[k]? = some x) : ((O.take (k + 1)).filter p).length = ((O.take k).filter p).length + if p x = true then 1 else 0 := by
  rw [List.take_add_one, h, List.filter_append, List.length_append]
  by_cases hp : p x = true <;> simp [hp]
theorem rise_at {K V : Type} [DecidableEq K] {lt : K → K → Bool} {A : List (K × V)} (h : Rise lt A) {i : Nat} {x y : K × V} (hx : A[i]? = some x) (hy : A[i + 1]? = some y) : lt x.1 y.1 = true := by
  obtain ⟨h1, rfl⟩ := List.getElem?_eq_some_iff.1 hx
  obtain ⟨h2, rfl⟩ := List.getElem?_eq_some_iff.1 hy
  exact (List.pairwise_iff_getElem.1 h) i (i + 1) h1 h2 (by omega)
def isP (t : T3) (l : Int) (y : T3 × Int) : Bool := sameT y.1 t && (y.2 == l)
set_option maxRecDepth 100000 in
set_option maxHeartbeats 32000000 in
theorem parts_walk (a : Option Addr) (n c : Nat) (L : List Ent) (w : World) (h : Ents w a n L) :
    Calls Try.prog 4 #[.slice a n c] w fun e w' => e = .returned (.bool true) ∧ Below w.heap.size w w' := by
  have HE := Lib.hid h
  have HG := Lib.hid (fun W (h : Ents W a n L) => great_any a n c L W h)
  have HL := Lib.hid h.1
  clear h
  go_enter Try.func4, Try.ntmps4
  go_wp2_with fail
  refine (awake_any _).mono ?_
  rintro e w1 ⟨rfl, b1⟩
  have HB1 := Lib.hid b1
  clear b1
  go_wp2_with fail
  refine (HG.out _ (HE.out.next HB1.out)).mono ?_
  rintro e w2 ⟨G, rfl, hG, rfl⟩
  clear HG
  cases G with
  | true =>
    go_wp2
    go_ret
    exact ⟨rfl, HB1.out⟩
  | false =>
    have hn80 := hG rfl
    clear hG
    have HE1 := Lib.hid (HE.out.next HB1.out)
    have HRD := Lib.hid (read_any a n c L 1 w2 HE1.out (by omega))
    have HPT := Lib.hid (fun x (hx : x ∈ L) (hg : goodB x = true) => parts (L := L) (first := 1) rfl hx hg)
    have HRI := Lib.hid (show Rise lessT (readV L 1).los ∧ Rise ltI (readV L 1).pg ∧ (readV L 1).los.length ≤ 80 ∧ (readV L 1).pg.length ≤ 80 ∧ (readV L 1).dn.length ≤ 80 by
      unfold readV
      rw [if_pos (show okFirst 1 = true from rfl)]
      have h1 := read_len L 1 L.length
      have h2 := HL.out
      exact ⟨(read_rise _).1, (read_rise _).2, by omega, by omega, by omega⟩)
    clear HE
    go_wp2_with fail
    refine HRD.out.mono ?_
    rintro e w3 ⟨sl, dn, pg, rfl, hr, b3⟩
    have HB3 := Lib.hid (below_go HB1.out b3)
    have HE3 := Lib.hid (HE1.out.next b3)
    generalize readV L 1 = V at hr HPT HRI
    obtain ⟨sa, sc, rfl⟩ := own_shape hr.lo
    obtain ⟨da, dc, rfl⟩ := own_shape hr.tx
    obtain ⟨pa, pc, rfl⟩ := own_shape hr.fi
    have HV := Lib.hid (VB.new hr)
    have hbx := Ent.below_box w3 (.cells #[.slice sa V.los.length sc, .slice da V.dn.length dc, .slice pa V.pg.length pc] 37)
    have HE4 := Lib.hid (HE3.out.next hbx)
    have HB4 := Lib.hid (below_go HB3.out hbx)
    obtain ⟨hri1, hri2, hll, hpl, hdl⟩ := HRI.out
    have HR1 := Lib.hid hri1
    have HR2 := Lib.hid hri2
    clear hr b3 hbx HRD HE1 HE3 HB1 HB3 hri1 hri2 HRI
    go_upto_region 6 with (fail)
    generalize w3.alloc (.cells #[.slice sa V.los.length sc, .slice da V.dn.length dc, .slice pa V.pg.length pc] 37) = w4 at HV HE4 HB4 ⊢
    generalize w3.heap.size = u at HV ⊢
    have v0 := HV.out.blk.cell 0
    go_wp2
    go_loopw [4] (fun iv wr => ∃ j : Nat, iv = .int .i64 ((j : Int) + 1) ∧ (j = 0 ∨ j + 1 ≤ V.los.length) ∧ Hid (Below w4.heap.size w4 wr)) (fun iv _ => V.los.length + 1 - intN iv)
    case atStart => exact ⟨0, by go_num, .inl rfl, Lib.hid (Below.refl _ _)⟩
    case round =>
      obtain ⟨j, rfl, hj, HBR⟩ := hrel
      have HVR := Lib.hid (HV.out.below HBR.out)
      have v0 := HVR.out.blk.cell 0
      by_cases hjl : j + 1 < V.los.length
      · as_aux_lemma =>
          have hy : V.los[j + 1]? = some (V.los[j + 1]'hjl) := List.getElem?_eq_getElem hjl
          have hx : V.los[j]? = some (V.los[j]'(by omega)) := List.getElem?_eq_getElem _
          generalize V.los[j + 1]'hjl = y at hy
          generalize V.los[j]'(by omega) = x at hx
          have hlt := rise_at HR1.out hx hy
          obtain ⟨B, hrr⟩ := HVR.out.rows
          obtain ⟨g, c1, eV, hg1, -, x0, x1, x2, -⟩ := hrr.loser hx
          obtain ⟨g', c1', eV', -, -, y0, y1, y2, -⟩ := hrr.loser hy
          rw [eV] at eV'
          injection eV' with eV1 eV2 eV3
          injection eV1 with eV1
          injection eV1 with eV1
          subst eV1
          injection eV with eW1 eW2 eW3
          subst eW1 eW3
          have hd1 : decide ((j : Int) + 1 < (V.los.length : Int)) = true := decide_eq_true (by omega)
          have hw1 : IntKind.i64.wrap ((j : Int) + 1 - 1) = (j : Int) := by rw [IntKind.wrap_i64]; omega
          have q0 := cell_regrown x0
          have q1 := cell_regrown x1
          have q2 := cell_regrown x2
          have q3 := cell_regrown y0
          have q4 := cell_regrown y1
          have q5 := cell_regrown y2
          have q6 := cell_regrown v0
          have cL : ∀ dd os, Calls Try.prog 17 #[.agg #[.int .i64 x.1.cl, .int .i64 x.1.ep, .int .i64 x.1.n], .agg #[.int .i64 y.1.cl, .int .i64 y.1.ep, .int .i64 y.1.n]] (grow (redrawn wr dd) os) fun e w'' => e = .returned (.bool (lessT x.1 y.1)) ∧ ∃ p : Regrown, w'' = grow (redrawn wr p.d) p.os := fun dd os => Calls.regrown_of (less_any x.1 y.1 _)
          rw [hlt] at cL
          clear hlt hx hy hrr eV2 eV3 eW2
          go_upto_region 9 with (fail)
          refine wp_region_quiet_below (by kernel_rfl) (by kernel_rfl) ?_
          repeat (go_big_quiet_step ((with_reducible exact cL _ _)))
          refine wpQuiet_nil ?_
          intro _ hw'
          obtain ⟨⟨dq, osq⟩, hw''⟩ := hw'
          subst hw''
          have b5 := below_regrown wr dq osq
          generalize grow (redrawn wr dq) osq = w5 at b5 ⊢
          have HB5 := Lib.hid (below_go HBR.out b5)
          clear b5 cL q0 q1 q2 q3 q4 q5 q6 x0 x1 x2 y0 y1 y2 v0
          go_wp2
          go_roundw
          case rel => exact ⟨j + 1, by go_num, .inr (by omega), HB5⟩
          case measure => simp [intN]; omega
      · have hd1 : decide ((j : Int) + 1 < (V.los.length : Int)) = false := decide_eq_false (by omega)
        have v2 := HVR.out.blk.cell 2
        go_wp2
        go_loopw [5] (fun iv wz => ∃ j : Nat, iv = .int .i64 ((j : Int) + 1) ∧ (j = 0 ∨ j + 1 ≤ V.pg.length) ∧ Hid (Below w4.heap.size w4 wz)) (fun iv _ => V.pg.length + 1 - intN iv)
        case atStart => exact ⟨0, by go_num, .inl rfl, HBR⟩
        case round =>
          clear HBR HVR v0 v2 hd1 hj hjl
          obtain ⟨j, rfl, hj, HBR⟩ := hrel
          have HVR := Lib.hid (HV.out.below HBR.out)
          have v2 := HVR.out.blk.cell 2
          by_cases hjl : j + 1 < V.pg.length
          · as_aux_lemma =>
              have hy : V.pg[j + 1]? = some (V.pg[j + 1]'hjl) := List.getElem?_eq_getElem hjl
              have hx : V.pg[j]? = some (V.pg[j]'(by omega)) := List.getElem?_eq_getElem _
              generalize V.pg[j + 1]'hjl = y at hy
              generalize V.pg[j]'(by omega) = x at hx
              have hlt : x.1 < y.1 := of_decide_eq_true (rise_at HR2.out hx hy)
              obtain ⟨B, hrr⟩ := HVR.out.rows
              obtain ⟨g, c1, eV, hg1, -, x0, -⟩ := hrr.page hx
              obtain ⟨g', c1', eV', -, -, y0, -⟩ := hrr.page hy
              rw [eV] at eV'
              injection eV' with eV1 eV2 eV3
              injection eV1 with eV1
              injection eV1 with eV1
              subst eV1
              injection eV with eW1 eW2 eW3
              subst eW1 eW3
              have hd1 : decide ((j : Int) + 1 < (V.pg.length : Int)) = true := decide_eq_true (by omega)
              have hd2 : decide (x.1 ≥ y.1) = false := decide_eq_false (by omega)
              have hw1 : IntKind.i64.wrap ((j : Int) + 1 - 1) = (j : Int) := by rw [IntKind.wrap_i64]; omega
              clear hlt hx hy hrr eV2 eV3 eW2
              go_upto_region 14 with (fail)
              go_quiet (fail)
              have HB5 := Lib.hid (below_go HBR.out (drewN_below wr nq))
              generalize wr.drewN nq = w5 at HB5 ⊢
              clear x0 y0 v2
              go_wp2
              go_roundw
              case rel => exact ⟨j + 1, by go_num, .inr (by omega), HB5⟩
              case measure => simp [intN]; omega
          · have hd1 : decide ((j : Int) + 1 < (V.pg.length : Int)) = false := decide_eq_false (by omega)
            go_wp2
            go_loopw [6] (fun iv wz => ∃ i : Nat, i ≤ n ∧ iv = .int .i64 (i : Int) ∧ Hid (Below w4.heap.size w4 wz)) (fun iv _ => n - intN iv)
            case atStart => exact ⟨0, Nat.zero_le _, rfl, HBR⟩
            case round =>
              clear HBR HVR v2 hd1 hj hjl
              obtain ⟨i, hi, rfl, HBR⟩ := hrel
              by_cases hin : i < n
              · as_aux_lemma =>
                  have hx : L[i]? = some (L[i]'(by have := HL.out; omega)) := List.getElem?_eq_getElem _
                  have hmem : L[i]'(by have := HL.out; omega) ∈ L := List.getElem_mem _
                  generalize L[i]'(by have := HL.out; omega) = x at hx hmem
                  have hd1 : decide ((i : Int) < (n : Int)) = true := decide_eq_true (by omega)
                  obtain ⟨b, off, rfl, hbw, hat, hsm, -⟩ := ents_mem HE4.out hx
                  have HAT := Lib.hid hat
                  have HSM := Lib.hid (show Ent.Small x from hsm)
                  obtain ⟨c0, c1, c2, c3, c4, c5, c6, c7, c8, c9, c10, c11, c12⟩ := (HAT.out.next HBR.out hbw).cells
                  have HGD := Lib.hid (Ent.good_any x wr HSM.out)
                  have HPX := Lib.hid (HPT.out x hmem)
                  clear hx hmem hat hsm
                  cases hgb : goodB x with
                  | false =>
                    rw [hgb] at HGD
                    clear hgb HPX
                    go_wp2_with fail
                    refine HGD.out.mono ?_
                    rintro e w5 ⟨rfl, b5⟩
                    have HB5 := Lib.hid (below_go HBR.out b5)
                    clear c0 c1 c2 c3 c4 c5 c6 c7 c8 c9 c10 c11 c12 b5 HGD
                    go_wp2
                    go_roundw
                    case rel => exact ⟨i + 1, by omega, by go_num, HB5⟩
                    case measure => simp [intN]; omega
                  | true =>
                    have HPP := Lib.hid (HPX.out hgb)
                    rw [hgb] at HGD
                    clear hgb HPX
                    go_wp2_with fail
                    refine HGD.out.mono ?_
                    rintro e w5 ⟨rfl, b5⟩
                    have HB5 := Lib.hid (below_go HBR.out b5)
                    clear c0 c1 c2 c3 c4 c5 c6 c7 c8 c9 c10 c11 c12 b5 HGD
                    obtain ⟨c0, c1, c2, c3, c4, c5, c6, c7, c8, c9, c10, c11, c12⟩ := (HAT.out.next HB5.out hbw).cells
                    have HOF := Lib.hid (of_any (some ⟨b, off, none⟩) n c L (txE x) w5 (HE4.out.next HB5.out) (by omega))
                    have HOS := Lib.hid (of_small (t := txE x) HE4.out.2.1)
                    go_wp2_with fail
                    refine HOF.out.mono ?_
                    rintro e w6 ⟨v, rfl, ho, b6⟩
                    have HB6 := Lib.hid (below_go HB5.out b6)
                    clear c0 c1 c2 c3 c4 c5 c6 c7 c8 c9 c10 c11 c12 HOF HB5
                    obtain ⟨oa, oc, rfl, hoe, -⟩ := ents_own ho HOS.out
                    have HOE := Lib.hid hoe
                    obtain ⟨-, l0, l1, l2, l3, -⟩ := (HAT.out.next HB6.out hbw).cells
                    have HV6 := Lib.hid (HV.out.below HB6.out)
                    have v0 := HV6.out.blk.cell 0
                    have v1 := HV6.out.blk.cell 1
                    obtain ⟨hp1, hp2, hp3, hp4⟩ := HPP.out
                    have HOG : Hid (∀ z ∈ ofL L (txE x), goodB z = true) := Lib.hid fun z hz => (mem_of.1 hz).2.1
                    have hOlen : (ofL L (txE x)).length ≤ 80 := by have := of_len L (txE x); have := HL.out; omega
                    have hend : endedB L (txE x) = (ofL L (txE x)).any endB := rfl
                    have hlast : lastOf L (txE x) = (ofL L (txE x)).getLast?.map (·.lsn) := rfl
                    rw [hend] at hp2 hp4
                    rw [hlast] at hp2
                    generalize ofL L (txE x) = O at HOE HOG hOlen hp1 hp2 hp4 ⊢
                    clear ho b6 hoe HOS HPP hend hlast
                    obtain ⟨m, hm⟩ : ∃ m, O.length = m + 1 := ⟨O.length - 1, by
                      cases O with
                      | nil => exact absurd rfl hp1
                      | cons _ _ => simp⟩
                    have hz : O[m]? = some (O[m]'(by omega)) := List.getElem?_eq_getElem _
                    generalize O[m]'(by omega) = z at hz
                    have hlz : O.getLast? = some z := by rw [List.getLast?_eq_getElem?, hm]; exact hz
                    rw [hlz] at hp2
                    have HP2 := Lib.hid (show V.los.any (isP (txE x) z.lsn) = !O.any endB by
                      rw [← hp2]
                      congr 1
                      funext y
                      unfold isP
                      rw [sameT_eq, Bool.eq_iff_iff]
                      simp)
                    have HP3 := Lib.hid (show (V.dn.filter fun s => sameT s (txE x)).length ≤ 1 ∧ (0 < (V.dn.filter fun s => sameT s (txE x)).length → O.any endB = true) by
                      have e : (fun s => sameT s (txE x)) = fun s => decide (s = txE x) := by funext s; exact sameT_eq _ _
                      rw [e]; exact ⟨hp3, hp4⟩)
                    obtain ⟨ob, oo, rfl, hob, hatz, -, -⟩ := ents_mem HOE.out hz
                    obtain ⟨-, -, -, -, z4, -⟩ := hatz.cells
                    have hwm : IntKind.i64.wrap ((O.length : Int) - 1) = (m : Int) := by rw [IntKind.wrap_i64]; omega
                    have HM := Lib.hid hm
                    clear hp1 hp2 hp3 hp4 hz hlz hatz hm
                    go_wp2
                    go_loopw [8, 9] (fun ev kv wz => ∃ (k : Nat) (eb : Bool), k ≤ O.length ∧ kv = .int .i64 (k : Int) ∧ ev = .bool eb ∧ wz = w6 ∧ Hid (eb = (O.take k).any endB)) (fun _ kv _ => O.length - intN kv)
                    case atStart => exact ⟨0, false, Nat.zero_le _, rfl, rfl, rfl, Lib.hid (by simp)⟩
                    case round =>
                      obtain ⟨k, eb, hk, rfl, rfl, rfl, HEB⟩ := hrel
                      by_cases hkl : k < O.length
                      · have hy : O[k]? = some (O[k]'hkl) := List.getElem?_eq_getElem hkl
                        generalize O[k]'hkl = y at hy
                        obtain ⟨b', o', eE, -, haty, -, -⟩ := ents_mem HOE.out hy
                        injection eE with eE
                        injection eE with eE1 eE2
                        subst eE1 eE2
                        obtain ⟨y0, -⟩ := haty.cells
                        have HK := Lib.hid (kind_of (HOG.out y (List.mem_of_getElem? hy)))
                        have HNX := Lib.hid (any_next endB hy)
                        have hd2 : decide ((k : Int) < (O.length : Int)) = true := decide_eq_true (by omega)
                        clear hy haty
                        cases eb with
                        | true =>
                          have HE2 := Lib.hid (show true = (O.take (k + 1)).any endB by rw [HNX.out, ← HEB.out]; rfl)
                          clear HNX HEB HK
                          go_wp2
                          go_roundw
                          case rel => exact ⟨k + 1, true, by omega, by go_num, rfl, by first | rfl | trivial, HE2⟩
                          case measure => simp [intN]; omega
                        | false =>
                          rcases HK.out with hk9 | hk9 | hk9 | hk9
                          · have e3 : (y.kind == 3) = false := by simp [hk9]
                            have e4 : (y.kind == 4) = false := by simp [hk9]
                            have HE2 := Lib.hid (show false = (O.take (k + 1)).any endB by rw [HNX.out, ← HEB.out]; simp [endB, hk9])
                            clear HNX HEB HK hk9
                            go_wp2
                            go_roundw
                            case rel => exact ⟨k + 1, false, by omega, by go_num, rfl, by first | rfl | trivial, HE2⟩
                            case measure => simp [intN]; omega
                          · have e3 : (y.kind == 3) = false := by simp [hk9]
                            have e4 : (y.kind == 4) = false := by simp [hk9]
                            have HE2 := Lib.hid (show false = (O.take (k + 1)).any endB by rw [HNX.out, ← HEB.out]; simp [endB, hk9])
                            clear HNX HEB HK hk9
                            go_wp2
                            go_roundw
                            case rel => exact ⟨k + 1, false, by omega, by go_num, rfl, by first | rfl | trivial, HE2⟩
                            case measure => simp [intN]; omega
                          · have e3 : (y.kind == 3) = true := by simp [hk9]
                            have HE2 := Lib.hid (show true = (O.take (k + 1)).any endB by rw [HNX.out, ← HEB.out]; simp [endB, hk9])
                            clear HNX HEB HK hk9
                            go_wp2
                            go_roundw
                            case rel => exact ⟨k + 1, true, by omega, by go_num, rfl, by first | rfl | trivial, HE2⟩
                            case measure => simp [intN]; omega
                          · have e3 : (y.kind == 3) = false := by simp [hk9]
                            have e4 : (y.kind == 4) = true := by simp [hk9]
                            have HE2 := Lib.hid (show true = (O.take (k + 1)).any endB by rw [HNX.out, ← HEB.out]; simp [endB, hk9])
                            clear HNX HEB HK hk9
                            go_wp2
                            go_roundw
                            case rel => exact ⟨k + 1, true, by omega, by go_num, rfl, by first | rfl | trivial, HE2⟩
                            case measure => simp [intN]; omega
                      · obtain rfl : k = O.length := by omega
                        have hd2 : decide ((O.length : Int) < (O.length : Int)) = false := decide_eq_false (by omega)
                        have HEB2 := Lib.hid (show eb = O.any endB by rw [HEB.out, List.take_length])
                        clear HEB HOG
                        go_wp2
                        go_loopw [10, 11] (fun sv kv wz => ∃ (k : Nat) (ib : Bool) (q : Nat), k ≤ V.los.length ∧ kv = .int .i64 (k : Int) ∧ sv = .bool ib ∧ wz = wr.drewN q ∧ Hid (ib = (V.los.take k).any (isP (txE x) z.lsn))) (fun _ kv _ => V.los.length - intN kv)
                        case atStart => exact ⟨0, false, 0, Nat.zero_le _, rfl, rfl, rfl, Lib.hid (by simp)⟩
                        case round =>
                          obtain ⟨k, ib, q, hk, rfl, rfl, rfl, HIB⟩ := hrel
                          have v0 : (wr.drewN q).cell? ⟨u, 0, none⟩ = some (.slice sa V.los.length sc) := v0
                          by_cases hkl : k < V.los.length
                          · as_aux_lemma =>
                              have hy : V.los[k]? = some (V.los[k]'hkl) := List.getElem?_eq_getElem hkl
                              generalize V.los[k]'hkl = y at hy
                              obtain ⟨BV, hrv⟩ := HV6.out.rows
                              obtain ⟨g, c', eV, hg1, -, y0, y1, y2, y3⟩ := hrv.loser hy
                              injection eV with eV1 eV2 eV3
                              subst eV1 eV3
                              have y0 : (wr.drewN q).cell? ⟨g, k * 4, none⟩ = some (.int .i64 y.1.cl) := y0
                              have y1 : (wr.drewN q).cell? ⟨g, k * 4 + 1, none⟩ = some (.int .i64 y.1.ep) := y1
                              have y2 : (wr.drewN q).cell? ⟨g, k * 4 + 2, none⟩ = some (.int .i64 y.1.n) := y2
                              have y3 : (wr.drewN q).cell? ⟨g, k * 4 + 3, none⟩ = some (.int .i64 y.2) := y3
                              have x1 : (wr.drewN q).cell? ⟨b, off + i * 13 + 1, none⟩ = some (.int .i64 x.cl) := l0
                              have x2 : (wr.drewN q).cell? ⟨b, off + i * 13 + 2, none⟩ = some (.int .i64 x.ep) := l1
                              have x3 : (wr.drewN q).cell? ⟨b, off + i * 13 + 3, none⟩ = some (.int .i64 x.n) := l2
                              have z9 : (wr.drewN q).cell? ⟨ob, oo + m * 13 + 4, none⟩ = some (.int .i64 z.lsn) := z4
                              have hd3 : decide ((k : Int) < (V.los.length : Int)) = true := decide_eq_true (by omega)
                              have hmO : m < O.length := by have := HM.out; omega
                              have hq := fun W => run_eq_txn y.1 (txE x) W
                              have hgd := fun (A B : Operand) xs ys W => run_guard_txn .eql A B xs ys W
                              have HNX := Lib.hid (any_next (isP (txE x) z.lsn) hy)
                              have HIP := Lib.hid (show isP (txE x) z.lsn y = (sameT y.1 (txE x) && (y.2 == z.lsn)) from rfl)
                              generalize sameT y.1 (txE x) = s1 at hq HIP
                              unfold txE at hq
                              dsimp only at hq
                              clear hy hrv eV2
                              cases ib with
                              | true =>
                                have HE2 := Lib.hid (show true = (V.los.take (k + 1)).any (isP (txE x) z.lsn) by rw [HNX.out, ← HIB.out]; rfl)
                                clear HNX HIB HIP
                                go_upto_region 30 with (fail)
                                go_quiet (fail)
                                rw [World.drewN_drewN]
                                go_wp2
                                go_roundw
                                case rel => exact ⟨k + 1, true, q + nq, by omega, by go_num, rfl, by first | rfl | trivial, HE2⟩
                                case measure => simp [intN]; omega
                              | false =>
                                cases s1 with
                                | false =>
                                  have HE2 := Lib.hid (show false = (V.los.take (k + 1)).any (isP (txE x) z.lsn) by rw [HNX.out, ← HIB.out, HIP.out]; rfl)
                                  clear HNX HIB HIP
                                  go_upto_region 30 with (fail)
                                  go_quiet (fail)
                                  rw [World.drewN_drewN]
                                  go_wp2
                                  go_roundw
                                  case rel => exact ⟨k + 1, false, q + nq, by omega, by go_num, rfl, by first | rfl | trivial, HE2⟩
                                  case measure => simp [intN]; omega
                                | true =>
                                  by_cases hs2 : y.2 = z.lsn
                                  · have f1 : (y.2 == z.lsn) = true := by simp [hs2]
                                    have HE2 := Lib.hid (show true = (V.los.take (k + 1)).any (isP (txE x) z.lsn) by rw [HNX.out, ← HIB.out, HIP.out, f1]; rfl)
                                    clear HNX HIB HIP hs2
                                    go_upto_region 30 with (fail)
                                    go_quiet (fail)
                                    rw [World.drewN_drewN]
                                    go_wp2
                                    go_roundw
                                    case rel => exact ⟨k + 1, true, q + nq, by omega, by go_num, rfl, by first | rfl | trivial, HE2⟩
                                    case measure => simp [intN]; omega
                                  · have f1 : (y.2 == z.lsn) = false := by simp [hs2]
                                    have HE2 := Lib.hid (show false = (V.los.take (k + 1)).any (isP (txE x) z.lsn) by rw [HNX.out, ← HIB.out, HIP.out, f1]; rfl)
                                    clear HNX HIB HIP hs2
                                    go_upto_region 30 with (fail)
                                    go_quiet (fail)
                                    rw [World.drewN_drewN]
                                    go_wp2
                                    go_roundw
                                    case rel => exact ⟨k + 1, false, q + nq, by omega, by go_num, rfl, by first | rfl | trivial, HE2⟩
                                    case measure => simp [intN]; omega
                          · obtain rfl : k = V.los.length := by omega
                            have hd3 : decide ((V.los.length : Int) < (V.los.length : Int)) = false := decide_eq_false (by omega)
                            have HIB2 := Lib.hid (show ib = !eb by rw [HIB.out, List.take_length, HP2.out, ← HEB2.out])
                            clear HIB
                            have v1 : (wr.drewN q).cell? ⟨u, 1, none⟩ = some (.slice da V.dn.length dc) := v1
                            go_wp2
                            go_loopw [12, 13] (fun dv kv wz => ∃ (k d q : Nat), k ≤ V.dn.length ∧ d ≤ k ∧ kv = .int .i64 (k : Int) ∧ dv = .int .i64 (d : Int) ∧ wz = wr.drewN q ∧ Hid (d = ((V.dn.take k).filter fun s => sameT s (txE x)).length)) (fun _ kv _ => V.dn.length - intN kv)
                            case atStart => exact ⟨0, 0, q, Nat.zero_le _, Nat.le_refl _, rfl, rfl, rfl, Lib.hid (by simp)⟩
                            case round =>
                              clear v0 v1
                              obtain ⟨k, d, q, hk, hdk, rfl, rfl, rfl, HDB⟩ := hrel
                              have v1 : (wr.drewN q).cell? ⟨u, 1, none⟩ = some (.slice da V.dn.length dc) := HV6.out.blk.cell 1
                              by_cases hkl : k < V.dn.length
                              · as_aux_lemma =>
                                  have hy : V.dn[k]? = some (V.dn[k]'hkl) := List.getElem?_eq_getElem hkl
                                  generalize V.dn[k]'hkl = y at hy
                                  obtain ⟨BV, hrv⟩ := HV6.out.rows
                                  obtain ⟨g, c', eV, hg1, -, y0, y1, y2⟩ := hrv.done hy
                                  injection eV with eV1 eV2 eV3
                                  subst eV1 eV3
                                  have y0 : (wr.drewN q).cell? ⟨g, k * 3, none⟩ = some (.int .i64 y.cl) := y0
                                  have y1 : (wr.drewN q).cell? ⟨g, k * 3 + 1, none⟩ = some (.int .i64 y.ep) := y1
                                  have y2 : (wr.drewN q).cell? ⟨g, k * 3 + 2, none⟩ = some (.int .i64 y.n) := y2
                                  have x1 : (wr.drewN q).cell? ⟨b, off + i * 13 + 1, none⟩ = some (.int .i64 x.cl) := l0
                                  have x2 : (wr.drewN q).cell? ⟨b, off + i * 13 + 2, none⟩ = some (.int .i64 x.ep) := l1
                                  have x3 : (wr.drewN q).cell? ⟨b, off + i * 13 + 3, none⟩ = some (.int .i64 x.n) := l2
                                  have hd4 : decide ((k : Int) < (V.dn.length : Int)) = true := decide_eq_true (by omega)
                                  have hq := fun W => run_eq_txn y (txE x) W
                                  have hgd := fun (A B : Operand) xs ys W => run_guard_txn .eql A B xs ys W
                                  have HNX := Lib.hid (cnt_next (fun s => sameT s (txE x)) hy)
                                  obtain ⟨s1, hs1⟩ : ∃ s1, sameT y (txE x) = s1 := ⟨_, rfl⟩
                                  rw [hs1] at hq
                                  have HIP := Lib.hid hs1
                                  clear hs1
                                  unfold txE at hq
                                  dsimp only at hq
                                  clear hy hrv eV2
                                  cases s1 with
                                  | false =>
                                    have HE2 := Lib.hid (show d = ((V.dn.take (k + 1)).filter fun s => sameT s (txE x)).length by rw [HNX.out, ← HDB.out, HIP.out]; rfl)
                                    clear HNX HDB HIP
                                    go_upto_region 35 with (fail)
                                    go_quiet (fail)
                                    rw [World.drewN_drewN]
                                    go_wp2
                                    go_roundw
                                    case rel => exact ⟨k + 1, d, q + nq, by omega, by omega, by go_num, by first | rfl | go_num, by first | rfl | trivial, HE2⟩
                                    case measure => simp [intN]; omega
                                  | true =>
                                    have HE2 := Lib.hid (show d + 1 = ((V.dn.take (k + 1)).filter fun s => sameT s (txE x)).length by rw [HNX.out, ← HDB.out, HIP.out]; rfl)
                                    clear HNX HDB HIP
                                    go_upto_region 35 with (fail)
                                    go_quiet (fail)
                                    rw [World.drewN_drewN]
                                    go_wp2
                                    go_roundw
                                    case rel => exact ⟨k + 1, d + 1, q + nq, by omega, by omega, by go_num, by go_num, by first | rfl | trivial, HE2⟩
                                    case measure => simp [intN]; omega
                              · obtain rfl : k = V.dn.length := by omega
                                have hd4 : decide ((V.dn.length : Int) < (V.dn.length : Int)) = false := decide_eq_false (by omega)
                                have hD := HDB.out
                                rw [List.take_length] at hD
                                have h1 := HP3.out.1
                                have h2 := HP3.out.2
                                rw [← hD] at h1 h2
                                rw [← HEB2.out] at h2
                                have HB7 := Lib.hid (below_go HB6.out (drewN_below wr q))
                                generalize wr.drewN q = w9 at HB7 v1 ⊢
                                clear HDB hD HV6 HOE HP2 HP3 HEB2 HM l0 l1 l2 l3 z4 hdk hwm hOlen
                                have hib := HIB2.out
                                clear HIB2
                                rcases (show d = 0 ∨ d = 1 by omega) with rfl | rfl
                                · clear h1 h2
                                  cases eb with
                                  | true =>
                                    subst hib
                                    go_wp2
                                    go_roundw
                                    case rel => exact ⟨i + 1, by omega, by go_num, HB7⟩
                                    case measure => simp [intN]; omega
                                  | false =>
                                    subst hib
                                    go_wp2
                                    go_roundw
                                    case rel => exact ⟨i + 1, by omega, by go_num, HB7⟩
                                    case measure => simp [intN]; omega
                                · have h3 := h2 (by omega)
                                  subst h3
                                  subst hib
                                  clear h1 h2
                                  go_wp2
                                  go_roundw
                                  case rel => exact ⟨i + 1, by omega, by go_num, HB7⟩
                                  case measure => simp [intN]; omega
              · obtain rfl : i = n := by omega
                have hd1 : decide ((i : Int) < (i : Int)) = false := decide_eq_false (by omega)
                have HF := Lib.hid (below_go HB4.out HBR.out)
                clear HV HE4 HPT HBR
                go_wp2
                go_ret
                exact ⟨rfl, HF.out⟩
end Go.Proofs.Ytcpkngkeechjeaa.Past
namespace Go.Proofs.Ytcpkngkeechjeaa.pastParts
set_option maxRecDepth 100000
open Go.ChangeShapes Go.WideShapes Go.ChangeAt Go.RowKit
open Go.ChangeMaps (open_string)
theorem own : ownKnob Try.prog.godebug = none := by kernel_rfl
theorem laidOut : laidOutB Try.prog = true := by kernel_rfl
theorem fits_of {a : Int} (h : (Lit.int .i64 a).wf = true) : -9223372036854775808 ≤ a ∧ a ≤ 9223372036854775807 := by
  unfold Lit.wf at h; simp [IntKind.min, IntKind.max, IntKind.signed, IntKind.bits] at h; omega
set_option maxRecDepth 100000 in
theorem lifted (os : Os) (started : os.Started) (H : Type) (enc : TypeId × Value → H) :
    ReturnsInHanded {} Try.checked os 4 .any (Rows.pastPartsSpec.pre6 enc Try.prog Try.f4 Rows.pastPartsRow.domain false) (Rows.pastPartsSpec.post enc Try.prog Try.f4 false true false false) := by
  refine returnsInHanded_of_change_sized (C := Try.checked) own started (by kernel_rfl) Try.func4
    (ChangeSpec.witness6 (enc := enc) (C := Try.checked) false ⟨#[], #[.slice none 0 0], []⟩ 8 (by kernel_rfl) (by kernel_rfl) (by kernel_rfl) (by kernel_rfl)) ?_
  intro W base args ds gs before hval0 hW _ hsz0 _
  have hval : ∀ (j : Nat) t v, Try.f4.params[j]? = some t → args[j]? = some v → Value.okWide Try.prog W .any base t v := hval0
  have hsz : (DataW.weightsEach Try.prog (Try.f4.params.toList ++ Rows.pastPartsSpec.plain.varTypes Try.prog) (ds ++ gs)).all (· ≤ reachBytes) = true := hsz0
  have hW' := hW
  obtain ⟨p, q, hA0, hV, rfl, hfz, hnd⟩ := hW
  have hA : DataW.TrodAll enc Try.prog W 0 (fun _ => true) true Try.f4.params.toList args.toList ds p := hA0
  rw [Try.params4] at hA hval hsz
  obtain ⟨v0, vs0, d0, ds0, p0, q0, hargs, rfl, rfl, h0, r0⟩ := trodAll_cons hA
  obtain ⟨rfl, rfl, rfl⟩ := trodAll_nil r0
  obtain rfl : args = #[v0] := by cases args; simp_all
  obtain ⟨rfl, rfl⟩ := trodVars_none hV
  have k0 := h0
  have lt0 : ∀ x ∈ p0, x.block < W.heap.size := by obtain ⟨m, hm⟩ := k0; exact DataW.trod_lt m _ _ _ hm
  obtain ⟨a0, n0, c0, z0, rfl, s0⟩ := Ent.open_ents (hval 0 22 v0 rfl rfl) h0 (fun n hn => by have := List.all_eq_true.1 hsz _ (DataW.weights_mem_each (j := 0) (t := 22) (d := d0) rfl rfl n hn); simpa using this)
  clear hA0 hval0 hsz0
  refine (Past.parts_walk a0 n0 c0 z0 W s0).mono fun e W' ⟨he, bel⟩ => ?_
  subst he
  exact ⟨_, rfl, _, _, _, [], _, [], hW', trodAll_mk1 (shut_bool Try.underlying4 _), (trodAll_cons_mk (Below.trod laidOut (by kernel_rfl) (of_decide_eq_true (by kernel_rfl)) k0 bel lt0) trodAll_mk0), rfl, bel.frame _, fun h => by cases h⟩

theorem over : Rows.pastPartsRow.holds Try.pinned (OpenSpec.ofChange Rows.pastPartsSpec) :=
  OpenClaim.holds_of_wide 4 Try.f4 rfl rfl rfl rfl rfl rfl rfl ⟨rfl, rfl, rfl, rfl, rfl⟩ rfl rfl rfl rfl rfl (by kernel_rfl) Try.func4 (by kernel_rfl)
    (of_decide_eq_true (by kernel_rfl)) (by unfold Func.isWrapper; first | (rw [if_pos (by decide +kernel)]; kernel_rfl) | (rw [if_neg (by decide +kernel)]; exact ⟨rfl, rfl⟩))
    (fun os started H enc _ => lifted os started H enc)
end Go.Proofs.Ytcpkngkeechjeaa.pastParts
namespace Go.Proofs.Ytcpkngkeechjeaa
set_option maxRecDepth 100000
/-- THE STATEMENT -/
theorem pastParts_holds : Rows.PastPartsSaid := pastParts.over
end Go.Proofs.Ytcpkngkeechjeaa
