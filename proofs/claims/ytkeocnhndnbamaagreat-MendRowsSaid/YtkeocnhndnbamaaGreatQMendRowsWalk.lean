/- MendRows, walked: pages' records, told in order, each of them once. -/
import Derived.Test.YtkeocnhndnbamaaGreatQBook30
import Derived.Test.YtkeocnhndnbamaaGreatQBook32
import Derived.Test.YtkeocnhndnbamaaGreatQBook11
import Derived.Test.YtkeocnhndnbamaaGreatQBook2
namespace Go.Proofs.YtkeocnhndnbamaaGreat.Mend
set_option maxRecDepth 100000
open Go.RowKit Go.Sort
open Go.Proofs.YtkeocnhndnbamaaGreat.Mem
open Go.Proofs.YtkeocnhndnbamaaGreat.Slab (Slot Slots nos atL slotV)
open Go.Proofs.YtkeocnhndnbamaaGreat.Past (cellsG cellsG_len cellsG_at)
theorem row_at {W : World} {B : Nat} {a : Option Addr} {n c : Nat} {R : List Rc} (h : W.ownsRow B 73 3 (.slice a n c) R.length (cellsG rcV R)) {j : Nat} (hj : j < R.length) :
    ∃ g x, a = some ⟨g, 0, none⟩ ∧ g < W.heap.size ∧ R[j]? = some x ∧ W.cell? ⟨g, j * 3, none⟩ = some (.int .i64 x.n) ∧ W.cell? ⟨g, j * 3 + 1, none⟩ = some (.int .i64 (x.k : Int)) ∧ W.cell? ⟨g, j * 3 + 2, none⟩ = some (.string x.d) := by
  obtain ⟨g, cap, e, -, hg, hc⟩ := own_pos h (by omega)
  injection e with e1 e2 e3
  have hx : R[j]? = some R[j] := List.getElem?_eq_getElem hj
  have hp : ∀ i, i < 3 → W.cell? ⟨g, j * 3 + i, none⟩ = (rcV R[j])[i]? := fun i hi => by
    have h1 := cellsG_at (f := rcV) (m := 3) (fun _ => rfl) R j R[j] hx i hi
    rw [← h1]
    exact hc (j * 3 + i) (by omega)
  exact ⟨g, R[j], e1, own_lt h (by rw [e1]; rfl), hx, hp 0 (by omega), hp 1 (by omega), hp 2 (by omega)⟩
theorem recs_step (x : Lf) (k : Nat) : (recsTo x (k + 1)).length = (recsTo x k).length + if (atL x.l x.z (k : Int)).u = true then 1 else 0 := by
  unfold recsTo
  rw [List.length_map, List.length_map, rowsZ_at]
  cases hu : ((rowsZ x.l x.z).getD k nos).u with
  | false => rw [Slab.upTo_miss hu]; simp
  | true =>
    rw [Slab.upTo_hit (d := ((rowsZ x.l x.z).getD k nos).d) (by rw [← hu])]
    simp
theorem rowsP_step {ls : List Lf} {i : Nat} {x : Lf} (h : ls[i]? = some x) : (rowsP (ls.take (i + 1))).length = (rowsP (ls.take i)).length + if numB x.n = true then (recs x).length else 0 := by
  rw [List.take_add_one, h]
  unfold rowsP
  rw [List.filter_append, List.flatMap_append, List.length_append]
  by_cases hn : numB x.n = true
  · simp [hn]
  · simp [hn]
theorem any_step {R : List Rc} {j : Nat} {r y : Rc} (h : R[j]? = some r) : (R.take (j + 1)).any (fun q => sameRc q y) = ((R.take j).any (fun q => sameRc q y) || sameRc r y) := by
  rw [List.take_add_one, h]
  simp
theorem any_is {ls : List Lf} (ha : Apart ls) {x : Lf} (hx : x ∈ ls) (hn : numB x.n = true) (k : Nat) : (rowsL ls).any (fun q => sameRc q ⟨x.n, k, (atL x.l x.z (k : Int)).d⟩) = (atL x.l x.z (k : Int)).u := by
  have h := rows_has ha hx hn k
  cases hu : (atL x.l x.z (k : Int)).u with
  | true =>
    obtain ⟨r, hr, e1, e2, e3⟩ := h.2 hu
    refine List.any_eq_true.2 ⟨r, hr, (sameRc_eq _ _).2 ?_⟩
    obtain ⟨rn, rk, rd⟩ := r
    simp only at e1 e2 e3
    rw [e1, e2, e3]
  | false =>
    rw [List.any_eq_false]
    intro r hr hs
    have e := (sameRc_eq _ _).1 hs
    have := h.1 ⟨r, hr, by rw [e], by rw [e], by rw [e]⟩
    rw [hu] at this; cases this
theorem apart_step {ls : List Lf} {i : Nat} {x : Lf} (h : ls[i]? = some x) (ha : Apart (ls.take i)) (hn : ∀ y ∈ ls.take i, y.n ≠ x.n) : Apart (ls.take (i + 1)) := by
  rw [List.take_add_one, h]
  unfold Apart at ha ⊢
  rw [List.pairwise_append]
  refine ⟨ha, by simp, fun y hy z hz => ?_⟩
  have : z = x := by simpa using hz
  rw [this]; exact hn y hy
theorem rowsP_len (ls : List Lf) : (rowsP ls).length ≤ ls.length * 32 := Nat.le_trans (flat_len recs 32 recs_len _) (Nat.mul_le_mul_right _ (List.length_filter_le _ _))
set_option maxRecDepth 100000 in
set_option maxHeartbeats 16000000 in
theorem mrows_walk (a : Option Addr) (m c : Nat) (ls : List Lf) (w : World) (h : LeavesI w a m ls) (hm : m ≤ maxLen) :
    Calls Tryz.prog 8 #[.slice a m c] w fun e w' => e = .returned (.bool true) ∧ Below w.heap.size w w' := by
  have HH := Lib.hid h
  have hlen := h.1
  have HAW := Lib.hid awake_any
  have hml := hm
  clear h hm
  go_enter Tryz.func8, Tryz.ntmps8
  go_upto_region 3 with ((with_reducible refine (HAW.out _).mono ?_); rintro e w2 ⟨rfl, b2⟩; have B2 := Lib.hid b2; clear b2; have HG := Lib.hid (great_any a m c ls w2 (HH.out.below B2.out) hml))
  go_upto_if 16 with ((with_reducible refine (HG.out).mono ?_); rintro e w3 ⟨G, rfl, hw3, hG⟩; subst hw3; have HGF := Lib.hid hG; clear hG)
  cases G with
  | true =>
    go_wp2
    go_ret
    exact ⟨rfl, B2.out⟩
  | false =>
    obtain ⟨hm12, h50⟩ := HGF.out rfl
    have H50 := Lib.hid h50
    have HL2 := Lib.hid (HH.out.below B2.out)
    clear h50 HG HGF HAW HH
    go_wp2_with fail
    go_loopw [3] (fun iv wr => ∃ i : Nat, i ≤ m ∧ iv = .int .i64 (i : Int) ∧ Hid (Below w3.heap.size w3 wr ∧ Apart (ls.take i))) (fun iv _ => m - intN iv)
    case atStart => exact ⟨0, Nat.zero_le _, rfl, Lib.hid ⟨Below.refl _ _, List.Pairwise.nil⟩⟩
    case round =>
      obtain ⟨i, hi, rfl, HI⟩ := hrel
      by_cases hil : i < m
      · have hd : decide ((i : Int) < (m : Int)) = true := decide_eq_true (by omega)
        obtain ⟨b, off, a1, n1, c1, x, hab, hlt, hx, q0, q1, q2, -, -⟩ := HL2.out.at_ hil
        subst hab
        have HX := Lib.hid hx
        have HQ0 := Lib.hid q0
        have HLT := Lib.hid hlt
        clear hx hlt q0 q1 q2
        go_wp2_with fail
        go_loopw [4] (fun kv wz => ∃ k : Nat, k ≤ i ∧ kv = .int .i64 (k : Int) ∧ Hid (Below w3.heap.size w3 wz ∧ ∀ y ∈ ls.take k, y.n ≠ x.n)) (fun kv _ => i - intN kv)
        case atStart => exact ⟨0, Nat.zero_le _, rfl, Lib.hid ⟨HI.out.1, by simp⟩⟩
        case round =>
          obtain ⟨k, hk, rfl, HK⟩ := hrel
          by_cases hkl : k < i
          · have hd2 : decide ((k : Int) < (i : Int)) = true := decide_eq_true (by omega)
            obtain ⟨b', off', a2, n2, c2, y, hab, -, hy, p0, p1, p2, -, -⟩ := (HL2.out.below HK.out.1).at_ (show k < m by omega)
            cases hab
            have q0 : wr.cell? ⟨b, off + i * 3, none⟩ = some (.int .i64 x.n) := (HK.out.1.cell (p := ⟨b, off + i * 3, none⟩) HLT.out).trans HQ0.out
            have HY := Lib.hid hy
            have hkm : (k : Int) < (m : Int) := by omega
            have him : (i : Int) < (m : Int) := by omega
            clear hy p1 p2
            by_cases hxy : y.n = x.n
            · have hd3 : (y.n == x.n) = true := beq_iff_eq.2 hxy
              clear hxy
              go_upto_region 11 with (fail)
              go_quiet (fail)
              go_wp2
              go_ret
              exact ⟨rfl, below_go B2.out (below_drewN HK.out.1 _)⟩
            · have hd3 : (y.n == x.n) = false := beq_eq_false_iff_ne.2 hxy
              have HK2 := Lib.hid (show ∀ z ∈ ls.take (k + 1), z.n ≠ x.n from fun z hz => by
                rw [List.take_add_one, HY.out] at hz
                rcases List.mem_append.1 hz with hz | hz
                · exact HK.out.2 z hz
                · have : z = y := by simpa using hz
                  rw [this]; exact hxy)
              clear hxy
              go_upto_region 11 with (fail)
              go_quiet (fail)
              go_wp2
              go_roundw
              case rel => exact ⟨k + 1, by omega, by go_num, Lib.hid ⟨below_drewN HK.out.1 _, HK2.out⟩⟩
              case measure => simp [intN]; omega
          · obtain rfl : k = i := by omega
            have hd2 : decide ((k : Int) < (k : Int)) = false := decide_eq_false (by omega)
            have HI2 := Lib.hid (And.intro HK.out.1 (apart_step HX.out HI.out.2 HK.out.2))
            go_wp2
            go_roundw
            case rel => exact ⟨k + 1, by omega, by go_num, HI2⟩
            case measure => simp [intN]; omega
      · obtain rfl : i = m := by omega
        have hd : decide ((i : Int) < (i : Int)) = false := decide_eq_false (by omega)
        have hap := HI.out.2
        rw [List.take_of_length_le (by omega)] at hap
        have HAP := Lib.hid hap
        have HIB := Lib.hid HI.out.1
        have HRW := Lib.hid (mrows_any a i c ls wr (HL2.out.below HI.out.1) (by omega) H50.out)
        clear hap HI
        unfold RowsG at HRW
        go_upto_region 14 with ((with_reducible refine HRW.out.mono ?_); rintro e w4 ⟨v, rfl, hv, b4⟩; have HV := Lib.hid hv; have B4 := Lib.hid (below_go HIB.out b4); clear hv b4)
        obtain ⟨ra, rc, hve⟩ := own_shape HV.out
        subst hve
        have hrl := rowsL_len ls
        obtain ⟨R, hR⟩ : ∃ R, rowsL ls = R := ⟨_, rfl⟩
        have HR := Lib.hid hR
        rw [hR] at HV hrl
        try rw [hR]
        obtain ⟨nr, hnr⟩ : ∃ nr, R.length = nr := ⟨_, rfl⟩
        have HNR := Lib.hid hnr
        rw [hnr] at hrl
        try rw [hnr]
        have HRI := Lib.hid (show R.Pairwise Before by rw [← hR]; exact rowsL_rise ls)
        clear hR hnr HRW
        go_wp2_with fail
        go_loopw [7] (fun iv wz => ∃ j : Nat, j ≤ nr ∧ iv = .int .i64 (j : Int) ∧ Hid (Below w4.heap.size w4 wz)) (fun iv _ => nr - intN iv)
        case atStart => exact ⟨0, Nat.zero_le _, rfl, Lib.hid (Below.refl _ _)⟩
        case round =>
          obtain ⟨j, hj, rfl, HJ⟩ := hrel
          by_cases hjl : j < nr
          · have hd : decide ((j : Int) < (nr : Int)) = true := decide_eq_true (by omega)
            have hjI : (j : Int) < (nr : Int) := by omega
            obtain ⟨g, x, hga, -, hx, p0, p1, -⟩ := row_at (own_below HV.out HJ.out) (show j < R.length by rw [HNR.out]; exact hjl)
            subst hga
            have HX := Lib.hid hx
            clear hx
            cases j with
            | zero =>
              go_upto_region 18 with (fail)
              go_quiet (fail)
              go_wp2
              go_roundw
              case rel => exact ⟨1, by omega, by go_num, Lib.hid (below_drewN HJ.out _)⟩
              case measure => simp [intN]; omega
            | succ j0 =>
              obtain ⟨g', y, hga, -, hy, q0, q1, -⟩ := row_at (own_below HV.out HJ.out) (show j0 < R.length by rw [HNR.out]; omega)
              cases hga
              obtain ⟨j, hj0⟩ : ∃ j, j0 + 1 = j := ⟨_, rfl⟩
              have hb : Before y x := by
                obtain ⟨l1, e1⟩ := List.getElem?_eq_some_iff.1 hy
                obtain ⟨l2, e2⟩ := List.getElem?_eq_some_iff.1 HX.out
                rw [← e1, ← e2]
                exact List.pairwise_iff_getElem.1 HRI.out _ _ l1 l2 (by omega)
              rw [hj0] at hj hjl hd hjI p0 p1
              rw [hj0]
              have ej : (j : Int) - 1 = (j0 : Int) := by omega
              have e1 : IntKind.i64.wrap ((j : Int) - 1) = (j0 : Int) := by rw [ej]; exact IntWalk.i64_in _ (by omega)
              have e2 : wrap64 ((j : Int) - 1) = (j0 : Int) := by rw [ej]; exact IntWalk.wrap64_in _ (by omega)
              have g1 : decide ((j : Int) > 0) = true := decide_eq_true (by omega)
              have g2 : decide ((0 : Int) < (j : Int)) = true := decide_eq_true (by omega)
              have g3 : decide (0 < j) = true := decide_eq_true (by omega)
              have g4 : 0 < j := by omega
              have jI0 : (0 : Int) ≤ (j : Int) := by omega
              have jI00 : (0 : Int) ≤ (j0 : Int) := by omega
              have j0I : (j0 : Int) < (nr : Int) := by omega
              have d1 : decide (x.n < y.n) = false := decide_eq_false (by rcases hb with h | ⟨h, -⟩ <;> omega)
              have HJ1 := Lib.hid (show j + 1 ≤ nr by omega)
              have HJN := Lib.hid (show (nr - (j + 1) : Nat) < nr - j by omega)
              by_cases hxy : x.n = y.n
              · have d2 : (x.n == y.n) = true := beq_iff_eq.2 hxy
                have d3 : decide ((x.k : Int) ≤ (y.k : Int)) = false := decide_eq_false (by rcases hb with h | ⟨-, h⟩ <;> omega)
                have d4 : ¬ x.k ≤ y.k := by rcases hb with h | ⟨-, h⟩ <;> omega
                have d5 : decide (x.k ≤ y.k) = false := decide_eq_false d4
                clear hy hb ej hxy hj0
                go_upto_region 18 with (fail)
                go_quiet (fail)
                go_wp2
                go_roundw
                case rel => exact ⟨j + 1, HJ1.out, by go_num, Lib.hid (below_drewN HJ.out _)⟩
                case measure => simp [intN]; omega
              · have d2 : (x.n == y.n) = false := beq_eq_false_iff_ne.2 hxy
                clear hy hb ej hxy hj0
                go_upto_region 18 with (fail)
                go_quiet (fail)
                go_wp2
                go_roundw
                case rel => exact ⟨j + 1, HJ1.out, by go_num, Lib.hid (below_drewN HJ.out _)⟩
                case measure => simp [intN]; omega
          · obtain rfl : j = nr := by omega
            have hd : decide ((j : Int) < (j : Int)) = false := decide_eq_false (by omega)
            go_wp2_with fail
            go_loopw [6, 8] (fun nv iv wz => ∃ q : Nat, q ≤ i ∧ nv = .int .i64 ((rowsP (ls.take q)).length : Int) ∧ iv = .int .i64 (q : Int) ∧ Hid (Below w4.heap.size w4 wz)) (fun _ iv _ => i - intN iv)
            case atStart => exact ⟨0, Nat.zero_le _, rfl, rfl, HJ⟩
            case round =>
              clear hd
              obtain ⟨q, hq, rfl, rfl, HQ⟩ := hrel
              obtain ⟨N0, hN0⟩ : ∃ N0, (rowsP (ls.take q)).length = N0 := ⟨_, rfl⟩
              have hNb : N0 ≤ 384 := by
                rw [← hN0]
                have h1 := rowsP_len (ls.take q)
                have h2 := List.length_take_le q ls
                omega
              rw [hN0]
              have HN0 := Lib.hid hN0
              clear hN0
              by_cases hql : q < i
              · have hd : decide ((q : Int) < (i : Int)) = true := decide_eq_true (by omega)
                have hqI : (q : Int) < (i : Int) := by omega
                obtain ⟨b, off, a1, n1, c1, x, hab, hlt, hx, q0, q1, q2, hsl, -⟩ := HL2.out.at_ hql
                subst hab
                have HX := Lib.hid hx
                have hn50 : n1 ≤ 50 := by rw [← hsl.len]; exact H50.out x (List.mem_of_getElem? hx)
                have HC := Lib.hid (show ∀ W, Below w4.heap.size w4 W → W.cell? ⟨b, off + q * 3, none⟩ = some (.int .i64 x.n) ∧ W.cell? ⟨b, off + q * 3 + 1, none⟩ = some (.int .i64 x.l) ∧ W.cell? ⟨b, off + q * 3 + 2, none⟩ = some (.slice a1 n1 c1) ∧ Slots W a1 n1 x.z from fun W hb => by
                  have hb3 := below_go B4.out hb
                  exact ⟨(hb3.cell (p := ⟨b, off + q * 3, none⟩) hlt).trans q0, (hb3.cell (p := ⟨b, off + q * 3 + 1, none⟩) hlt).trans q1, (hb3.cell (p := ⟨b, off + q * 3 + 2, none⟩) hlt).trans q2, hsl.below hb3⟩)
                clear hx hlt q0 q1 q2 hsl
                by_cases hnb : numB x.n = true
                · have hx01 : 0 ≤ x.n ∧ x.n < 1024 := by unfold numB at hnb; simpa using hnb
                  obtain ⟨hx0, hx1⟩ := hx01
                  have HNB := Lib.hid hnb
                  clear hnb
                  have d2 : decide (x.n ≥ 0) = true := decide_eq_true hx0
                  have d3 : decide (x.n < 1024) = true := decide_eq_true hx1
                  go_wp2_with fail
                  go_loopw [6, 9] (fun nv kv wz => ∃ k : Nat, k ≤ 32 ∧ nv = .int .i64 ((N0 + (recsTo x k).length : Nat) : Int) ∧ kv = .int .i64 (k : Int) ∧ Hid (Below w4.heap.size w4 wz)) (fun _ kv _ => 32 - intN kv)
                  case atStart => exact ⟨0, Nat.zero_le _, rfl, rfl, HQ⟩
                  case round =>
                    clear hd
                    obtain ⟨k, hk, rfl, rfl, HK⟩ := hrel
                    obtain ⟨M0, hM0⟩ : ∃ M0, (recsTo x k).length = M0 := ⟨_, rfl⟩
                    have hMb : M0 ≤ 32 := by
                      rw [← hM0]
                      unfold recsTo
                      rw [List.length_map]
                      exact Nat.le_trans (Slab.upTo_len _ _) hk
                    rw [hM0]
                    have HM0 := Lib.hid hM0
                    clear hM0
                    obtain ⟨c0, c1', c2, c3⟩ := HC.out _ HK.out
                    by_cases hkl : k < 32
                    · have hd : decide ((k : Int) < 32) = true := decide_eq_true (by omega)
                      obtain ⟨y, hy⟩ : ∃ y : Slot, atL x.l x.z (k : Int) = y := ⟨_, rfl⟩
                      obtain ⟨u, d⟩ := y
                      have hat := Slab.at_any x.l a1 n1 c1 x.z (k : Int) wr c3 (by omega)
                      rw [hy] at hat
                      unfold slotV at hat
                      have HAT := Lib.hid hat
                      have HY := Lib.hid hy
                      clear hat hy c3
                      go_upto_region 27 with ((with_reducible refine HAT.out.mono ?_); rintro e w6 ⟨rfl, b6⟩; have B6 := Lib.hid (below_go HK.out b6); clear b6)
                      clear c0 c1' c2 d2 d3
                      obtain ⟨gx, hgx⟩ : ∃ gx, w6.heap.size = gx := ⟨_, rfl⟩
                      have HBX := Lib.hid (Blk.new w6 41 #[.bool u, .string d])
                      have B7 := Lib.hid (below_go B6.out (Ent.below_box w6 (.cells #[.bool u, .string d] 41)))
                      rw [hgx] at HBX
                      try rw [hgx]
                      clear hgx
                      generalize hGen : w6.alloc (.cells #[.bool u, .string d] 41) = W7 at HBX B7 ⊢
                      clear hGen
                      go_wp2_with fail
                      go_loopw [11, 12] (fun bv tv wz => ∃ t : Nat, t ≤ j ∧ bv = .bool ((R.take t).any (fun z => sameRc z ⟨x.n, k, d⟩)) ∧ tv = .int .i64 (t : Int) ∧ Hid (Below W7.heap.size W7 wz)) (fun _ tv _ => j - intN tv)
                      case atStart => exact ⟨0, Nat.zero_le _, rfl, rfl, Lib.hid (Below.refl _ _)⟩
                      case round =>
                        clear hd
                        obtain ⟨t, ht, rfl, rfl, HT⟩ := hrel
                        obtain ⟨bb, hbb⟩ : ∃ bb, (R.take t).any (fun z => sameRc z ⟨x.n, k, d⟩) = bb := ⟨_, rfl⟩
                        rw [hbb]
                        by_cases htl : t < j
                        · have hd : decide ((t : Int) < (j : Int)) = true := decide_eq_true (by omega)
                          have htI : (t : Int) < (j : Int) := by omega
                          have ht0 : (0 : Int) ≤ (t : Int) := by omega
                          obtain ⟨g, r, hga, -, hr, p0, p1, p2⟩ := row_at (own_below HV.out (below_go B7.out HT.out)) (show t < R.length by rw [HNR.out]; exact htl)
                          subst hga
                          have hst := any_step (y := ⟨x.n, k, d⟩) hr
                          rw [hbb] at hst
                          cases bb with
                          | true =>
                            have HST := Lib.hid hst
                            clear hst hr p0 p1 p2 hbb
                            go_upto_region 31 with (fail)
                            go_quiet (fail)
                            go_wp2
                            go_roundw
                            case rel => exact ⟨t + 1, by omega, by rw [HST.out]; rfl, by go_num, Lib.hid (below_drewN HT.out _)⟩
                            case measure => simp [intN]; omega
                          | false =>
                            have hq := fun W => run_eq_rc r ⟨x.n, k, d⟩ W
                            have hgd := fun (A B : Operand) xs ys W => run_guard_rc .eql A B xs ys W
                            obtain ⟨sb, hsb⟩ : ∃ sb, sameRc r ⟨x.n, k, d⟩ = sb := ⟨_, rfl⟩
                            rw [hsb] at hst hq
                            rw [Bool.false_or] at hst
                            have HST := Lib.hid hst
                            have c0 := (HC.out _ (below_go B7.out HT.out)).1
                            have y1 := (HBX.out.below HT.out HBX.out.lt).cell 1
                            clear hst hr hsb hbb
                            go_upto_region 31 with (fail)
                            go_quiet (fail)
                            go_wp2
                            go_roundw
                            case rel => exact ⟨t + 1, by omega, by rw [HST.out], by go_num, Lib.hid (below_drewN HT.out _)⟩
                            case measure => simp [intN]; omega
                        · have htj : t = j := by omega
                          subst htj
                          have hd : decide ((t : Int) < (t : Int)) = false := decide_eq_false (by omega)
                          have hbu : bb = u := by
                            rw [← hbb, List.take_of_length_le (by rw [HNR.out]; exact Nat.le_refl _), ← HR.out]
                            have h := any_is HAP.out (List.mem_of_getElem? HX.out) HNB.out k
                            rw [HY.out] at h
                            exact h
                          have y0 := (HBX.out.below HT.out HBX.out.lt).cell 0
                          have hs := recs_step x k
                          rw [HY.out, HM0.out] at hs
                          have HSS := Lib.hid hs
                          clear hbb hs
                          subst hbu
                          cases bb with
                          | true =>
                            go_wp2
                            go_roundw
                            case rel => exact ⟨k + 1, by omega, by rw [HSS.out]; simp; omega, by go_num, Lib.hid (below_go B7.out HT.out)⟩
                            case measure => simp [intN]; omega
                          | false =>
                            go_wp2
                            go_roundw
                            case rel => exact ⟨k + 1, by omega, by rw [HSS.out]; simp, by go_num, Lib.hid (below_go B7.out HT.out)⟩
                            case measure => simp [intN]; omega
                    · obtain rfl : k = 32 := by omega
                      have hd : decide ((32 : Int) < 32) = false := by decide
                      have hN1 : N0 + M0 = (rowsP (ls.take (q + 1))).length := by rw [rowsP_step HX.out, HN0.out, if_pos HNB.out, ← recs_to, HM0.out]
                      rw [hN1]
                      go_wp2
                      go_roundw
                      case rel => exact ⟨q + 1, by omega, rfl, by go_num, HK⟩
                      case measure => simp [intN]; omega
                · have HNB := Lib.hid hnb
                  have hN1 : N0 = (rowsP (ls.take (q + 1))).length := by rw [rowsP_step HX.out, HN0.out, if_neg hnb]; rfl
                  rw [hN1]
                  go_wp2_with fail
                  go_loopw [6, 9] (fun nv kv wz => nv = .int .i64 ((rowsP (ls.take (q + 1))).length : Int) ∧ kv = .int .i64 0 ∧ Hid (Below w4.heap.size w4 wz)) (fun _ _ _ => 0)
                  case atStart => exact ⟨rfl, rfl, HQ⟩
                  case round =>
                    clear hd
                    obtain ⟨rfl, rfl, HK⟩ := hrel
                    obtain ⟨c0, c1', c2, c3⟩ := HC.out _ HK.out
                    by_cases hx0 : x.n ≥ 0
                    · have hx1 : ¬ x.n < 1024 := fun h => hnb (by unfold numB; simp; exact ⟨hx0, h⟩)
                      have d2 : decide (x.n ≥ 0) = true := decide_eq_true hx0
                      have d3 : decide (x.n < 1024) = false := decide_eq_false hx1
                      clear hN1 hnb
                      go_wp2
                      go_roundw
                      case rel => exact ⟨q + 1, by omega, rfl, by go_num, HK⟩
                      case measure => simp [intN]; omega
                    · have d2 : decide (x.n ≥ 0) = false := decide_eq_false hx0
                      clear hN1 hnb
                      go_wp2
                      go_roundw
                      case rel => exact ⟨q + 1, by omega, rfl, by go_num, HK⟩
                      case measure => simp [intN]; omega
              · obtain rfl : q = i := by omega
                have hd : decide ((q : Int) < (q : Int)) = false := decide_eq_false (by omega)
                have hfin : N0 = j := by
                  rw [← HN0.out, ← HNR.out, List.take_of_length_le (by omega), ← HR.out]
                  exact (rows_perm HAP.out).length_eq.symm
                subst hfin
                go_wp2
                go_ret
                exact ⟨rfl, below_go B2.out (below_go B4.out HQ.out)⟩
end Go.Proofs.YtkeocnhndnbamaaGreat.Mend
