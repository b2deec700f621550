/- The walk of the statement CordOld. -/
import Derived.Test.YtbbikibkijncgaaCordTalked
import Derived.Test.YtbbikibkijncgaaCordOldMath
namespace Go.Proofs.Ytbbikibkijncgaa.Cord
set_option maxRecDepth 100000
open Go.RowKit Go.Sort
open Go.Proofs.Ytbbikibkijncgaa.Mem
set_option maxRecDepth 100000 in
set_option maxHeartbeats 8000000 in
theorem old_walk (ep : Int) (a : Option Addr) (n c : Nat) (xs : List Ev) (ot : Int) (w : World) (_he : -9223372036854775808 ≤ ep ∧ ep ≤ 9223372036854775807) (hI : Evs w a n xs) (_ho : -9223372036854775808 ≤ ot ∧ ot ≤ 9223372036854775807) :
    Calls Try.prog 6 #[.int .i64 ep, .slice a n c, .int .i64 ot] w fun e w' => e = .returned (.bool true) ∧ Below w.heap.size w w' := by
  have HI := Lib.hid hI
  clear hI
  obtain ⟨K, hKe, hK⟩ := cut_of ep 1000 (by omega) (by omega)
  have hw1 : IntKind.i64.wrap (1 + (K : Int)) = 1 + (K : Int) := by rw [IntKind.wrap_i64]; omega
  obtain ⟨K2, hKe2, hK2⟩ := cut_of ot 1000 (by omega) (by omega)
  have hw2 : IntKind.i64.wrap (1 + (K2 : Int)) = 1 + (K2 : Int) := by rw [IntKind.wrap_i64]; omega
  go_enter Try.func6, Try.ntmps6
  go_wp2_with fail
  refine (awake_any w).mono ?_
  rintro e w1 ⟨rfl, b1⟩
  have HB1 : Hid (Below w.heap.size w w1 ∧ ∀ j, j < 0 → (xs.getD j noEv).text.size ≤ 1024) := Lib.hid ⟨b1, fun j h => absurd h (Nat.not_lt_zero _)⟩
  clear b1
  go_wp2_with fail
  go_loopw [7] (fun i wr => ∃ k : Nat, k ≤ n ∧ k ≤ 120 ∧ i = .int .i64 (k : Int) ∧ Hid (Below w.heap.size w wr ∧ ∀ j, j < k → (xs.getD j noEv).text.size ≤ 1024)) (fun i _ => 120 - (intOf i).toNat)
  case atStart => exact ⟨0, Nat.zero_le _, Nat.zero_le _, rfl, HB1⟩
  case round =>
    obtain ⟨k, hkn, hk, rfl, HK⟩ := hrel
    clear HB1
    by_cases hlt : k < n ∧ k < 120
    · obtain ⟨h1, h2⟩ := hlt
      have h1i : (k : Int) < 120 := by omega
      have h1d : decide ((k : Int) < 120) = true := decide_eq_true h1i
      obtain ⟨bz, off, x, rfl, hbz, hxe, hx, hg⟩ := HI.out.at_ h1
      obtain ⟨zk, zn, zt⟩ := x
      obtain ⟨_, _, x2⟩ := hx
      simp only at x2
      have x2 := (HK.out.1.cell (p := ⟨bz, off + k * 3 + 1 + 1, none⟩) hbz).trans x2
      have g5 : zt.size ≤ 140737488351232 := hg.2.2.2.2
      clear hg
      by_cases hz : zt.size ≤ 1024
      · have hzi : ¬ (1024 : Int) < (zt.size : Int) := by omega
        have HK2 : Hid (Below w.heap.size w wr ∧ ∀ j, j < k + 1 → (xs.getD j noEv).text.size ≤ 1024) := Lib.hid ⟨HK.out.1, fun j hj => by
          rcases Nat.lt_succ_iff_lt_or_eq.1 hj with h | rfl
          · exact HK.out.2 j h
          · rw [hxe]; exact hz⟩
        clear HK hxe
        go_wp2_with fail
        go_roundw
        case rel => exact ⟨k + 1, by omega, by omega, by go_num, HK2⟩
        case measure => simp [intOf]; omega
      · have hzi : (1024 : Int) < (zt.size : Int) := by omega
        have HB := Lib.hid HK.out.1
        clear HK hxe HI
        go_wp2_with fail
        go_ret
        exact ⟨rfl, HB.out⟩
    · by_cases hKK : (K : Int) = (K2 : Int)
      · have HB := Lib.hid HK.out.1
        clear HK HI
        have hb0 : ((1 + (K : Int)) == (1 + (K2 : Int))) = true := by rw [beq_iff_eq]; omega
        have hb1 : (1 + (K : Int)) = (1 + (K2 : Int)) := by omega
        have h1i : ¬ (k : Int) < (n : Int) ∨ ((k : Int) < (n : Int) ∧ ¬ (k : Int) < 120) := by omega
        rcases h1i with h1i | ⟨h0i, h1i⟩
        all_goals
          go_wp2_with fail
          go_ret
          exact ⟨rfl, HB.out⟩
      · have HT : Hid (Calls Try.prog 23 #[.int .i64 (1 + (K : Int)), .slice a n c] wr fun r w' => ∃ W0 tp pa pb V t, r = .returned (.tuple #[.pointer (some ⟨tp, 0, none⟩), .bool true]) ∧ Below w.heap.size w W0 ∧ TQ W0 w' tp pa pb 400 V (fun _ => False) t ∧ Inv (1 + (K : Int)) t ∧ Lens t 120) := Lib.hid
          ((talked_any (1 + (K : Int)) a n c xs wr (HI.out.below HK.out.1) ⟨by omega, by omega⟩ (fun j h1 h2 => HK.out.2 j (by omega))).mono fun r w' ⟨tp, pa, pb, V, t, hr, hq, hv, hl⟩ => ⟨wr, tp, pa, pb, V, t, hr, HK.out.1, hq, hv, hl⟩)
        clear HK HI
        have hb0 : ((1 + (K : Int)) == (1 + (K2 : Int))) = false := by rw [beq_eq_false_iff_ne]; omega
        have hb1 : ¬ (1 + (K : Int)) = (1 + (K2 : Int)) := by omega
        have h1i : ¬ (k : Int) < (n : Int) ∨ ((k : Int) < (n : Int) ∧ ¬ (k : Int) < 120) := by omega
        rcases h1i with h1i | ⟨h0i, h1i⟩
        all_goals
          go_wp2_with fail
          refine HT.out.mono ?_
          rintro r w2 ⟨W0, tp, pa, pb, V, t, rfl, hbw, hq, hv, hl⟩
          have HQ := Lib.hid hq
          have HV := Lib.hid hv
          have HBW := Lib.hid hbw
          have HLP := Lib.hid hl.pl
          clear hq hv hl hbw HT h1i
          go_wp2_with fail
          refine (new_any (1 + (K2 : Int)) w2 (by omega) (by omega)).mono ?_
          rintro r w3 ⟨p, rfl, hE, b3⟩
          have HO := Lib.hid (old_start HQ.out hE b3)
          generalize V 4 = v4 at HO
          clear hE b3 HQ
          go_wp2_with fail
          refine HO.out.mine.mono ?_
          rintro r w4 ⟨⟨z, rfl⟩, hO⟩
          have HO4 := Lib.hid hO
          clear hO HO
          go_wp2_with fail
          obtain ⟨a4, c4, hV4⟩ := HO4.out.shape
          have HPE : Hid (∀ x ∈ t.pl, x.1.ep ≠ (eMine (1 + (K2 : Int))).ep) := Lib.hid fun x hx h => by rw [pool_ep HV.out hx] at h; exact hb1 h
          generalize t.pl = L at *
          generalize hm : L.length = m at *
          go_loopw [11] (fun i wx => ∃ j : Nat, j ≤ m ∧ i = .int .i64 (j : Int) ∧ Hid (Old W0 tp p (1 + 2 * j) v4 L (eMine (1 + (K2 : Int))) wx)) (fun i _ => m - (intOf i).toNat)
          case atStart => exact ⟨0, Nat.zero_le _, rfl, HO4⟩
          case round =>
            obtain ⟨j, hj, rfl, HJ⟩ := hrel
            clear HO4
            have hm9 : m ≤ 3960 := HLP.out
            have d6 := HJ.out.cell
            rw [hV4] at d6
            by_cases hjm : j < m
            · obtain ⟨g, cg, x, hv, hx, m0, m1, m2, m3, m4, m5⟩ := HJ.out.pool (K := j) (by omega)
              rw [hV4, hm] at hv
              injection hv with hv1 _ hv3
              subst hv1; subst hv3
              have htk := HJ.out.take (by omega) x.1 (HPE.out x (List.mem_of_getElem? hx))
              unfold gmV at htk
              have HC := Lib.hid htk
              clear htk HJ hx
              go_wp2_with fail
              refine HC.out.mono ?_
              rintro e w5 ⟨⟨v5, q5, rfl⟩, h5⟩
              have HJ5 := Lib.hid h5
              clear h5 HC m0 m1 m2 m3 m4 m5
              go_wp2_with fail
              refine HJ5.out.got.mono ?_
              rintro r _ ⟨rfl, rfl⟩
              go_wp2_with fail
              refine HJ5.out.open_.mono ?_
              rintro r _ ⟨rfl, rfl⟩
              go_wp2_with fail
              go_roundw
              case rel => exact ⟨j + 1, by omega, by go_num, by rw [show 1 + 2 * (j + 1) = 1 + 2 * j + 2 by omega]; exact HJ5⟩
              case measure => simp [intOf]; omega
            · obtain rfl : j = m := by omega
              have HBB : Hid (Below w.heap.size w wr) := Lib.hid (HBW.out.trans (HJ.out.bel.mono HBW.out.size))
              clear HJ HBW HPE HV
              go_wp2_with fail
              refine (take_nil ⟨0, false, 0, 0, 0, .empty⟩ wr).mono ?_
              rintro r w5 ⟨rfl, b5⟩
              have HB5 : Hid (Below w.heap.size w w5) := Lib.hid (HBB.out.trans (b5.mono HBB.out.size))
              clear b5 HBB
              go_wp2_with fail
              refine (send_nil .empty w5).mono ?_
              rintro r _ ⟨rfl, rfl⟩
              go_wp2_with fail
              refine (out_nil w5).mono ?_
              rintro r _ ⟨rfl, rfl⟩
              go_wp2_with fail
              refine (epoch_nil w5).mono ?_
              rintro r _ ⟨rfl, rfl⟩
              go_wp2_with fail
              refine (open_nil w5).mono ?_
              rintro r _ ⟨rfl, rfl⟩
              go_wp2_with fail
              refine (got_nil w5).mono ?_
              rintro r _ ⟨rfl, rfl⟩
              go_wp2_with fail
              refine (owes_nil w5).mono ?_
              rintro r _ ⟨rfl, rfl⟩
              go_wp2
              go_ret
              exact ⟨rfl, HB5.out⟩
end Go.Proofs.Ytbbikibkijncgaa.Cord
