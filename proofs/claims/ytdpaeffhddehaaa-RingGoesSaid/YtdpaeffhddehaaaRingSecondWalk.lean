/- The walk of the statement RingSecond. -/
import Derived.Test.YtdpaeffhddehaaaRingSecond0
import Derived.Test.YtdpaeffhddehaaaRingAwake
import Derived.Test.YtdpaeffhddehaaaRingIAll
namespace Go.Proofs.Ytdpaeffhddehaaa.RingI
set_option maxRecDepth 100000
open Go.RowKit Go.Shelf
open Go.Proofs.Ytdpaeffhddehaaa.Mem
open Go.Proofs.Ytdpaeffhddehaaa.Ring
attribute [local go_sem] Oper.semAt_some

theorem cut_of (x : Int) (n : Int) (hn : 1 ≤ n) (hm : n ≤ 9223372036854775807) : ∃ K : Nat, wrap64 ((IntKind.u64.wrap x).tmod n) = (K : Int) ∧ (K : Int) < n := by
  have h0 : 0 ≤ IntKind.u64.wrap x := by rw [IntKind.wrap_u64]; omega
  rw [Int.tmod_eq_emod_of_nonneg h0]
  have h1 := Int.emod_nonneg (IntKind.u64.wrap x) (b := n) (by omega)
  have h2 := Int.emod_lt_of_pos (IntKind.u64.wrap x) (b := n) (by omega)
  generalize IntKind.u64.wrap x % n = z at h1 h2 ⊢
  exact ⟨z.toNat, by unfold wrap64; omega, by omega⟩
theorem add_of (x c : Int) (n : Int) (hc : 0 ≤ c ∧ c ≤ 1000) (hn : 1 ≤ n) (hm : n ≤ 1000) : ∃ K : Nat, wrap64 (c + wrap64 ((IntKind.u64.wrap x).tmod n)) = (K : Int) ∧ c ≤ K ∧ (K : Int) < c + n := by
  obtain ⟨K, h1, h2⟩ := cut_of x n hn (by omega)
  exact ⟨(c + K).toNat, by rw [h1]; unfold wrap64; omega, by omega, by omega⟩
theorem put_to {p : Nat} {M : Nat → Prop} {S S2 : RState} {k v : Int} {o : Ou Int} {b : Bool} (w : World) (h : RQ w p M S) (e : putR (0 : Int) S k v = (o, b, S2)) :
    Calls Try.prog 26 #[.pointer (some ⟨p, 0, none⟩), .int .i64 k, .int .i64 v] w fun e w' => e = .returned (.tuple #[.agg #[.int .i64 o.key, .int .i64 o.val, .bool o.gone], .bool b]) ∧ RQ w' p M S2 ∧ Keep M w w' := by
  refine (put_any k v w h).mono ?_
  rintro e' w' ⟨h1, h2⟩
  rw [e] at h1 h2
  exact ⟨h1, h2.1, h2.2⟩
theorem get_to {p : Nat} {M : Nat → Prop} {S S2 : RState} {k v : Int} {b : Bool} (w : World) (h : RQ w p M S) (e : getR (0 : Int) S k = (v, b, S2)) :
    Calls Try.prog 30 #[.pointer (some ⟨p, 0, none⟩), .int .i64 k] w fun e w' => e = .returned (.tuple #[.int .i64 v, .bool b]) ∧ RQ w' p M S2 ∧ Keep M w w' := by
  obtain ⟨fb, ad, h⟩ := h
  refine (get_any k w h).mono ?_
  rintro e' w' ⟨h1, h2⟩
  rw [e] at h1 h2
  exact ⟨h1, h2.1, h2.2⟩
def stS (N k : Nat) : RState := if k ≤ N then fillS N k else overS N
theorem st_put {N k : Nat} (hN : 1 ≤ N) (hk : k ≤ N) : putR (0 : Int) (stS N k) k k = (⟨0, 0, decide (k = N)⟩, true, stS N (k + 1)) := by
  unfold stS
  rw [if_pos hk]
  by_cases e : k = N
  · subst e
    rw [over_put hN, if_neg (by omega), decide_eq_true rfl]
  · rw [fill_put (by omega), if_pos (by omega), decide_eq_false e]
    rfl
set_option maxHeartbeats 4000000 in
theorem second_walk (fr ask : Int) (w : World) (_hf : -9223372036854775808 ≤ fr ∧ fr ≤ 9223372036854775807) (_ha : -9223372036854775808 ≤ ask ∧ ask ≤ 9223372036854775807) :
    Calls Try.prog 7 #[.int .i64 fr, .int .i64 ask] w fun e w' => e = .returned (.bool true) ∧ Below w.heap.size w w' := by
  obtain ⟨N, hNe, hN1, hN2⟩ := add_of fr 3 60 (by omega) (by omega) (by omega)
  have hn1 : 3 ≤ N := by omega
  have hn2 : N ≤ 62 := by omega
  obtain ⟨k, hke, hk1, hk2⟩ := add_of ask 1 ((N : Int) - 1) (by omega) (by omega) (by omega)
  have hk3 : 1 ≤ k := by omega
  have hk4 : k < N := by omega
  clear hN1 hN2 hk1 hk2
  go_enter Try.func7, Try.ntmps7
  go_wp2_with fail
  refine (RingS.awake_any w).mono ?_
  rintro e w1 ⟨rfl, b1⟩
  go_wp2_with fail
  rw [hNe]
  refine (new_any w1 N (by omega)).mono ?_
  rintro e w2 ⟨p, rfl, r1, b2, -⟩
  rw [show clampN (N : Int) = N by unfold clampN; rw [if_neg (by omega), if_neg (by omega)]; omega, fill_zero] at r1
  have R0 : Hid (RQ w2 p (fun k => k < w1.heap.size) (stS N 0)) := by unfold stS; rw [if_pos (by omega)]; exact r1
  have B0 := Lib.hid (b1.trans (b2.mono b1.size))
  have HW1 := Lib.hid b1.size
  clear r1 b1 b2 hNe
  go_wp2
  go_loopw [6, 7, 8] (fun i _ _ wr => ∃ k : Nat, k ≤ N + 1 ∧ i = .int .i64 (k : Int) ∧ Hid (RQ wr p (fun k => k < w1.heap.size) (stS N k)) ∧ Hid (Below w.heap.size w wr)) (fun i _ _ _ => N + 1 - (intOf i).toNat)
  case atStart => exact ⟨0, Nat.zero_le _, rfl, R0, B0⟩
  case round =>
    obtain ⟨m, hm, rfl, HR, HB⟩ := hrel
    clear R0 B0
    by_cases hlt : m ≤ N
    · have HP := Lib.hid (put_to wr HR.out (st_put (by omega) hlt))
      by_cases hmN : m = N
      · subst hmN
        go_wp2_with fail
        refine HP.out.mono ?_
        simp only [decide_true]
        rintro e w3 ⟨rfl, r3, k3⟩
        have HR3 := Lib.hid (r3.below ((Below.refl _ _).alloc (Nat.le_refl _) (.cells #[.int .i64 0, .int .i64 0, .bool true] 57)))
        have HB3 := Lib.hid ((HB.out.trans (k3.below (fun k h => by have := HW1.out; omega))).alloc (Nat.le_trans HB.out.size k3.size) (.cells #[.int .i64 0, .int .i64 0, .bool true] 57))
        clear HP r3 k3
        go_wp2
        go_roundw
        case rel => exact ⟨m + 1, by omega, by go_num, HR3, HB3⟩
        case measure => simp [intOf]
      · rw [decide_eq_false hmN] at HP
        have hmN' : ((m : Int) == (N : Int)) = false := by rw [beq_eq_false_iff_ne]; omega
        go_wp2_with fail
        refine HP.out.mono ?_
        rintro e w3 ⟨rfl, r3, k3⟩
        have HR3 := Lib.hid (r3.below ((Below.refl _ _).alloc (Nat.le_refl _) (.cells #[.int .i64 0, .int .i64 0, .bool false] 57)))
        have HB3 := Lib.hid ((HB.out.trans (k3.below (fun k h => by have := HW1.out; omega))).alloc (Nat.le_trans HB.out.size k3.size) (.cells #[.int .i64 0, .int .i64 0, .bool false] 57))
        clear HP r3 k3
        go_wp2
        go_roundw
        case rel => exact ⟨m + 1, by omega, by go_num, HR3, HB3⟩
        case measure => simp [intOf]; omega
    · obtain rfl : m = N + 1 := by omega
      have r3 : RQ wr p (fun k => k < w1.heap.size) (overS N) := by have := HR.out; unfold stS at this; rw [if_neg (by omega)] at this; exact this
      have HG := Lib.hid (get_to wr r3 (over_get hk3 hk4))
      obtain ⟨x, S2, e1, e2, e3⟩ := ask_put hn1 hn2 hk3 hk4
      have E1 := Lib.hid e1
      have E3 := Lib.hid e3
      clear r3 HR e1 e3
      go_wp2_with fail
      rw [hke]
      refine HG.out.mono ?_
      rintro e w3 ⟨rfl, r3, k3⟩
      have HB3 := Lib.hid (HB.out.trans (k3.below (fun k h => by have := HW1.out; omega)))
      have HP := Lib.hid (put_to w3 r3 E1.out)
      clear r3 k3 HG E1 hke
      go_wp2_with fail
      refine HP.out.mono ?_
      rintro e w4 ⟨rfl, r4, k4⟩
      have r5 := r4.alloc (.cells #[.int .i64 x, .int .i64 x, .bool true] 57)
      have o5 := Blk.new w4 57 #[.int .i64 x, .int .i64 x, .bool true]
      have HB5 := Lib.hid ((HB3.out.trans (k4.below (fun k h => by have := HW1.out; omega))).alloc (Nat.le_trans HB3.out.size k4.size) (.cells #[.int .i64 x, .int .i64 x, .bool true] 57))
      clear r4 k4 HP HB3
      go_wp2_with fail
      generalize hGen : w4.alloc (.cells #[.int .i64 x, .int .i64 x, .bool true] 57) = w5 at r5 o5 HB5 ⊢
      clear hGen
      generalize w4.heap.size = g at r5 o5 ⊢
      refine (get_to w5 r5 E3.out).mono ?_
      rintro e w6 ⟨rfl, -, k6⟩
      have o6 := k6.blk o5 (.inr rfl)
      have HB6 := Lib.hid (HB5.out.trans (k6.below (fun k h => by have := HW1.out; omega)))
      have q0 := o6.cell 0
      have q2 := o6.cell 2
      have hxk : (x != (k : Int)) = true := by rw [bne_iff_ne]; exact e2
      clear o5 o6 k6 r5 HB5 E3
      go_wp2
      go_ret
      exact ⟨rfl, HB6.out⟩
end Go.Proofs.Ytdpaeffhddehaaa.RingI
