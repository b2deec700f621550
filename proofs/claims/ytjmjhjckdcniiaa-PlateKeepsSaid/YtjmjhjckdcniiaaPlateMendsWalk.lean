/- The walk of the statement PlateMends. -/
import Derived.Test.YtjmjhjckdcniiaaPlateAwake
namespace Go.Proofs.Ytjmjhjckdcniiaa.Plate
open Go.RowKit
open Go.Proofs.Ytjmjhjckdcniiaa.Mem

theorem cut_of (x : Int) (n : Int) (hn : 1 ≤ n) (hm : n ≤ 9223372036854775807) : ∃ K : Nat, wrap64 ((IntKind.u64.wrap x).tmod n) = (K : Int) ∧ (K : Int) < n := by
  have h0 : 0 ≤ IntKind.u64.wrap x := by rw [IntKind.wrap_u64]; omega
  rw [Int.tmod_eq_emod_of_nonneg h0]
  have h1 := Int.emod_nonneg (IntKind.u64.wrap x) (b := n) (by omega)
  have h2 := Int.emod_lt_of_pos (IntKind.u64.wrap x) (b := n) (by omega)
  generalize IntKind.u64.wrap x % n = z at h1 h2 ⊢
  exact ⟨z.toNat, by unfold wrap64; omega, by omega⟩
theorem up_of (x : Int) (n : Int) (hn : 1 ≤ n) (hm : n ≤ 1000) : ∃ K : Nat, wrap64 (1 + wrap64 ((IntKind.u64.wrap x).tmod n)) = (K : Int) ∧ 1 ≤ K ∧ (K : Int) ≤ n := by
  obtain ⟨K, h1, h2⟩ := cut_of x n hn (by omega)
  exact ⟨K + 1, by rw [h1]; unfold wrap64; omega, by omega, by omega⟩

set_option maxRecDepth 100000 in
set_option maxHeartbeats 4000000 in
theorem mends_walk (n : Int) (a b : UInt8) (w : World) (_hn : -9223372036854775808 ≤ n ∧ n ≤ 9223372036854775807) :
    Calls Try.prog 4 #[.int .i64 n, .int .u8 (a.toNat : Int), .int .u8 (b.toNat : Int)] w fun e w' => e = .returned (.bool true) ∧ Below w.heap.size w w' := by
  have hla := a.toNat_lt
  have hlb := b.toNat_lt
  have hsA := fstr_size 256 a
  have hsB := fstr_size 256 b
  have hFA := fun W => filled_any a W
  have hFB := fun W => filled_any b W
  obtain ⟨A, hA⟩ : ∃ A, A = fstr 256 a := ⟨_, rfl⟩
  obtain ⟨B, hB⟩ : ∃ B, B = fstr 256 b := ⟨_, rfl⟩
  rw [← hA] at hsA hFA
  rw [← hB] at hsB hFB
  have HFA := Lib.hid hFA
  have HFB := Lib.hid hFB
  have HSA := Lib.hid hsA
  have HSB := Lib.hid hsB
  clear hA hB hFA hFB hsA hsB
  obtain ⟨f0, hf0⟩ : ∃ f0 : Nat → Sec, f0 = fun _ => ⟨fstr 256 0, false⟩ := ⟨_, rfl⟩
  have HS0 := Lib.hid (show newS 32 = St 32 f0 [] false 0 0 by rw [hf0]; rfl)
  clear hf0
  obtain ⟨m, hm, hm1, hm2⟩ := up_of n 30 (by decide) (by decide)
  have hm32 : m < 32 := by omega
  have HM32 := Lib.hid hm32
  have HM1 := Lib.hid hm1
  have HM := Lib.hid hm
  clear hm hm2 hm32 hm1
  go_enter Try.func4, Try.ntmps4
  go_wp2_with fail
  refine (awake_any _).mono ?_
  rintro e w0 ⟨rfl, b0⟩
  go_wp2_with fail
  refine (pq_new _ 32 (by decide) (by decide)).mono ?_
  rintro e w1 ⟨p, rfl, hp, hb⟩
  rw [HS0.out] at hp
  have H1 := At.new b0 hp hb
  clear hp hb b0
  go_wp2_with fail
  refine (HFA.out _).mono ?_
  rw [HM.out]
  rintro e v2 ⟨rfl, b2⟩
  have H2 := H1.below b2
  clear b2 H1
  go_wp2_with fail
  refine (pl_write _ p _ 32 _ _ _ _ 0 A H2.pq (by decide) HSA.out (by decide) (by decide) (by simp)).mono ?_
  rintro e v3 ⟨rfl, hp, hk⟩
  have H3 := H2.next hp hk
  clear hp hk H2
  go_wp2_with fail
  refine (HFA.out _).mono ?_
  rintro e v4 ⟨rfl, b2⟩
  have H4 := H3.below b2
  clear b2 H3
  go_wp2_with fail
  refine (pl_write _ p _ 32 _ _ _ _ m A H4.pq HM32.out HSA.out (by decide) (by decide) (by simp)).mono ?_
  rintro e v5 ⟨rfl, hp, hk⟩
  have H5 := H4.next hp hk
  clear hp hk H4
  go_wp2_with fail
  refine (pl_sync _ p _ 32 _ _ _ _ H5.pq (by decide) (by decide) (by simp)).mono ?_
  rintro e v6 ⟨rfl, hp, hk⟩
  have H6 := H5.next hp hk
  have g0 : setTo f0 (fun _ => 1) ([] ++ [(⟨0, A⟩ : Wr)] ++ [(⟨m, A⟩ : Wr)]) ([] ++ [(⟨0, A⟩ : Wr)] ++ [(⟨m, A⟩ : Wr)]).length 0 = ⟨A, false⟩ := by have := HM1.out; simp [setTo, fateS, upd]
  generalize setTo f0 (fun _ => 1) ([] ++ [(⟨0, A⟩ : Wr)] ++ [(⟨m, A⟩ : Wr)]) ([] ++ [(⟨0, A⟩ : Wr)] ++ [(⟨m, A⟩ : Wr)]).length = f1 at H6 g0
  clear hp hk H5
  go_wp2_with fail
  refine (HFB.out _).mono ?_
  rintro e v7 ⟨rfl, b2⟩
  have H7 := H6.below b2
  clear b2 H6
  go_wp2_with fail
  refine (pl_write _ p _ 32 _ _ _ _ m B H7.pq HM32.out HSB.out (by decide) (by decide) (by simp)).mono ?_
  rintro e v8 ⟨rfl, hp, hk⟩
  have H8 := H7.next hp hk
  clear hp hk H7
  go_wp2_with fail
  refine (pl_off _ p _ 32 _ _ _ _ H8.pq (by decide)).mono ?_
  rintro e v9 ⟨rfl, hp, hk⟩
  have H9 := H8.next hp hk
  clear hp hk H8
  go_wp2_with fail
  refine (pl_on1 _ p _ 32 _ _ _ _ 2 H9.pq (by simp) (by decide)).mono ?_
  rintro e v10 ⟨rfl, hp, hk⟩
  have H10 := H9.next hp hk
  have g2 : setTo f1 (fun _ => 2) ([] ++ [(⟨m, B⟩ : Wr)]) ([] ++ [(⟨m, B⟩ : Wr)]).length m = ⟨⟨#[]⟩, true⟩ := by simp [setTo, fateS, upd]
  have g3 : setTo f1 (fun _ => 2) ([] ++ [(⟨m, B⟩ : Wr)]) ([] ++ [(⟨m, B⟩ : Wr)]).length 0 = ⟨A, false⟩ := by have := HM1.out; simp [setTo, fateS, upd, g0]; omega
  generalize setTo f1 (fun _ => 2) ([] ++ [(⟨m, B⟩ : Wr)]) ([] ++ [(⟨m, B⟩ : Wr)]).length = f2 at H10 g2 g3
  clear g0
  clear hp hk H9
  go_wp2_with fail
  refine (pl_rtorn _ p _ 32 f2 _ _ m _ H10.pq HM32.out g2).mono ?_
  rintro e v11 ⟨rfl, hp, hk⟩
  have H11 := H10.next hp hk
  clear hp hk H10
  go_wp2_with fail
  refine (HFB.out _).mono ?_
  rintro e v12 ⟨rfl, b2⟩
  have H12 := H11.below b2
  clear b2 H11
  go_wp2_with fail
  refine (pl_write _ p _ 32 _ _ _ _ m B H12.pq HM32.out HSB.out (by decide) (by decide) (by simp)).mono ?_
  rintro e v13 ⟨rfl, hp, hk⟩
  have H13 := H12.next hp hk
  clear hp hk H12
  go_wp2_with fail
  refine (pl_rwait _ p _ 32 f2 _ _ _ m B H13.pq HM32.out (by simp) (by simp [lastOf])).mono ?_
  rintro e v14 ⟨rfl, hp, hk⟩
  have H14 := H13.next hp hk
  clear hp hk H13
  go_wp2_with fail
  refine (pl_sync _ p _ 32 _ _ _ _ H14.pq (by decide) (by decide) (by simp)).mono ?_
  rintro e v15 ⟨rfl, hp, hk⟩
  have H15 := H14.next hp hk
  have g4 : setTo f2 (fun _ => 1) ([] ++ [(⟨m, B⟩ : Wr)]) ([] ++ [(⟨m, B⟩ : Wr)]).length m = ⟨B, false⟩ := by simp [setTo, fateS, upd]
  have g5 : setTo f2 (fun _ => 1) ([] ++ [(⟨m, B⟩ : Wr)]) ([] ++ [(⟨m, B⟩ : Wr)]).length 0 = ⟨A, false⟩ := by have := HM1.out; simp [setTo, fateS, upd, g3]; omega
  generalize setTo f2 (fun _ => 1) ([] ++ [(⟨m, B⟩ : Wr)]) ([] ++ [(⟨m, B⟩ : Wr)]).length = f3 at H15 g4 g5
  clear g2 g3
  clear hp hk H14
  go_wp2_with fail
  refine (pl_off _ p _ 32 _ _ _ _ H15.pq (by decide)).mono ?_
  rintro e v16 ⟨rfl, hp, hk⟩
  have H16 := H15.next hp hk
  clear hp hk H15
  go_wp2_with fail
  refine (pl_on0 _ p _ 32 _ _ _ _ H16.pq (by simp)).mono ?_
  rintro e v17 ⟨rfl, hp, hk⟩
  have H17 := H16.next hp hk
  simp only [List.length_nil, setTo] at H17
  clear hp hk H16
  go_wp2_with fail
  refine (pl_read _ p _ 32 f3 _ _ m B H17.pq HM32.out g4).mono ?_
  rintro e v18 ⟨rfl, hp, hk⟩
  have H18 := H17.next hp hk
  clear hp hk H17
  go_wp2_with fail
  refine (pl_read _ p _ 32 f3 _ _ 0 A H18.pq (by decide) g5).mono ?_
  rintro e v19 ⟨rfl, hp, hk⟩
  have H19 := H18.next hp hk
  clear hp hk H18
  go_wp2_with fail
  refine (HFB.out _).mono ?_
  rintro e v20 ⟨rfl, b2⟩
  have H20 := H19.below b2
  clear b2 H19
  go_wp2_with fail
  refine (HFA.out _).mono ?_
  rintro e v21 ⟨rfl, b2⟩
  have H21 := H20.below b2
  clear b2 H20
  go_wp2
  go_ret
  exact ⟨rfl, H21.bel⟩
end Go.Proofs.Ytjmjhjckdcniiaa.Plate
