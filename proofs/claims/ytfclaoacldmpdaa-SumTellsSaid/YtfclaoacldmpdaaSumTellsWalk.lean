/- The walk of the statement SumTells. -/
import Derived.Test.YtfclaoacldmpdaaSumLaws
import Derived.Lib.Strings
namespace Go.Proofs.Ytfclaoacldmpdaa.Sum
open Go.RowKit

theorem run_cut4 (w : World) (a : Addr) :
    (Instr.sliceAt 29 (.pointer (some a)) none none none).run Try.prog w = .ok (.slice (some a) 4 4) w := by
  have hl : Try.prog.arrayLen 29 = 4 := by kernel_rfl
  have he : Try.prog.elem 29 = 5 := by kernel_rfl
  have hz : ∀ W, (sizeOf 5).run Try.prog W = .ok 1 W := fun _ => by kernel_rfl
  rw [run_sliceAt_array_all w _ a (by rw [hl, he]; exact Try.underlying29), hl, he, hz]
  simp [Result.andThen, slicedAt, Addr.add]
/-- four bytes that lie in a block, as a text -/
theorem conv_at (W : World) (b : Nat) (x0 x1 x2 x3 : Int) (h : ∀ i, i < 4 → W.cell? ⟨b, i, none⟩ = (#[.int .u8 x0, .int .u8 x1, .int .u8 x2, .int .u8 x3] : Array Value)[i]?) :
    (convert 30 9 (.slice (some ⟨b, 0, none⟩) 4 4)).run Try.prog W = .ok (.string (strOfNums [x0, x1, x2, x3])) W :=
  run_convert_bytes_arg _ _ 5 Try.underlying30 Try.underlying5 _ 0 4 4 [x0, x1, x2, x3] rfl (fun i hi => by
    rw [Nat.zero_add, h i hi]
    rcases i with _ | _ | _ | _ | i
    · rfl
    · rfl
    · rfl
    · rfl
    · omega) _ Try.underlying9

theorem str_inj {a b : ByteArray} (h : a.data.toList = b.data.toList) : a = b := ByteArray.ext (Array.toList_inj.1 h)
/-- Go's '==' on texts, as the walk spells it -/
theorem str_ne {a b : ByteArray} (h : ¬ a = b) : (a.toList == b.toList) = false := by
  rw [ByteArray.toList_eq, ByteArray.toList_eq]
  exact beq_eq_false_iff_ne.2 fun e => h (str_inj e)
theorem four_of (l : List UInt8) (h : l.length = 4) : ∃ a b c d, l = [a, b, c, d] := by
  rcases l with _ | ⟨a, _ | ⟨b, _ | ⟨c, _ | ⟨d, _ | ⟨e, l⟩⟩⟩⟩⟩ <;> simp at h
  exact ⟨a, b, c, d, rfl⟩
theorem tells_apart (s q : ByteArray) (K : Nat) (hk : K + 4 ≤ s.size) (hq : q.size = 4) (h : ¬ s = s.extract 0 K ++ q ++ s.extract (K + 4) s.size) :
    ¬ check s.data.toList = check (s.extract 0 K ++ q ++ s.extract (K + 4) s.size).data.toList := by
  intro e
  have hs : s.data.toList = s.data.toList.take K ++ (s.data.toList.drop K).take 4 ++ s.data.toList.drop (K + 4) := by
    have h1 : (s.data.toList.drop K).drop 4 = s.data.toList.drop (K + 4) := by rw [List.drop_drop]
    rw [← h1, List.append_assoc, List.take_append_drop, List.take_append_drop]
  have ht : (s.extract 0 K ++ q ++ s.extract (K + 4) s.size).data.toList = s.data.toList.take K ++ q.data.toList ++ s.data.toList.drop (K + 4) := by
    simp only [ByteArray.data_append, Array.toList_append]
    congr 1
    · congr 1
      rw [Lib.extract_data]; simp
    · rw [Lib.extract_data, List.take_of_length_le (by simp)]
  obtain ⟨a0, a1, a2, a3, ha⟩ := four_of ((s.data.toList.drop K).take 4) (by simp; omega)
  obtain ⟨b0, b1, b2, b3, hb⟩ := four_of q.data.toList (by simpa using hq)
  have e2 := e
  rw [ht, hb] at e2
  conv at e2 => lhs; rw [hs, ha]
  have := tells _ _ _ _ _ _ _ _ _ _ e2
  apply h
  apply str_inj
  rw [ht, hb, ← this, ← ha]
  exact hs

set_option maxRecDepth 100000 in
set_option maxHeartbeats 400000 in
theorem tells_walk (s : ByteArray) (at_ : Int) (x0 x1 x2 x3 : UInt8) (w : World) (hs : s.size ≤ 140737488351232) (ha : -9223372036854775808 ≤ at_ ∧ at_ ≤ 9223372036854775807) :
    Calls Try.prog 5 #[.string s, .int .i64 at_, .agg #[.int .u8 (x0.toNat : Int), .int .u8 (x1.toNat : Int), .int .u8 (x2.toNat : Int), .int .u8 (x3.toNat : Int)]] w fun e w' => e = .returned (.bool true) ∧ Below w.heap.size w w' := by
  obtain ⟨ha1, ha2⟩ := ha
  by_cases hlong : 4 ≤ s.size ∧ s.size ≤ 65536
  · obtain ⟨hl1, hl2⟩ := hlong
    obtain ⟨K, hK, hKl⟩ : ∃ K : Nat, wrap64 ((IntKind.u64.wrap at_).tmod ((s.size : Int) - 3)) = (K : Int) ∧ K + 4 ≤ s.size := by
      have h0 : 0 ≤ IntKind.u64.wrap at_ := by rw [IntKind.wrap_u64]; omega
      rw [Int.tmod_eq_emod_of_nonneg h0]
      have h1 := Int.emod_nonneg (IntKind.u64.wrap at_) (b := ((s.size : Int) - 3)) (by omega)
      have h2 := Int.emod_lt_of_pos (IntKind.u64.wrap at_) (b := ((s.size : Int) - 3)) (by omega)
      generalize IntKind.u64.wrap at_ % ((s.size : Int) - 3) = z at h1 h2 ⊢
      exact ⟨z.toNat, by unfold wrap64; omega, by omega⟩
    go_enter Try.func5, Try.ntmps5
    go_wp2_with fail
    refine (awake_any _).mono ?_
    rintro e w1 ⟨rfl, b1⟩
    have hcv : ∀ n, (convert 30 9 (.slice (some ⟨w.heap.size, 0, none⟩) 4 4)).run Try.prog (w1.drewN n) = .ok (.string (strOfNums [(x0.toNat : Int), x1.toNat, x2.toNat, x3.toNat])) (w1.drewN n) := fun n =>
      conv_at _ _ _ _ _ _ fun i hi => by
        rw [World.cell?_drewN, b1.cell (p := ⟨w.heap.size, i, none⟩) (by simp), World.cell?_alloc_new]
    generalize hq : strOfNums [(x0.toNat : Int), x1.toNat, x2.toNat, x3.toNat] = q at hcv
    have hqs : q.size = 4 := by rw [← hq]; rfl
    have hsz1 : (s.extract 0 K).size = K := by rw [ByteArray.size_extract]; omega
    have hsz2 : (s.extract (K + 4) s.size).size = s.size - (K + 4) := by rw [ByteArray.size_extract]; omega
    have hadd1 : ∀ W, (Op.stringOp .add (s.extract 0 K) q).run Try.prog W = .ok (.string (s.extract 0 K ++ q)) W := fun W => run_string_add_sum W _ _ (by omega)
    have hadd2 : ∀ W, (Op.stringOp .add (s.extract 0 K ++ q) (s.extract (K + 4) s.size)).run Try.prog W = .ok (.string (s.extract 0 K ++ q ++ s.extract (K + 4) s.size)) W := fun W => run_string_add_sum W _ _ (by rw [ByteArray.size_append]; omega)
    have hap := tells_apart s q K hKl hqs
    obtain ⟨T, hT⟩ : ∃ T, s.extract 0 K ++ q ++ s.extract (K + 4) s.size = T := ⟨_, rfl⟩
    have hTs : T.size ≤ 140737488351232 := by rw [← hT, ByteArray.size_append, ByteArray.size_append]; omega
    simp only [hT] at hadd2 hap
    clear hT
    have HP := Lib.hid hap
    clear hap
    have HA1 := Lib.hid hadd1
    have HA2 := Lib.hid hadd2
    have HQ := Lib.hid hq
    clear hadd1 hadd2 hqs hsz1 hsz2 hq
    have HC := Lib.hid hcv
    clear hcv
    have HW := Lib.hid hK
    clear hK
    go_wp2
    rw [HW.out]
    have hcut := run_cut4
    have hk0 : (K : Int) ≤ s.size := by omega
    have hk1 : (K : Int) + 4 ≤ s.size := by omega
    have hcv := HC.out
    have hadd1 := HA1.out
    have hadd2 := HA2.out
    go_quiet (fail)
    clear hcut hcv hadd1 hadd2
    by_cases htt : s = T
    · subst htt
      clear HP
      go_wp2_with fail
      refine (of_new _ _ _ [s] _ _ ((check s.data.toList).toNat : Int) rfl rfl (by simp) (by simp; omega) (by simp [flat])).mono ?_
      rintro e w2 ⟨rfl, b2⟩
      go_wp2_with fail
      refine (of_new _ _ _ [s] _ _ ((check s.data.toList).toNat : Int) rfl rfl (by simp) (by simp; omega) (by simp [flat])).mono ?_
      rintro e w3 ⟨rfl, b3⟩
      go_wp2
      go_ret
      exact ⟨rfl, below_next (below_next (below_drew (below_next ((Below.refl _ _).alloc (Nat.le_refl _) _) b1) _) b2) b3⟩
    · have hne := str_ne htt
      have hck : (((check s.data.toList).toNat : Int) == ((check T.data.toList).toNat : Int)) = false := by
        apply beq_eq_false_iff_ne.2
        intro e
        exact HP.out htt (BitVec.eq_of_toNat_eq (by omega))
      clear HP
      go_wp2_with fail
      refine (of_new _ _ _ [s] _ _ ((check s.data.toList).toNat : Int) rfl rfl (by simp) (by simp; omega) (by simp [flat])).mono ?_
      rintro e w2 ⟨rfl, b2⟩
      go_wp2_with fail
      refine (of_new _ _ _ [T] _ _ ((check T.data.toList).toNat : Int) rfl rfl (by simp) (by simp; omega) (by simp [flat])).mono ?_
      rintro e w3 ⟨rfl, b3⟩
      go_wp2
      go_ret
      exact ⟨rfl, below_next (below_next (below_drew (below_next ((Below.refl _ _).alloc (Nat.le_refl _) _) b1) _) b2) b3⟩
  · have hcase : s.size < 4 ∨ (4 ≤ s.size ∧ 65536 < s.size) := by omega
    clear hlong
    rcases hcase with hl | ⟨hl, hm⟩
    all_goals
      go_enter Try.func5, Try.ntmps5
      go_wp2_with fail
      refine (awake_any _).mono ?_
      rintro e w1 ⟨rfl, b1⟩
      go_wp2
      go_ret
      exact ⟨rfl, below_next ((Below.refl _ _).alloc (Nat.le_refl _) _) b1⟩
end Go.Proofs.Ytfclaoacldmpdaa.Sum
