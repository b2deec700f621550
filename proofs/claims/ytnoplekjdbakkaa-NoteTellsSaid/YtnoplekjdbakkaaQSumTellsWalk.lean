/- The walk of the statement SumTells. -/
import Derived.Test.YtnoplekjdbakkaaQSumBook
import Derived.Lib.Strings
namespace Go.Proofs.Ytnoplekjdbakkaa.Sum
set_option maxRecDepth 100000
open Go.RowKit

theorem run_cut4 (w : World) (a : Addr) :
    (Instr.sliceAt 40 (.pointer (some a)) none none none).run Try.prog w = .ok (.slice (some a) 4 4) w := by
  have hl : Try.prog.arrayLen 40 = 4 := by kernel_rfl
  have he : Try.prog.elem 40 = 5 := by kernel_rfl
  have hz : ∀ W, (sizeOf 5).run Try.prog W = .ok 1 W := fun _ => by kernel_rfl
  rw [run_sliceAt_array_all w _ a (by rw [hl, he]; exact Try.underlying40), hl, he, hz]
  simp [Result.andThen, slicedAt, Addr.add]
/-- four bytes that lie in a block, as a text -/
theorem conv_at (W : World) (b : Nat) (x0 x1 x2 x3 : Int) (h : ∀ i, i < 4 → W.cell? ⟨b, i, none⟩ = (#[.int .u8 x0, .int .u8 x1, .int .u8 x2, .int .u8 x3] : Array Value)[i]?) :
    (convert 42 9 (.slice (some ⟨b, 0, none⟩) 4 4)).run Try.prog W = .ok (.string (strOfNums [x0, x1, x2, x3])) W :=
  run_convert_bytes_arg _ _ 5 Try.underlying42 Try.underlying5 _ 0 4 4 [x0, x1, x2, x3] rfl (fun i hi => by
    rw [Nat.zero_add, h i hi]
    rcases i with _ | _ | _ | _ | i
    · rfl
    · rfl
    · rfl
    · rfl
    · omega) _ Try.underlying9

theorem str_inj {a b : ByteArray} (h : a.data.toList = b.data.toList) : a = b := ByteArray.ext (Array.toList_inj.1 h)
/-- Go's '==' on texts, as the walk spells it -/
theorem str_ne {a b : ByteArray} (h : ¬ a = b) : (a.toList == b.toList) = false := by
  rw [ByteArray.toList_eq, ByteArray.toList_eq]
  exact beq_eq_false_iff_ne.2 fun e => h (str_inj e)
theorem four_of (l : List UInt8) (h : l.length = 4) : ∃ a b c d, l = [a, b, c, d] := by
  rcases l with _ | ⟨a, _ | ⟨b, _ | ⟨c, _ | ⟨d, _ | ⟨e, l⟩⟩⟩⟩⟩ <;> simp at h
  exact ⟨a, b, c, d, rfl⟩
theorem tells_apart (s q : ByteArray) (K : Nat) (hk : K + 4 ≤ s.size) (hq : q.size = 4) (h : ¬ s = s.extract 0 K ++ q ++ s.extract (K + 4) s.size) :
    ¬ check s.data.toList = check (s.extract 0 K ++ q ++ s.extract (K + 4) s.size).data.toList := by
  intro e
  have hs : s.data.toList = s.data.toList.take K ++ (s.data.toList.drop K).take 4 ++ s.data.toList.drop (K + 4) := by
    have h1 : (s.data.toList.drop K).drop 4 = s.data.toList.drop (K + 4) := by rw [List.drop_drop]
    rw [← h1, List.append_assoc, List.take_append_drop, List.take_append_drop]
  have ht : (s.extract 0 K ++ q ++ s.extract (K + 4) s.size).data.toList = s.data.toList.take K ++ q.data.toList ++ s.data.toList.drop (K + 4) := by
    simp only [ByteArray.data_append, Array.toList_append]
    congr 1
    · congr 1
      rw [Lib.extract_data]; simp
    · rw [Lib.extract_data, List.take_of_length_le (by simp)]
  obtain ⟨a0, a1, a2, a3, ha⟩ := four_of ((s.data.toList.drop K).take 4) (by simp; omega)
  obtain ⟨b0, b1, b2, b3, hb⟩ := four_of q.data.toList (by simpa using hq)
  have e2 := e
  rw [ht, hb] at e2
  conv at e2 => lhs; rw [hs, ha]
  have := tells _ _ _ _ _ _ _ _ _ _ e2
  apply h
  apply str_inj
  rw [ht, hb, ← this, ← ha]
  exact hs

end Go.Proofs.Ytnoplekjdbakkaa.Sum
