/- The walk of the statements' own text of one byte. -/
import Derived.Test.YtnnppdjgmjgjhaaDoorMem
import Derived.Lib.Bytes
namespace Go.Proofs.YtnnppdjgmjgjhaaDoor.Plate
set_option maxRecDepth 100000
open Go.RowKit
open Go.Proofs.YtnnppdjgmjgjhaaDoor.Mem
/-- n bytes b -/
def fstr (n : Nat) (b : UInt8) : ByteArray := ⟨(List.replicate n b).toArray⟩
theorem fstr_size (n : Nat) (b : UInt8) : (fstr n b).size = n := by
  unfold fstr ByteArray.size
  simp
theorem info_u8 : (Tryd.prog.info? 5).map (fun i => (i.zero, i.size, i.bytes)) = some (some (.int .u8 0), 1, 1) := by kernel_rfl
theorem run_made (n : Nat) (hn : n ≤ 1000) (w : World) :
    (Instr.makeSlice 70 (.int .i64 (n : Int)) (.int .i64 (n : Int))).run Tryd.prog w = .ok (.slice (some ⟨w.heap.size, 0, none⟩) n n) (w.alloc (.cells (madeCells #[.int .u8 0] n) 5)) := by
  obtain ⟨i0, hi, hz0, hz1, hz2⟩ := info_parts info_u8
  have h := run_make (P := Tryd.prog) w 70 5 i0 _ Tryd.underlying70 hi hz0 .i64 .i64 n n (by omega) (Int.le_refl _) (by rw [hz2]; omega) (by omega)
  rw [hz1] at h
  simpa [Value.cells] using h
theorem run_conv (n : Nat) (b : UInt8) (g : Nat) (w : World) (h : ∀ j, j < n → w.cell? ⟨g, j, none⟩ = some (.int .u8 (b.toNat : Int))) :
    (convert 70 9 (.slice (some ⟨g, 0, none⟩) n n)).run Tryd.prog w = .ok (.string (fstr n b)) w := by
  have := run_convert_bytes_back (P := Tryd.prog) w 70 9 5 ⟨g, 0, none⟩ n (List.replicate n b) Tryd.underlying70 Tryd.underlying5 Tryd.underlying9 (fun j hj => by
    simp at hj
    have := h j hj
    by_cases h0 : j = 0
    · subst h0; simpa [Addr.add] using this
    · simpa [Addr.add, h0] using this)
  simpa [fstr] using this
/-- k bytes b, the others 0 -/
def part (n k : Nat) (b : UInt8) : Array Value := ((List.replicate k (.int .u8 (b.toNat : Int))) ++ List.replicate (n - k) (.int .u8 0) : List Value).toArray
theorem part_zero (n : Nat) (b : UInt8) : part n 0 b = madeCells #[.int .u8 0] n := by
  apply Array.ext
  · simp [part, madeCells]
  · intro i h1 h2
    simp [part, madeCells, Nat.mod_one]
theorem part_next {n k : Nat} {b : UInt8} (h : k < n) : (part n k b).setIfInBounds k (.int .u8 (b.toNat : Int)) = part n (k + 1) b := by
  unfold part
  rw [List.setIfInBounds_toArray]
  congr 1
  rw [show n - k = (n - (k + 1)) + 1 by omega, List.replicate_succ, List.set_append, if_neg (by simp)]
  simp [List.replicate_succ']
theorem part_mid {n k : Nat} {b : UInt8} (h : k < n) : (part n k b)[k]? = some (.int .u8 0) := by
  unfold part
  rw [List.getElem?_toArray, List.getElem?_append_right (by simp), List.length_replicate, Nat.sub_self, List.getElem?_replicate, if_pos (by omega)]
theorem part_all {n j : Nat} {b : UInt8} (h : j < n) : (part n n b)[j]? = some (.int .u8 (b.toNat : Int)) := by
  simp [part, h]

end Go.Proofs.YtnnppdjgmjgjhaaDoor.Plate
