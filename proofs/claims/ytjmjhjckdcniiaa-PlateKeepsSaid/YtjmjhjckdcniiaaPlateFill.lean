/- The walk of the statements' own text of one byte. -/
import Derived.Test.YtjmjhjckdcniiaaMem
import Derived.Lib.Bytes
namespace Go.Proofs.Ytjmjhjckdcniiaa.Plate
open Go.RowKit
open Go.Proofs.Ytjmjhjckdcniiaa.Mem
/-- n bytes b -/
def fstr (n : Nat) (b : UInt8) : ByteArray := ⟨(List.replicate n b).toArray⟩
theorem fstr_size (n : Nat) (b : UInt8) : (fstr n b).size = n := by
  unfold fstr ByteArray.size
  simp
theorem info_u8 : (Try.prog.info? 5).map (fun i => (i.zero, i.size, i.bytes)) = some (some (.int .u8 0), 1, 1) := by kernel_rfl
theorem run_made (n : Nat) (hn : n ≤ 1000) (w : World) :
    (Instr.makeSlice 30 (.int .i64 (n : Int)) (.int .i64 (n : Int))).run Try.prog w = .ok (.slice (some ⟨w.heap.size, 0, none⟩) n n) (w.alloc (.cells (madeCells #[.int .u8 0] n) 5)) := by
  obtain ⟨i0, hi, hz0, hz1, hz2⟩ := info_parts info_u8
  have h := run_make (P := Try.prog) w 30 5 i0 _ Try.underlying30 hi hz0 .i64 .i64 n n (by omega) (Int.le_refl _) (by rw [hz2]; omega) (by omega)
  rw [hz1] at h
  simpa [Value.cells] using h
theorem run_conv (n : Nat) (b : UInt8) (g : Nat) (w : World) (h : ∀ j, j < n → w.cell? ⟨g, j, none⟩ = some (.int .u8 (b.toNat : Int))) :
    (convert 30 9 (.slice (some ⟨g, 0, none⟩) n n)).run Try.prog w = .ok (.string (fstr n b)) w := by
  have := run_convert_bytes_back (P := Try.prog) w 30 9 5 ⟨g, 0, none⟩ n (List.replicate n b) Try.underlying30 Try.underlying5 Try.underlying9 (fun j hj => by
    simp at hj
    have := h j hj
    by_cases h0 : j = 0
    · subst h0; simpa [Addr.add] using this
    · simpa [Addr.add, h0] using this)
  simpa [fstr] using this
/-- k bytes b, the others 0 -/
def part (n k : Nat) (b : UInt8) : Array Value := ((List.replicate k (.int .u8 (b.toNat : Int))) ++ List.replicate (n - k) (.int .u8 0) : List Value).toArray
theorem part_zero (n : Nat) (b : UInt8) : part n 0 b = madeCells #[.int .u8 0] n := by
  apply Array.ext
  · simp [part, madeCells]
  · intro i h1 h2
    simp [part, madeCells, Nat.mod_one]
theorem part_next {n k : Nat} {b : UInt8} (h : k < n) : (part n k b).setIfInBounds k (.int .u8 (b.toNat : Int)) = part n (k + 1) b := by
  unfold part
  rw [List.setIfInBounds_toArray]
  congr 1
  rw [show n - k = (n - (k + 1)) + 1 by omega, List.replicate_succ, List.set_append, if_neg (by simp)]
  simp [List.replicate_succ']
theorem part_mid {n k : Nat} {b : UInt8} (h : k < n) : (part n k b)[k]? = some (.int .u8 0) := by
  unfold part
  rw [List.getElem?_toArray, List.getElem?_append_right (by simp), List.length_replicate, Nat.sub_self, List.getElem?_replicate, if_pos (by omega)]
theorem part_all {n j : Nat} {b : UInt8} (h : j < n) : (part n n b)[j]? = some (.int .u8 (b.toNat : Int)) := by
  simp [part, h]

set_option maxRecDepth 100000 in
theorem filled_any (b : UInt8) (w : World) :
    Calls Try.prog 10 #[.int .u8 (b.toNat : Int)] w fun e w' => e = .returned (.string (fstr 256 b)) ∧ Below w.heap.size w w' := by
  have hb := b.toNat_lt
  have hmk : ∀ w, (Instr.makeSlice 30 (.int .i64 256) (.int .i64 256)).run Try.prog w = .ok (.slice (some ⟨w.heap.size, 0, none⟩) 256 256) (w.alloc (.cells (madeCells #[.int .u8 0] 256) 5)) := fun w => run_made 256 (by decide) w
  have hblk : Blk (w.alloc (.cells (madeCells #[.int .u8 0] 256) 5)) w.heap.size 5 (part 256 0 b) := by rw [part_zero]; exact Blk.new w _ _
  have hbel : Below w.heap.size w (w.alloc (.cells (madeCells #[.int .u8 0] 256) 5)) := (Below.refl _ _).alloc (Nat.le_refl _) _
  go_enter Try.func10, Try.ntmps10
  go_wp2
  go_loopw [4] (fun i wr => ∃ k : Nat, k ≤ 256 ∧ i = .int .i64 (k : Int) ∧ Blk wr w.heap.size 5 (part 256 k b) ∧ Below w.heap.size w wr) (fun i _ => 256 - (intOf i).toNat)
  case atStart => exact ⟨0, Nat.zero_le _, rfl, hblk, hbel⟩
  case round =>
    obtain ⟨k, hk, rfl, hB, hbe⟩ := hrel
    have HB := Lib.hid hB
    have HE := Lib.hid hbe
    by_cases hlt : k < 256
    · have hc : wr.cell? ⟨w.heap.size, k, none⟩ = some (.int .u8 0) := by rw [hB.cell]; exact part_mid hlt
      have hf := hB.frozen k
      clear hB hbe hblk hbel
      go_wp2
      go_roundw
      case rel => exact ⟨k + 1, by omega, by go_num, by rw [← part_next hlt]; exact HB.out.set_ _ _, HE.out.setCell (p := ⟨w.heap.size, k, none⟩) (Nat.le_refl _) _⟩
      case measure => simp [intOf]; omega
    · have hk' : k = 256 := by omega
      subst hk'
      have hcv := run_conv 256 b w.heap.size wr (fun j hj => by rw [hB.cell]; exact part_all hj)
      clear hB hbe hblk hbel
      go_wp2
      go_ret
      exact ⟨rfl, HE.out⟩
end Go.Proofs.Ytjmjhjckdcniiaa.Plate
