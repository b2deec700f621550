/- What layers above nib use: contracts by an equation, memory that only grows, a number's bytes as a text. -/
import Derived.Test.YtjaafdkmhkhehaaNibTake
namespace Go.Proofs.Ytjaafdkmhkhehaa.Nib
open Go.RowKit
open Go.Lib (zigzag uvarint uvarint_small uvarint_big)

theorem takeStr_is (s : ByteArray) (most : Int) (v : Value) (w : World) (hs : s.size ≤ 9223372036854775807) (h : takeStrVal s.data.toList most = v) :
    Calls Try.prog 90 #[.string s, .int .i64 most] w fun e w' => e = .returned v ∧ ∃ q, w' = w.drewN q :=
  (takeStr_any s most w hs).mono fun _ _ ⟨he, hq⟩ => ⟨by rw [he, h], hq⟩
theorem int_is (n : Int) (r : ByteArray) (w : World) (hn : Fits n) (h : enc n = r.data.toList) :
    Calls Try.prog 72 #[.int .i64 n] w fun e w' => e = .returned (.string r) ∧ Below w.heap.size w w' :=
  (int_any n w hn).mono fun _ _ ⟨he, hq⟩ => ⟨by rw [he, h], hq⟩
theorem str_is (s r : ByteArray) (w : World) (hs : s.size ≤ 140737488351232) (h : encStr s.data.toList = r.data.toList) :
    Calls Try.prog 73 #[.string s] w fun e w' => e = .returned (.string r) ∧ Below w.heap.size w w' :=
  (str_any s w hs).mono fun _ _ ⟨he, hq⟩ => ⟨by rw [he, h], hq⟩

theorem below_next {W w w' : World} (h : Below W.heap.size W w) (h' : Below w.heap.size w w') : Below W.heap.size W w' := h.trans (h'.mono h.size)
theorem below_drew {W w : World} (h : Below W.heap.size W w) (q : Nat) : Below W.heap.size W (w.drewN q) := below_drewN h q

/-- the bytes of a number, as a text -/
def encB (n : Int) : ByteArray := ⟨(enc n).toArray⟩
theorem encB_list (n : Int) : enc n = (encB n).data.toList := by simp [encB]
theorem encB_size (n : Int) : (encB n).size = (enc n).length := by unfold encB; rfl
theorem encB_le {n : Int} (h : Fits n) : (encB n).size ≤ 10 := by rw [encB_size]; exact enc_le h
theorem encB_pos (n : Int) : 1 ≤ (encB n).size := by rw [encB_size]; exact enc_pos n
theorem intB (n : Int) (w : World) (h : Fits n) :
    Calls Try.prog 72 #[.int .i64 n] w fun e w' => e = .returned (.string (encB n)) ∧ Below w.heap.size w w' := int_is n _ w h (encB_list n)
end Go.Proofs.Ytjaafdkmhkhehaa.Nib
