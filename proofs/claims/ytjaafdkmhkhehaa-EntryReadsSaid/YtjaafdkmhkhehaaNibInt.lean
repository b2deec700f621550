/- The walk of nib.Int. -/
import Derived.Test.YtjaafdkmhkhehaaNibLeaf
namespace Go.Proofs.Ytjaafdkmhkhehaa.Nib
open Go.RowKit
open Go.Lib (zigzag uvarint uvarint_small uvarint_big)

/-- behind k rounds: the first k cells hold the bytes p, and v is what is left -/
def IntAt (N : Nat) (k : Nat) (v : Nat) (c : Array Value) : Prop :=
  c.size = 10 ∧ v < 128 ^ (9 - k) * 2 ∧ k ≤ 9 ∧ ∃ p : List UInt8, p.length = k ∧ uvarint N = p ++ uvarint v ∧ ∀ j (hj : j < p.length), c[j]? = some (.int .u8 (p[j].toNat : Int))

/-- a round that goes on -/
theorem IntAt.next {N k v : Nat} {c : Array Value} (h : IntAt N k v c) (hv : 128 ≤ v) : IntAt N (k + 1) (v / 128) (c.setIfInBounds k (.int .u8 (bits .or .u8 ((v : Int) % 256) 128))) := by
  obtain ⟨hs, hb, hk, p, hp, hu, hc⟩ := h
  have hk8 : k ≤ 8 := by
    rcases Nat.lt_or_ge k 9 with h | h
    · omega
    · have : 9 - k = 0 := by omega
      rw [this] at hb
      omega
  have e1 : bits .or .u8 ((v : Int) % 256) 128 = (((v % 128 + 128).toUInt8.toNat : Nat) : Int) := by
    rw [Lib.u8_or128_any _ (by omega) (by omega), u8_toNat _ (by omega)]; omega
  have e9 : 9 - k = (9 - (k + 1)) + 1 := by omega
  rw [e9, Nat.pow_succ] at hb
  refine ⟨by simpa using hs, by omega, by omega, p ++ [(v % 128 + 128).toUInt8], by simp [hp], ?_, ?_⟩
  · rw [hu, uvarint_big (by omega)]; simp
  · intro j hj
    rw [List.length_append, hp] at hj
    simp only [List.length_cons, List.length_nil] at hj
    by_cases hjk : j = k
    · subst hjk
      have eg : (p ++ [(v % 128 + 128).toUInt8])[j]'(by simp [hp]) = (v % 128 + 128).toUInt8 := by
        rw [List.getElem_append_right (by omega)]; simp [hp]
      rw [eg, e1, Array.getElem?_setIfInBounds_self_of_lt (by omega)]
    · have eg : (p ++ [(v % 128 + 128).toUInt8])[j]'(by simp [hp]; omega) = p[j]'(by omega) := List.getElem_append_left (by omega)
      rw [eg, Array.getElem?_setIfInBounds_ne (by omega)]
      exact hc j (by omega)
theorem IntAt.last {N k v : Nat} {c : Array Value} (h : IntAt N k v c) (hv : v < 128) : (uvarint N).length = k + 1 ∧
    ∀ j (hj : j < (uvarint N).length), (c.setIfInBounds k (.int .u8 (v : Int)))[j]? = some (.int .u8 (((uvarint N)[j].toNat : Nat) : Int)) := by
  obtain ⟨hs, hb, hk, p, hp, hu, hc⟩ := h
  rw [uvarint_small (x := v) (by omega)] at hu
  refine ⟨by rw [hu]; simp [hp], fun j hj => ?_⟩
  have hj' : j < k + 1 := by rw [hu] at hj; simpa [hp] using hj
  by_cases hjk : j = k
  · subst hjk
    have eg : (uvarint N)[j]'hj = v.toUInt8 := by
      have : (p ++ [v.toUInt8])[j]'(by simp [hp]) = v.toUInt8 := by rw [List.getElem_append_right (by omega)]; simp [hp]
      exact (List.getElem_of_eq hu hj).trans this
    rw [eg, u8_toNat _ (by omega), Array.getElem?_setIfInBounds_self_of_lt (by omega)]
  · have eg : (uvarint N)[j]'hj = p[j]'(by omega) := by
      have : (p ++ [v.toUInt8])[j]'(by simp [hp]; omega) = p[j]'(by omega) := List.getElem_append_left (by omega)
      exact (List.getElem_of_eq hu hj).trans this
    rw [eg, Array.getElem?_setIfInBounds_ne (by omega)]
    exact hc j (by omega)

theorem run_cut10 (w : World) (a : Addr) (h : Nat) (h2 : h ≤ 10) :
    (Instr.sliceAt 119 (.pointer (some a)) none (some (.int .i64 (h : Int))) none).run Try.prog w = .ok (.slice (some a) h 10) w := by
  have hl : Try.prog.arrayLen 119 = 10 := by kernel_rfl
  have he : Try.prog.elem 119 = 5 := by kernel_rfl
  have hz : ∀ W, (sizeOf 5).run Try.prog W = .ok 1 W := fun _ => by kernel_rfl
  rw [run_sliceAt_array_h w _ a (by rw [hl, he]; exact Try.underlying119) .i64 _ (by omega) (by rw [hl]; omega), hl, he, hz]
  simp [Result.andThen, slicedAt, Addr.add]

set_option maxRecDepth 100000 in
set_option maxHeartbeats 400000 in
theorem int_any (n : Int) (w : World) (h : Fits n) :
    Calls Try.prog 72 #[.int .i64 n] w fun e w' => e = .returned (.string ⟨(enc n).toArray⟩) ∧ Below w.heap.size w w' := by
  have hz := zig_lt h
  go_enter Try.func72, Try.ntmps72
  go_wp2_with ((with_reducible refine (fold_any _ _ h).mono ?_); rintro e w' ⟨rfl, rfl⟩)
  go_loopw [4, 5] (fun t u wr => ∃ (k v : Nat) (c : Array Value), t = .int .i64 k ∧ u = .int .u64 v ∧ wr = w.alloc (.cells c 119) ∧ IntAt (zigzag n) k v c) (fun _ u _ => (intOf u).toNat)
  case atStart => exact ⟨0, zigzag n, _, rfl, rfl, rfl, rfl, by simpa using hz, by omega, [], rfl, rfl, by simp⟩
  case round =>
    clear hz h
    obtain ⟨k, v, c, rfl, rfl, rfl, hc⟩ := hrel
    have hk9 : k ≤ 9 := hc.2.2.1
    have hsz : c.size = 10 := hc.1
    obtain ⟨x, hck⟩ : ∃ x, c[k]? = some x := ⟨_, Array.getElem?_eq_getElem (by omega)⟩
    have Hc := Lib.hid hc
    clear hc
    by_cases hv : 128 ≤ v
    · go_wp2
      go_roundw
      case rel => exact ⟨k + 1, v / 128, _, by go_num, by go_num, rfl, Hc.out.next hv⟩
      case measure => simp [intOf]; omega
    · have hs := fun W => run_cut10 W ⟨w.heap.size, 0, none⟩ (k + 1) (by omega)
      have hcv := run_convert_bytes_back (P := Try.prog) (w.alloc (.cells (c.setIfInBounds k (.int .u8 (v : Int))) 119)) 69 9 5 ⟨w.heap.size, 0, none⟩ 10 (uvarint (zigzag n)) Try.underlying69 Try.underlying5 Try.underlying9
        (fun j hj => by
          have := (Hc.out.last (by omega)).2 j hj
          have ha : (Addr.add ⟨w.heap.size, 0, none⟩ j) = ⟨w.heap.size, j, none⟩ := by unfold Addr.add; split <;> simp_all
          rw [ha, World.cell?_alloc_at _ _ _ _ rfl]
          exact this)
      rw [(Hc.out.last (by omega)).1] at hcv
      simp only [Int.natCast_add, Int.natCast_one] at hs
      go_wp2
      go_ret
      exact ⟨rfl, (Below.refl _ _).alloc (Nat.le_refl _) _⟩
end Go.Proofs.Ytjaafdkmhkhehaa.Nib
