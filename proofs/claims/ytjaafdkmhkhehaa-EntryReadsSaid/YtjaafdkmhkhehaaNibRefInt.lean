/- The walks of the document's own answers for layer 1: Int, Str. -/
import Derived.Test.YtjaafdkmhkhehaaNibRef
import Derived.OwnWalk
namespace Go.Proofs.Ytjaafdkmhkhehaa.Nib
open Go.RowKit
open Go.Lib (zigzag uvarint uvarint_small uvarint_big)

theorem infoU8 : (Try.prog.info? 5).map (fun i => (i.zero, i.size, i.bytes)) = some (some (.int .u8 0), 1, 1) := by kernel_rfl
/-- bytes as cells -/
def cellsOf (p : List UInt8) : List Value := p.map fun b => .int .u8 (b.toNat : Int)
theorem cellsOf_snoc (p : List UInt8) (b : UInt8) (x : Int) (h : (b.toNat : Int) = x) : cellsOf p ++ [.int .u8 x] = cellsOf (p ++ [b]) := by subst h; simp [cellsOf]

/-- what stands behind p rounds -/
def RefAt (N : Nat) (p : List UInt8) (v : Nat) : Prop := uvarint N = p ++ uvarint v ∧ p.length ≤ 9 ∧ v < 128 ^ (9 - p.length) * 2
theorem RefAt.next {N : Nat} {p : List UInt8} {v : Nat} (h : RefAt N p v) (hv : 128 ≤ v) : RefAt N (p ++ [(v % 128 + 128).toUInt8]) (v / 128) := by
  obtain ⟨hu, hl, hb⟩ := h
  have hk8 : p.length ≤ 8 := by
    rcases Nat.lt_or_ge p.length 9 with h | h
    · omega
    · have : 9 - p.length = 0 := by omega
      rw [this] at hb
      omega
  have e9 : 9 - p.length = (9 - (p.length + 1)) + 1 := by omega
  rw [e9, Nat.pow_succ] at hb
  have el : (p ++ [(v % 128 + 128).toUInt8]).length = p.length + 1 := by simp
  refine ⟨by rw [hu, uvarint_big (by omega)]; simp, by omega, ?_⟩
  rw [el]; omega
theorem RefAt.lt {N : Nat} {p : List UInt8} {v : Nat} (h : RefAt N p v) : v ≤ 18446744073709551615 := by
  have h1 : (128 : Nat) ^ (9 - p.length) ≤ 128 ^ 9 := Nat.pow_le_pow_right (by decide) (by omega)
  have h2 : (128 : Nat) ^ 9 = 9223372036854775808 := by decide
  have := h.2.2
  omega
theorem RefAt.last {N : Nat} {p : List UInt8} {v : Nat} (h : RefAt N p v) (hv : v < 128) : uvarint N = p ++ [v.toUInt8] := by
  rw [h.1, uvarint_small (x := v) (by omega)]

set_option maxRecDepth 100000 in
set_option maxHeartbeats 800000 in
theorem refInt (n : Int) (w : World) (h : Fits n) :
    Calls Try.prog 52 #[.int .i64 n] w fun e w' => e = .returned (.string (encB n)) ∧ Below w.heap.size w w' := by
  have hz := zig_lt h
  obtain ⟨i0, hi, hz0, hz1, hz2⟩ := info_parts infoU8
  go_enter Try.func52, Try.ntmps52
  go_wp2_with ((with_reducible refine (refFold _ _ h).mono ?_); rintro e w' ⟨rfl, rfl⟩)
  go_loopw [3, 4] (fun u t wr => ∃ (v : Nat) (p : List UInt8), u = .int .u64 v ∧ wr.ownsRow w.heap.size 5 1 t p.length (cellsOf p) ∧ RefAt (zigzag n) p v ∧ Below w.heap.size w wr) (fun u _ _ => (intOf u).toNat)
  case atStart => exact ⟨zigzag n, [], rfl, ⟨rfl, .inr ⟨w.heap.size, 0, #[], rfl, Nat.le_refl _, heap_alloc_new _ _, Nat.le_refl _, by decide, rfl, rfl⟩⟩, ⟨rfl, by decide, by simpa using hz⟩, (Below.refl _ _).alloc (Nat.le_refl _) _⟩
  case round =>
    clear hz h
    obtain ⟨v, p, rfl, hown, hp, hbel⟩ := hrel
    have hl9 : p.length ≤ 9 := hp.2.1
    have hv64 := hp.lt
    have HP := Lib.hid hp
    clear hp
    by_cases hv : 128 ≤ v
    · go_wp2_with (at_builtin; refine wpList_append_own _ rfl _ _ 69 rfl w.heap.size 5 i0 (.int .u8 0) 1 1 Try.underlying69 hi hz0 hz1 hz2 rfl (by decide) _ _ _ rfl (hown.alloc _) ⟨wr.heap.size, 0, none⟩ 1 1 [.int .u8 ((v : Int) % 128 + 128)] rfl rfl ?c1 ?c2 ?c3 ?c4 ?c5 ?_)
      case c1 =>
        intro j u hj
        match j, hj with
        | 0, hj =>
          simp at hj; subst hj; simp [Addr.add]
      case c2 => first | rfl | (intro u hu; simp at hu; subst hu; rfl)
      case c3 => unfold maxLen; omega
      case c4 => omega
      case c5 => have := hbel.size; simp; omega
      intro v' w2 hown' hgrow' _
      rw [cellsOf_snoc p (v % 128 + 128).toUInt8 _ (by rw [u8_toNat _ (by omega)]; omega)] at hown'
      have hbel' : Below w.heap.size w w2 := (hbel.alloc (by have := hbel.size; omega) _).grown hgrow' (by have := hbel.size; simp; omega) (fun j hj => (hown.lt j hj).1)
      have HP' := Lib.hid (HP.out.next hv)
      clear hown hgrow'
      go_wp2
      go_roundw
      case rel => exact ⟨v / 128, _, by go_num, by simpa using hown', HP'.out, hbel'⟩
      case measure => simp [intOf]; omega
    · go_wp2_with (at_builtin; refine wpList_append_own _ rfl _ _ 69 rfl w.heap.size 5 i0 (.int .u8 0) 1 1 Try.underlying69 hi hz0 hz1 hz2 rfl (by decide) _ _ _ rfl (hown.alloc _) ⟨wr.heap.size, 0, none⟩ 1 1 [.int .u8 (v : Int)] rfl rfl ?d1 ?d2 ?d3 ?d4 ?d5 ?_)
      case d1 =>
        intro j u hj
        match j, hj with
        | 0, hj =>
          simp at hj; subst hj; simp [Addr.add]
      case d2 => first | rfl | (intro u hu; simp at hu; subst hu; rfl)
      case d3 => unfold maxLen; omega
      case d4 => omega
      case d5 => have := hbel.size; simp; omega
      intro v' w2 hown' hgrow' _
      rw [cellsOf_snoc p v.toUInt8 _ (by rw [u8_toNat _ (by omega)])] at hown'
      have hbel' : Below w.heap.size w w2 := (hbel.alloc (by have := hbel.size; omega) _).grown hgrow' (by have := hbel.size; simp; omega) (fun j hj => (hown.lt j hj).1)
      obtain ⟨g, cap, rfl⟩ : ∃ g cap, v' = .slice (some ⟨g, 0, none⟩) (p.length + 1) cap := by
        rcases hown'.2 with ⟨_, h0⟩ | ⟨g, cap, _, hg, _⟩
        · omega
        · exact ⟨g, cap, hg⟩
      have hcl := hown'.cells (g := g) rfl
      have hu := HP.out.last (by omega)
      rw [← hu] at hcl
      have hlen : p.length + 1 = (uvarint (zigzag n)).length := by rw [hu]; simp
      have hcv := run_convert_bytes_back (P := Try.prog) w2 69 9 5 ⟨g, 0, none⟩ cap (uvarint (zigzag n)) Try.underlying69 Try.underlying5 Try.underlying9
        (fun j hj => hcl j _ (by unfold cellsOf; rw [List.getElem?_map, List.getElem?_eq_getElem hj]; rfl))
      rw [← hlen] at hcv
      clear hown hgrow' hown' hcl hu hlen
      go_wp2
      go_ret
      exact ⟨rfl, hbel'⟩

set_option maxRecDepth 100000 in
set_option maxHeartbeats 400000 in
theorem refStr (s : ByteArray) (w : World) (h : s.size ≤ 140737488351232) :
    Calls Try.prog 75 #[.string s] w fun e w' => e = .returned (.string ⟨(encStr s.data.toList).toArray⟩) ∧ Below w.heap.size w w' := by
  have hl : (encB (s.size : Int)).size ≤ 10 := encB_le (fits_mk (by omega) (by omega))
  go_enter Try.func75, Try.ntmps75
  go_wp2_with ((with_reducible refine (refInt _ _ (fits_mk (by omega) (by omega))).mono ?_); rintro e w' ⟨rfl, hb⟩)
  go_ret
  refine ⟨?_, hb⟩
  unfold encStr encB
  congr 2
end Go.Proofs.Ytjaafdkmhkhehaa.Nib
