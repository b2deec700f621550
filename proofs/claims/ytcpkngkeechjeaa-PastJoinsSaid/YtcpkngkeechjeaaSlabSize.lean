/- The walks of slab.wrong and slab.size. -/
import Derived.Test.YtcpkngkeechjeaaSlabSlots
import Derived.Shelf.Abstract
namespace Go.Proofs.Ytcpkngkeechjeaa.Slab
set_option maxRecDepth 100000
open Go.RowKit

set_option maxRecDepth 100000 in
set_option maxHeartbeats 400000 in
theorem size_any (a : Option Addr) (n c : Nat) (zs : List Slot) (w : World) (h : Slots w a n zs) (hb : sz zs ≤ 1000000) (hn : n ≤ 1000000) :
    Calls Try.prog 73 #[.slice a n c] w fun e w' => e = .returned (.int .i64 ((9 + sz zs : Nat) : Int)) ∧ Below w.heap.size w w' := by
  have HS := Lib.hid h
  clear h
  go_enter Try.func73, Try.ntmps73
  go_wp2
  go_loopw [3, 8] (fun t i wr => ∃ k : Nat, k ≤ n ∧ i = .int .i64 k ∧ t = .int .i64 ((9 + sz (zs.take k) : Nat) : Int) ∧ Below w.heap.size w wr) (fun _ i _ => n - (intOf i).toNat)
  case atStart => exact ⟨0, Nat.zero_le _, rfl, rfl, Below.refl _ _⟩
  case round =>
    obtain ⟨k, hk, rfl, rfl, hbel⟩ := hrel
    by_cases hlt : k < n
    · obtain ⟨b, off, u, d, rfl, hb1, hg, c1, c2, hd⟩ := (HS.out.below hbel).at_ hlt
      have HN := Lib.hid (sz_next hg)
      have hle := sz_take_le zs (k + 1)
      have hle2 : sz (zs.take k) + (1 + d.size) ≤ 1000000 := by have := HN.out; simp only at this; omega
      have HG := Lib.hid hg
      clear hg hle
      generalize hs : sz (zs.take k) = s at hle2
      have HS2 := Lib.hid hs
      clear hs
      go_wp2
      go_roundw
      case rel => exact ⟨k + 1, by omega, by go_num, by rw [HN.out, HS2.out]; go_num, hbel.alloc hbel.size _⟩
      case measure => simp [intOf]; omega
    · go_wp2
      go_ret
      obtain rfl : k = n := by omega
      refine ⟨ret_int' ?_, hbel⟩
      rw [take_all HS.out.len]

theorem size_zero {d : ByteArray} (h : d.size = 0) : d = ⟨#[]⟩ := by
  apply ByteArray.ext; apply Array.eq_empty_of_size_eq_zero; exact h
theorem list_ne {d : ByteArray} (h : ¬ d.size = 0) : d.toList.isEmpty = false := by
  rw [ByteArray.toList_eq]
  cases hl : d.data.toList with
  | nil => exact absurd (by rw [show d.size = d.data.toList.length from (Array.length_toList).symm, hl]; rfl) h
  | cons x r => rfl
set_option maxRecDepth 100000 in
set_option maxHeartbeats 400000 in
theorem wrong_any (u : Bool) (d : ByteArray) (w : World) (_hd : d.size ≤ 140737488351232) :
    Calls Try.prog 83 #[.agg #[.bool u, .string d]] w fun e w' => e = .returned (.bool (wrongB ⟨u, d⟩)) ∧ Below w.heap.size w w' := by
  by_cases h1 : 200 < d.size
  · go_enter Try.func83, Try.ntmps83
    go_wp2
    go_ret
    exact ⟨ret_bool' (by simp [wrongB, h1]), (Below.refl _ _).alloc (Nat.le_refl _) _⟩
  · cases u with
    | true =>
      go_enter Try.func83, Try.ntmps83
      go_wp2
      go_ret
      exact ⟨ret_bool' (by simp [wrongB, h1]; try omega), (Below.refl _ _).alloc (Nat.le_refl _) _⟩
    | false =>
      by_cases h2 : d.size = 0
      · obtain rfl := size_zero h2
        go_enter Try.func83, Try.ntmps83
        go_wp2
        go_ret
        exact ⟨ret_bool' (by first | rfl | (simp [wrongB]; decide)), (Below.refl _ _).alloc (Nat.le_refl _) _⟩
      · have hl := list_ne h2
        go_enter Try.func83, Try.ntmps83
        go_wp2
        go_ret
        exact ⟨ret_bool' (by simp [wrongB, h1, h2]; try omega), (Below.refl _ _).alloc (Nat.le_refl _) _⟩
/-- the place of the first for which p holds, or how many there are -/
def firstN (p : Slot → Bool) (l : List Slot) : Nat := l.findIdx p
def idxV (p : Slot → Bool) (l : List Slot) : Int := if l.any p then (firstN p l : Int) else -1
theorem any_take_next {p : Slot → Bool} {l : List Slot} {k : Nat} {x : Slot} (h : l[k]? = some x) (h0 : (l.take k).any p = false) : (l.take (k + 1)).any p = p x := by
  rw [take_next h, List.any_append, h0]; simp
theorem idxV_hit {p : Slot → Bool} {l : List Slot} {k : Nat} {x : Slot} (h : l[k]? = some x) (h0 : (l.take k).any p = false) (hp : p x = true) : idxV p l = (k : Int) := by
  obtain ⟨hl, rfl⟩ := List.getElem?_eq_some_iff.1 h
  have ha : l.any p = true := List.any_eq_true.2 ⟨_, List.getElem_mem hl, hp⟩
  have hf : firstN p l = k := by
    unfold firstN
    rw [List.findIdx_eq hl]
    refine ⟨hp, fun j hj => ?_⟩
    have := List.any_eq_false.1 h0 (l[j]'(by omega)) (by rw [List.mem_take_iff_getElem]; exact ⟨j, by omega, rfl⟩)
    simpa using this
  unfold idxV
  rw [if_pos ha, hf]
theorem idxV_miss {p : Slot → Bool} {l : List Slot} (h0 : l.any p = false) : idxV p l = -1 := by
  unfold idxV; rw [h0]; rfl
def Tells (g : Nat) (p : Slot → Bool) : Prop := ∀ (u : Bool) (d : ByteArray) (W : World), d.size ≤ 140737488351232 → Calls Try.prog g #[.agg #[.bool u, .string d]] W fun e w' => e = .returned (.bool (p ⟨u, d⟩)) ∧ Below W.heap.size W w'
theorem wrong_tells : Tells 83 wrongB := fun u d W h => wrong_any u d W h
theorem below_next' {B : Nat} {W w w' : World} (h : Below B W w) (h' : Below w.heap.size w w') (hB : B ≤ w.heap.size) : Below B W w' := h.trans (h'.mono hB)
set_option maxRecDepth 100000 in
set_option maxHeartbeats 400000 in
theorem index_any (g : Nat) (p : Slot → Bool) (eg : ∀ args w, (callFunc g args).run Try.prog w = .ok (.enter g args) w) (hp : Tells g p) (a : Option Addr) (n c : Nat) (zs : List Slot) (w : World) (h : Slots w a n zs) (hn : n ≤ 1000000) :
    Calls Try.prog 87 #[.slice a n c, .func (.func g) #[] #[]] w fun e w' => e = .returned (.int .i64 (idxV p zs)) ∧ Below w.heap.size w w' := by
  have HS := Lib.hid h
  have HP := Lib.hid hp
  clear h hp
  go_enter Try.func87, Try.ntmps87
  go_wp2
  go_loopw [5, 8] (fun _ i wr => ∃ k : Nat, k ≤ n ∧ i = .int .i64 k ∧ Hid ((zs.take k).any p = false) ∧ Below w.heap.size w wr) (fun _ i _ => n - (intOf i).toNat)
  case atStart => exact ⟨0, Nat.zero_le _, rfl, Lib.hid rfl, Below.refl _ _⟩
  case round =>
    obtain ⟨k, hk, rfl, h0, hbel⟩ := hrel
    by_cases hlt : k < n
    · obtain ⟨b, off, u, d, rfl, hb1, hg, c1, c2, hd⟩ := (HS.out.below hbel).at_ hlt
      have HG := Lib.hid hg
      clear hg
      have hcall := HP.out u d wr hd
      cases hq : p ⟨u, d⟩ with
      | true =>
        rw [hq] at hcall
        have HQ := Lib.hid hq
        clear hq
        have HC := Lib.hid hcall
        clear hcall
        go_wp2_with (go_at_fn g; refine HC.out.mono ?_; rintro e w' ⟨rfl, hb'⟩)
        go_ret
        exact ⟨ret_int' (idxV_hit HG.out h0.out HQ.out).symm, below_next' hbel hb' hbel.size⟩
      | false =>
        rw [hq] at hcall
        have HQ := Lib.hid hq
        clear hq
        have HC := Lib.hid hcall
        clear hcall
        go_wp2_with (go_at_fn g; refine HC.out.mono ?_; rintro e w' ⟨rfl, hb'⟩)
        go_roundw
        case rel => exact ⟨k + 1, by omega, by go_num, Lib.hid (by rw [any_take_next HG.out h0.out]; exact HQ.out), below_next' hbel hb' hbel.size⟩
        case measure => simp [intOf]; omega
    · go_wp2
      go_ret
      obtain rfl : k = n := by omega
      refine ⟨ret_int' (idxV_miss ?_).symm, hbel⟩
      rw [← take_all HS.out.len]; exact h0.out
theorem idxV_nonneg (p : Slot → Bool) (l : List Slot) : decide (0 ≤ idxV p l) = l.any p := by
  unfold idxV
  cases h : l.any p with
  | true => simp
  | false => simp
set_option maxRecDepth 100000 in
set_option maxHeartbeats 400000 in
theorem contains_any (g : Nat) (p : Slot → Bool) (eg : ∀ args w, (callFunc g args).run Try.prog w = .ok (.enter g args) w) (hp : Tells g p) (a : Option Addr) (n c : Nat) (zs : List Slot) (w : World) (h : Slots w a n zs) (hn : n ≤ 1000000) :
    Calls Try.prog 82 #[.slice a n c, .func (.func g) #[] #[]] w fun e w' => e = .returned (.bool (zs.any p)) ∧ Below w.heap.size w w' := by
  have HS := Lib.hid h
  have HP := Lib.hid hp
  clear h hp
  go_enter Try.func82, Try.ntmps82
  go_wp2_with ((with_reducible refine (index_any g p eg HP.out a n c zs _ HS.out hn).mono ?_); rintro e w' ⟨rfl, hb'⟩)
  go_ret
  exact ⟨ret_bool' (idxV_nonneg p zs), hb'⟩
end Go.Proofs.Ytcpkngkeechjeaa.Slab
