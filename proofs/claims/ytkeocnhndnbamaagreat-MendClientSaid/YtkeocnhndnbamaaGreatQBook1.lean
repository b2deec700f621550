/- Slots, a row of them in memory, and what the document says of them, on lists. The walks of slab.wrong and slab.size. The walk of slab.used, which goes over slices.Backward. The walks of slab.Good and slab.Size. The walks of great, of the document's own size and Good, and of both Sizes. -/
import Derived.Test.YtkeocnhndnbamaaGreatRows
import Derived.WalkKit
import Derived.WalkSpells
import Derived.WalkLawsBesides
import Derived.BigQuiet
import Derived.Deep.QuietTactic
import Derived.IntWalk
import Derived.Lib.Hide
import Derived.WalkSmall
import Derived.Shelf.Abstract
import Derived.RangeFuncNested
import Derived.RangeFuncLeaves
import Derived.OwnWalkIn
import Derived.TacticsInMore
import Derived.LoopNIn
import Derived.LoopIn
import Derived.Lib.QuietBelow
namespace Go.Proofs.YtkeocnhndnbamaaGreat.Slab
set_option maxRecDepth 100000
open Go.RowKit
theorem ret_int' {k : IntKind} {a b : Int} (h : a = b) : Ending.returned (.int k a) = .returned (.int k b) := by rw [h]
theorem ret_bool' {a b : Bool} (h : a = b) : Ending.returned (.bool a) = .returned (.bool b) := by rw [h]

structure Slot where
  u : Bool
  d : ByteArray
def nos : Slot := ⟨false, ⟨#[]⟩⟩

/-- a row of slots in memory: nil or not -/
def Slots (w : World) (a : Option Addr) (n : Nat) (zs : List Slot) : Prop :=
  zs.length = n ∧ (∀ x ∈ zs, x.d.size ≤ 140737488351232) ∧ (0 < n → ∃ b off, a = some ⟨b, off, none⟩ ∧ b < w.heap.size ∧
    ∀ i, i < n → w.cell? ⟨b, off + i * 2, none⟩ = some (.bool (zs.getD i nos).u) ∧ w.cell? ⟨b, off + i * 2 + 1, none⟩ = some (.string (zs.getD i nos).d))
theorem Slots.mono {w w' : World} {a : Option Addr} {n : Nat} {zs : List Slot} {B : Nat} (h : Slots w a n zs) (hb : Below B w w') (hB : w.heap.size ≤ B) : Slots w' a n zs := by
  obtain ⟨h1, h2, h3⟩ := h
  refine ⟨h1, h2, fun hn => ?_⟩
  obtain ⟨b, off, ha, hlt, hc⟩ := h3 hn
  refine ⟨b, off, ha, Nat.lt_of_lt_of_le hlt hb.size, fun i hi => ?_⟩
  obtain ⟨c1, c2⟩ := hc i hi
  exact ⟨(hb.cell (p := ⟨b, off + i * 2, none⟩) (Nat.lt_of_lt_of_le hlt hB)).trans c1, (hb.cell (p := ⟨b, off + i * 2 + 1, none⟩) (Nat.lt_of_lt_of_le hlt hB)).trans c2⟩
theorem Slots.below {w w' : World} {a : Option Addr} {n : Nat} {zs : List Slot} (h : Slots w a n zs) (hb : Below w.heap.size w w') : Slots w' a n zs := h.mono hb (Nat.le_refl _)
theorem Slots.at_ {w : World} {a : Option Addr} {n k : Nat} {zs : List Slot} (h : Slots w a n zs) (hk : k < n) :
    ∃ b off u d, a = some ⟨b, off, none⟩ ∧ b < w.heap.size ∧ zs[k]? = some ⟨u, d⟩ ∧ w.cell? ⟨b, off + k * 2, none⟩ = some (.bool u) ∧ w.cell? ⟨b, off + k * 2 + 1, none⟩ = some (.string d) ∧ d.size ≤ 140737488351232 := by
  obtain ⟨h1, h2, h3⟩ := h
  obtain ⟨b, off, ha, hlt, hc⟩ := h3 (by omega)
  obtain ⟨c1, c2⟩ := hc k hk
  have hl : k < zs.length := by omega
  have e : zs.getD k nos = zs[k] := by simp [List.getD, hl]
  rw [e] at c1 c2
  exact ⟨b, off, zs[k].u, zs[k].d, ha, hlt, List.getElem?_eq_getElem hl, c1, c2, h2 _ (List.getElem_mem hl)⟩
theorem Slots.len {w : World} {a : Option Addr} {n : Nat} {zs : List Slot} (h : Slots w a n zs) : zs.length = n := h.1
theorem Slots.nil (w : World) (a : Option Addr) : Slots w a 0 [] := ⟨rfl, by simp, fun h => absurd h (Nat.lt_irrefl 0)⟩
theorem Slots.zero {w : World} {a : Option Addr} {zs : List Slot} (h : Slots w a 0 zs) : zs = [] := List.eq_nil_of_length_eq_zero h.1

/-- how many bytes slots need -/
def sz : List Slot → Nat
  | [] => 0
  | x :: r => 1 + x.d.size + sz r
theorem sz_append (l m : List Slot) : sz (l ++ m) = sz l + sz m := by
  induction l with
  | nil => simp [sz]
  | cons x r ih => simp only [List.cons_append, sz, ih]; omega
theorem take_next {l : List Slot} {k : Nat} {x : Slot} (h : l[k]? = some x) : l.take (k + 1) = l.take k ++ [x] := by
  obtain ⟨hl, rfl⟩ := List.getElem?_eq_some_iff.1 h
  exact List.take_succ_eq_append_getElem hl
theorem sz_next {l : List Slot} {k : Nat} {x : Slot} (h : l[k]? = some x) : sz (l.take (k + 1)) = sz (l.take k) + (1 + x.d.size) := by
  rw [take_next h, sz_append]; simp [sz]
theorem sz_take_le (l : List Slot) (k : Nat) : sz (l.take k) ≤ sz l := by
  conv => rhs; rw [← List.take_append_drop k l]
  rw [sz_append]; omega
theorem take_all {l : List Slot} {k : Nat} (h : l.length = k) : l.take k = l := by rw [← h, List.take_length]

/-- a slot that no image can have -/
def wrongB (x : Slot) : Bool := decide (200 < x.d.size) || (!x.u && !decide (x.d.size = 0))
/-- how many slots there are up to the last one that is used -/
def usedN : List Slot → Nat
  | [] => 0
  | x :: r => if usedN r = 0 then (if x.u then 1 else 0) else usedN r + 1
theorem usedN_le (l : List Slot) : usedN l ≤ l.length := by
  induction l with
  | nil => simp [usedN]
  | cons x r ih => simp only [usedN, List.length_cons]; split <;> (try split) <;> omega
def goodB (lsn : Int) (l : List Slot) : Bool := decide (0 ≤ lsn) && decide (lsn ≤ 1099511627776) && decide (l.length ≤ 32) && decide (l.length = usedN l) && !l.any wrongB && decide (9 + sz l ≤ 240)
end Go.Proofs.YtkeocnhndnbamaaGreat.Slab
namespace Go.Proofs.YtkeocnhndnbamaaGreat.Slab
set_option maxRecDepth 100000
open Go.RowKit

set_option maxRecDepth 100000 in
set_option maxHeartbeats 400000 in
theorem size_any (a : Option Addr) (n c : Nat) (zs : List Slot) (w : World) (h : Slots w a n zs) (hb : sz zs ≤ 1000000) (hn : n ≤ 1000000) :
    Calls Tryz.prog 56 #[.slice a n c] w fun e w' => e = .returned (.int .i64 ((9 + sz zs : Nat) : Int)) ∧ Below w.heap.size w w' := by
  have HS := Lib.hid h
  clear h
  go_enter Tryz.func56, Tryz.ntmps56
  go_wp2
  go_loopw [3, 8] (fun t i wr => ∃ k : Nat, k ≤ n ∧ i = .int .i64 k ∧ t = .int .i64 ((9 + sz (zs.take k) : Nat) : Int) ∧ Below w.heap.size w wr) (fun _ i _ => n - (intOf i).toNat)
  case atStart => exact ⟨0, Nat.zero_le _, rfl, rfl, Below.refl _ _⟩
  case round =>
    obtain ⟨k, hk, rfl, rfl, hbel⟩ := hrel
    by_cases hlt : k < n
    · obtain ⟨b, off, u, d, rfl, hb1, hg, c1, c2, hd⟩ := (HS.out.below hbel).at_ hlt
      have HN := Lib.hid (sz_next hg)
      have hle := sz_take_le zs (k + 1)
      have hle2 : sz (zs.take k) + (1 + d.size) ≤ 1000000 := by have := HN.out; simp only at this; omega
      have HG := Lib.hid hg
      clear hg hle
      generalize hs : sz (zs.take k) = s at hle2
      have HS2 := Lib.hid hs
      clear hs
      go_wp2
      go_roundw
      case rel => exact ⟨k + 1, by omega, by go_num, by rw [HN.out, HS2.out]; go_num, hbel.alloc hbel.size _⟩
      case measure => simp [intOf]; omega
    · go_wp2
      go_ret
      obtain rfl : k = n := by omega
      refine ⟨ret_int' ?_, hbel⟩
      rw [take_all HS.out.len]

theorem size_zero {d : ByteArray} (h : d.size = 0) : d = ⟨#[]⟩ := by
  apply ByteArray.ext; apply Array.eq_empty_of_size_eq_zero; exact h
theorem list_ne {d : ByteArray} (h : ¬ d.size = 0) : d.toList.isEmpty = false := by
  rw [ByteArray.toList_eq]
  cases hl : d.data.toList with
  | nil => exact absurd (by rw [show d.size = d.data.toList.length from (Array.length_toList).symm, hl]; rfl) h
  | cons x r => rfl
set_option maxRecDepth 100000 in
set_option maxHeartbeats 400000 in
theorem wrong_any (u : Bool) (d : ByteArray) (w : World) (_hd : d.size ≤ 140737488351232) :
    Calls Tryz.prog 55 #[.agg #[.bool u, .string d]] w fun e w' => e = .returned (.bool (wrongB ⟨u, d⟩)) ∧ Below w.heap.size w w' := by
  by_cases h1 : 200 < d.size
  · go_enter Tryz.func55, Tryz.ntmps55
    go_wp2
    go_ret
    exact ⟨ret_bool' (by simp [wrongB, h1]), (Below.refl _ _).alloc (Nat.le_refl _) _⟩
  · cases u with
    | true =>
      go_enter Tryz.func55, Tryz.ntmps55
      go_wp2
      go_ret
      exact ⟨ret_bool' (by simp [wrongB, h1]; try omega), (Below.refl _ _).alloc (Nat.le_refl _) _⟩
    | false =>
      by_cases h2 : d.size = 0
      · obtain rfl := size_zero h2
        go_enter Tryz.func55, Tryz.ntmps55
        go_wp2
        go_ret
        exact ⟨ret_bool' (by first | rfl | (simp [wrongB]; decide)), (Below.refl _ _).alloc (Nat.le_refl _) _⟩
      · have hl := list_ne h2
        go_enter Tryz.func55, Tryz.ntmps55
        go_wp2
        go_ret
        exact ⟨ret_bool' (by simp [wrongB, h1, h2]; try omega), (Below.refl _ _).alloc (Nat.le_refl _) _⟩
/-- the place of the first for which p holds, or how many there are -/
def firstN (p : Slot → Bool) (l : List Slot) : Nat := l.findIdx p
def idxV (p : Slot → Bool) (l : List Slot) : Int := if l.any p then (firstN p l : Int) else -1
theorem any_take_next {p : Slot → Bool} {l : List Slot} {k : Nat} {x : Slot} (h : l[k]? = some x) (h0 : (l.take k).any p = false) : (l.take (k + 1)).any p = p x := by
  rw [take_next h, List.any_append, h0]; simp
theorem idxV_hit {p : Slot → Bool} {l : List Slot} {k : Nat} {x : Slot} (h : l[k]? = some x) (h0 : (l.take k).any p = false) (hp : p x = true) : idxV p l = (k : Int) := by
  obtain ⟨hl, rfl⟩ := List.getElem?_eq_some_iff.1 h
  have ha : l.any p = true := List.any_eq_true.2 ⟨_, List.getElem_mem hl, hp⟩
  have hf : firstN p l = k := by
    unfold firstN
    rw [List.findIdx_eq hl]
    refine ⟨hp, fun j hj => ?_⟩
    have := List.any_eq_false.1 h0 (l[j]'(by omega)) (by rw [List.mem_take_iff_getElem]; exact ⟨j, by omega, rfl⟩)
    simpa using this
  unfold idxV
  rw [if_pos ha, hf]
theorem idxV_miss {p : Slot → Bool} {l : List Slot} (h0 : l.any p = false) : idxV p l = -1 := by
  unfold idxV; rw [h0]; rfl
def Tells (g : Nat) (p : Slot → Bool) : Prop := ∀ (u : Bool) (d : ByteArray) (W : World), d.size ≤ 140737488351232 → Calls Tryz.prog g #[.agg #[.bool u, .string d]] W fun e w' => e = .returned (.bool (p ⟨u, d⟩)) ∧ Below W.heap.size W w'
theorem wrong_tells : Tells 55 wrongB := fun u d W h => wrong_any u d W h
theorem below_next' {B : Nat} {W w w' : World} (h : Below B W w) (h' : Below w.heap.size w w') (hB : B ≤ w.heap.size) : Below B W w' := h.trans (h'.mono hB)
set_option maxRecDepth 100000 in
set_option maxHeartbeats 400000 in
theorem index_any (g : Nat) (p : Slot → Bool) (eg : ∀ args w, (callFunc g args).run Tryz.prog w = .ok (.enter g args) w) (hp : Tells g p) (a : Option Addr) (n c : Nat) (zs : List Slot) (w : World) (h : Slots w a n zs) (hn : n ≤ 1000000) :
    Calls Tryz.prog 78 #[.slice a n c, .func (.func g) #[] #[]] w fun e w' => e = .returned (.int .i64 (idxV p zs)) ∧ Below w.heap.size w w' := by
  have HS := Lib.hid h
  have HP := Lib.hid hp
  clear h hp
  go_enter Tryz.func78, Tryz.ntmps78
  go_wp2
  go_loopw [5, 8] (fun _ i wr => ∃ k : Nat, k ≤ n ∧ i = .int .i64 k ∧ Hid ((zs.take k).any p = false) ∧ Below w.heap.size w wr) (fun _ i _ => n - (intOf i).toNat)
  case atStart => exact ⟨0, Nat.zero_le _, rfl, Lib.hid rfl, Below.refl _ _⟩
  case round =>
    obtain ⟨k, hk, rfl, h0, hbel⟩ := hrel
    by_cases hlt : k < n
    · obtain ⟨b, off, u, d, rfl, hb1, hg, c1, c2, hd⟩ := (HS.out.below hbel).at_ hlt
      have HG := Lib.hid hg
      clear hg
      have hcall := HP.out u d wr hd
      cases hq : p ⟨u, d⟩ with
      | true =>
        rw [hq] at hcall
        have HQ := Lib.hid hq
        clear hq
        have HC := Lib.hid hcall
        clear hcall
        go_wp2_with (go_at_fn g; refine HC.out.mono ?_; rintro e w' ⟨rfl, hb'⟩)
        go_ret
        exact ⟨ret_int' (idxV_hit HG.out h0.out HQ.out).symm, below_next' hbel hb' hbel.size⟩
      | false =>
        rw [hq] at hcall
        have HQ := Lib.hid hq
        clear hq
        have HC := Lib.hid hcall
        clear hcall
        go_wp2_with (go_at_fn g; refine HC.out.mono ?_; rintro e w' ⟨rfl, hb'⟩)
        go_roundw
        case rel => exact ⟨k + 1, by omega, by go_num, Lib.hid (by rw [any_take_next HG.out h0.out]; exact HQ.out), below_next' hbel hb' hbel.size⟩
        case measure => simp [intOf]; omega
    · go_wp2
      go_ret
      obtain rfl : k = n := by omega
      refine ⟨ret_int' (idxV_miss ?_).symm, hbel⟩
      rw [← take_all HS.out.len]; exact h0.out
theorem idxV_nonneg (p : Slot → Bool) (l : List Slot) : decide (0 ≤ idxV p l) = l.any p := by
  unfold idxV
  cases h : l.any p with
  | true => simp
  | false => simp
set_option maxRecDepth 100000 in
set_option maxHeartbeats 400000 in
theorem contains_any (g : Nat) (p : Slot → Bool) (eg : ∀ args w, (callFunc g args).run Tryz.prog w = .ok (.enter g args) w) (hp : Tells g p) (a : Option Addr) (n c : Nat) (zs : List Slot) (w : World) (h : Slots w a n zs) (hn : n ≤ 1000000) :
    Calls Tryz.prog 54 #[.slice a n c, .func (.func g) #[] #[]] w fun e w' => e = .returned (.bool (zs.any p)) ∧ Below w.heap.size w w' := by
  have HS := Lib.hid h
  have HP := Lib.hid hp
  clear h hp
  go_enter Tryz.func54, Tryz.ntmps54
  go_wp2_with ((with_reducible refine (index_any g p eg HP.out a n c zs _ HS.out hn).mono ?_); rintro e w' ⟨rfl, hb'⟩)
  go_ret
  exact ⟨ret_bool' (idxV_nonneg p zs), hb'⟩
end Go.Proofs.YtkeocnhndnbamaaGreat.Slab
namespace Go.Proofs.YtkeocnhndnbamaaGreat.Slab
set_option maxRecDepth 100000
open Go.RowKit Go.Shelf
attribute [local go_sem] Oper.semAt_some

theorem usedN_none {l : List Slot} (h : ∀ x ∈ l, x.u = false) : usedN l = 0 := by
  induction l with
  | nil => rfl
  | cons x r ih =>
    rw [usedN, if_pos (ih fun y hy => h y (List.mem_cons_of_mem _ hy)), h x List.mem_cons_self]; rfl
theorem usedN_last {l : List Slot} {k : Nat} {x : Slot} (h : l[k]? = some x) (hu : x.u = true) (hr : ∀ y ∈ l.drop (k + 1), y.u = false) : usedN l = k + 1 := by
  induction l generalizing k with
  | nil => simp at h
  | cons y r ih =>
    cases k with
    | zero =>
      simp at h; subst h
      rw [usedN, if_pos (usedN_none (by simpa using hr)), hu]; rfl
    | succ k =>
      have := ih (k := k) (by simpa using h) (by simpa using hr)
      rw [usedN, if_neg (by omega), this]

/-- a place and what is there -/
structure Nth where
  i : Nat
  x : Slot
  h : i ≤ 1000000
def nth (zs : List Slot) (j : Nat) : Nth := ⟨min j 1000000, zs.getD j nos, by omega⟩
def enth (x : Nth) : Array Value := #[.int .i64 (x.i : Int), .agg #[.bool x.x.u, .string x.x.d]]
/-- what has come when m places are still to come -/
def bk (zs : List Slot) (m : Nat) : List Nth := (List.range (zs.length - m)).map fun j => nth zs (zs.length - 1 - j)
theorem bk_all (zs : List Slot) : bk zs zs.length = [] := by simp [bk]
theorem bk_next (zs : List Slot) (j : Nat) (h : j < zs.length) : bk zs j = bk zs (j + 1) ++ [nth zs j] := by
  unfold bk
  have e : zs.length - j = (zs.length - (j + 1)) + 1 := by omega
  rw [e, List.range_succ, List.map_append]
  congr 2
  simp only [List.map_cons, List.map_nil]
  congr 2; omega
theorem nth_of {zs : List Slot} {j : Nat} {x : Slot} (h : zs[j]? = some x) (hj : j ≤ 1000000) : nth zs j = ⟨j, x, hj⟩ := by
  unfold nth
  have e : zs.getD j nos = x := by simp [List.getD, h]
  have e2 : min j 1000000 = j := by omega
  congr 1
theorem bk_mem {zs : List Slot} {m : Nat} (p : Bool) (hp : ∀ x ∈ bk zs m, x.x.u = p) : ∀ y ∈ zs.drop m, y.u = p := by
  intro y hy
  obtain ⟨i, hi, rfl⟩ := List.mem_iff_getElem.1 hy
  simp only [List.length_drop] at hi
  have := hp (nth zs (m + i)) (by
    unfold bk
    refine List.mem_map.2 ⟨zs.length - 1 - (m + i), by simp; omega, ?_⟩
    congr 1; omega)
  simp only [nth] at this
  rw [List.getElem_drop]
  have e : zs.getD (m + i) nos = zs[m + i]'(by omega) := by simp [List.getD, show m + i < zs.length by omega]
  rw [e] at this
  exact this

/-- what lies below n, and the cell of block B, are kept -/
def Keep (n B : Nat) (W W' : World) : Prop := Below n W W' ∧ ∀ v, W.cell? ⟨B, 0, none⟩ = some v → W'.cell? ⟨B, 0, none⟩ = some v
theorem Keep.refl (n B : Nat) (W : World) : Keep n B W W := ⟨Below.refl _ _, fun _ h => h⟩
theorem Keep.trans {n B : Nat} {X Y Z : World} (h : Keep n B X Y) (k : Keep n B Y Z) : Keep n B X Z := ⟨h.1.trans k.1, fun v hv => k.2 v (h.2 v hv)⟩
theorem cell_putObj {W : World} {l B : Nat} {o o' : Obj} {v : Value} (h : W.heap[l]? = some o) (hc : o.isCells = false) (hv : W.cell? ⟨B, 0, none⟩ = some v) : (W.putObj l o').cell? ⟨B, 0, none⟩ = some v :=
  cell_kept hv (grownBy_putObj' W l o') (fun r e => by cases e; exact ⟨o, h, hc⟩)
theorem Keep.putObj {n B : Nat} {w : World} (hn : n ≤ w.heap.size) (W : World) (l : Nat) (o o' : Obj) (hl : w.heap.size ≤ l) (h : W.heap[l]? = some o) (hc : o.isCells = false) (hk : o.isWalk = false) : Keep n B W (W.putObj l o') :=
  ⟨belowK_b hn W l o o' hl h hc hk, fun _ hv => cell_putObj h hc hv⟩

set_option maxRecDepth 100000 in
set_option maxHeartbeats 1000000 in
theorem backward1_in (F : Fence) (n : Nat) (hf : F.fn 91) (hro : F.round = none) (hn : 1 ≤ n) (l Bs n₀ len cap : Nat) (a : Option Addr) (zs : List Slot) (hlen : len ≤ 1000000) (J Jx : List Nth → World → Prop)
    (W : World) (hb : 0 < len → ∀ b off, a = some ⟨b, off, none⟩ → b < n₀)
    (hY : ∀ pre x W, J pre W → pre.length < len → YieldAt F (n - 1) Tryz.prog l (enth x) W fun e W' =>
      (e = .returned (.bool true) ∧ J (pre ++ [x]) W' ∧ Keep n₀ Bs W W') ∨ (e = .returned (.bool false) ∧ Jx (pre ++ [x]) W'))
    (hBs : W.cell? ⟨Bs, 0, none⟩ = some (.slice a len cap)) (hS : Slots W a len zs) (h0 : J [] W) :
    CallsIn F n Tryz.prog 91 #[.func (.yield l) #[] #[], .pointer (some ⟨Bs, 0, none⟩)] W fun e W' => (∃ v, e = .returned v) ∧
      ((∃ ys, ys = bk zs 0 ∧ J ys W') ∨ (∃ pre, (∃ m, m < len ∧ pre = bk zs m) ∧ Jx pre W')) := by
  have HS := Lib.hid hS
  clear hS
  have HY := Lib.hid hY
  clear hY
  refine callsIn_of_wp Tryz.func91 rfl hf ?_ hro
  simp only [Tryz.ntmps91, List.size_toArray, List.length_cons, List.length_nil, Nat.reduceAdd, Nat.reduceSub, Array.replicate_succ, Array.replicate_zero, List.push_toArray, List.append_toArray, List.nil_append, List.cons_append]
  gi_wp2
  gi_loopw [3] (fun i wr => ∃ m : Nat, m ≤ len ∧ i = .int .i64 ((m : Int) - 1) ∧ J (bk zs m) wr ∧ Keep n₀ Bs W wr)
    (fun i _ => (intOf i + 1).toNat)
  case atStart => exact ⟨len, Nat.le_refl _, rfl, by rw [← HS.out.len, bk_all]; exact h0, Keep.refl _ _ _⟩
  case round =>
    obtain ⟨m, hm, hi, hJs, hnx⟩ := hrel
    have hcx := hnx.2 _ hBs
    cases m with
    | zero =>
      obtain rfl := hi
      gi_wp2
      go_end0
      exact ⟨⟨_, rfl⟩, .inl ⟨_, rfl, hJs⟩⟩
    | succ j =>
      have hi' : u3 = Value.int .i64 (j : Int) := by rw [hi]; congr 1; omega
      subst hi'
      clear hi
      obtain ⟨b, off, u, d, rfl, hb1, hg, c1, c2, hd⟩ := HS.out.at_ (k := j) (by omega)
      have hbn := hb (by omega) b off rfl
      have c1' := (hnx.1.cell (p := ⟨b, off + j * 2, none⟩) hbn).trans c1
      have c2' := (hnx.1.cell (p := ⟨b, off + j * 2 + 1, none⟩) hbn).trans c2
      clear c1 c2
      have hlj : (bk zs (j + 1)).length < len := by simp [bk, HS.out.len]; omega
      obtain ⟨fn, tmps, assign, body, hy, hR⟩ := HY.out _ ⟨j, ⟨u, d⟩, by omega⟩ wr hJs hlj
      have HG := Lib.hid hg
      clear hg
      dsimp only [enth] at hy
      gi_wp2
      refine hR.mono ?_
      have HN : bk zs j = bk zs (j + 1) ++ [⟨j, ⟨u, d⟩, by omega⟩] := by rw [bk_next zs j (by rw [HS.out.len]; omega), nth_of HG.out (by omega)]
      rintro e W3 (⟨rfl, hJ3, hk3⟩ | ⟨rfl, hJx3⟩)
      · gi_wp2
        go_roundw
        case rel => exact ⟨j, by omega, rfl, by rw [HN]; exact hJ3, hnx.trans hk3⟩
        case measure => simp [intOf]
      · gi_wp2
        refine bodyPost_ret (results_none rfl _ _ _) rfl ?_
        exact ⟨⟨_, rfl⟩, .inr ⟨_, ⟨j, by omega, HN.symm⟩, hJx3⟩⟩

set_option maxHeartbeats 1000000 in
theorem backward_in (F : Fence) (n : Nat) (hf : F.fn 77) (hro : F.round = none) (a : Option Addr) (len cap : Nat) (w : World) :
    CallsIn F n Tryz.prog 77 #[.slice a len cap] w fun e w' => e = .returned (.func (.func 91) #[] #[.pointer (some ⟨w.heap.size, 0, none⟩)]) ∧ w' = w.alloc (.cells #[.slice a len cap] 50) := by
  refine callsIn_of_wp Tryz.func77 rfl hf ?_ hro
  simp only [Tryz.ntmps77, List.size_toArray, List.length_cons, List.length_nil, Nat.reduceAdd, Nat.reduceSub, Array.replicate_succ, Array.replicate_zero, List.push_toArray, List.append_toArray, List.nil_append, List.cons_append]
  gi_wp2
  go_ret
  exact ⟨rfl, rfl⟩
theorem backward_stops (F : Fence) (n : Nat) (hf : F.fn 91) (hro : F.round = none) (hn : 1 ≤ n) (Bs n₀ len cap : Nat) (a : Option Addr) (zs : List Slot) (hlen : len ≤ 1000000) (w : World)
    (hb : 0 < len → ∀ b off, a = some ⟨b, off, none⟩ → b < n₀) (hBs : w.cell? ⟨Bs, 0, none⟩ = some (.slice a len cap)) (hBl : Bs < w.heap.size) (hS : Slots w a len zs) :
    SeqStopsK F n Tryz.prog 91 #[.pointer (some ⟨Bs, 0, none⟩)] enth (Keep n₀ Bs) (fun ys => ys = bk zs 0) (fun pre => ∃ m, m < len ∧ pre = bk zs m) len w := fun l J Jx W hW _ _ hY h0 =>
  backward1_in F n hf hro hn l Bs n₀ len cap a zs hlen J Jx W hb hY ((hW.cell (p := ⟨Bs, 0, none⟩) hBl).trans hBs) (hS.below hW) h0

set_option maxRecDepth 100000 in
set_option maxHeartbeats 2000000 in
theorem used_in (F : Fence) (n : Nat) (h36 : F.fn 53) (h53 : F.fn 77) (h60 : F.fn 91) (hro : F.round = none) (hn : 3 ≤ n)
    (a : Option Addr) (len cap : Nat) (zs : List Slot) (hlen : len ≤ 1000000) (w : World) (hS : Slots w a len zs) :
    CallsIn F n Tryz.prog 53 #[.slice a len cap] w fun e W' => e = .returned (.int .i64 (usedN zs : Nat)) ∧ Below w.heap.size w W' := by
  have h1 : 1 ≤ n := by omega
  have HS := Lib.hid hS
  clear hS
  refine callsIn_of_wp_marks Tryz.func53 rfl h36 ?_ hro
  simp only [Tryz.ntmps53, List.size_toArray, List.length_cons, List.length_nil, Nat.reduceAdd, Nat.reduceSub, Array.replicate_succ, Array.replicate_zero, List.push_toArray, List.append_toArray, List.nil_append, List.cons_append]
  gi_wp2_with (gi_at_call 77; refine (backward_in F (n - 1) h53 hro _ _ _ _).mono ?_; rintro e w' ⟨rfl, rfl⟩)
  have bR := Boxed.new w 3 (.int .i64 0)
  have bN := Boxed.new (w.alloc (.cells #[.int .i64 0] 3)) 50 (.slice a len cap)
  rw [World.size_alloc] at bN
  have hB0 : Below w.heap.size w ((w.alloc (.cells #[.int .i64 0] 3)).alloc (.cells #[.slice a len cap] 50)) := ((Below.refl _ w).alloc (Nat.le_refl _) _).alloc (by simp) _
  have bR' := bR.alloc (.cells #[.slice a len cap] 50)
  have hsz : ((w.alloc (.cells #[.int .i64 0] 3)).alloc (.cells #[.slice a len cap] 50)).heap.size = w.heap.size + 2 := by simp
  obtain ⟨W0, hW0⟩ : ∃ W0, (w.alloc (.cells #[.int .i64 0] 3)).alloc (.cells #[.slice a len cap] 50) = W0 := ⟨_, rfl⟩
  rw [hW0] at bN bR' hB0 hsz ⊢
  clear hW0 bR
  have hbn : 0 < len → ∀ b off, a = some ⟨b, off, none⟩ → b < w.heap.size := by
    intro h b off e
    obtain ⟨b', off', e', hlt, _⟩ := HS.out.2.2 h
    rw [e] at e'; cases e'; exact hlt
  refine wpIn_rangeFunc_ownH hro h1 (gf := 91) (lb := #[.pointer (some ⟨w.heap.size + 1, 0, none⟩)]) rfl h60 (enters_of Tryz.func91 (by kernel_rfl) rfl)
    (backward_stops F (n - 1) h60 hro (by omega) (w.heap.size + 1) w.heap.size len cap a zs hlen W0 hbn bN.cell (by omega) (HS.out.below hB0)) (fun h k => h.trans k) (Keep.putObj (by omega)) (Below.refl _ _) (fun _ => rfl)
    (fun pre W => ((∀ x ∈ pre, x.x.u = false) ∧ Boxed W w.heap.size 3 (.int .i64 0)) ∧ Below w.heap.size w W)
    (fun c pre W => (c = .ret ∧ ∃ ini last, pre = ini ++ [last] ∧ (∀ x ∈ ini, x.x.u = false) ∧ last.x.u = true ∧ Boxed W w.heap.size 3 (.int .i64 ((last.i : Int) + 1))) ∧ Below w.heap.size w W)
    (OwnFrom.and (OwnFrom.and (ownFrom_pure _ _) (Own.from (boxed_own _ _ _) _)) (ownFrom_below (Nat.le_refl _) (by omega)))
    (fun c => OwnFrom.and (Own.from (fun s A B row hs hg hr => by obtain ⟨hc, ini, last, e1, e2, e3, e4⟩ := hs; exact ⟨hc, ini, last, e1, e2, e3, boxed_own _ _ (fun (_ : Unit) => Value.int .i64 ((last.i : Int) + 1)) () A B row e4 hg hr⟩) _) (ownFrom_below (Nat.le_refl _) (by omega)))
    ⟨⟨by simp, bR'⟩, hB0⟩
    (fun x a' W => ∃ Bx : Nat, W.heap[Bx]? = some (.cells #[.bool x.x.u, .string x.x.d] 41 (0, 0)) ∧ a' = { tmps := #[.slice a len cap, undef, .pointer (some ⟨w.heap.size, 0, none⟩), .int .i64 (x.i : Int), .pointer (some ⟨Bx, 0, none⟩), .slice a len cap, .func (.func 91) #[] #[.pointer (some ⟨w.heap.size + 1, 0, none⟩)], .int .i64 (x.i : Int), .agg #[.bool x.x.u, .string x.x.d], undef, undef, undef, undef], defers := [] })
    ?hAx ?assign ?body ?done ?stop
  case hAx =>
    intro x a' _ X Y row hs hg hr
    obtain ⟨Bx, g2, g3⟩ := hs
    exact ⟨Bx, (hg.block Bx (Array.getElem?_eq_some_iff.1 g2).1 (fun e => by obtain ⟨_, o, ho, hc⟩ := hr Bx e.symm; rw [g2] at ho; cases ho; cases hc)).trans g2, g3⟩
  case assign =>
    rintro l pre x W K ⟨⟨hp, hbx⟩, hB⟩ hK
    dsimp only [enth]
    gi_wp2
    exact hK _ _ ((KeepsOthers.alloc _ _).from _) ⟨(Below.refl _ W).alloc hB.size _, fun v hv => (World.cell?_alloc_lt W _ _ (World.block_lt_of_cell? W _ hv)).trans hv⟩ ⟨⟨hp, hbx.alloc _⟩, hB.alloc hB.size _⟩ ⟨W.heap.size, World.alloc_heap_new W _, rfl⟩
  case body =>
    rintro l pre x a' W hl ⟨r, hr⟩ ⟨⟨hp, hbx⟩, hB⟩ ⟨Bx, hbX, rfl⟩ hlt
    have c0 : W.cell? ⟨Bx, 0, none⟩ = some (.bool x.x.u) := by simp [World.cell?, hbX]
    have hcr := hbx.cell
    have hfr := hbx.frozen
    have hx := x.h
    cases hu : x.x.u with
    | true =>
      rw [hu] at c0
      gi_wp2
      exact ⟨(KeepsOthers.setCell _ _ _).from _, ⟨rfl, pre, x, rfl, hp, hu, hbx.set _⟩, hB.setCell (p := ⟨w.heap.size, 0, none⟩) (Nat.le_refl _) _⟩
    | false =>
      rw [hu] at c0
      gi_wp2
      exact ⟨KeepsFrom.refl _ _, Keep.refl _ _ _, ⟨fun y hy => (List.mem_append.1 hy).elim (hp y) (fun e => by simp at e; subst e; exact hu), hbx⟩, hB⟩
  case done =>
    rintro D ys W hD rfl ⟨⟨hp, hbx⟩, hB⟩ hK
    have hcr := hbx.cell
    have hfr := hbx.frozen
    gi_wp2
    have hK' := (KeepsOthers.setCell W ⟨w.heap.size, 0, none⟩ (.int .i64 0)).same D _ hK rfl
    refine ⟨by simp, .inl ⟨_, _, rfl, run_takeDeferred hK', ?_⟩⟩
    have hc5 := cell_kept (World.cell?_setCell_same' W ⟨w.heap.size, 0, none⟩ (.int .i64 0) (by rw [hcr]; rfl)) (grownBy_putObj' _ D (.deferred none)) (fun r e => by cases e; exact ⟨_, hK', rfl⟩)
    have hz : usedN zs = 0 := usedN_none (bk_mem (m := 0) false hp)
    refine ⟨.int .i64 0, ?_, by rw [hz]; rfl, (hB.setCell (p := ⟨w.heap.size, 0, none⟩) (Nat.le_refl _) _).trans (belowK_b (w := w) (Nat.le_refl _) _ D _ _ (by omega) hK' rfl rfl)⟩
    simp [results, Tryz.results53, go_sem, hc5]
  case stop =>
    rintro D c pre W hD ⟨m, hm, rfl⟩ ⟨⟨rfl, ini, last, e1, e2, e3, hbx⟩, hB⟩ hK
    have hcr := hbx.cell
    gi_wp2
    refine ⟨by simp, .inl ⟨_, _, rfl, run_takeDeferred hK, ?_⟩⟩
    have hc5 := cell_kept hcr (grownBy_putObj' _ D (.deferred none)) (fun r e => by cases e; exact ⟨_, hK, rfl⟩)
    have hml : m < zs.length := by rw [HS.out.len]; exact hm
    rw [bk_next zs m hml] at e1
    obtain ⟨rfl, e5⟩ := List.append_inj' e1 rfl
    have hg : zs[m]? = some zs[m] := List.getElem?_eq_getElem hml
    rw [nth_of hg (by omega)] at e5
    obtain rfl := (List.cons.inj e5).1
    have hz : usedN zs = m + 1 := usedN_last hg e3 (bk_mem false e2)
    refine ⟨.int .i64 ((m : Int) + 1), ?_, by rw [hz]; rfl, hB.trans (belowK_b (w := w) (Nat.le_refl _) W D _ _ (by omega) hK rfl rfl)⟩
    simp [results, Tryz.results53, go_sem, hc5]
theorem used_any (a : Option Addr) (len cap : Nat) (zs : List Slot) (w : World) (h : Slots w a len zs) (hlen : len ≤ 1000000) :
    Calls Tryz.prog 53 #[.slice a len cap] w fun e w' => e = .returned (.int .i64 (usedN zs : Nat)) ∧ Below w.heap.size w w' :=
  (callsIn_wide (n := 6)).1 (used_in Fence.wide 6 trivial trivial trivial rfl (by omega) a len cap zs hlen w h)
end Go.Proofs.YtkeocnhndnbamaaGreat.Slab
namespace Go.Proofs.YtkeocnhndnbamaaGreat.Slab
set_option maxRecDepth 100000
open Go.RowKit Go.Sort

theorem sz_small {l : List Slot} (h : l.any wrongB = false) : sz l ≤ 201 * l.length := by
  induction l with
  | nil => simp [sz]
  | cons x r ih =>
    simp only [List.any_cons, Bool.or_eq_false_iff] at h
    have h1 := ih h.2
    have h2 : x.d.size ≤ 200 := by have := h.1; simp [wrongB] at this; omega
    simp only [sz, List.length_cons]; omega
theorem page_cells (w : World) (x y : Value) (T : TypeId) : (w.alloc (.cells #[x, y] T)).cell? ⟨w.heap.size, 0, none⟩ = some x ∧ (w.alloc (.cells #[x, y] T)).cell? ⟨w.heap.size, 1, none⟩ = some y := by
  constructor <;> (rw [World.cell?_alloc_new]; rfl)

theorem wrongs_any (a : Option Addr) (n c : Nat) (zs : List Slot) (w : World) (h : Slots w a n zs) (hn : n ≤ 1000000) :
    Calls Tryz.prog 54 #[.slice a n c, .func (.func 55) #[] #[]] w fun e w' => e = .returned (.bool (zs.any wrongB)) ∧ Below w.heap.size w w' :=
  contains_any 55 wrongB (enters_of Tryz.func55 (by kernel_rfl) rfl) wrong_tells a n c zs w h hn
set_option maxRecDepth 100000 in
set_option maxHeartbeats 1000000 in
theorem good_any (lsn : Int) (a : Option Addr) (n c : Nat) (zs : List Slot) (w : World) (h : Slots w a n zs) (hn : n ≤ 1000000) :
    Calls Tryz.prog 31 #[.agg #[.int .i64 lsn, .slice a n c]] w fun e w' => e = .returned (.bool (goodB lsn zs)) ∧ Below w.heap.size w w' := by
  have hz := h.len
  have HS := Lib.hid h
  clear h
  by_cases h0 : lsn < 0
  · go_enter Tryz.func31, Tryz.ntmps31
    go_wp2
    go_ret
    exact ⟨ret_bool' (by simp [goodB]; omega), (Below.refl _ _).alloc (Nat.le_refl _) _⟩
  · by_cases h1 : 1099511627776 < lsn
    · go_enter Tryz.func31, Tryz.ntmps31
      go_wp2
      go_ret
      exact ⟨ret_bool' (by simp [goodB]; omega), (Below.refl _ _).alloc (Nat.le_refl _) _⟩
    · by_cases h2 : 32 < n
      · have HZ := Lib.hid hz
        clear hz
        go_enter Tryz.func31, Tryz.ntmps31
        go_wp2
        go_ret
        exact ⟨ret_bool' (by have := HZ.out; simp [goodB]; omega), (Below.refl _ _).alloc (Nat.le_refl _) _⟩
      · have hgood : goodB lsn zs = (decide (n = usedN zs) && !zs.any wrongB && decide (9 + sz zs ≤ 240)) := by
          unfold goodB
          rw [hz]
          simp [show (0 : Int) ≤ lsn by omega, show lsn ≤ 1099511627776 by omega, show n ≤ 32 by omega]
        have HG := Lib.hid hgood
        clear hgood
        obtain ⟨c0, c1⟩ := page_cells w (.int .i64 lsn) (.slice a n c) 52
        have hb0 : Below w.heap.size w (w.alloc (.cells #[.int .i64 lsn, .slice a n c] 52)) := (Below.refl _ _).alloc (Nat.le_refl _) _
        have HZ := Lib.hid hz
        clear hz
        by_cases h3 : n = usedN zs
        · have h3' : ((n : Int) == ((usedN zs : Nat) : Int)) = true := by simp [← h3]
          have H3 := Lib.hid h3
          clear h3
          generalize hu : usedN zs = m at h3'
          have HU := Lib.hid hu
          clear hu
          cases hw : zs.any wrongB with
          | true =>
            have HW := Lib.hid hw
            clear hw
            go_enter Tryz.func31, Tryz.ntmps31
            go_wp2
            generalize hW : w.alloc (.cells #[.int .i64 lsn, .slice a n c] 52) = W at c0 c1 hb0 ⊢
            clear hW
            have k1 := cell_regrown c1
            have HSW := HS.out.below hb0
            have cU : ∀ d os, Calls Tryz.prog 53 #[.slice a n c] (grow (redrawn W d) os) fun e w'' => e = .returned (.int .i64 (m : Int)) ∧ ∃ p : Regrown, w'' = grow (redrawn W p.d) p.os := fun d os => Calls.regrown_of (by rw [← HU.out]; exact used_any a n c zs _ (HSW.below (below_regrown W d os)) (by omega))
            have cC : ∀ d os, Calls Tryz.prog 54 #[.slice a n c, .func (.func 55) #[] #[]] (grow (redrawn W d) os) fun e w'' => e = .returned (.bool true) ∧ ∃ p : Regrown, w'' = grow (redrawn W p.d) p.os := fun d os => Calls.regrown_of (by rw [← HW.out]; exact wrongs_any a n c zs _ (HSW.below (below_regrown W d os)) (by omega))
            refine wp_region_quiet_below (by kernel_rfl) (by kernel_rfl) ?_
            repeat (go_big_quiet_step (first | exact cU _ _ | exact cC _ _))
            refine wpQuiet_nil ?_
            intro _ hw'
            obtain ⟨⟨dq, osq⟩, hw''⟩ := hw'
            subst hw''
            have hbq := hb0.trans ((below_regrown W dq osq).mono hb0.size)
            generalize grow (redrawn W dq) osq = W1 at hbq ⊢
            go_wp2
            go_ret
            exact ⟨ret_bool' (by rw [HG.out]; simp [HW.out]), hbq⟩
          | false =>
            have hs := sz_small hw
            have hs2 : sz zs ≤ 1000000 := by have := HZ.out; omega
            clear hs
            have HW := Lib.hid hw
            clear hw
            go_enter Tryz.func31, Tryz.ntmps31
            go_wp2
            generalize hW : w.alloc (.cells #[.int .i64 lsn, .slice a n c] 52) = W at c0 c1 hb0 ⊢
            clear hW
            have k1 := cell_regrown c1
            have HSW := HS.out.below hb0
            have cU : ∀ d os, Calls Tryz.prog 53 #[.slice a n c] (grow (redrawn W d) os) fun e w'' => e = .returned (.int .i64 (m : Int)) ∧ ∃ p : Regrown, w'' = grow (redrawn W p.d) p.os := fun d os => Calls.regrown_of (by rw [← HU.out]; exact used_any a n c zs _ (HSW.below (below_regrown W d os)) (by omega))
            have cC : ∀ d os, Calls Tryz.prog 54 #[.slice a n c, .func (.func 55) #[] #[]] (grow (redrawn W d) os) fun e w'' => e = .returned (.bool false) ∧ ∃ p : Regrown, w'' = grow (redrawn W p.d) p.os := fun d os => Calls.regrown_of (by rw [← HW.out]; exact wrongs_any a n c zs _ (HSW.below (below_regrown W d os)) (by omega))
            have cZ : ∀ d os, Calls Tryz.prog 56 #[.slice a n c] (grow (redrawn W d) os) fun e w'' => e = .returned (.int .i64 ((9 + sz zs : Nat) : Int)) ∧ ∃ p : Regrown, w'' = grow (redrawn W p.d) p.os := fun d os => Calls.regrown_of (size_any a n c zs _ (HSW.below (below_regrown W d os)) hs2 (by omega))
            refine wp_region_quiet_below (by kernel_rfl) (by kernel_rfl) ?_
            repeat (go_big_quiet_step (first | exact cU _ _ | exact cC _ _ | exact cZ _ _))
            refine wpQuiet_nil ?_
            intro _ hw'
            obtain ⟨⟨dq, osq⟩, hw''⟩ := hw'
            subst hw''
            have hbq := hb0.trans ((below_regrown W dq osq).mono hb0.size)
            generalize grow (redrawn W dq) osq = W1 at hbq ⊢
            go_wp2
            go_ret
            exact ⟨ret_bool' (by rw [HG.out]; simp [HW.out, ← H3.out]; omega), hbq⟩
        · have h3' : ((n : Int) == ((usedN zs : Nat) : Int)) = false := by simp; omega
          have H3 := Lib.hid h3
          clear h3
          generalize hu : usedN zs = m at h3'
          have HU := Lib.hid hu
          clear hu
          go_enter Tryz.func31, Tryz.ntmps31
          go_wp2
          generalize hW : w.alloc (.cells #[.int .i64 lsn, .slice a n c] 52) = W at c0 c1 hb0 ⊢
          clear hW
          have k1 := cell_regrown c1
          have HSW := HS.out.below hb0
          have cU : ∀ d os, Calls Tryz.prog 53 #[.slice a n c] (grow (redrawn W d) os) fun e w'' => e = .returned (.int .i64 (m : Int)) ∧ ∃ p : Regrown, w'' = grow (redrawn W p.d) p.os := fun d os => Calls.regrown_of (by rw [← HU.out]; exact used_any a n c zs _ (HSW.below (below_regrown W d os)) (by omega))
          refine wp_region_quiet_below (by kernel_rfl) (by kernel_rfl) ?_
          repeat (go_big_quiet_step (exact cU _ _))
          refine wpQuiet_nil ?_
          intro _ hw'
          obtain ⟨⟨dq, osq⟩, hw''⟩ := hw'
          subst hw''
          have hbq := hb0.trans ((below_regrown W dq osq).mono hb0.size)
          generalize grow (redrawn W dq) osq = W1 at hbq ⊢
          go_wp2
          go_ret
          exact ⟨ret_bool' (by rw [HG.out]; simp [H3.out]), hbq⟩
end Go.Proofs.YtkeocnhndnbamaaGreat.Slab
