/- Slots, a row of them in memory, and what the document says of them, on lists. -/
import Derived.Test.YtcpkngkeechjeaaRows
import Derived.WalkKit
import Derived.WalkSpells
import Derived.WalkLawsBesides
import Derived.BigQuiet
import Derived.Deep.QuietTactic
import Derived.IntWalk
import Derived.Lib.Hide
import Derived.WalkSmall
namespace Go.Proofs.Ytcpkngkeechjeaa.Slab
set_option maxRecDepth 100000
open Go.RowKit
theorem ret_int' {k : IntKind} {a b : Int} (h : a = b) : Ending.returned (.int k a) = .returned (.int k b) := by rw [h]
theorem ret_bool' {a b : Bool} (h : a = b) : Ending.returned (.bool a) = .returned (.bool b) := by rw [h]

structure Slot where
  u : Bool
  d : ByteArray
def nos : Slot := ⟨false, ⟨#[]⟩⟩

/-- a row of slots in memory: nil or not -/
def Slots (w : World) (a : Option Addr) (n : Nat) (zs : List Slot) : Prop :=
  zs.length = n ∧ (∀ x ∈ zs, x.d.size ≤ 140737488351232) ∧ (0 < n → ∃ b off, a = some ⟨b, off, none⟩ ∧ b < w.heap.size ∧
    ∀ i, i < n → w.cell? ⟨b, off + i * 2, none⟩ = some (.bool (zs.getD i nos).u) ∧ w.cell? ⟨b, off + i * 2 + 1, none⟩ = some (.string (zs.getD i nos).d))
theorem Slots.mono {w w' : World} {a : Option Addr} {n : Nat} {zs : List Slot} {B : Nat} (h : Slots w a n zs) (hb : Below B w w') (hB : w.heap.size ≤ B) : Slots w' a n zs := by
  obtain ⟨h1, h2, h3⟩ := h
  refine ⟨h1, h2, fun hn => ?_⟩
  obtain ⟨b, off, ha, hlt, hc⟩ := h3 hn
  refine ⟨b, off, ha, Nat.lt_of_lt_of_le hlt hb.size, fun i hi => ?_⟩
  obtain ⟨c1, c2⟩ := hc i hi
  exact ⟨(hb.cell (p := ⟨b, off + i * 2, none⟩) (Nat.lt_of_lt_of_le hlt hB)).trans c1, (hb.cell (p := ⟨b, off + i * 2 + 1, none⟩) (Nat.lt_of_lt_of_le hlt hB)).trans c2⟩
theorem Slots.below {w w' : World} {a : Option Addr} {n : Nat} {zs : List Slot} (h : Slots w a n zs) (hb : Below w.heap.size w w') : Slots w' a n zs := h.mono hb (Nat.le_refl _)
theorem Slots.at_ {w : World} {a : Option Addr} {n k : Nat} {zs : List Slot} (h : Slots w a n zs) (hk : k < n) :
    ∃ b off u d, a = some ⟨b, off, none⟩ ∧ b < w.heap.size ∧ zs[k]? = some ⟨u, d⟩ ∧ w.cell? ⟨b, off + k * 2, none⟩ = some (.bool u) ∧ w.cell? ⟨b, off + k * 2 + 1, none⟩ = some (.string d) ∧ d.size ≤ 140737488351232 := by
  obtain ⟨h1, h2, h3⟩ := h
  obtain ⟨b, off, ha, hlt, hc⟩ := h3 (by omega)
  obtain ⟨c1, c2⟩ := hc k hk
  have hl : k < zs.length := by omega
  have e : zs.getD k nos = zs[k] := by simp [List.getD, hl]
  rw [e] at c1 c2
  exact ⟨b, off, zs[k].u, zs[k].d, ha, hlt, List.getElem?_eq_getElem hl, c1, c2, h2 _ (List.getElem_mem hl)⟩
theorem Slots.len {w : World} {a : Option Addr} {n : Nat} {zs : List Slot} (h : Slots w a n zs) : zs.length = n := h.1
theorem Slots.nil (w : World) (a : Option Addr) : Slots w a 0 [] := ⟨rfl, by simp, fun h => absurd h (Nat.lt_irrefl 0)⟩
theorem Slots.zero {w : World} {a : Option Addr} {zs : List Slot} (h : Slots w a 0 zs) : zs = [] := List.eq_nil_of_length_eq_zero h.1

/-- how many bytes slots need -/
def sz : List Slot → Nat
  | [] => 0
  | x :: r => 1 + x.d.size + sz r
theorem sz_append (l m : List Slot) : sz (l ++ m) = sz l + sz m := by
  induction l with
  | nil => simp [sz]
  | cons x r ih => simp only [List.cons_append, sz, ih]; omega
theorem take_next {l : List Slot} {k : Nat} {x : Slot} (h : l[k]? = some x) : l.take (k + 1) = l.take k ++ [x] := by
  obtain ⟨hl, rfl⟩ := List.getElem?_eq_some_iff.1 h
  exact List.take_succ_eq_append_getElem hl
theorem sz_next {l : List Slot} {k : Nat} {x : Slot} (h : l[k]? = some x) : sz (l.take (k + 1)) = sz (l.take k) + (1 + x.d.size) := by
  rw [take_next h, sz_append]; simp [sz]
theorem sz_take_le (l : List Slot) (k : Nat) : sz (l.take k) ≤ sz l := by
  conv => rhs; rw [← List.take_append_drop k l]
  rw [sz_append]; omega
theorem take_all {l : List Slot} {k : Nat} (h : l.length = k) : l.take k = l := by rw [← h, List.take_length]

/-- a slot that no image can have -/
def wrongB (x : Slot) : Bool := decide (200 < x.d.size) || (!x.u && !decide (x.d.size = 0))
/-- how many slots there are up to the last one that is used -/
def usedN : List Slot → Nat
  | [] => 0
  | x :: r => if usedN r = 0 then (if x.u then 1 else 0) else usedN r + 1
theorem usedN_le (l : List Slot) : usedN l ≤ l.length := by
  induction l with
  | nil => simp [usedN]
  | cons x r ih => simp only [usedN, List.length_cons]; split <;> (try split) <;> omega
def goodB (lsn : Int) (l : List Slot) : Bool := decide (0 ≤ lsn) && decide (lsn ≤ 1099511627776) && decide (l.length ≤ 32) && decide (l.length = usedN l) && !l.any wrongB && decide (9 + sz l ≤ 240)
def sizeV (lsn : Int) (l : List Slot) : Int := if goodB lsn l then ((9 + sz l : Nat) : Int) else 0
end Go.Proofs.Ytcpkngkeechjeaa.Slab
