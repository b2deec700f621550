/- What a store of pages does to a plate, as plain data; pages in lists, in memory. -/
import Derived.Test.YtnnppdjgmjgjhaaDoorSlabBackMath
import Derived.Test.YtnnppdjgmjgjhaaDoorSlabDecode
import Derived.Test.YtnnppdjgmjgjhaaDoorPlateLaws
namespace Go.Proofs.YtnnppdjgmjgjhaaDoor.Twin
set_option maxRecDepth 100000
open Go.RowKit
open Go.Proofs.YtnnppdjgmjgjhaaDoor.Mem
open Go.Proofs.YtnnppdjgmjgjhaaDoor.Plate

structure Lf where
  n : Int
  l : Int
  z : List Slab.Slot
def lf0 : Lf := ⟨0, 0, []⟩
/-- where a store is -/
structure Cfg where
  fr : Nat
  tw : Nat
  pg : Nat
def Cfg.home (C : Cfg) (n : Nat) : Nat := C.fr + C.tw + n
def Cfg.twin (C : Cfg) (i : Nat) : Nat := C.fr + i
def tailL (n : Nat) : List UInt8 := [80, 65, 71, 69, 0, 0, UInt8.ofNat (n / 256), UInt8.ofNat (n % 256), 0, 0, 0, 0, 0, 0, 0, 0]
def tailB (n : Nat) : ByteArray := ⟨(tailL n).toArray⟩
def secB (n : Nat) (l : Int) (z : List Slab.Slot) : ByteArray := Slab.encS' l z ++ tailB n
def pageR (b : ByteArray) (n : Nat) : Int × List Slab.Slot × Bool :=
  if Lib.hasSuffix b.data.toList (tailL n) then
    ((Slab.decR (b.data.toList.take (b.size - 16))).1, (Slab.decR (b.data.toList.take (b.size - 16))).2.1, decide ((Slab.decR (b.data.toList.take (b.size - 16))).2.2 = 0))
  else (0, [], false)
def zeroB (b : ByteArray) : Bool := b.data.toList.all fun x => decide (x = 0)
/-- what a home has -/
def lookR (C : Cfg) (S : PS) (n : Nat) : Int × List Slab.Slot × Int :=
  if readE S (C.home n : Int) = 0 then
    if zeroB (readD S (C.home n : Int)) then (0, [], 0)
    else ((pageR (readD S (C.home n : Int)) n).1, (pageR (readD S (C.home n : Int)) n).2.1, if (pageR (readD S (C.home n : Int)) n).2.2 then 0 else 4)
  else (0, [], readE S (C.home n : Int))
/-- a copy is taken in the place of what was found -/
def better (r q : Int × List Slab.Slot × Bool) : Bool := r.2.2 && (!q.2.2 || decide (q.1 < r.1))
def copyR (C : Cfg) (S : PS) (n : Nat) : Nat → Int × List Slab.Slot × Bool
  | 0 => (0, [], false)
  | i + 1 => if readE S (C.twin i : Int) = 0 ∧ better (pageR (readD S (C.twin i : Int)) n) (copyR C S n i) = true then ((pageR (readD S (C.twin i : Int)) n).1, (pageR (readD S (C.twin i : Int)) n).2.1, true) else copyR C S n i
/-- what is written home again, of the first pages -/
def repL (C : Cfg) (S : PS) : Nat → List Lf
  | 0 => []
  | n + 1 => if (lookR C S n).2.2 = 20 ∧ (copyR C S n C.tw).2.2 = true then repL C S n ++ [⟨n, (copyR C S n C.tw).1, (copyR C S n C.tw).2.1⟩] else repL C S n
def wholeR (C : Cfg) (S : PS) : Nat → Bool
  | 0 => true
  | n + 1 => wholeR C S n && decide ((lookR C S n).2.2 = 0)
def layRun : List Wr → PS → Int × PS
  | [], S => (syncE S, syncS S)
  | x :: r, S => if writeE S (x.n : Int) x.d = 0 then layRun r (writeS S (x.n : Int) x.d) else (writeE S (x.n : Int) x.d, writeS S (x.n : Int) x.d)
def lay (ws : List Wr) (S : PS) : Int × PS := if ws = [] then (0, S) else layRun ws S
/-- the writes of a list's pages, the i-th at a place -/
def wsOf (wh : Nat → Nat) (ls : List Lf) : List Wr := (List.range ls.length).map fun i => ⟨wh i, secB (ls.getD i lf0).n.toNat (ls.getD i lf0).l (ls.getD i lf0).z⟩
def homeOf (C : Cfg) (ls : List Lf) (i : Nat) : Nat := C.home (ls.getD i lf0).n.toNat
def hasR (C : Cfg) (n : Int) : Bool := decide (0 ≤ n) && decide (n < C.pg)
def okR (C : Cfg) (ls : List Lf) (i : Nat) : Bool := !((ls.take i).any fun y => decide (y.n = (ls.getD i lf0).n)) && hasR C (ls.getD i lf0).n && Slab.goodB (ls.getD i lf0).l (ls.getD i lf0).z
def oksR (C : Cfg) (ls : List Lf) : Nat → Bool
  | 0 => true
  | i + 1 => oksR C ls i && okR C ls i
def takesR (C : Cfg) (ls : List Lf) : Bool := decide (ls.length ≤ C.tw) && oksR C ls ls.length
def writeR (C : Cfg) (S : PS) (ls : List Lf) : Int × PS :=
  if takesR C ls then (if (lay (wsOf C.twin ls) S).1 = 0 then lay (wsOf (homeOf C ls) ls) (lay (wsOf C.twin ls) S).2 else lay (wsOf C.twin ls) S) else (1, S)
def repW (C : Cfg) (S : PS) : List Wr := wsOf (homeOf C (repL C S C.pg)) (repL C S C.pg)
def openR (C : Cfg) (S : PS) : Int × PS :=
  if (lay (repW C S) S).1 = 0 then (if wholeR C (lay (repW C S) S).2 C.pg then (0, (lay (repW C S) S).2) else (4, (lay (repW C S) S).2)) else lay (repW C S) S

/-- a page's slots in memory, in the blocks M -/
def SlotsM (M : Nat → Prop) (w : World) (a : Option Addr) (n : Nat) (z : List Slab.Slot) : Prop := Slab.Slots w a n z ∧ n ≤ 1000000 ∧ ∀ b off e, a = some ⟨b, off, e⟩ → 0 < n → M b
section
variable {M M' : Nat → Prop} {w w' : World} {a : Option Addr} {n : Nat} {z : List Slab.Slot}
theorem SlotsM.keep (h : SlotsM M w a n z) (hk : Keep M w w') : SlotsM M w' a n z := by
  obtain ⟨⟨h1, h2, h3⟩, hn, hm⟩ := h
  refine ⟨⟨h1, h2, fun hn => ?_⟩, hn, hm⟩
  obtain ⟨b, off, ha, hlt, hc⟩ := h3 hn
  have hb := hm b off none ha hn
  refine ⟨b, off, ha, Nat.lt_of_lt_of_le hlt hk.size, fun i hi => ?_⟩
  obtain ⟨c1, c2⟩ := hc i hi
  exact ⟨(hk.cell (p := ⟨b, off + i * 2, none⟩) hb).trans c1, (hk.cell (p := ⟨b, off + i * 2 + 1, none⟩) hb).trans c2⟩
theorem SlotsM.mono (h : SlotsM M w a n z) (hm : ∀ k, M k → M' k) : SlotsM M' w a n z := ⟨h.1, h.2.1, fun b off e ha hn => hm b (h.2.2 b off e ha hn)⟩
theorem SlotsM.nil (M : Nat → Prop) (w : World) (a : Option Addr) : SlotsM M w a 0 [] := ⟨Slab.Slots.nil w a, Nat.zero_le _, fun _ _ _ _ h => absurd h (Nat.lt_irrefl 0)⟩
theorem SlotsM.below (h : SlotsM M w a n z) (hb : Below w.heap.size w w') (hm : ∀ k, M k → k < w.heap.size) : SlotsM M w' a n z := h.keep (Keep.of_below hb hm)
end
/-- a row of pages in memory, in the blocks M -/
def Leaves (M : Nat → Prop) (w : World) (a : Option Addr) (n : Nat) (ls : List Lf) : Prop :=
  ls.length = n ∧ (∀ x ∈ ls, -9223372036854775808 ≤ x.n ∧ x.n ≤ 9223372036854775807) ∧ (0 < n → ∃ b off, a = some ⟨b, off, none⟩ ∧ M b ∧ b < w.heap.size ∧ ∀ i, i < n → ∃ a' n' c', w.cell? ⟨b, off + i * 3, none⟩ = some (.int .i64 (ls.getD i lf0).n) ∧ w.cell? ⟨b, off + i * 3 + 1, none⟩ = some (.int .i64 (ls.getD i lf0).l) ∧
    w.cell? ⟨b, off + i * 3 + 2, none⟩ = some (.slice a' n' c') ∧ SlotsM M w a' n' (ls.getD i lf0).z)
section
variable {M M' : Nat → Prop} {w w' : World} {a : Option Addr} {n : Nat} {ls : List Lf}
theorem Leaves.len (h : Leaves M w a n ls) : ls.length = n := h.1
theorem Leaves.keep (h : Leaves M w a n ls) (hk : Keep M w w') : Leaves M w' a n ls := by
  obtain ⟨h1, h2, h3⟩ := h
  refine ⟨h1, h2, fun hn => ?_⟩
  obtain ⟨b, off, ha, hm, hlt, hc⟩ := h3 hn
  refine ⟨b, off, ha, hm, Nat.lt_of_lt_of_le hlt hk.size, fun i hi => ?_⟩
  obtain ⟨a', n', c', c1, c2, c3, hs⟩ := hc i hi
  exact ⟨a', n', c', (hk.cell (p := ⟨b, off + i * 3, none⟩) hm).trans c1, (hk.cell (p := ⟨b, off + i * 3 + 1, none⟩) hm).trans c2, (hk.cell (p := ⟨b, off + i * 3 + 2, none⟩) hm).trans c3, hs.keep hk⟩
theorem Leaves.mono (h : Leaves M w a n ls) (hm : ∀ k, M k → M' k) : Leaves M' w a n ls := by
  obtain ⟨h1, h2, h3⟩ := h
  refine ⟨h1, h2, fun hn => ?_⟩
  obtain ⟨b, off, ha, hmb, hlt, hc⟩ := h3 hn
  refine ⟨b, off, ha, hm _ hmb, hlt, fun i hi => ?_⟩
  obtain ⟨a', n', c', c1, c2, c3, hs⟩ := hc i hi
  exact ⟨a', n', c', c1, c2, c3, hs.mono hm⟩
theorem Leaves.nil (M : Nat → Prop) (w : World) (a : Option Addr) : Leaves M w a 0 [] := ⟨rfl, by simp, fun h => absurd h (Nat.lt_irrefl 0)⟩
theorem Leaves.at_ (h : Leaves M w a n ls) {i : Nat} (hi : i < n) : ∃ b off a' n' c' x, a = some ⟨b, off, none⟩ ∧ M b ∧ b < w.heap.size ∧ ls[i]? = some x ∧ ls.getD i lf0 = x ∧ w.cell? ⟨b, off + i * 3, none⟩ = some (.int .i64 x.n) ∧ w.cell? ⟨b, off + i * 3 + 1, none⟩ = some (.int .i64 x.l) ∧
    w.cell? ⟨b, off + i * 3 + 2, none⟩ = some (.slice a' n' c') ∧ SlotsM M w a' n' x.z ∧ -9223372036854775808 ≤ x.n ∧ x.n ≤ 9223372036854775807 := by
  obtain ⟨h1, h2, h3⟩ := h
  obtain ⟨b, off, ha, hm, hlt, hc⟩ := h3 (by omega)
  obtain ⟨a', n', c', c1, c2, c3, hs⟩ := hc i hi
  have hl : i < ls.length := by omega
  have e : ls.getD i lf0 = ls[i] := by simp [List.getD, hl]
  have hx := h2 ls[i] (List.getElem_mem hl)
  exact ⟨b, off, a', n', c', _, ha, hm, hlt, by rw [List.getElem?_eq_getElem hl, e], rfl, c1, c2, c3, hs, by rw [e]; exact hx.1, by rw [e]; exact hx.2⟩
end
/-- a store in memory, in the blocks M -/
def Sto (M : Nat → Prop) (w : World) (s p : Nat) (C : Cfg) (lf : Nat) : Prop := Blk w s 68 #[.pointer (some ⟨p, 0, none⟩), .int .i64 (C.fr : Int), .int .i64 (C.tw : Int), .int .i64 (C.pg : Int), .int .i64 (lf : Int)] ∧ M s
theorem Sto.keep {M : Nat → Prop} {w w' : World} {s p : Nat} {C : Cfg} {lf : Nat} (h : Sto M w s p C lf) (hk : Keep M w w') : Sto M w' s p C lf := ⟨hk.blk h.1 h.2, h.2⟩
theorem Sto.get {M : Nat → Prop} {w : World} {s p : Nat} {C : Cfg} {lf : Nat} (h : Sto M w s p C lf) : w.cell? ⟨s, 0, none⟩ = some (.pointer (some ⟨p, 0, none⟩)) ∧ w.cell? ⟨s, 1, none⟩ = some (.int .i64 (C.fr : Int)) ∧ w.cell? ⟨s, 2, none⟩ = some (.int .i64 (C.tw : Int)) ∧ w.cell? ⟨s, 3, none⟩ = some (.int .i64 (C.pg : Int)) ∧ w.cell? ⟨s, 4, none⟩ = some (.int .i64 (lf : Int)) :=
  ⟨h.1.cell 0, h.1.cell 1, h.1.cell 2, h.1.cell 3, h.1.cell 4⟩
/-- where the numbers are small -/
structure Cfg.small (C : Cfg) : Prop where
  fr : C.fr ≤ 16384
  tw : C.tw ≤ 64
  pg : C.pg ≤ 1024
end Go.Proofs.YtnnppdjgmjgjhaaDoor.Twin
