/- The walk of slab.Vacant. -/
import Derived.Test.YtnnppdjgmjgjhaaDoorSlabPut
namespace Go.Proofs.YtnnppdjgmjgjhaaDoor.Slab
set_option maxRecDepth 100000
open Go.RowKit Go.Sort

def unusedB (x : Slot) : Bool := !x.u
/-- the first slot that is not used -/
def vacS (l : List Slot) : Nat := firstN (fun x => !x.u) l
def vacNeed (l : List Slot) (n : Int) : Int := if l.any (fun x => !x.u) then n else n + 1
def vacCode (lsn : Int) (l : List Slot) (n : Int) : Int :=
  if goodB lsn l = false ∨ n < 0 then 1 else if 200 < n then 5 else if vacS l = 32 ∨ 240 < ((9 + sz l : Nat) : Int) + vacNeed l n then 22 else 0
def vacV (lsn : Int) (l : List Slot) (n : Int) : Int := if vacCode lsn l n = 0 then (vacS l : Int) else 0
theorem vacS_le (l : List Slot) : vacS l ≤ l.length := by unfold vacS firstN; exact List.findIdx_le_length
theorem vacS_all {l : List Slot} (h : l.any (fun x => !x.u) = false) : vacS l = l.length := by
  unfold vacS firstN
  rw [List.findIdx_eq_length]
  exact fun x hx => by simpa using List.any_eq_false.1 h x hx
theorem vacS_some {l : List Slot} (h : l.any (fun x => !x.u) = true) : vacS l < l.length := by
  unfold vacS firstN
  rw [List.findIdx_lt_length]
  simpa using h
theorem ret2 {a b : Int} {c d : Int} (h1 : a = b) (h2 : c = d) : Ending.returned (.tuple #[.int .i64 a, .int .i64 c]) = .returned (.tuple #[.int .i64 b, .int .i64 d]) := by rw [h1, h2]

end Go.Proofs.YtnnppdjgmjgjhaaDoor.Slab
