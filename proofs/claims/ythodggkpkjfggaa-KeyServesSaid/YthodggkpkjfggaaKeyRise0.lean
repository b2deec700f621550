/- What rising leaves. -/
import Derived.Test.YthodggkpkjfggaaKeyMem
import Derived.Test.YthodggkpkjfggaaKeyReq
import Derived.Sort.OwnSortedInts
namespace Go.Proofs.Ythodggkpkjfggaa.Key
set_option maxRecDepth 100000
open Go.RowKit
open Go.Proofs.Ythodggkpkjfggaa.Mem
open Go.Maps
theorem info_int : (Try.prog.info? 3).map (fun i => (i.zero, i.size, i.bytes)) = some (some (.int .i64 0), 1, 8) := by kernel_rfl
def intsV (l : List Int) : List Value := l.map (Value.int .i64)
def RiseRes (pr : Int → Bool) (lo : Int) (n : Nat) (w : World) (e : Ending) (w' : World) : Prop :=
  ∃ v, e = .returned v ∧ w'.ownsRow w.heap.size 3 1 v ((upFrom lo n).filter pr).length (((upFrom lo n).filter pr).map (Value.int .i64)) ∧ Below w.heap.size w w'
theorem riseRes_nil {w w' : World} (lo : Int) (n : Nat) (hb : Below w.heap.size w w') : RiseRes (fun _ => false) lo n w (.returned (.slice none 0 0)) w' := by
  have e : (upFrom lo n).filter (fun _ => false) = [] := by simp
  refine ⟨_, rfl, ?_, hb⟩
  rw [e]
  exact own_nil _ _ _ _
/-- the keys that have been met and taken -/
def Coll (f : Int → Option Value) (pr : Int → Bool) (left : Lit → Bool) (ss : List Int) : Prop := ss.Nodup ∧ ∀ x, x ∈ ss ↔ (f x ≠ none ∧ pr x = true ∧ left (.int .i64 x) = false)
end Go.Proofs.Ythodggkpkjfggaa.Key
