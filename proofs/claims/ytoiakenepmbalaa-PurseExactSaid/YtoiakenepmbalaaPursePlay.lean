/- A purse that came of so many calls. -/
import Derived.Test.YtoiakenepmbalaaPurseAwake
import Derived.Test.YtoiakenepmbalaaPurseActs
namespace Go.Proofs.Ytoiakenepmbalaa.Purse
set_option maxRecDepth 100000
open Go.RowKit
open Go.Proofs.Ytoiakenepmbalaa.Mem
theorem below_draw {B : Nat} {a w : World} (h : Below B a w) (q : Nat) : Below B a (w.drewN q) := ⟨h.os, h.tape, h.output, h.size, h.block⟩
/-- a purse that came of so many calls -/
def Played (w0 wr : World) (p k : Nat) : Prop := ∃ L, PQ wr p (fun j => j < w0.heap.size) L ∧ L.length ≤ k
theorem played_ask {w0 w' : World} {p m : Nat} {L : List Due} {k n room : Int} (hl : L.length ≤ m) (h : PQ w' p (fun j => j < w0.heap.size) (askL L k n room)) : Played w0 w' p (m + 1) := ⟨_, h, Nat.le_trans (ask_len L k n room) (by omega)⟩
theorem played_take {w0 w' : World} {p m : Nat} {L : List Due} {k n : Int} (hl : L.length ≤ m) (h : PQ w' p (fun j => j < w0.heap.size) (takeL L k n)) : Played w0 w' p (m + 1) := ⟨_, h, Nat.le_trans (take_len L k n) (by omega)⟩
end Go.Proofs.Ytoiakenepmbalaa.Purse
