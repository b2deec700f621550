/- The walk of the statements' own great. -/
import Derived.Test.YtcpkngkeechjeaaPastAwake
namespace Go.Proofs.Ytcpkngkeechjeaa.Past
set_option maxRecDepth 100000
open Go.RowKit
open Go.Proofs.Ytcpkngkeechjeaa.Mem
open Go.Proofs.Ytcpkngkeechjeaa.Ent (Ent goodB Ents EntAt SmallE noE entA cellsE)
def GreatRes (n : Nat) (w : World) (e : Ending) (w' : World) : Prop := ∃ G, e = .returned (.bool G) ∧ (G = false → n ≤ 80) ∧ w' = w
set_option maxRecDepth 100000 in
set_option maxHeartbeats 2000000 in
theorem great_any (a : Option Addr) (n c : Nat) (L : List Ent) (w : World) (h : Ents w a n L) :
    Calls Try.prog 9 #[.slice a n c] w (GreatRes n w) := by
  have HL := Lib.hid h
  clear h
  by_cases h2 : 80 < n
  · have e1 : decide ((n : Int) > 80) = true := decide_eq_true (by omega)
    go_enter Try.func9, Try.ntmps9
    go_wp2
    go_ret
    exact ⟨true, rfl, fun h => (by cases h), rfl⟩
  · have e1 : decide ((n : Int) > 80) = false := decide_eq_false (by omega)
    go_enter Try.func9, Try.ntmps9
    go_wp2
    go_loopw [3] (fun i wr => ∃ j : Nat, j ≤ n ∧ i = .int .i64 (j : Int) ∧ wr = w) (fun i _ => n - intN i)
    case atStart => exact ⟨0, Nat.zero_le _, rfl, rfl⟩
    case round =>
      obtain ⟨j, hj, rfl, rfl⟩ := hrel
      by_cases hlt2 : j < n
      · obtain ⟨z1, z2, z3⟩ := HL.out
        obtain ⟨b, off, rfl, hbw, hat⟩ := z3 (by omega)
        have hAt := hat j hlt2
        have hxk : L[j]? = some (L.getD j noE) := by simp [List.getD, show j < L.length by omega]
        have hsm : SmallE (L.getD j noE) := z2 _ (List.mem_of_getElem? hxk)
        clear z1 z2 z3 hat hxk
        generalize L.getD j noE = x at hAt hsm
        obtain ⟨s1, s2⟩ := hsm
        obtain ⟨_, _, _, _, _, _, _, _, _, c9, _, c11, _⟩ := hAt.cells
        by_cases hb1 : 1024 < x.wd.size
        · go_wp2
          go_ret
          exact ⟨true, rfl, fun h => (by cases h), rfl⟩
        · by_cases hb2 : 1024 < x.id.size
          · go_wp2
            go_ret
            exact ⟨true, rfl, fun h => (by cases h), rfl⟩
          · go_wp2
            go_roundw
            case rel => exact ⟨j + 1, by omega, by go_num, by first | rfl | trivial⟩
            case measure => simp [intN]; omega
      · obtain rfl : j = n := by omega
        go_wp2
        go_ret
        exact ⟨false, rfl, fun _ => by omega, rfl⟩
end Go.Proofs.Ytcpkngkeechjeaa.Past
