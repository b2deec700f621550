/- The walk of fateOf. -/
import Derived.Test.YtnnppdjgmjgjhaaDoorPlateFate
import Derived.Test.YtnnppdjgmjgjhaaDoorInts
namespace Go.Proofs.YtnnppdjgmjgjhaaDoor.Plate
set_option maxRecDepth 100000
open Go.RowKit
open Go.Proofs.YtnnppdjgmjgjhaaDoor.Mem

theorem fate_range (fs : List Int) (i : Nat) : 0 ≤ fateZ fs i ∧ fateZ fs i ≤ 2 := by
  unfold fateZ
  split
  · omega
  · generalize fs.getD (i % fs.length) 0 = z
    have h1 := Int.tmod_lt_of_pos z (show (0 : Int) < 3 by decide)
    have h2 : -3 < z.tmod 3 := by
      have := Int.lt_tmod_of_pos z (show (0 : Int) < 3 by decide)
      omega
    split <;> omega
set_option maxRecDepth 100000 in
theorem fateOf_any (w : World) (a : Option Addr) (n c : Nat) (fs : List Int) (i : Nat) (h : Ints w a n fs) (_hi : i ≤ 4611686018427387904) (hn : n ≤ 9223372036854775807) :
    Calls Tryd.prog 31 #[.slice a n c, .int .i64 (i : Int)] w fun e w' => e = .returned (.int .i64 (fateZ fs i)) ∧ w = w' := by
  have hl := h.1
  by_cases h0 : n = 0
  · subst h0
    have e : fateZ fs i = 0 := by unfold fateZ; rw [if_pos hl]
    rw [e]
    clear h
    go_enter Tryd.func31, Tryd.ntmps31
    go_wp2
    go_ret
    exact ⟨rfl, rfl⟩
  · have hlt : i % n < n := Nat.mod_lt _ (by omega)
    obtain ⟨b, off, z, rfl, -, hz, hc, z1, z2⟩ := h.at_ hlt
    have em : ((i : Int).tmod (n : Int)) = ((i % n : Nat) : Int) := rfl
    have e : fateZ fs i = if z.tmod 3 < 0 then z.tmod 3 + 3 else z.tmod 3 := by unfold fateZ; rw [hl, if_neg h0, hz]
    have h1 := Int.tmod_lt_of_pos z (show (0 : Int) < 3 by decide)
    have h2 := Int.lt_tmod_of_pos z (show (0 : Int) < 3 by decide)
    rw [e]
    clear h hl hz e
    generalize i % n = k at *
    generalize hm : z.tmod 3 = m at *
    have hn0 : ((n : Int) == 0) = false := by simpa using h0
    by_cases hneg : m < 0
    · go_enter Tryd.func31, Tryd.ntmps31
      go_wp2
      go_ret
      exact ⟨by simp, rfl⟩
    · go_enter Tryd.func31, Tryd.ntmps31
      go_wp2
      go_ret
      exact ⟨by simp, rfl⟩
end Go.Proofs.YtnnppdjgmjgjhaaDoor.Plate
