/- The walk of the statements' own great. -/
import Derived.Test.YtmmeemffiibndaaPatchMath
import Derived.Test.YtmmeemffiibndaaEntRows
import Derived.Test.YtmmeemffiibndaaHold
namespace Go.Proofs.Ytmmeemffiibndaa.Patch
open Go.RowKit Go.Sort
open Go.Proofs.Ytmmeemffiibndaa.Slab (Slot Blk Slots page_cells)
open Go.Proofs.Ytmmeemffiibndaa.Ent (Ent noE SmallE Ents EntAt below_box)
def Small2 (n ln : Nat) (w : World) (e : Ending) (w' : World) : Prop := ∃ G, e = .returned (.bool G) ∧ (G = false → n ≤ 100 ∧ ln ≤ 60) ∧ Below w.heap.size w w'
set_option maxRecDepth 100000 in
set_option maxHeartbeats 2000000 in
theorem great_any (lsn : Int) (a : Option Addr) (n c : Nat) (zs : List Slot) (la : Option Addr) (ln lc : Nat) (xs : List Ent) (w : World) (h : Slots w a n zs) (hl : Ents w la ln xs) :
    Calls Try.prog 22 #[.agg #[.int .i64 lsn, .slice a n c], .slice la ln lc] w (Small2 n ln w) := by
  have hb0 := below_box w (.cells #[.int .i64 lsn, .slice a n c] 24)
  have HS := Lib.hid (h.below hb0)
  have HL := Lib.hid (hl.next hb0)
  clear h hl
  obtain ⟨p0, p1⟩ := page_cells w (.int .i64 lsn) (.slice a n c) 24
  by_cases h1 : 100 < n
  · go_enter Try.func22, Try.ntmps22
    go_wp2
    go_ret
    exact ⟨true, rfl, fun h => (by cases h), hb0⟩
  · by_cases h2 : 60 < ln
    · go_enter Try.func22, Try.ntmps22
      go_wp2
      go_ret
      exact ⟨true, rfl, fun h => (by cases h), hb0⟩
    · go_enter Try.func22, Try.ntmps22
      go_wp2
      generalize hGen : w.alloc (.cells #[.int .i64 lsn, .slice a n c] 24) = W at p0 p1 hb0 HS HL ⊢
      clear hGen
      go_loop [5] (fun i => ∃ k : Nat, k ≤ n ∧ i = .int .i64 k) (fun i => n - (intOf i).toNat)
      case atStart => exact ⟨0, Nat.zero_le _, rfl⟩
      case round =>
        obtain ⟨k, hk, rfl⟩ := hrel
        by_cases hlt : k < n
        · obtain ⟨b, off, u, d, rfl, hb1, hg, c2, c3, hd⟩ := HS.out.at_ hlt
          clear hg c2 hb1
          by_cases hbig : 4096 < d.size
          · go_wp2
            go_ret
            exact ⟨true, rfl, fun h => (by cases h), hb0⟩
          · go_wp2
            go_round
            case rel => exact ⟨k + 1, by omega, by go_num⟩
            case measure => simp [intOf]; omega
        · obtain rfl : k = n := by omega
          go_wp2
          go_loop [6] (fun i => ∃ j : Nat, j ≤ ln ∧ i = .int .i64 j) (fun i => ln - (intOf i).toNat)
          case atStart => exact ⟨0, Nat.zero_le _, rfl⟩
          case round =>
            obtain ⟨j, hj, rfl⟩ := hrel
            by_cases hlt2 : j < ln
            · obtain ⟨z1, z2, z3⟩ := HL.out
              obtain ⟨b, off, rfl, hbw, hat⟩ := z3 (by omega)
              have hAt := hat j hlt2
              have hxk : xs[j]? = some (xs.getD j noE) := by simp [List.getD, show j < xs.length by omega]
              have hsm : SmallE (xs.getD j noE) := z2 _ (List.mem_of_getElem? hxk)
              clear z1 z2 z3 hat hxk
              generalize xs.getD j noE = x at hAt hsm
              obtain ⟨s1, s2⟩ := hsm
              obtain ⟨_, _, _, _, _, _, _, _, _, c9, _, c11, _⟩ := hAt.cells
              by_cases hb1 : 4096 < x.wd.size
              · go_wp2
                go_ret
                exact ⟨true, rfl, fun h => (by cases h), hb0⟩
              · by_cases hb2 : 4096 < x.id.size
                · go_wp2
                  go_ret
                  exact ⟨true, rfl, fun h => (by cases h), hb0⟩
                · go_wp2
                  go_round
                  case rel => exact ⟨j + 1, by omega, by go_num⟩
                  case measure => simp [intOf]; omega
            · obtain rfl : j = ln := by omega
              go_wp2
              go_ret
              exact ⟨false, rfl, fun _ => ⟨by omega, by omega⟩, hb0⟩
end Go.Proofs.Ytmmeemffiibndaa.Patch
