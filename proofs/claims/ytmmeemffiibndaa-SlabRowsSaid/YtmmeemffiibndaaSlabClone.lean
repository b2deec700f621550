/- The walk of slices.Clone at slots. -/
import Derived.Test.YtmmeemffiibndaaSlabOwn
namespace Go.Proofs.Ytmmeemffiibndaa.Slab
open Go.RowKit Go.Sort
/-- slots handed back in new memory -/
def SlotsRes (z : List Slot) (n : Nat) (w : World) (e : Ending) (w' : World) : Prop :=
  ∃ a c, e = .returned (.slice a n c) ∧ Slots w' a n z ∧ Below w.heap.size w w' ∧ ∀ b off e, a = some ⟨b, off, e⟩ → w.heap.size ≤ b
set_option maxRecDepth 100000 in
set_option maxHeartbeats 1000000 in
theorem clone_any (a : Option Addr) (n c : Nat) (zs : List Slot) (w : World) (h : Slots w a n zs) (hn : n ≤ 1000000) :
    Calls Try.prog 38 #[.slice a n c] w (SlotsRes zs n w) := by
  have q22 : ∀ (w : World) (a : Option Addr) (n c n' c' : Nat), (binOp .eql 22 (.slice a n c) (.slice none n' c')).run Try.prog w = .ok (.bool a.isNone) w := fun w a n c n' c' => Lib.run_eql_slice_nil w _ _ a n c n' c' Try.underlying22
  cases a with
  | none =>
    have h0 : n = 0 := by
      rcases Nat.eq_zero_or_pos n with h0 | h0
      · exact h0
      · obtain ⟨b, off, e, _⟩ := h.2.2 h0; cases e
    subst h0
    obtain rfl := h.zero
    clear h
    go_enter Try.func38, Try.ntmps38
    go_wp2
    go_ret
    exact ⟨none, 0, rfl, Slots.nil _ _, Below.refl _ _, fun _ _ _ e => by cases e⟩
  | some ad =>
    have HS := Lib.hid h
    have HL := Lib.hid h.len
    clear h
    go_enter Try.func38, Try.ntmps38
    go_wp2_with (at_builtin; refine wpList_append_slots rfl _ _ rfl w.heap.size _ 0 [] rfl (own_new w _ 2) (some ad) n c zs rfl ?c1 ?c2 ?c3 ?_)
    case c1 => exact HS.out.below ((Below.refl w.heap.size w).alloc (Nat.le_refl _) _)
    case c2 => omega
    case c3 => simp
    intro v' w1 hown hb
    have hown2 : w1.ownsRow w.heap.size 26 2 v' zs.length (cellsOf zs) := by rw [HL.out]; simpa using hown
    obtain ⟨a', c', hv, hsl, hnw⟩ := slots_of_own hown2 HS.out.2.1
    rw [HL.out] at hv hsl
    have hb2 : Below w.heap.size w w1 := ((Below.refl w.heap.size w).alloc (Nat.le_refl _) (.cells #[] 26)).trans hb
    rw [hv]
    go_wp2
    go_ret
    exact ⟨a', c', rfl, hsl, hb2, hnw⟩
end Go.Proofs.Ytmmeemffiibndaa.Slab
