/- What the walks of latch's statements share. -/
import Derived.Test.YtlalehoncclnaaaLatchAwake
import Derived.Test.YtlalehoncclnaaaLatchActs
import Derived.Test.YtlalehoncclnaaaArr
namespace Go.Proofs.Ytlalehoncclnaaa.Latch
set_option maxRecDepth 100000
open Go.RowKit
open Go.Proofs.Ytlalehoncclnaaa.Mem
open Go.Maps
section
variable {L : LS}
theorem fm_len (g : Lk → Option Lk) (L : LS) : (L.filterMap g).length ≤ L.length := List.length_filterMap_le _ _
theorem ins_len (n : Lk) (L : LS) : (insL n L).length = L.length + 1 := by
  induction L with
  | nil => rfl
  | cons a L ih =>
    unfold insL
    split
    · simp
    · simp [ih]
theorem grant_len (p : Int) (x : Bool) (L : LS) : (grantL p x L).length ≤ L.length + 1 := by
  unfold grantL
  split
  · exact Nat.le_succ_of_le (fm_len _ _)
  · rw [ins_len]; omega
theorem use_len (p : Int) (x : Bool) (L : LS) : (useL p x L).length ≤ L.length := by
  unfold useL
  split
  · exact fm_len _ _
  · exact Nat.le_refl _
theorem call_len (p : Int) (x : Bool) (L : LS) : (callL p x L).length ≤ L.length := fm_len _ _
theorem end_len (L : LS) : (endL L).length ≤ L.length := fm_len _ _
end
theorem has_tq {p : Nat} {M : Nat → Prop} {L : LS} {pg : Int} {x : Bool} {w : World} (h : TQ w p M L) (hx : Sm pg) :
    Calls Try.prog 19 #[.pointer (some ⟨p, 0, none⟩), .int .i64 pg, .bool x] w fun e w' => e = .returned (.bool (hasL pg x L)) ∧ TQ w' p M L ∧ Below w.heap.size w w' := by
  obtain ⟨hb, ub, h⟩ := h
  refine (has_any p hb ub M L pg x w h hx).mono ?_
  rintro e w' ⟨rfl, q, rfl⟩
  exact ⟨rfl, ⟨hb, ub, h.drewN q⟩, ((Keep.refl (fun k => k < w.heap.size) w).drewN q).below fun _ h => h⟩
theorem used_tq {p : Nat} {M : Nat → Prop} {L : LS} {pg : Int} {w : World} (h : TQ w p M L) (hx : Sm pg) :
    Calls Try.prog 21 #[.pointer (some ⟨p, 0, none⟩), .int .i64 pg] w fun e w' => e = .returned (.int .i64 (usedL pg L : Int)) ∧ w = w' := by
  obtain ⟨hb, ub, h⟩ := h
  exact used_any p hb ub M L pg w h hx
end Go.Proofs.Ytlalehoncclnaaa.Latch
