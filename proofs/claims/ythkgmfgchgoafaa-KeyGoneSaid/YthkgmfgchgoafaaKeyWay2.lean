/- rising at a table: what a client holds, where it waits. -/
import Derived.Test.YthkgmfgchgoafaaKeyWay
namespace Go.Proofs.Ythkgmfgchgoafaa.Key
set_option maxRecDepth 100000
open Go.RowKit
open Go.Proofs.Ythkgmfgchgoafaa.Mem
open Go.Maps
theorem heldB_some {S : KS} {c k x : Int} {l : Lk} (hl : S.L x c = some l) : heldB S c k x = decide (k ≤ l.has) := by unfold heldB; rw [hl]
theorem heldB_none {S : KS} {c k x : Int} (hl : S.L x c = none) : heldB S c k x = false := by unfold heldB; rw [hl]
set_option maxRecDepth 100000 in
set_option maxHeartbeats 1000000 in
theorem held1_any (p : Nat) (M : Nat → Prop) (G : Gh) (S : KS) (c k x : Int) (C1 C2 : Nat) (w : World) (h : TM w p M G S) (hi : G.inn x = true) (hc : Sm c) (h1 : Blk w C1 3 #[.int .i64 c]) (h2 : Blk w C2 3 #[.int .i64 k]) :
    Calls Try.prog 61 #[.int .i64 x, .map (some (G.bl x)), .pointer (some ⟨C1, 0, none⟩), .pointer (some ⟨C2, 0, none⟩)] w fun e w' => e = .returned (.bool (heldB S c k x)) ∧ Below w.heap.size w w' := by
  have c1 : w.cell? ⟨C1, 0, none⟩ = some (.int .i64 c) := h1.cell 0
  have c2 : w.cell? ⟨C2, 0, none⟩ = some (.int .i64 k) := h2.cell 0
  have g2 : ∀ q, (Instr.lookup 89 (.map (some (G.bl x))) (.int .i64 c) false).run Try.prog (w.drewN q) = .ok ((imF G S x c).getD (.pointer none)) (w.drewN q) := fun q => ((h.drewN q).im x hi).look Try.underlying89 (zero_p _) hc
  have HB : Hid (∀ q, Below w.heap.size w (w.drewN q)) := Lib.hid fun q => ⟨rfl, rfl, rfl, Nat.le_refl _, fun _ _ => rfl⟩
  cases hl : S.L x c with
  | none =>
    rw [heldB_none hl]
    unfold imF at g2
    rw [hl] at g2
    dsimp only [Option.map, Option.getD] at g2
    have q0 : ∀ q, (binOp .neq 86 (.pointer none) (.pointer none)).run Try.prog (w.drewN q) = .ok (.bool false) (w.drewN q) := fun q => run_nnll _
    clear h h1 h2 hl
    go_enter Try.func61, Try.ntmps61
    go_wp2_with fail
    go_quiet (fail)
    go_wp2
    go_ret
    exact ⟨rfl, HB.out _⟩
  | some l =>
    rw [heldB_some hl]
    unfold imF at g2
    rw [hl] at g2
    dsimp only [Option.map, Option.getD] at g2
    have d0 := (h.lkc hl).1
    have q0 : ∀ q, (binOp .neq 86 (.pointer (some ⟨G.pl x c, 0, none⟩)) (.pointer none)).run Try.prog (w.drewN q) = .ok (.bool true) (w.drewN q) := fun q => run_nel _ _
    clear h h1 h2 hl
    generalize G.pl x c = b at g2 d0 q0
    go_enter Try.func61, Try.ntmps61
    go_wp2_with fail
    go_quiet (fail)
    go_wp2
    go_ret
    exact ⟨rfl, HB.out _⟩
/-- rising over all locks -/
theorem rise_held {w : World} {p : Nat} {M : Nat → Prop} {G : Gh} {S : KS} (h : TM w p M G S) (c k : Int) (hc : Sm c) (C1 C2 : Nat) (h1 : Blk w C1 3 #[.int .i64 c]) (h2 : Blk w C2 3 #[.int .i64 k]) :
    Calls Try.prog 37 #[.map (some G.lb), .func (.func 61) #[] #[.pointer (some ⟨C1, 0, none⟩), .pointer (some ⟨C2, 0, none⟩)]] w (RiseRes (heldB S c k) 0 1024 w) := by
  refine riseH_any G.lb 0 1024 (lmF G) (heldB S c k) C1 C2 w h.lm (by omega) (fun x hx => ?_) fun W x v hb hv => ?_
  · unfold lmF
    have : G.inn x = true := h.io x c fun e => by rw [heldB_none e] at hx; cases hx
    rw [this]; simp
  · unfold lmF at hv
    split at hv
    · rename_i hi
      injection hv with hv
      subst hv
      exact held1_any p M G S c k x C1 C2 W (h.below hb) hi hc (h1.below hb h1.lt) (h2.below hb h2.lt)
    · cases hv
/-- rising over all queues -/
theorem rise_waits {w : World} {p : Nat} {M : Nat → Prop} {G : Gh} {S : KS} (h : TM w p M G S) (c : Int) (C : Nat) (h1 : Blk w C 3 #[.int .i64 c]) :
    Calls Try.prog 56 #[.map (some G.qb), .func (.func 70) #[] #[.pointer (some ⟨C, 0, none⟩)]] w (RiseRes (waitB S c) 0 1024 w) := by
  refine riseW_any G.qb 0 1024 (qmF G) (waitB S c) C w h.qm (by omega) (fun x hx => ?_) fun W x v hb hv => ?_
  · unfold qmF
    have : G.qp x = true := h.qo x fun e => by unfold waitB at hx; rw [e] at hx; cases hx
    rw [this]; simp
  · unfold qmF at hv
    split at hv
    · rename_i hi
      injection hv with hv
      subst hv
      exact waited1_any (G.qv x) (S.Q x) x c C W (h1.below hb h1.lt) (src_own ((h.below hb).qr x hi)) (by have := h.wf.len x; omega)
    · cases hv
end Go.Proofs.Ythkgmfgchgoafaa.Key
