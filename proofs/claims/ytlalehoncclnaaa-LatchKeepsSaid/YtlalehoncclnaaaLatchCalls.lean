/- A client's locks: strength, left, Has, Used, Grant, letGo, New, Clear. -/
import Derived.Test.YtlalehoncclnaaaLatchMem
namespace Go.Proofs.Ytlalehoncclnaaa.Latch
set_option maxRecDepth 100000
open Go.RowKit
open Go.Proofs.Ytlalehoncclnaaa.Mem
open Go.Maps
theorem quiet_left {P : Program} {f : FuncId} {args : Array Value} {w : World} {n : Nat} {v : Value}
    (h : Calls P f args (w.drewN n) fun e w' => e = .returned v ∧ w.drewN n = w') : Calls P f args (w.drewN n) fun e w'' => e = .returned v ∧ ∃ m, w'' = w.drewN m :=
  h.mono fun _ _ ⟨he, hm⟩ => ⟨he, n, hm.symm⟩
theorem drewN_drewN (w : World) (a b : Nat) : ∃ c, (w.drewN a).drewN b = w.drewN c := by
  induction b with
  | zero => exact ⟨a, rfl⟩
  | succ b ih => obtain ⟨c, hc⟩ := ih; exact ⟨c + 1, by show ((w.drewN a).drewN b).drew = (w.drewN c).drew; rw [hc]⟩
theorem lvl_cases (p : Int) (x : Bool) (L : LS) : (lvl p L = 0 ∧ hasL p x L = false) ∨ (lvl p L = 1 ∧ hasL p x L = !x) ∨ (lvl p L = 2 ∧ hasL p x L = true) := by
  unfold lvl hasL
  cases atL p L with
  | none => exact .inl ⟨rfl, rfl⟩
  | some k =>
    dsimp only [lvlK]
    cases k.x with
    | false => exact .inr (.inl ⟨rfl, by simp⟩)
    | true => exact .inr (.inr ⟨rfl, by simp⟩)
theorem run_nill (w : World) : (binOp .eql 24 (.pointer none) (.pointer none)).run Try.prog w = .ok (.bool true) w := by kernel_rfl
theorem run_niln (w : World) : (binOp .neq 24 (.pointer none) (.pointer none)).run Try.prog w = .ok (.bool false) w := by kernel_rfl
theorem run_eql' (b : Nat) (w : World) : (binOp .eql 24 (.pointer (some ⟨b, 0, none⟩)) (.pointer none)).run Try.prog w = .ok (.bool false) w := by kernel_rfl
theorem run_neq' (b : Nat) (w : World) : (binOp .neq 24 (.pointer (some ⟨b, 0, none⟩)) (.pointer none)).run Try.prog w = .ok (.bool true) w := by kernel_rfl
set_option maxRecDepth 100000 in
theorem strength_any (x : Bool) (w : World) : Calls Try.prog 24 #[.bool x] w fun e w' => e = .returned (.int .i64 (strI x)) ∧ w = w' := by
  cases x with
  | true =>
    go_enter Try.func24, Try.ntmps24
    go_wp2
    go_ret
    exact ⟨rfl, rfl⟩
  | false =>
    go_enter Try.func24, Try.ntmps24
    go_wp2
    go_ret
    exact ⟨rfl, rfl⟩
def leftI (all : Bool) : Int := if all = true then 0 else 1
set_option maxRecDepth 100000 in
theorem left_any (x : Bool) (w : World) : Calls Try.prog 26 #[.bool x] w fun e w' => e = .returned (.int .i64 (leftI x)) ∧ w = w' := by
  cases x with
  | true =>
    go_enter Try.func26, Try.ntmps26
    go_wp2
    go_ret
    exact ⟨rfl, rfl⟩
  | false =>
    go_enter Try.func26, Try.ntmps26
    go_wp2
    go_ret
    exact ⟨rfl, rfl⟩
set_option maxRecDepth 100000 in
set_option maxHeartbeats 2000000 in
theorem has_any (p hb ub : Nat) (M : Nat → Prop) (L : LS) (pg : Int) (x : Bool) (w : World) (h : TV w p hb ub M L) (hx : Sm pg) :
    Calls Try.prog 19 #[.pointer (some ⟨p, 0, none⟩), .int .i64 pg, .bool x] w fun e w' => e = .returned (.bool (hasL pg x L)) ∧ ∃ q, w' = w.drewN q := by
  have c0 := h.topc.1
  have hl : ∀ n, (Instr.lookup 53 (.map (some hb)) (.int .i64 pg) false).run Try.prog (w.drewN n) = .ok (.int .i64 (lvl pg L)) (w.drewN n) := fun n => (h.drewN n).lookH hx
  have HC : Hid (∀ q, Calls Try.prog 24 #[.bool x] (w.drewN q) fun e w' => e = .returned (.int .i64 (strI x)) ∧ w.drewN q = w') := Lib.hid fun q => strength_any x _
  have qn := run_neq' p
  have hcs := lvl_cases pg x L
  clear h hx
  generalize lvl pg L = v at hl hcs
  generalize hasL pg x L = r at hcs ⊢
  rcases hcs with ⟨rfl, rfl⟩ | ⟨rfl, rfl⟩ | ⟨rfl, rfl⟩
  all_goals
    cases x
    all_goals
      dsimp only [strI, Bool.not_true, Bool.not_false, Bool.false_eq_true, if_false, if_true] at HC ⊢
      go_enter Try.func19, Try.ntmps19
      go_wp2_with fail
      go_quiet ((go_at_call 24; exact quiet_left (HC.out _)))
      go_wp2
      go_ret
      exact ⟨rfl, _, rfl⟩
set_option maxRecDepth 100000 in
theorem used_any (p hb ub : Nat) (M : Nat → Prop) (L : LS) (pg : Int) (w : World) (h : TV w p hb ub M L) (hx : Sm pg) :
    Calls Try.prog 21 #[.pointer (some ⟨p, 0, none⟩), .int .i64 pg] w fun e w' => e = .returned (.int .i64 (usedL pg L : Int)) ∧ w = w' := by
  have c1 := h.topc.2.1
  have hl := h.lookU hx
  have qn := run_eql' p
  have hf : ∀ W : World, (Instr.field 59 (.agg #[.int .i64 (usedL pg L), .int .i64 (staysI pg L)]) 0).run Try.prog W = .ok (.int .i64 (usedL pg L)) W := fun W => by kernel_rfl
  clear h hx
  generalize (usedL pg L : Int) = a at hl hf ⊢
  generalize staysI pg L = b at hl hf
  go_enter Try.func21, Try.ntmps21
  go_wp2
  go_ret
  exact ⟨rfl, rfl⟩
set_option maxRecDepth 100000 in
set_option maxHeartbeats 2000000 in
theorem grant_any (p : Nat) (M : Nat → Prop) (L : LS) (pg : Int) (x : Bool) (w : World) (h : TQ w p M L) (hx : Sm pg) (hn : L.length ≤ 1000000) :
    Calls Try.prog 9 #[.pointer (some ⟨p, 0, none⟩), .int .i64 pg, .bool x] w fun e w' => e = .returned (.tuple #[]) ∧ TQ w' p M (grantL pg x L) ∧ Keep M w w' := by
  obtain ⟨hb, ub, h⟩ := h
  have c0 := h.topc.1
  obtain ⟨w1, r1, d1, H1⟩ := h.putH (L' := grantL pg x L) hx (ok_grant h.ok pg x) hn (hasF_grant h.ok pg x) (useF_grant h.ok pg x)
  obtain ⟨w2, r2, d2, H2⟩ := (h.drewN 1).putH (L' := grantL pg x L) hx (ok_grant h.ok pg x) hn (hasF_grant h.ok pg x) (useF_grant h.ok pg x)
  change (Instr.mapUpdate _ _ _ _).run _ w.drew = _ at r2
  change Hid (_ ∧ Keep M w.drew w2) at H2
  have HS := Lib.hid (strength_any x w)
  have HS2 := Lib.hid (strength_any x w.drew)
  have F1 := Lib.hid (show TQ w1 p M (grantL pg x L) ∧ Keep M w w1 from ⟨⟨_, _, H1.out.1⟩, H1.out.2⟩)
  have F2 := Lib.hid (show TQ w2 p M (grantL pg x L) ∧ Keep M w w2 from ⟨⟨_, _, H2.out.1⟩, ((Keep.refl M w).drewN 1).trans H2.out.2⟩)
  have qn := run_neq' p
  clear h H1 H2 hx hn
  change (Instr.mapUpdate 53 (.map (some hb)) (.int .i64 pg) (.int .i64 (strI x))).run Try.prog w = .ok () w1 at r1
  change (Instr.mapUpdate 53 (.map (some hb)) (.int .i64 pg) (.int .i64 (strI x))).run Try.prog w.drew = .ok () w2 at r2
  generalize strI x = s at *
  go_enter Try.func9, Try.ntmps9
  go_wp2_with fail
  go_region_with (first | (go_at_call 24; refine HS.out.mono ?_; rintro e w' ⟨rfl, rfl⟩) | (go_at_call 24; refine HS2.out.mono ?_; rintro e w' ⟨rfl, rfl⟩))
  all_goals
    go_wp2
    go_end0
    first | exact ⟨⟨_, rfl⟩, F1.out⟩ | exact ⟨⟨_, rfl⟩, F2.out⟩ | exact ⟨rfl, F1.out⟩ | exact ⟨rfl, F2.out⟩
end Go.Proofs.Ytlalehoncclnaaa.Latch
