/- Holds; the predicates; who is in the way. -/
import Derived.Test.YthodggkpkjfggaaKeyRiseH
import Derived.Test.YthodggkpkjfggaaKeyRiseW
import Derived.Test.YthodggkpkjfggaaKeyRiseB
namespace Go.Proofs.Ythodggkpkjfggaa.Key
set_option maxRecDepth 100000
open Go.RowKit
open Go.Proofs.Ythodggkpkjfggaa.Mem
open Go.Maps
theorem zero_m (w : World) : (zeroValue 73).run Try.prog w = .ok (.map none) w := by kernel_rfl
theorem zero_p (w : World) : (zeroValue 70).run Try.prog w = .ok (.pointer none) w := by kernel_rfl
theorem zero_q (w : World) : (zeroValue 63).run Try.prog w = .ok (.slice none 0 0) w := by kernel_rfl
section
variable {w : World} {p : Nat} {G : Gh} {S : KS}
theorem TV.get (h : TV w p G S) {x c : Int} (hx : Sm x) (hc : Sm c) :
    ∃ mo : Option Nat, (Instr.lookup 58 (.map (some G.lb)) (.int .i64 x) false).run Try.prog w = .ok (.map mo) w ∧
      (Instr.lookup 73 (.map mo) (.int .i64 c) false).run Try.prog w = .ok (.pointer ((S.L x c).map fun _ => ⟨G.pl x c, 0, none⟩)) w ∧ Hid (mo = (if G.inn x = true then some (G.bl x) else none)) := by
  refine ⟨if G.inn x = true then some (G.bl x) else none, ?_, ?_, Lib.hid rfl⟩
  · rw [h.lm.look Try.underlying58 (zero_m w) hx]
    unfold lmF
    split <;> rfl
  · cases hi : G.inn x with
    | true =>
      rw [if_pos rfl, (h.im x hi).look Try.underlying73 (zero_p w) hc]
      unfold imF
      cases S.L x c <;> rfl
    | false =>
      rw [if_neg (by simp), look_nil false law Try.underlying73 (zero_p w) (keyOf_int_mk Try.underlying3 hc)]
      have e : S.L x c = none := by
        cases e : S.L x c with
        | none => rfl
        | some l => have := h.io x c (by rw [e]; simp); rw [hi] at this; cases this
      rw [e]; rfl
theorem TV.lkc (h : TV w p G S) {x c : Int} {l : Lk} (hL : S.L x c = some l) : w.cell? ⟨G.pl x c, 0, none⟩ = some (.int .i64 l.has) ∧ w.cell? ⟨G.pl x c, 1, none⟩ = some (.int .i64 l.called) ∧ w.cell? ⟨G.pl x c, 2, none⟩ = some (.bool l.busy) ∧ w.frozen? ⟨G.pl x c, 1, none⟩ = false ∧ w.frozen? ⟨G.pl x c, 2, none⟩ = false :=
  ⟨(h.lk x c l hL).cell 0, (h.lk x c l hL).cell 1, (h.lk x c l hL).cell 2, (h.lk x c l hL).frozen 1, (h.lk x c l hL).frozen 2⟩
theorem TV.topc (h : TV w p G S) : w.cell? ⟨p, 0, none⟩ = some (.map (some G.lb)) ∧ w.cell? ⟨p, 1, none⟩ = some (.map (some G.qb)) ∧ w.cell? ⟨p, 2, none⟩ = some G.v ∧ w.frozen? ⟨p, 2, none⟩ = false :=
  ⟨h.top.cell 0, h.top.cell 1, h.top.cell 2, h.top.frozen 2⟩
theorem TV.queue (h : TV w p G S) {x : Int} (hx : Sm x) :
    ∃ u, (Instr.lookup 59 (.map (some G.qb)) (.int .i64 x) false).run Try.prog w = .ok u w ∧ w.ownsRow 0 65 2 u (S.Q x).length (reqV (S.Q x)) ∧ Hid (u = (qmF G x).getD (.slice none 0 0)) := by
  refine ⟨_, h.qm.look Try.underlying59 (zero_q w) hx, ?_, Lib.hid rfl⟩
  unfold qmF
  cases hq : G.qp x with
  | true => rw [if_pos rfl]; exact h.qr x hq
  | false =>
    rw [if_neg (by simp)]
    have e : S.Q x = [] := by
      cases e : S.Q x with
      | nil => rfl
      | cons r l => have := h.qo x (by rw [e]; simp); rw [hq] at this; cases this
    rw [e]
    exact own_nil _ _ _ _
end
theorem run_nilt (w : World) : (binOp .eql 24 (.pointer none) (.pointer none)).run Try.prog w = .ok (.bool true) w := by kernel_rfl
theorem run_nill (w : World) : (binOp .eql 70 (.pointer none) (.pointer none)).run Try.prog w = .ok (.bool true) w := by kernel_rfl
theorem run_nnll (w : World) : (binOp .neq 70 (.pointer none) (.pointer none)).run Try.prog w = .ok (.bool false) w := by kernel_rfl
theorem run_eqt (w : World) (b : Nat) : (binOp .eql 24 (.pointer (some ⟨b, 0, none⟩)) (.pointer none)).run Try.prog w = .ok (.bool false) w := by kernel_rfl
theorem run_eql' (w : World) (b : Nat) : (binOp .eql 70 (.pointer (some ⟨b, 0, none⟩)) (.pointer none)).run Try.prog w = .ok (.bool false) w := by kernel_rfl
theorem run_nel (w : World) (b : Nat) : (binOp .neq 70 (.pointer (some ⟨b, 0, none⟩)) (.pointer none)).run Try.prog w = .ok (.bool true) w := by kernel_rfl
set_option maxRecDepth 100000 in
theorem holds_any (p : Nat) (M : Nat → Prop) (G : Gh) (S : KS) (c x : Int) (w : World) (h : TM w p M G S) (hx : Sm x) (hc : Sm c) :
    Calls Try.prog 24 #[.pointer (some ⟨p, 0, none⟩), .int .i64 c, .int .i64 x] w fun e w' => e = .returned (.int .i64 (holdsS S c x)) ∧ w = w' := by
  obtain ⟨mo, g1, g2, _⟩ := h.get hx hc
  have c0 := h.topc.1
  unfold holdsS
  cases hL : S.L x c with
  | none =>
    rw [hL] at g2
    dsimp only [Option.map] at g2
    clear h
    have q1 := run_eqt w p
    have q2 := run_nill w
    go_enter Try.func24, Try.ntmps24
    go_wp2
    go_ret
    exact ⟨rfl, rfl⟩
  | some l =>
    rw [hL] at g2
    have d0 := (h.lkc hL).1
    dsimp only [Option.map] at g2
    clear h
    have q1 := run_eqt w p
    have q2 := run_eql' w (G.pl x c)
    go_enter Try.func24, Try.ntmps24
    go_wp2
    go_ret
    exact ⟨rfl, rfl⟩
set_option maxRecDepth 100000 in
theorem bars_any (r : Rq) (w : World) :
    Calls Try.prog 47 #[.agg #[.int .i64 r.cl, .int .i64 r.wants]] w fun e w' => e = .returned (.func (.func 56) #[] #[.pointer (some ⟨w.heap.size, 0, none⟩)]) ∧ w' = w.alloc (.cells #[.int .i64 r.cl, .int .i64 r.wants] 65) := by
  go_enter Try.func47, Try.ntmps47
  go_wp2
  go_ret
  exact ⟨rfl, rfl⟩
set_option maxRecDepth 100000 in
theorem bars1_any (r : Rq) (c : Int) (l : Lk) (C b : Nat) (w : World) (hC : Blk w C 65 (rv r)) (hl : Blk w b 72 (lockA l)) :
    Calls Try.prog 56 #[.int .i64 c, .pointer (some ⟨b, 0, none⟩), .pointer (some ⟨C, 0, none⟩)] w fun e w' => e = .returned (.bool (barsB r c l)) ∧ Below w.heap.size w w' := by
  have c0 := hC.cell 0
  have c1 := hC.cell 1
  have d0 := hl.cell 0
  have HB := Lib.hid (Below.refl w.heap.size w)
  clear hC hl
  unfold barsB
  dsimp only [rv, lockA] at c0 c1 d0
  obtain ⟨cl, wn⟩ := r
  obtain ⟨hs, cd, bs⟩ := l
  dsimp only at c0 c1 d0 ⊢
  cases h1 : (c != cl) with
  | false =>
    have h1e : (c == cl) = true := by cases hh : (c == cl) with | true => rfl | false => simp [bne, hh] at h1
    go_enter Try.func56, Try.ntmps56
    go_wp2
    go_ret
    exact ⟨rfl, HB.out⟩
  | true =>
    have h1e : (c == cl) = false := by cases hh : (c == cl) with | false => rfl | true => simp [bne, hh] at h1
    cases h2 : (hs == 2) with
    | true =>
      go_enter Try.func56, Try.ntmps56
      go_wp2
      go_ret
      exact ⟨rfl, HB.out⟩
    | false =>
      go_enter Try.func56, Try.ntmps56
      go_wp2
      go_ret
      exact ⟨rfl, HB.out⟩
end Go.Proofs.Ythodggkpkjfggaa.Key
