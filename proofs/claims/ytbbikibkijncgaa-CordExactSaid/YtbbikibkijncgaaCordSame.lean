/- Same of two equal rows of datagrams. -/
import Derived.Test.YtbbikibkijncgaaCordOut
import Derived.Lib.QuietBelow
namespace Go.Proofs.Ytbbikibkijncgaa.Cord
set_option maxRecDepth 100000
open Go.RowKit
open Go.Proofs.Ytbbikibkijncgaa.Mem
def sameG (x y : Gm) : Bool := (x.cl == y.cl) && ((x.up == y.up) && ((x.ep == y.ep) && ((x.sq == y.sq) && ((x.ak == y.ak) && (x.bd.toList == y.bd.toList)))))
theorem sameG_refl (x : Gm) : sameG x x = true := by simp [sameG]
set_option maxRecDepth 100000 in
set_option maxHeartbeats 800000 in
theorem run_eq_gram (x y : Gm) (w : World) : (binOp .eql 29 (.agg #[.int .i64 x.cl, .bool x.up, .int .i64 x.ep, .int .i64 x.sq, .int .i64 x.ak, .string x.bd]) (.agg #[.int .i64 y.cl, .bool y.up, .int .i64 y.ep, .int .i64 y.sq, .int .i64 y.ak, .string y.bd])).run Try.prog w = .ok (.bool (sameG x y)) w := by
  have u3 := Try.underlying4
  have u4 := Try.underlying3
  have u9 := Try.underlying9
  have a3 := Try.isAgg4
  have z3 := Try.sizeOf4
  have a4 := Try.isAgg3
  have z4 := Try.sizeOf3
  have a9 := Try.isAgg9
  have z9 := Try.sizeOf9
  have hS : Try.prog.underlying 29 = some (.struct (Try.prog.fieldsOf 29)) := by kernel_rfl
  have hp : Try.prog.stoodInHeld 29 = false := by kernel_rfl
  rw [run_eql_struct, show (10000 : Nat) = 9999 + 1 from rfl, run_equalIn_agg w 9999 29 _ _ hS hp]
  clear hS hp
  simp only [Program.fieldsOf, Try.underlying29]
  go_simp
  unfold sameG
  by_cases h0 : x.cl = y.cl
  rotate_left
  · simp [h0]
  by_cases h1 : x.up = y.up
  rotate_left
  · simp [h0, h1]
  by_cases h2 : x.ep = y.ep
  rotate_left
  · simp [h0, h1, h2]
  by_cases h3 : x.sq = y.sq
  rotate_left
  · simp [h0, h1, h2, h3]
  by_cases h4 : x.ak = y.ak
  rotate_left
  · simp [h0, h1, h2, h3, h4]
  by_cases h5 : x.bd.toList = y.bd.toList
  rotate_left
  · simp [h0, h1, h2, h3, h4, h5]
  simp [h0, h1, h2, h3, h4, h5]
theorem run_ne_gram (x y : Gm) (w : World) : (binOp .neq 29 (.agg #[.int .i64 x.cl, .bool x.up, .int .i64 x.ep, .int .i64 x.sq, .int .i64 x.ak, .string x.bd]) (.agg #[.int .i64 y.cl, .bool y.up, .int .i64 y.ep, .int .i64 y.sq, .int .i64 y.ak, .string y.bd])).run Try.prog w = .ok (.bool (!sameG x y)) w := by
  have h := run_eq_gram x y w
  simp only [binOp] at h ⊢
  simp only [Sem.run_bind] at h ⊢
  generalize (Op.equal 29 (.agg #[.int .i64 x.cl, .bool x.up, .int .i64 x.ep, .int .i64 x.sq, .int .i64 x.ak, .string x.bd]) (.agg #[.int .i64 y.cl, .bool y.up, .int .i64 y.ep, .int .i64 y.sq, .int .i64 y.ak, .string y.bd])).run Try.prog w = r at h ⊢
  cases r with
  | ok b w1 => simp at h ⊢; obtain ⟨rfl, rfl⟩ := h; exact ⟨rfl, rfl⟩
  | halt x w1 => simp at h
theorem run_guard_gram (op : BinOp) (A B : Operand) (xs ys : Array Value) (w : World) : (eqGuard op 29 A B (.agg xs) (.agg ys)).run Try.prog w = .ok () w := run_eqGuard_agg w op 29 A B xs ys (by kernel_rfl)
/-- a row of datagrams that is read -/
def Grs (w : World) (a : Option Addr) (n : Nat) (l : List Gm) : Prop :=
  l.length = n ∧ (0 < n → ∃ g, a = some ⟨g, 0, none⟩ ∧ g < w.heap.size ∧ ∀ i x, l[i]? = some x → w.cell? ⟨g, i * 6, none⟩ = some (.int .i64 x.cl) ∧ w.cell? ⟨g, i * 6 + 1, none⟩ = some (.bool x.up) ∧ w.cell? ⟨g, i * 6 + 2, none⟩ = some (.int .i64 x.ep) ∧ w.cell? ⟨g, i * 6 + 3, none⟩ = some (.int .i64 x.sq) ∧ w.cell? ⟨g, i * 6 + 4, none⟩ = some (.int .i64 x.ak) ∧ w.cell? ⟨g, i * 6 + 5, none⟩ = some (.string x.bd))
theorem grs_of {w : World} {base n c : Nat} {a : Option Addr} {l : List Gm} (h : w.ownsRow base 29 6 (.slice a n c) l.length (gramsV l)) (hn : n = l.length) : Grs w a n l := by
  subst hn
  refine ⟨rfl, fun h0 => ?_⟩
  obtain ⟨g, cap, e, hb, hl, hc⟩ := own_pos h h0
  injection e with e1 e2 e3
  subst e1
  refine ⟨g, rfl, hl, fun i x hi => ?_⟩
  have hlt := (List.getElem?_eq_some_iff.1 hi).1
  have hcx : ∀ j, j < 6 → w.cell? ⟨g, i * 6 + j, none⟩ = (gmV x).toList[j]? := fun j hj => by rw [hc _ (by omega)]; exact grams_at l i x hi j hj
  exact ⟨hcx 0 (by decide), hcx 1 (by decide), hcx 2 (by decide), hcx 3 (by decide), hcx 4 (by decide), hcx 5 (by decide)⟩
theorem Grs.below {w w' : World} {a : Option Addr} {n : Nat} {l : List Gm} (h : Grs w a n l) (hb : Below w.heap.size w w') : Grs w' a n l := by
  refine ⟨h.1, fun h0 => ?_⟩
  obtain ⟨g, e, hl, hc⟩ := h.2 h0
  refine ⟨g, e, Nat.lt_of_lt_of_le hl hb.size, fun i x hi => ?_⟩
  obtain ⟨c0, c1, c2, c3, c4, c5⟩ := hc i x hi
  exact ⟨(hb.cell (p := ⟨g, i * 6, none⟩) hl).trans c0, (hb.cell (p := ⟨g, i * 6 + 1, none⟩) hl).trans c1, (hb.cell (p := ⟨g, i * 6 + 2, none⟩) hl).trans c2, (hb.cell (p := ⟨g, i * 6 + 3, none⟩) hl).trans c3, (hb.cell (p := ⟨g, i * 6 + 4, none⟩) hl).trans c4, (hb.cell (p := ⟨g, i * 6 + 5, none⟩) hl).trans c5⟩
set_option maxRecDepth 100000 in
set_option maxHeartbeats 4000000 in
theorem same_any (a b : Option Addr) (n c d : Nat) (l : List Gm) (w : World) (h1 : Grs w a n l) (h2 : Grs w b n l) (hn : n ≤ 1000000) :
    Calls Try.prog 14 #[.slice a n c, .slice b n d] w fun r w' => r = .returned (.bool true) ∧ Below w.heap.size w w' := by
  have H1 := Lib.hid h1
  have H2 := Lib.hid h2
  clear h1 h2
  have hnn : (((n : Int) == (n : Int)) = true) := by simp
  have HB : Hid (Below w.heap.size w w) := Lib.hid (Below.refl _ _)
  go_enter Try.func14, Try.ntmps14
  go_wp2_with fail
  go_loopw [5] (fun i wr => ∃ j : Nat, j ≤ n ∧ i = .int .i64 (j : Int) ∧ Hid (Below w.heap.size w wr)) (fun i _ => n - (intOf i).toNat)
  case atStart => exact ⟨0, Nat.zero_le _, rfl, HB⟩
  case round =>
    obtain ⟨j, hj, rfl, HK⟩ := hrel
    clear HB
    by_cases hlt : j < n
    · have hl := H1.out.1
      have hx : l[j]? = some l[j] := List.getElem?_eq_getElem (by omega)
      generalize l[j] = x at hx
      obtain ⟨g1, e1, l1, c1⟩ := (H1.out.below HK.out).2 (by omega)
      obtain ⟨g2, e2, l2, c2⟩ := (H2.out.below HK.out).2 (by omega)
      subst e1; subst e2
      obtain ⟨d0, d1, d2, d3, d4, d5⟩ := c1 j x hx
      obtain ⟨f0, f1, f2, f3, f4, f5⟩ := c2 j x hx
      have hne := fun w => run_ne_gram x x w
      simp only [sameG_refl, Bool.not_true] at hne
      have hgd := fun (A B : Operand) xs ys w => run_guard_gram .neq A B xs ys w
      clear c1 c2 hx hl
      go_wp2_with fail
      go_quiet (fail)
      have HK2 : Hid (Below w.heap.size w (wr.drewN nq)) := Lib.hid (below_drewN HK.out nq)
      clear HK
      go_wp2
      go_roundw
      case rel => exact ⟨j + 1, by omega, by go_num, HK2⟩
      case measure => simp [intOf]; omega
    · obtain rfl : j = n := by omega
      go_wp2
      go_ret
      exact ⟨rfl, HK.out⟩
end Go.Proofs.Ytbbikibkijncgaa.Cord
