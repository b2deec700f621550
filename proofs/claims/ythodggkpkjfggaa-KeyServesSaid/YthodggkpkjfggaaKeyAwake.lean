/- awake: the answers that the document fixes by number. -/
import Derived.Test.YthodggkpkjfggaaKeyWaits
namespace Go.Proofs.Ythodggkpkjfggaa.Key
set_option maxRecDepth 100000
open Go.RowKit
open Go.Proofs.Ythodggkpkjfggaa.Mem
open Go.Maps
def sameW (x y : Wd) : Bool := (x.call == y.call) && ((x.cl == y.cl) && ((x.pg == y.pg) && (x.x == y.x)))
set_option maxRecDepth 100000 in
set_option maxHeartbeats 800000 in
theorem run_eq_word (x y : Wd) (w : World) : (binOp .eql 36 (.agg #[.bool x.call, .int .i64 x.cl, .int .i64 x.pg, .bool x.x]) (.agg #[.bool y.call, .int .i64 y.cl, .int .i64 y.pg, .bool y.x])).run Try.prog w = .ok (.bool (sameW x y)) w := by
  have u3 := Try.underlying4
  have u4 := Try.underlying3
  have a3 := Try.isAgg4
  have z3 := Try.sizeOf4
  have a4 := Try.isAgg3
  have z4 := Try.sizeOf3
  have hS : Try.prog.underlying 36 = some (.struct (Try.prog.fieldsOf 36)) := by kernel_rfl
  have hp : Try.prog.stoodInHeld 36 = false := by kernel_rfl
  rw [run_eql_struct, show (10000 : Nat) = 9999 + 1 from rfl, run_equalIn_agg w 9999 36 _ _ hS hp]
  clear hS hp
  simp only [Program.fieldsOf, Try.underlying36]
  go_simp
  unfold sameW
  by_cases h0 : x.call = y.call
  rotate_left
  · simp [h0]
  by_cases h1 : x.cl = y.cl
  rotate_left
  · simp [h0, h1]
  by_cases h2 : x.pg = y.pg
  rotate_left
  · simp [h0, h1, h2]
  by_cases h3 : x.x = y.x
  rotate_left
  · simp [h0, h1, h2, h3]
  simp [h0, h1, h2, h3]
theorem run_ne_word (x y : Wd) (w : World) : (binOp .neq 36 (.agg #[.bool x.call, .int .i64 x.cl, .int .i64 x.pg, .bool x.x]) (.agg #[.bool y.call, .int .i64 y.cl, .int .i64 y.pg, .bool y.x])).run Try.prog w = .ok (.bool (!sameW x y)) w := by
  have h := run_eq_word x y w
  simp only [binOp] at h ⊢
  simp only [Sem.run_bind] at h ⊢
  generalize (Op.equal 36 (.agg #[.bool x.call, .int .i64 x.cl, .int .i64 x.pg, .bool x.x]) (.agg #[.bool y.call, .int .i64 y.cl, .int .i64 y.pg, .bool y.x])).run Try.prog w = r at h ⊢
  cases r with
  | ok b w1 => simp at h ⊢; obtain ⟨rfl, rfl⟩ := h; exact ⟨rfl, rfl⟩
  | halt x w1 => simp at h
theorem run_guard_word (op : BinOp) (A B : Operand) (xs ys : Array Value) (w : World) : (eqGuard op 36 A B (.agg xs) (.agg ys)).run Try.prog w = .ok () w := run_eqGuard_agg w op 36 A B xs ys (by kernel_rfl)
/-- a word in a row -/
theorem word_at {w : World} {B i : Nat} {v : Value} {L : List Wd} {x : Wd} (h : w.ownsRow B 36 4 v L.length (wordsV L)) (hi : L[i]? = some x) :
    ∃ g cap, v = .slice (some ⟨g, 0, none⟩) L.length cap ∧ v.ownBlock = some g ∧ w.cell? ⟨g, i * 4, none⟩ = some (.bool x.call) ∧ w.cell? ⟨g, i * 4 + 1, none⟩ = some (.int .i64 x.cl) ∧ w.cell? ⟨g, i * 4 + 1 + 1, none⟩ = some (.int .i64 x.pg) ∧ w.cell? ⟨g, i * 4 + 1 + 1 + 1, none⟩ = some (.bool x.x) := by
  have hlt := (List.getElem?_eq_some_iff.1 hi).1
  obtain ⟨g, cap, e, e2, _, hc⟩ := own_pos h (by omega)
  have k : ∀ j, j < 4 → w.cell? ⟨g, i * 4 + j, none⟩ = (wv x).toList[j]? := fun j hj => by rw [hc _ (by omega), words_at L i x hi j hj]
  exact ⟨g, cap, e, e2, k 0 (by decide), k 1 (by decide), k 2 (by decide), k 3 (by decide)⟩
def A1 : KS := askK newK 1 7 true
def A2 : KS := askK A1 2 7 false
def A3 : KS := { A2 with said := [] }
def A4 : KS := freeK A3 1 7 true
def A5 : KS := { A4 with said := [] }
theorem A1s : A1.said.length ≤ 10 := by decide
theorem A2s : A2.said = [⟨false, 1, 7, true⟩, ⟨true, 1, 7, false⟩] := by rfl
theorem A4s : A4.said = [⟨false, 2, 7, false⟩] := by rfl
theorem x1 : askX newK 1 7 = 0 := by rfl
theorem x2 : askX A1 2 7 = 0 := by rfl
theorem x3 : freeX A3 1 7 = 0 := by rfl
theorem h1 : holdsS A5 1 7 = 1 := by rfl
theorem h2 : holdsS A5 2 7 = 1 := by rfl
theorem x4 : askX A5 9 0 = 1 := by rfl
theorem k4 : askK A5 9 0 true = A5 := by rfl
theorem x5 : freeX A5 3 7 = 12 := by rfl
theorem sm7 : Sm 7 := sm_of (by decide)
set_option maxRecDepth 100000 in
set_option maxHeartbeats 4000000 in
theorem awake_any (w : World) : Calls Try.prog 9 #[] w fun e w' => e = .returned (.bool true) ∧ Below w.heap.size w w' := by
  go_enter Try.func9, Try.ntmps9
  go_wp2_with fail
  refine (new_any w).mono ?_
  rintro e w1 ⟨p, rfl, _, h1, b1⟩
  have HA := Lib.hid (ask_any p _ newK 1 7 true w1 h1 sm7 (sm_of (by decide)) (by decide))
  rw [x1] at HA
  have HB1 := Lib.hid b1
  have q1 := fun W => run_eqt W p
  clear h1 b1
  go_wp2_with fail
  refine HA.out.mono ?_
  rintro e w2 ⟨rfl, h2, k2⟩
  have HA2 := Lib.hid (ask_any p _ A1 2 7 false w2 h2 sm7 (sm_of (by decide)) (by have := A1s; omega))
  rw [x2] at HA2
  have HB2 := Lib.hid (HB1.out.trans (k2.below fun _ h => h))
  clear h2 k2 HA HB1
  go_wp2_with fail
  refine HA2.out.mono ?_
  rintro e w3 ⟨rfl, h3, k3⟩
  have HT := Lib.hid (take_any p _ A2 w3 h3)
  have HB3 := Lib.hid (HB2.out.trans (k3.below fun _ h => h))
  clear h3 k3 HA2 HB2
  go_wp2_with fail
  refine HT.out.mono ?_
  rintro e w4 ⟨v4, rfl, ho4, _, h4, k4⟩
  rw [A2s] at ho4
  obtain ⟨g, cap, rfl, hg, c0, c1, c2, c3⟩ := word_at (i := 0) ho4 rfl
  obtain ⟨g', cap', e', _, d0, d1, d2, d3⟩ := word_at (i := 1) ho4 rfl
  injection e' with e1 _ _
  injection e1 with e1
  injection e1 with e1 _ _
  subst e1
  clear hg
  have HF := Lib.hid (free_any p _ A3 1 7 true w4 h4 sm7 (sm_of (by decide)) (by decide))
  rw [x3] at HF
  have HB4 := Lib.hid (HB3.out.trans (k4.below fun _ h => h))
  have e1 := fun W => run_ne_word ⟨false, 1, 7, true⟩ ⟨false, 1, 7, true⟩ W
  have e2 := fun W => run_ne_word ⟨true, 1, 7, false⟩ ⟨true, 1, 7, false⟩ W
  have s1 : sameW ⟨false, 1, 7, true⟩ ⟨false, 1, 7, true⟩ = true := rfl
  have s2 : sameW ⟨true, 1, 7, false⟩ ⟨true, 1, 7, false⟩ = true := rfl
  rw [s1] at e1
  rw [s2] at e2
  have hgd := fun op A B xs ys W => run_guard_word op A B xs ys W
  clear h4 k4 HT HB3 ho4 s1 s2
  dsimp only [List.length, Bool.not] at e1 e2 c0 c1 c2 c3 d0 d1 d2 d3 ⊢
  go_wp2_with fail
  refine HF.out.mono ?_
  rintro e w5 ⟨rfl, h5, k5⟩
  have HT5 := Lib.hid (take_any p _ A4 w5 h5)
  have HB5 := Lib.hid (HB4.out.trans (k5.below fun _ h => .inl h))
  clear h5 k5 HF HB4 c0 c1 c2 c3 d0 d1 d2 d3 e1 e2
  go_wp2_with fail
  refine HT5.out.mono ?_
  rintro e w6 ⟨v6, rfl, ho6, _, h6, k6⟩
  rw [A4s] at ho6
  obtain ⟨g6, cap6, rfl, -, c0, c1, c2, c3⟩ := word_at (i := 0) ho6 rfl
  obtain ⟨G6, hT6⟩ := h6
  have HH1 := Lib.hid (holds_any p _ G6 A5 1 7 w6 hT6 sm7 (sm_of (by decide)))
  have HH2 := Lib.hid (holds_any p _ G6 A5 2 7 w6 hT6 sm7 (sm_of (by decide)))
  have HA6 := Lib.hid (ask_any p _ A5 9 0 true w6 ⟨G6, hT6⟩ (sm_of (by decide)) (sm_of (by decide)) (by decide))
  rw [Key.h1] at HH1
  rw [Key.h2] at HH2
  rw [x4, k4] at HA6
  have HB6 := Lib.hid (HB5.out.trans (k6.below fun _ h => .inl h))
  have e1 := fun W => run_eq_word ⟨false, 2, 7, false⟩ ⟨false, 2, 7, false⟩ W
  have s1 : sameW ⟨false, 2, 7, false⟩ ⟨false, 2, 7, false⟩ = true := rfl
  rw [s1] at e1
  clear hT6 k6 HT5 HB5 ho6 s1
  dsimp only [List.length] at e1 c0 c1 c2 c3 ⊢
  go_wp2_with fail
  refine HH1.out.mono ?_
  rintro e w7 ⟨rfl, rfl⟩
  clear HH1
  go_wp2_with fail
  refine HH2.out.mono ?_
  rintro e w7 ⟨rfl, rfl⟩
  clear HH2
  go_wp2_with fail
  refine HA6.out.mono ?_
  rintro e w7 ⟨rfl, h7, k7⟩
  have HF7 := Lib.hid (free_any p _ A5 3 7 false w7 h7 sm7 (sm_of (by decide)) (by decide))
  rw [x5] at HF7
  have HB7 := Lib.hid (HB6.out.trans (k7.below fun _ h => .inl (.inl h)))
  clear h7 k7 HA6 HB6
  go_wp2_with fail
  refine HF7.out.mono ?_
  rintro e w8 ⟨rfl, h8, k8⟩
  have FIN := Lib.hid (HB7.out.trans (k8.below fun _ h => .inl (.inl h)))
  clear h8 k8 HF7 HB7
  go_wp2
  go_ret
  exact ⟨rfl, FIN.out⟩
end Go.Proofs.Ythodggkpkjfggaa.Key
