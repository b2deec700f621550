/- The walk of the statements' own beginning. -/
import Derived.Test.YtjmjhjckdcniiaaPlateLaws
namespace Go.Proofs.Ytjmjhjckdcniiaa.Plate
open Go.RowKit
open Go.Proofs.Ytjmjhjckdcniiaa.Mem

/-- what a call of the plate's is given, and what it leaves -/
structure At (w W : World) (p : Nat) (S : PS) : Prop where
  pq : PQ W p (fun k => k < w.heap.size) S
  bel : Below w.heap.size w W
theorem At.below {w W W' : World} {p : Nat} {S : PS} (h : At w W p S) (hb : Below W.heap.size W W') : At w W' p S := ⟨h.pq.below hb, h.bel.trans (hb.mono h.bel.size)⟩
theorem At.next {w W W' : World} {p : Nat} {S S' : PS} (h : At w W p S) (hp : PQ W' p (fun k => k < w.heap.size) S') (hK : Keep (fun k => k < w.heap.size) W W') : At w W' p S' := ⟨hp, h.bel.trans (hK.below fun _ h => h)⟩
theorem At.new {w W W' : World} {p : Nat} {S : PS} (hb : Below w.heap.size w W) (hp : PQ W' p (fun k => k < W.heap.size) S) (h : Below W.heap.size W W') : At w W' p S :=
  ⟨hp.mono fun _ h1 => Nat.lt_of_lt_of_le h1 hb.size, hb.trans (h.mono hb.size)⟩

set_option maxRecDepth 100000 in
set_option maxHeartbeats 2000000 in
theorem awake_any (w : World) :
    Calls Try.prog 6 #[] w fun e w' => e = .returned (.bool true) ∧ Below w.heap.size w w' := by
  have hsA := fstr_size 256 97
  have hsB := fstr_size 256 98
  have hFA := fun W => filled_any 97 W
  have hFB := fun W => filled_any 98 W
  obtain ⟨A, hA⟩ : ∃ A, A = fstr 256 97 := ⟨_, rfl⟩
  obtain ⟨B, hB⟩ : ∃ B, B = fstr 256 98 := ⟨_, rfl⟩
  rw [← hA] at hsA hFA
  rw [← hB] at hsB hFB
  have HFA := Lib.hid hFA
  have HFB := Lib.hid hFB
  clear hA hB hFA hFB
  obtain ⟨f0, hf0⟩ : ∃ f0 : Nat → Sec, f0 = fun _ => ⟨fstr 256 0, false⟩ := ⟨_, rfl⟩
  have HS0 := Lib.hid (show newS 8 = St 8 f0 [] false 0 0 by rw [hf0]; rfl)
  clear hf0
  go_enter Try.func6, Try.ntmps6
  go_wp2_with fail
  refine (pq_new _ 8 (by decide) (by decide)).mono ?_
  rintro e w1 ⟨p, rfl, hp, hb⟩
  rw [HS0.out] at hp
  have H := At.new (Below.refl _ _) hp hb
  clear hp hb
  go_wp2_with fail
  refine (HFA.out _).mono ?_
  rintro e w2 ⟨rfl, b2⟩
  have H := H.below b2
  clear b2
  go_wp2_with fail
  refine (pl_write _ p _ 8 f0 [] 0 0 3 A H.pq (by decide) hsA (by decide) (by decide) (by decide)).mono ?_
  rintro e w3 ⟨rfl, hp, hk⟩
  have H := H.next hp hk
  clear hp hk
  go_wp2_with fail
  refine (pl_sync _ p _ 8 _ _ _ _ H.pq (by decide) (by decide) (by simp)).mono ?_
  rintro e w4 ⟨rfl, hp, hk⟩
  have H4 := H.next hp hk
  have hf1 : setTo f0 (fun _ => 1) ([] ++ [(⟨3, A⟩ : Wr)]) ([] ++ [(⟨3, A⟩ : Wr)]).length 3 = ⟨A, false⟩ := rfl
  generalize setTo f0 (fun _ => 1) ([] ++ [(⟨3, A⟩ : Wr)]) ([] ++ [(⟨3, A⟩ : Wr)]).length = f1 at H4 hf1
  clear hp hk H
  go_wp2_with fail
  refine (HFB.out _).mono ?_
  rintro e w5 ⟨rfl, b2⟩
  have H5 := H4.below b2
  clear b2 H4
  go_wp2_with fail
  refine (pl_write _ p _ 8 _ _ _ _ 3 B H5.pq (by decide) hsB (by decide) (by decide) (by decide)).mono ?_
  rintro e w6 ⟨rfl, hp, hk⟩
  have H6 := H5.next hp hk
  clear hp hk H5
  go_wp2_with fail
  refine (pq_waits _ p _ _ H6.pq).mono ?_
  rintro e w6 ⟨rfl, rfl⟩
  go_wp2_with fail
  refine (pl_off _ p _ 8 _ _ _ _ H6.pq (by decide)).mono ?_
  rintro e w7 ⟨rfl, hp, hk⟩
  have H7 := H6.next hp hk
  clear hp hk H6
  go_wp2_with fail
  refine (pl_rdown _ p _ 8 _ _ _ _ 3 H7.pq (by simp)).mono ?_
  rintro e w8 ⟨rfl, hp, hk⟩
  have H8 := H7.next hp hk
  clear hp hk H7
  go_wp2_with fail
  refine (pl_on1 _ p _ 8 _ _ _ _ 0 H8.pq (by simp) (by decide)).mono ?_
  rintro e w9 ⟨rfl, hp, hk⟩
  have H9 := H8.next hp hk
  have hf2 : setTo f1 (fun _ => 0) ([] ++ [(⟨3, B⟩ : Wr)]) ([] ++ [(⟨3, B⟩ : Wr)]).length 3 = ⟨A, false⟩ := hf1
  generalize setTo f1 (fun _ => 0) ([] ++ [(⟨3, B⟩ : Wr)]) ([] ++ [(⟨3, B⟩ : Wr)]).length = f2 at H9 hf2
  clear hp hk H8 hf1
  go_wp2_with fail
  refine (pl_read _ p _ 8 f2 _ _ 3 A H9.pq (by decide) hf2).mono ?_
  rintro e w10 ⟨rfl, hp, hk⟩
  have H10 := H9.next hp hk
  clear hp hk H9 hf2
  go_wp2_with fail
  refine (pl_wshort _ p _ 8 f2 _ _ _ 3 _ H10.pq (by decide) (by decide) (by decide) (by decide)).mono ?_
  rintro e w11 ⟨rfl, hp, hk⟩
  have H11 := H10.next hp hk
  clear hp hk H10
  go_wp2_with fail
  refine (HFA.out _).mono ?_
  rintro e w12 ⟨rfl, b2⟩
  have H12 := H11.below b2
  clear b2 H11
  go_wp2_with fail
  refine (pq_acts _ p _ _ H12.pq).mono ?_
  rintro e w12 ⟨rfl, rfl⟩
  go_wp2_with fail
  refine (pq_life _ p _ _ H12.pq).mono ?_
  rintro e w12 ⟨rfl, rfl⟩
  go_wp2_with fail
  refine (pq_sectors _ p _ _ H12.pq).mono ?_
  rintro e w12 ⟨rfl, rfl⟩
  go_wp2_with fail
  refine (pq_down _ p _ _ H12.pq).mono ?_
  rintro e w12 ⟨rfl, rfl⟩
  go_wp2
  go_ret
  exact ⟨rfl, H12.bel⟩
end Go.Proofs.Ytjmjhjckdcniiaa.Plate
