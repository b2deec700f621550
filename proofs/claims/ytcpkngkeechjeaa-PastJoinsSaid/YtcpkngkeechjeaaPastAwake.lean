/- awake: the answers that the document fixes by number; great. -/
import Derived.Test.YtcpkngkeechjeaaPastNeedP
import Derived.Test.YtcpkngkeechjeaaPastOfP
import Derived.Test.YtcpkngkeechjeaaPastEq
import Derived.Deep.RegionHeld3
namespace Go.Proofs.Ytcpkngkeechjeaa.Past
set_option maxRecDepth 100000
open Go.RowKit
open Go.Proofs.Ytcpkngkeechjeaa.Mem
open Go.Proofs.Ytcpkngkeechjeaa.Ent (Ent goodB Ents EntAt SmallE noE entA cellsE)
set_option maxRecDepth 100000 in
theorem txn_any (n : Int) (w : World) : Calls Try.prog 19 #[.int .i64 n] w fun e w' => e = .returned (.agg #[.int .i64 1, .int .i64 1, .int .i64 n]) ∧ Below w.heap.size w w' := by
  have HF := Lib.hid (Ent.below_box w (.cells #[.int .i64 1, .int .i64 1, .int .i64 n] 24))
  go_enter Try.func19, Try.ntmps19
  go_wp2
  refine bodyPost_ret (v := .agg #[.int .i64 1, .int .i64 1, .int .i64 n]) ?_ rfl ?_
  · simp [results, Try.results19, go_sem]
  · exact ⟨rfl, HF.out⟩
def aw1 : Ent := ⟨1, 1, 1, 1, 1, 0, 5, 0, false, .empty, false, .empty, 0⟩
def aw2 : Ent := ⟨1, 1, 1, 2, 2, 0, 3, 0, false, .empty, false, .empty, 0⟩
def aw3 : Ent := ⟨3, 1, 1, 1, 3, 1, 0, 0, false, .empty, false, .empty, 0⟩
def awL : List Ent := [aw1, aw2, aw3]
theorem aw_read : readV awL 10 = ⟨[(⟨1, 1, 2⟩, 2)], [⟨1, 1, 1⟩], [(3, 11), (5, 10)]⟩ := by rfl
theorem aw_need : needV awL 10 = 11 := by rfl
theorem aw_of : (ofL awL ⟨1, 1, 1⟩).length = 2 := by rfl
theorem aw_less : lessT ⟨1, 1, 1⟩ ⟨1, 1, 2⟩ = true := by rfl
theorem below_go {W a b : World} (h : Below W.heap.size W a) (k : Below a.heap.size a b) : Below W.heap.size W b := h.trans (k.mono h.size)
theorem aw_small : ∀ x ∈ awL, SmallE x := by
  intro x hx
  simp only [awL, List.mem_cons, List.not_mem_nil, or_false] at hx
  rcases hx with rfl | rfl | rfl <;> exact ⟨by decide, by decide⟩
set_option maxRecDepth 100000 in
set_option maxHeartbeats 8000000 in
theorem awake_any (w : World) : Calls Try.prog 8 #[] w fun e w' => e = .returned (.bool true) ∧ Below w.heap.size w w' := by
  go_enter Try.func8, Try.ntmps8
  go_wp2_with fail
  refine (txn_any 1 _).mono ?_
  rintro e w1 ⟨rfl, b1⟩
  go_wp2_with fail
  refine (txn_any 2 _).mono ?_
  rintro e w2 ⟨rfl, b2⟩
  have hb2 := below_go b1 b2
  clear b1 b2
  go_wp2_with fail
  refine (txn_any 1 _).mono ?_
  rintro e w3 ⟨rfl, b3⟩
  have hb3 := below_go hb2 b3
  clear hb2 b3
  go_upto_region 2 with (fail)
  have hE : Ents (w3.alloc (.cells #[.int .i64 1, .int .i64 1, .int .i64 1, .int .i64 1, .int .i64 1, .int .i64 0, .int .i64 5, .int .i64 0, .bool false, .string ⟨#[]⟩, .bool false, .string ⟨#[]⟩, .int .i64 0, .int .i64 1, .int .i64 1, .int .i64 1, .int .i64 2, .int .i64 2, .int .i64 0, .int .i64 3, .int .i64 0, .bool false, .string ⟨#[]⟩, .bool false, .string ⟨#[]⟩, .int .i64 0, .int .i64 3, .int .i64 1, .int .i64 1, .int .i64 1, .int .i64 3, .int .i64 1, .int .i64 0, .int .i64 0, .bool false, .string ⟨#[]⟩, .bool false, .string ⟨#[]⟩, .int .i64 0] 31)) (some ⟨w3.heap.size, 0, none⟩) 3 awL :=
    Ent.ents_of_blk (zs := awL) (t := 31) (Blk.new w3 31 _) aw_small
  have hb4 := below_go hb3 (Ent.below_box w3 (.cells #[.int .i64 1, .int .i64 1, .int .i64 1, .int .i64 1, .int .i64 1, .int .i64 0, .int .i64 5, .int .i64 0, .bool false, .string ⟨#[]⟩, .bool false, .string ⟨#[]⟩, .int .i64 0, .int .i64 1, .int .i64 1, .int .i64 1, .int .i64 2, .int .i64 2, .int .i64 0, .int .i64 3, .int .i64 0, .bool false, .string ⟨#[]⟩, .bool false, .string ⟨#[]⟩, .int .i64 0, .int .i64 3, .int .i64 1, .int .i64 1, .int .i64 1, .int .i64 3, .int .i64 1, .int .i64 0, .int .i64 0, .bool false, .string ⟨#[]⟩, .bool false, .string ⟨#[]⟩, .int .i64 0] 31))
  generalize hGen : w3.alloc (.cells #[.int .i64 1, .int .i64 1, .int .i64 1, .int .i64 1, .int .i64 1, .int .i64 0, .int .i64 5, .int .i64 0, .bool false, .string ⟨#[]⟩, .bool false, .string ⟨#[]⟩, .int .i64 0, .int .i64 1, .int .i64 1, .int .i64 1, .int .i64 2, .int .i64 2, .int .i64 0, .int .i64 3, .int .i64 0, .bool false, .string ⟨#[]⟩, .bool false, .string ⟨#[]⟩, .int .i64 0, .int .i64 3, .int .i64 1, .int .i64 1, .int .i64 1, .int .i64 3, .int .i64 1, .int .i64 0, .int .i64 0, .bool false, .string ⟨#[]⟩, .bool false, .string ⟨#[]⟩, .int .i64 0] 31) = W4 at hE hb4 ⊢
  clear hGen
  clear hb3
  generalize w3.heap.size = ge at hE ⊢
  have HE := Lib.hid hE
  have HB4 := Lib.hid hb4
  have HRD := Lib.hid (read_any _ 3 3 awL 10 W4 hE (by omega))
  rw [aw_read] at HRD
  clear hE hb4
  go_wp2_with fail
  refine HRD.out.mono ?_
  rintro e w5 ⟨sl, dn, pg, rfl, hr, b5⟩
  have hb5 := below_go HB4.out b5
  have hx0 : ([((⟨1, 1, 2⟩ : T3), (2 : Int))] : List (T3 × Int))[0]? = some (⟨1, 1, 2⟩, 2) := rfl
  obtain ⟨g1, k1, rfl, hg1, -, c0, c1, c2, c3⟩ := hr.loser hx0
  have hx1 : ([(⟨1, 1, 1⟩ : T3)] : List T3)[0]? = some ⟨1, 1, 1⟩ := rfl
  obtain ⟨g2, k2, rfl, hg2, -, d0, d1, d2⟩ := hr.done hx1
  have hx2 : ([((3 : Int), (11 : Int)), (5, 10)] : List (Int × Int))[0]? = some (3, 11) := rfl
  obtain ⟨g3, k3, rfl, hg3, -, e0, e1⟩ := hr.page hx2
  have HE5 := Lib.hid (HE.out.next b5)
  have HB5 := Lib.hid hb5
  have hbz := Ent.below_box w5 (.cells #[.slice (some ⟨g1, 0, none⟩) 1 k1, .slice (some ⟨g2, 0, none⟩) 1 k2, .slice (some ⟨g3, 0, none⟩) 2 k3] 37)
  have hub := Blk.new w5 37 #[.slice (some ⟨g1, 0, none⟩) 1 k1, .slice (some ⟨g2, 0, none⟩) 1 k2, .slice (some ⟨g3, 0, none⟩) 2 k3]
  clear hr b5 hb5 HRD HE hx0 hx1 hx2
  go_upto_region 3 with (fail)
  have hz : (w5.alloc (.cells #[.slice (some ⟨g1, 0, none⟩) 1 k1, .slice (some ⟨g2, 0, none⟩) 1 k2, .slice (some ⟨g3, 0, none⟩) 2 k3] 37)).cell? ⟨w5.heap.size, 0, none⟩ = some (.slice (some ⟨g1, 0, none⟩) 1 k1) ∧ (w5.alloc (.cells #[.slice (some ⟨g1, 0, none⟩) 1 k1, .slice (some ⟨g2, 0, none⟩) 1 k2, .slice (some ⟨g3, 0, none⟩) 2 k3] 37)).cell? ⟨w5.heap.size, 1, none⟩ = some (.slice (some ⟨g2, 0, none⟩) 1 k2) ∧ (w5.alloc (.cells #[.slice (some ⟨g1, 0, none⟩) 1 k1, .slice (some ⟨g2, 0, none⟩) 1 k2, .slice (some ⟨g3, 0, none⟩) 2 k3] 37)).cell? ⟨w5.heap.size, 2, none⟩ = some (.slice (some ⟨g3, 0, none⟩) 2 k3) ∧ (w5.alloc (.cells #[.slice (some ⟨g1, 0, none⟩) 1 k1, .slice (some ⟨g2, 0, none⟩) 1 k2, .slice (some ⟨g3, 0, none⟩) 2 k3] 37)).cell? ⟨g1, 0, none⟩ = some (.int .i64 1) ∧ (w5.alloc (.cells #[.slice (some ⟨g1, 0, none⟩) 1 k1, .slice (some ⟨g2, 0, none⟩) 1 k2, .slice (some ⟨g3, 0, none⟩) 2 k3] 37)).cell? ⟨g1, 1, none⟩ = some (.int .i64 1) ∧ (w5.alloc (.cells #[.slice (some ⟨g1, 0, none⟩) 1 k1, .slice (some ⟨g2, 0, none⟩) 1 k2, .slice (some ⟨g3, 0, none⟩) 2 k3] 37)).cell? ⟨g1, 2, none⟩ = some (.int .i64 2) ∧ (w5.alloc (.cells #[.slice (some ⟨g1, 0, none⟩) 1 k1, .slice (some ⟨g2, 0, none⟩) 1 k2, .slice (some ⟨g3, 0, none⟩) 2 k3] 37)).cell? ⟨g1, 3, none⟩ = some (.int .i64 2) ∧ (w5.alloc (.cells #[.slice (some ⟨g1, 0, none⟩) 1 k1, .slice (some ⟨g2, 0, none⟩) 1 k2, .slice (some ⟨g3, 0, none⟩) 2 k3] 37)).cell? ⟨g2, 0, none⟩ = some (.int .i64 1) ∧ (w5.alloc (.cells #[.slice (some ⟨g1, 0, none⟩) 1 k1, .slice (some ⟨g2, 0, none⟩) 1 k2, .slice (some ⟨g3, 0, none⟩) 2 k3] 37)).cell? ⟨g2, 1, none⟩ = some (.int .i64 1) ∧ (w5.alloc (.cells #[.slice (some ⟨g1, 0, none⟩) 1 k1, .slice (some ⟨g2, 0, none⟩) 1 k2, .slice (some ⟨g3, 0, none⟩) 2 k3] 37)).cell? ⟨g2, 2, none⟩ = some (.int .i64 1) ∧ (w5.alloc (.cells #[.slice (some ⟨g1, 0, none⟩) 1 k1, .slice (some ⟨g2, 0, none⟩) 1 k2, .slice (some ⟨g3, 0, none⟩) 2 k3] 37)).cell? ⟨g3, 0, none⟩ = some (.int .i64 3) ∧ (w5.alloc (.cells #[.slice (some ⟨g1, 0, none⟩) 1 k1, .slice (some ⟨g2, 0, none⟩) 1 k2, .slice (some ⟨g3, 0, none⟩) 2 k3] 37)).cell? ⟨g3, 1, none⟩ = some (.int .i64 11) := ⟨hub.cell 0, hub.cell 1, hub.cell 2, (hbz.cell (p := ⟨g1, 0, none⟩) hg1).trans c0, (hbz.cell (p := ⟨g1, 1, none⟩) hg1).trans c1, (hbz.cell (p := ⟨g1, 2, none⟩) hg1).trans c2, (hbz.cell (p := ⟨g1, 3, none⟩) hg1).trans c3, (hbz.cell (p := ⟨g2, 0, none⟩) hg2).trans d0, (hbz.cell (p := ⟨g2, 1, none⟩) hg2).trans d1, (hbz.cell (p := ⟨g2, 2, none⟩) hg2).trans d2, (hbz.cell (p := ⟨g3, 0, none⟩) hg3).trans e0, (hbz.cell (p := ⟨g3, 1, none⟩) hg3).trans e1⟩
  have hul := Ent.alloc_lt w5 (.cells #[.slice (some ⟨g1, 0, none⟩) 1 k1, .slice (some ⟨g2, 0, none⟩) 1 k2, .slice (some ⟨g3, 0, none⟩) 2 k3] 37)
  have HE6 := Lib.hid (HE5.out.next hbz)
  have HB6 := Lib.hid (below_go HB5.out hbz)
  clear hub hbz HE5 HB5 c0 c1 c2 c3 d0 d1 d2 e0 e1
  generalize hW6 : w5.alloc (.cells #[.slice (some ⟨g1, 0, none⟩) 1 k1, .slice (some ⟨g2, 0, none⟩) 1 k2, .slice (some ⟨g3, 0, none⟩) 2 k3] 37) = W6 at hz hul HE6 HB6 ⊢
  have l1 : g1 < W6.heap.size := by omega
  have l2 : g2 < W6.heap.size := by omega
  have l3 : g3 < W6.heap.size := by omega
  clear hW6
  generalize w5.heap.size = gu at hz hul ⊢
  obtain ⟨z0, z1, z2, z3, z4, z5, z6, z7, z8, z9, z10, z11⟩ := hz
  have HZ : Hid (∀ W', Below W6.heap.size W6 W' → W'.cell? ⟨gu, 0, none⟩ = some (.slice (some ⟨g1, 0, none⟩) 1 k1) ∧ W'.cell? ⟨gu, 1, none⟩ = some (.slice (some ⟨g2, 0, none⟩) 1 k2) ∧ W'.cell? ⟨gu, 2, none⟩ = some (.slice (some ⟨g3, 0, none⟩) 2 k3) ∧ W'.cell? ⟨g1, 0, none⟩ = some (.int .i64 1) ∧ W'.cell? ⟨g1, 1, none⟩ = some (.int .i64 1) ∧ W'.cell? ⟨g1, 2, none⟩ = some (.int .i64 2) ∧ W'.cell? ⟨g1, 3, none⟩ = some (.int .i64 2) ∧ W'.cell? ⟨g2, 0, none⟩ = some (.int .i64 1) ∧ W'.cell? ⟨g2, 1, none⟩ = some (.int .i64 1) ∧ W'.cell? ⟨g2, 2, none⟩ = some (.int .i64 1) ∧ W'.cell? ⟨g3, 0, none⟩ = some (.int .i64 3) ∧ W'.cell? ⟨g3, 1, none⟩ = some (.int .i64 11)) := Lib.hid fun W' hb => ⟨(hb.cell (p := ⟨gu, 0, none⟩) hul).trans z0, (hb.cell (p := ⟨gu, 1, none⟩) hul).trans z1, (hb.cell (p := ⟨gu, 2, none⟩) hul).trans z2, (hb.cell (p := ⟨g1, 0, none⟩) l1).trans z3, (hb.cell (p := ⟨g1, 1, none⟩) l1).trans z4, (hb.cell (p := ⟨g1, 2, none⟩) l1).trans z5, (hb.cell (p := ⟨g1, 3, none⟩) l1).trans z6, (hb.cell (p := ⟨g2, 0, none⟩) l2).trans z7, (hb.cell (p := ⟨g2, 1, none⟩) l2).trans z8, (hb.cell (p := ⟨g2, 2, none⟩) l2).trans z9, (hb.cell (p := ⟨g3, 0, none⟩) l3).trans z10, (hb.cell (p := ⟨g3, 1, none⟩) l3).trans z11⟩
  have HNE : Hid (∀ W', Below W6.heap.size W6 W' → Calls Try.prog 15 #[.slice (some ⟨ge, 0, none⟩) 3 3, .int .i64 10] W' fun e w' => e = .returned (.int .i64 11) ∧ Below W'.heap.size W' w') := Lib.hid fun W' hb => by
    have := needed_any (some ⟨ge, 0, none⟩) 3 3 awL 10 W' (HE6.out.next hb) (by omega)
    rw [aw_need] at this
    exact this
  have HOF : Hid (∀ W', Below W6.heap.size W6 W' → Calls Try.prog 10 #[.slice (some ⟨ge, 0, none⟩) 3 3, .agg #[.int .i64 1, .int .i64 1, .int .i64 1]] W' fun e w' => (∃ a c, e = .returned (.slice a 2 c)) ∧ Below W'.heap.size W' w') := Lib.hid fun W' hb => by
    refine (of_any (some ⟨ge, 0, none⟩) 3 3 awL ⟨1, 1, 1⟩ W' (HE6.out.next hb) (by omega)).mono ?_
    rintro e w' ⟨v, rfl, ho, b⟩
    rw [aw_of] at ho
    obtain ⟨a, c, rfl⟩ := own_shape ho
    exact ⟨⟨a, c, rfl⟩, b⟩
  have HLE : Hid (∀ W', Calls Try.prog 17 #[.agg #[.int .i64 1, .int .i64 1, .int .i64 1], .agg #[.int .i64 1, .int .i64 1, .int .i64 2]] W' fun e w' => e = .returned (.bool true) ∧ Below W'.heap.size W' w') := Lib.hid fun W' => by
    have := less_any ⟨1, 1, 1⟩ ⟨1, 1, 2⟩ W'
    rw [aw_less] at this
    exact this
  have HT1 := Lib.hid (txn_any 1)
  have HT2 := Lib.hid (txn_any 2)
  have q1 := fun W => run_eq_lo (⟨1, 1, 2⟩, 2) (⟨1, 1, 2⟩, 2) W
  have q2 := fun W => run_eq_txn ⟨1, 1, 1⟩ ⟨1, 1, 1⟩ W
  have q3 := fun W => run_eq_fi (3, 11) (3, 11) W
  rw [show sameLo (⟨1, 1, 2⟩, 2) (⟨1, 1, 2⟩, 2) = true from rfl] at q1
  rw [show sameT ⟨1, 1, 1⟩ ⟨1, 1, 1⟩ = true from rfl] at q2
  rw [show sameFi (3, 11) (3, 11) = true from rfl] at q3
  dsimp only at q1 q2 q3
  have hg1' := fun (A B : Operand) xs ys W => run_guard_lo .eql A B xs ys W
  have hg2' := fun (A B : Operand) xs ys W => run_guard_txn .eql A B xs ys W
  have hg3' := fun (A B : Operand) xs ys W => run_guard_fi .eql A B xs ys W
  have HZ0 := Lib.hid (HZ.out _ (Below.refl _ _))
  have HZ1 := Lib.hid (HZ.out _ (Below.refl _ _).drew)
  clear HE6
  go_region_held3 (fun W' => W'.cell? ⟨gu, 0, none⟩ = some (.slice (some ⟨g1, 0, none⟩) 1 k1) ∧ W'.cell? ⟨gu, 1, none⟩ = some (.slice (some ⟨g2, 0, none⟩) 1 k2) ∧ W'.cell? ⟨gu, 2, none⟩ = some (.slice (some ⟨g3, 0, none⟩) 2 k3) ∧ W'.cell? ⟨g1, 0, none⟩ = some (.int .i64 1) ∧ W'.cell? ⟨g1, 1, none⟩ = some (.int .i64 1) ∧ W'.cell? ⟨g1, 2, none⟩ = some (.int .i64 2) ∧ W'.cell? ⟨g1, 3, none⟩ = some (.int .i64 2) ∧ W'.cell? ⟨g2, 0, none⟩ = some (.int .i64 1) ∧ W'.cell? ⟨g2, 1, none⟩ = some (.int .i64 1) ∧ W'.cell? ⟨g2, 2, none⟩ = some (.int .i64 1) ∧ W'.cell? ⟨g3, 0, none⟩ = some (.int .i64 3) ∧ W'.cell? ⟨g3, 1, none⟩ = some (.int .i64 11))
    (first | (with_reducible assumption) | (with_reducible exact HZ0.out) | (with_reducible exact HZ1.out)) (first
    | (go_at_call 19; (first | (with_reducible refine (HT1.out _).mono ?_) | (with_reducible refine (HT2.out _).mono ?_)); rintro e w7 ⟨rfl, b7⟩; have hb7 := below_go (W := W6) (by first | assumption | exact (Below.refl _ _).drew | exact Below.refl _ _) b7; have hs7 := HZ.out _ hb7)
    | (go_at_call 15; refine (HNE.out _ (by first | assumption | exact (Below.refl _ _).drew | exact Below.refl _ _)).mono ?_; rintro e w7 ⟨rfl, b7⟩; have hb7 := below_go (W := W6) (by first | assumption | exact (Below.refl _ _).drew | exact Below.refl _ _) b7; have hs7 := HZ.out _ hb7)
    | (go_at_call 10; refine (HOF.out _ (by first | assumption | exact (Below.refl _ _).drew | exact Below.refl _ _)).mono ?_; rintro e w7 ⟨⟨a7, c7, rfl⟩, b7⟩; have hb7 := below_go (W := W6) (by first | assumption | exact (Below.refl _ _).drew | exact Below.refl _ _) b7; have hs7 := HZ.out _ hb7)
    | (go_at_call 17; refine (HLE.out _).mono ?_; rintro e w7 ⟨rfl, b7⟩; have hb7 := below_go (W := W6) (by first | assumption | exact (Below.refl _ _).drew | exact Below.refl _ _) b7; have hs7 := HZ.out _ hb7))
  all_goals
    have HF := Lib.hid hb7
    clear HZ HNE HOF HLE HT1 HT2 q1 q2 q3 HZ0 HZ1
    go_wp2
    go_ret
    exact ⟨rfl, below_go HB6.out HF.out⟩
end Go.Proofs.Ytcpkngkeechjeaa.Past
