/- Take of the document's own end: the walk of a datagram that is taken. -/
import Derived.Test.YtbbikibkijncgaaCordRef4
namespace Go.Proofs.Ytbbikibkijncgaa.Cord
set_option maxRecDepth 100000
open Go.RowKit Go.Sort
open Go.Proofs.Ytbbikibkijncgaa.Mem
theorem US.box {w0 w : World} {F : Nat → Prop} {u m : Nat} {g : Gm} {E : List Tx} {e : CE} (h : US w0 F u m g E e w) : Blk w w0.heap.size 29 (gmV g) := by obtain ⟨v1, v4, _, _, _, _, h, _⟩ := h; exact h
theorem bd_empty {bd : ByteArray} (h : bd.size = 0) : bd = .empty := by
  have : bd.data = #[] := Array.size_eq_zero_iff.1 h
  cases bd; cases this; rfl
theorem own_low {w : World} {B B' n size : Nat} {t : TypeId} {v : Value} {xs : List Value} (h : w.ownsRow B t size v n xs) (hB : B' ≤ B) : w.ownsRow B' t size v n xs := by
  obtain ⟨o1, o2 | ⟨g7, c7, cu7, ev, hg7, o2⟩⟩ := h
  · exact ⟨o1, .inl o2⟩
  · exact ⟨o1, .inr ⟨g7, c7, cu7, ev, Nat.le_trans hB hg7, o2⟩⟩
theorem US.size {w0 w : World} {F : Nat → Prop} {u m : Nat} {g : Gm} {E : List Tx} {e : CE} (h : US w0 F u m g E e w) : w0.heap.size ≤ w.heap.size := by obtain ⟨v1, v4, _, _, _, h, _⟩ := h; exact h.size
set_option maxRecDepth 100000 in
set_option maxHeartbeats 8000000 in
theorem utake_zero (u m : Nat) (F : Nat → Prop) (e : CE) (g : Gm) (w : World) (h : UQ w u m F e) (hm : m ≤ 900) (hx : checkX e g = 0) (h0 : g.sq = 0) :
    Calls Try.prog 18 #[.pointer (some ⟨u, 0, none⟩), .agg (gmV g)] w (UTakeRes u m F e g w) := by
  obtain ⟨q1, q2, q3, q4, q5, q6, q7⟩ := taken hx
  obtain ⟨E, hS⟩ := us_start g h
  have hne := hS.bxne
  have FIN : Hid (∀ w' v, w'.ownsRow w.heap.size 9 1 v 0 [] → US w F u m g E (settleE e g.ak.toNat) w' → UTakeRes u m F e g w (.returned (.tuple #[v, .int .i64 0])) w') := Lib.hid fun w' v ho hU =>
    ⟨v, by rw [hx], by unfold takeL; rw [if_neg (by simp [hx]), if_pos h0]; exact ho, by unfold takeE; rw [if_neg (by simp [hx]), if_pos h0]; exact hU.did (by omega)⟩
  obtain ⟨a1, c1, a4, c4, k0, k1, k2, k3, k4, k5, f1, f4, f5, t1, t4, hA⟩ := hS.at_
  have hM := hS.box
  have hgot : e.got ≤ 32 * m := by obtain ⟨_, _, _, h, _⟩ := h; exact h.gotn
  have hwg : IntKind.i64.wrap ((e.got : Int) + 32) = (e.got : Int) + 32 := by rw [IntKind.wrap_i64]; omega
  clear h
  generalize UTakeRes u m F e g w = RES at *
  obtain ⟨cl, up, gep, sq, ak, bd⟩ := g
  dsimp only at *
  subst h0
  obtain ⟨K, rfl⟩ : ∃ K : Nat, ak = (K : Int) := ⟨ak.toNat, by omega⟩
  have h9n : bd.toList.isEmpty = true := by rw [bd_empty (q6 rfl), ByteArray.toList_eq]; rfl
  subst q1
  have hKg : K ≤ e.given := by omega
  rw [Int.toNat_natCast] at hA FIN
  have h3d : decide ((K : Int) < 0) = false := decide_eq_false (by omega)
  have h4d : decide ((e.given : Int) < (K : Int)) = false := decide_eq_false (by omega)
  have h5d : decide ((e.got : Int) + 32 < 0) = false := decide_eq_false (by omega)
  have HA : Hid (∀ w', Below (w.alloc (.cells (gmV ⟨cl, up, e.ep, 0, K, bd⟩) 29)).heap.size (w.alloc (.cells (gmV ⟨cl, up, e.ep, 0, K, bd⟩) 29)) w' → Calls Try.prog 29 #[.slice a1 e.op.length c1, .int .i64 (K : Int)] w' (fun r w2 => ∃ a5 n5 c5, r = .returned (.slice a5 n5 c5) ∧ w2.cell? ⟨u, 1, none⟩ = some (.slice a1 e.op.length c1) ∧ w2.frozen? ⟨u, 1, none⟩ = false ∧ w2.cell? ⟨w.heap.size, 4, none⟩ = some (.int .i64 (K : Int)) ∧ US w F u m ⟨cl, up, e.ep, 0, K, bd⟩ E (settleE e K) (w2.setCell ⟨u, 1, none⟩ (.slice a5 n5 c5)))) := Lib.hid fun w' hb => (hA w' hb).mono fun r w2 ⟨a5, n5, c5, h1, h2, h3, hz, h4⟩ => ⟨a5, n5, c5, h1, h2, h3, hz, h4 hKg⟩
  clear hS hA t1 t4 f4 f5 k4 k5
  unfold gmV at *
  dsimp only at *
  generalize e.op.length = n1 at *
  generalize hep : e.ep = gep at *
  generalize hgv : e.given = gv at *
  generalize hgt : e.got = gt at *
  go_enter Try.func18, Try.ntmps18
  go_upto_region 3 with (fail)
  generalize hGen : w.alloc (.cells #[.int .i64 cl, .bool up, .int .i64 gep, .int .i64 0, .int .i64 K, .string bd] 29) = W at hM HA k0 k1 k2 k3 f1 ⊢
  clear hGen
  have m2 : W.cell? ⟨w.heap.size, 2, none⟩ = some (.int .i64 gep) := hM.cell 2
  have m3 : W.cell? ⟨w.heap.size, 3, none⟩ = some (.int .i64 0) := hM.cell 3
  have m4 : W.cell? ⟨w.heap.size, 4, none⟩ = some (.int .i64 K) := hM.cell 4
  have m5 : W.cell? ⟨w.heap.size, 5, none⟩ = some (.string bd) := hM.cell 5
  clear hM hep hgv hgt
  go_wp2_with fail
  go_quiet (fail)
  generalize nq = nq1
  go_wp2_with fail
  go_quiet (fail)
  go_wp2_with fail
  have e1 : (W.drewN (nq1 + nq)).cell? ⟨u, 1, none⟩ = some (.slice a1 n1 c1) := k1
  have e4 : (W.drewN (nq1 + nq)).cell? ⟨w.heap.size, 4, none⟩ = some (.int .i64 K) := m4
  have e5 : (W.drewN (nq1 + nq)).cell? ⟨w.heap.size, 5, none⟩ = some (.string bd) := m5
  have HA2 : Hid (∀ w', Below (W.drewN (nq1 + nq)).heap.size (W.drewN (nq1 + nq)) w' → Calls Try.prog 29 #[.slice a1 n1 c1, .int .i64 (K : Int)] w' (fun r w2 => ∃ a5 n5 c5, r = .returned (.slice a5 n5 c5) ∧ w2.cell? ⟨u, 1, none⟩ = some (.slice a1 n1 c1) ∧ w2.frozen? ⟨u, 1, none⟩ = false ∧ w2.cell? ⟨w.heap.size, 4, none⟩ = some (.int .i64 (K : Int)) ∧ US w F u m ⟨cl, up, gep, 0, K, bd⟩ E (settleE e K) (w2.setCell ⟨u, 1, none⟩ (.slice a5 n5 c5)))) := Lib.hid fun w' hb => HA.out w' ((below_drewN (Below.refl _ _) _).trans hb)
  clear HA k0 k1 k2 k3 m2 m3 m4 m5 f1
  generalize hGen : W.drewN (nq1 + nq) = W2 at e1 e4 e5 HA2 ⊢
  clear hGen
  go_cut [] (fun wx => US w F u m ⟨cl, up, gep, 0, K, bd⟩ E (settleE e K) wx)
  case first =>
    clear FIN
    go_region_law (go_simp; go_at_call 29; (with_reducible refine (HA2.out _ ?_).mono ?_); (first | assumption | exact (Below.refl _ _).drew | exact Below.refl _ _); rintro r w3 ⟨a5, n5, c5, rfl, d1, g1, hz, hU⟩; have HU := Lib.hid hU; clear hU hz)
    all_goals
      clear HA2 e1 e4 e5
      go_wp2_with fail
      go_meet
      exact HU.out
  case rest =>
    have HU := Lib.hid hcut
    clear hcut HA2 e1 e4 e5
    generalize wc = W4 at *
    have hB5 := below_box W4 (.cells #[] 9)
    have HE : Hid (RES (.returned (.tuple #[.slice (some ⟨W4.heap.size, 0, none⟩) 0 0, .int .i64 0])) (W4.alloc (.cells #[] 9))) := Lib.hid (FIN.out _ _ (own_low (own_fresh W4 _ _) HU.out.size) (HU.out.below hB5))
    have m3 : (W4.alloc (.cells #[] 9)).cell? ⟨w.heap.size, 3, none⟩ = some (.int .i64 0) := ((HU.out.below hB5).box).cell 3
    clear hB5 HU FIN
    go_wp2_with fail
    exact HE.out
end Go.Proofs.Ytbbikibkijncgaa.Cord
