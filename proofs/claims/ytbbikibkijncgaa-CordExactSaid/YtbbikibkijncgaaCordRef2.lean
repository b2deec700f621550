/- Out of the document's own end. -/
import Derived.Test.YtbbikibkijncgaaCordRef1
namespace Go.Proofs.Ytbbikibkijncgaa.Cord
set_option maxRecDepth 100000
open Go.RowKit
open Go.Proofs.Ytbbikibkijncgaa.Mem
theorem UA.set5 {w : World} {u m : Nat} {v1 v4 : Value} {E : List Tx} {e : CE} (h : UA w u m v1 v4 E e) (d : Bool) : UA (w.setCell ⟨u, 5, none⟩ (.bool d)) u m v1 v4 E { e with due := d } :=
  ⟨by simpa [CE.given] using h.blk.set_ 5 (.bool d), own_set h.r1 h.n1 _ _, own_set h.r4 h.n4 _ _, h.n1, h.n4, h.d, ⟨h.wf.win, h.wf.ol, h.wf.e1, h.wf.e2⟩, h.ea, h.lenE, h.giv, h.gotn⟩
theorem own_fresh (w : World) (t : TypeId) (size : Nat) : (w.alloc (.cells #[] t)).ownsRow w.heap.size t size (.slice (some ⟨w.heap.size, 0, none⟩) 0 0) 0 [] :=
  ⟨by simp, .inr ⟨w.heap.size, 0, #[], rfl, Nat.le_refl _, World.alloc_heap_new _ _, Nat.le_refl _, by decide, by simp, by simp⟩⟩
def UOutRes (u m : Nat) (F : Nat → Prop) (e : CE) (w : World) (r : Ending) (w' : World) : Prop :=
  ∃ v, r = .returned v ∧ w'.ownsRow w.heap.size 29 6 v (outL e).length (gramsV (outL e)) ∧ UQ w' u m F (outE e) ∧ Touch F w w'
set_option maxRecDepth 100000 in
set_option maxHeartbeats 4000000 in
theorem uout_any (u m : Nat) (F : Nat → Prop) (e : CE) (w : World) (h : UQ w u m F e) :
    Calls Try.prog 16 #[.pointer (some ⟨u, 0, none⟩)] w (UOutRes u m F e w) := by
  obtain ⟨v1, v4, E, h, hF, hl⟩ := h
  have hol := h.wf.ol
  obtain ⟨av, cv, rfl⟩ := own_shape h.r1
  have H := Lib.hid h
  have FINX : Hid (∀ w5 v5, w5.ownsRow w.heap.size 29 6 v5 (outL e).length (gramsV (outL e)) → Below w.heap.size w w5 → UOutRes u m F e w (.returned v5) (w5.setCell ⟨u, 5, none⟩ (.bool false))) := Lib.hid fun w5 v5 ho hb => by
    have hp := h.blk.lt
    have hE5 : UA w5 u m (.slice av e.op.length cv) v4 E e := h.same fun k hk _ => hb.block k hk
    exact ⟨v5, rfl, own_set ho (fun x => by have := own_ge ho u x; omega) 5 _, ⟨_, _, E, hE5.set5 false, hF, fun k hk => by have := hl k hk; have := hb.size; simp; omega⟩, (Touch.of_below hb).set_ (.inl (hF u (.inl rfl))) 5 _⟩
  have HM : Hid ((w.alloc (.cells #[] 29)).ownsRow w.heap.size 29 6 (.slice (some ⟨w.heap.size, 0, none⟩) 0 0) 0 (gramsV ((gmsE e).take 0)) ∧ Below w.heap.size w (w.alloc (.cells #[] 29))) := Lib.hid ⟨own_fresh _ _ _, below_box _ _⟩
  clear h
  go_enter Try.func16, Try.ntmps16
  go_wp2_with fail
  go_loopw [3, 4] (fun t i wr => ∃ j : Nat, j ≤ e.op.length ∧ i = .int .i64 (j : Int) ∧ (∃ a c, t = .slice a j c) ∧ Hid (wr.ownsRow w.heap.size 29 6 t j (gramsV ((gmsE e).take j)) ∧ Below w.heap.size w wr)) (fun _ i _ => e.op.length - (intOf i).toNat)
  case atStart => exact ⟨0, Nat.zero_le _, rfl, ⟨_, _, rfl⟩, HM⟩
  case round =>
    obtain ⟨j, hj, rfl, ⟨at_, ct, rfl⟩, HK⟩ := hrel
    clear HM
    have hE : UA wr u m (.slice av e.op.length cv) v4 E e := H.out.same fun k hk _ => HK.out.2.block k hk
    obtain ⟨c0, c1, _, c3, _, c5⟩ := hE.at_
    by_cases hlt : j < e.op.length
    · have hx : e.op[j]? = some e.op[j] := List.getElem?_eq_getElem hlt
      have htn : gramsV ((gmsE e).take (j + 1)) = gramsV ((gmsE e).take j ++ [gm e j e.op[j]]) := by rw [List.take_add_one, gms_get hx]; rfl
      have hx2 : (numE e)[j]? = some ((e.ack : Int) + 1 + j, e.op[j]) := numF_get _ _ _ _ hx
      generalize e.op[j] = y at hx htn hx2
      obtain ⟨g, e1, hgl, hc⟩ := (txs_of (by rw [num_len]; exact hE.r1) (num_len e).symm).2 (by omega)
      subst e1
      obtain ⟨d0, d1⟩ := hc j _ hx2
      dsimp only at d0 d1
      have hcv : e.op.length ≤ cv := by
        rcases hE.r1.2 with ⟨e2, _⟩ | ⟨g2, c2, cu, e2, _, _, h3, _⟩
        · cases e2
        · injection e2 with _ _ e3; rw [e3]; exact h3
      have hlj : ((gmsE e).take j).length = j := by rw [List.length_take, gms_len]; omega
      have HO : Hid (wr.ownsRow w.heap.size 29 6 (.slice at_ j ct) ((gmsE e).take j).length (gramsV ((gmsE e).take j)) ∧ Below w.heap.size w wr) := Lib.hid (by rw [hlj]; exact HK.out)
      have FIN : Hid (∀ v5 w5, w5.ownsRow w.heap.size 29 6 v5 ((gmsE e).take j ++ [gm e j y]).length (gramsV ((gmsE e).take j ++ [gm e j y])) ∧ Below w.heap.size w w5 → (∃ a c, v5 = .slice a (j + 1) c) ∧ (w5.ownsRow w.heap.size 29 6 v5 (j + 1) (gramsV ((gmsE e).take (j + 1))) ∧ Below w.heap.size w w5)) := Lib.hid fun v5 w5 ho => by
        have hln : ((gmsE e).take j ++ [gm e j y]).length = j + 1 := by rw [List.length_append, hlj]; rfl
        rw [hln, ← htn] at ho
        exact ⟨own_shape ho.1, ho⟩
      have HL2 := Lib.hid (show ((gmsE e).take j).length ≤ 30000 by omega)
      have HY : Hid (∀ w', Below w.heap.size w w' → w'.cell? ⟨u, 0, none⟩ = some (.int .i64 e.ep) ∧ w'.cell? ⟨u, 1, none⟩ = some (.slice (some ⟨g, 0, none⟩) e.op.length cv) ∧ w'.cell? ⟨u, 3, none⟩ = some (.int .i64 e.got) ∧ w'.cell? ⟨g, j * 2, none⟩ = some (.int .i64 ((e.ack : Int) + 1 + j)) ∧ w'.cell? ⟨g, j * 2 + 1, none⟩ = some (.string y)) := Lib.hid fun w' hb => by
        have h9 : UA w' u m (.slice (some ⟨g, 0, none⟩) e.op.length cv) v4 E e := H.out.same fun k hk _ => hb.block k hk
        have k9 := h9.at_
        obtain ⟨g', e9, _, hc9⟩ := (txs_of (by rw [num_len]; exact h9.r1) (num_len e).symm).2 (by omega)
        injection e9 with e9; injection e9 with e9; subst e9
        have l9 := hc9 j _ hx2
        exact ⟨k9.1, k9.2.1, k9.2.2.2.1, l9.1, l9.2⟩
      have HZ : Hid (∀ w', Below wr.heap.size wr w' → w'.cell? ⟨u, 0, none⟩ = some (.int .i64 e.ep) ∧ w'.cell? ⟨u, 1, none⟩ = some (.slice (some ⟨g, 0, none⟩) e.op.length cv) ∧ w'.cell? ⟨u, 3, none⟩ = some (.int .i64 e.got) ∧ w'.cell? ⟨g, j * 2, none⟩ = some (.int .i64 ((e.ack : Int) + 1 + j)) ∧ w'.cell? ⟨g, j * 2 + 1, none⟩ = some (.string y)) := Lib.hid fun w' hb => HY.out w' (HK.out.2.trans (hb.mono HK.out.2.size))
      clear hx htn hE hlj hc hx2 HK c5
      go_wp2_with fail
      go_region_held3 (fun w' => w'.cell? ⟨u, 0, none⟩ = some (.int .i64 e.ep) ∧ w'.cell? ⟨u, 1, none⟩ = some (.slice (some ⟨g, 0, none⟩) e.op.length cv) ∧ w'.cell? ⟨u, 3, none⟩ = some (.int .i64 e.got) ∧ w'.cell? ⟨g, j * 2, none⟩ = some (.int .i64 ((e.ack : Int) + 1 + j)) ∧ w'.cell? ⟨g, j * 2 + 1, none⟩ = some (.string y)) (first | assumption | exact HZ.out _ (below_box _ _) | exact HZ.out _ ((below_box _ _).drew) | exact HZ.out _ ((Below.refl _ _).drew) | exact HZ.out _ (Below.refl _ _)) (first
        | (refine step_out (W0 := w) (wr := wr) rfl (.tmp 17) (.tmp 43) rfl (.slice at_ j ct) ((gmsE e).take j) (by simp [Act.eval]) wr.heap.size (gm e j y) (by simp [Act.eval]) ?hp HO.out.1 HO.out.2 HL2.out ?_; (case hp => first | exact ⟨(below_box wr _).drew, Blk.new wr _ _⟩ | exact ⟨below_box wr _, Blk.new wr _ _⟩); intro v5 w5 h5; have HE5 := Lib.hid (FIN.out v5 w5 h5); have hs5 := HY.out w5 h5.2; obtain ⟨a5, c5', e5⟩ := HE5.out.1; subst e5; clear h5))
      all_goals
        clear FIN HO HZ HY
        go_wp2_with fail
        go_roundw
        case rel => exact ⟨j + 1, by omega, by go_num, ⟨_, _, rfl⟩, HE5.out.2⟩
        case measure => simp [intOf]; omega
    · obtain rfl : j = e.op.length := by omega
      obtain ⟨_, _, _, _, f5⟩ := hE.fr
      have h9 := HK.out.1
      rw [List.take_of_length_le (by rw [gms_len]; exact Nat.le_refl _)] at h9
      by_cases h0 : e.op = []
      · have h0l : e.op.length = 0 := by rw [h0]; rfl
        have h0i : ((e.op.length : Int) == 0) = true := by rw [h0l]; rfl
        cases hd : e.due with
        | true =>
          have hoe : outL e = [gmA e] := by unfold outL; rw [if_pos h0, if_pos hd]
          rw [hoe] at FINX
          rw [hd] at c5
          have HO : Hid (wr.ownsRow w.heap.size 29 6 (.slice at_ e.op.length ct) ([] : List Gm).length (gramsV []) ∧ Below w.heap.size w wr) := Lib.hid (by
            have h9 := HK.out
            rw [h0l] at h9 ⊢
            exact h9)
          have FIN : Hid (∀ v5 w5, w5.ownsRow w.heap.size 29 6 v5 ([] ++ [gmA e]).length (gramsV ([] ++ [gmA e])) ∧ Below w.heap.size w w5 → (∃ a c, v5 = .slice a 1 c) ∧ UOutRes u m F e w (.returned v5) (w5.setCell ⟨u, 5, none⟩ (.bool false)) ∧ w5.cell? ⟨u, 5, none⟩ = some (.bool true) ∧ w5.frozen? ⟨u, 5, none⟩ = false) := Lib.hid fun v5 w5 ho =>
            ⟨own_shape ho.1, FINX.out w5 v5 ho.1 ho.2, by
              have h9 : UA w5 u m _ v4 E e := H.out.same fun k hk _ => ho.2.block k hk
              exact ⟨by rw [← hd]; exact h9.at_.2.2.2.2.2, h9.fr.2.2.2.2⟩⟩
          clear FINX HK H hE h9
          generalize e.op.length = mm at *
          clear h0l
          go_wp2_with fail
          go_region_law (refine step_out (W0 := w) (wr := wr) rfl (.tmp 54) (.tmp 64) rfl (.slice at_ mm ct) [] (by simp [Act.eval]) wr.heap.size (gmA e) (by simp [Act.eval]) ?hp HO.out.1 HO.out.2 (by simp) ?_; (case hp => first | exact ⟨(below_box wr _).drew, Blk.new wr _ _⟩ | exact ⟨below_box wr _, Blk.new wr _ _⟩); intro v5 w5 h5; have HE5 := Lib.hid (FIN.out v5 w5 h5); clear h5)
          all_goals
            obtain ⟨a5, c5', rfl⟩ := HE5.out.1
            have d5 := HE5.out.2.2.1
            have g5 := HE5.out.2.2.2
            clear FIN HO
            go_wp2
            go_ret
            exact HE5.out.2.1
        | false =>
          have hoe : outL e = gmsE e := by unfold outL; rw [if_pos h0, hd]; unfold gmsE; rw [h0]; rfl
          rw [hd] at c5
          have HE := Lib.hid (FINX.out wr (.slice at_ e.op.length ct) (by rw [hoe, gms_len]; exact h9) HK.out.2)
          clear FINX HK H hE h9 h0l
          generalize e.op.length = mm at *
          go_wp2
          go_ret
          exact HE.out
      · have h0l : ((e.op.length : Int) == 0) = false := by
          rw [beq_eq_false_iff_ne]
          have : e.op.length ≠ 0 := fun x => h0 (List.eq_nil_of_length_eq_zero x)
          omega
        have hoe : outL e = gmsE e := by unfold outL; rw [if_neg h0]
        have HE := Lib.hid (FINX.out wr (.slice at_ e.op.length ct) (by rw [hoe, gms_len]; exact h9) HK.out.2)
        clear FINX HK H hE h9
        go_wp2
        go_ret
        exact HE.out
end Go.Proofs.Ytbbikibkijncgaa.Cord
