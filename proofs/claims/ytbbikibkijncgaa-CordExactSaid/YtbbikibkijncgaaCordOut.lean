/- Out. -/
import Derived.Test.YtbbikibkijncgaaCordTake
namespace Go.Proofs.Ytbbikibkijncgaa.Cord
set_option maxRecDepth 100000
open Go.RowKit
open Go.Proofs.Ytbbikibkijncgaa.Mem
def gramsV (l : List Gm) : List Value := l.flatMap fun g => (gmV g).toList
theorem grams_len : ∀ l : List Gm, (gramsV l).length = l.length * 6
  | [] => rfl
  | g :: r => by
    have := grams_len r
    unfold gramsV at this ⊢
    rw [List.flatMap_cons, List.length_append, this, List.length_cons]; simp [gmV]; omega
theorem grams_app (a b : List Gm) : gramsV (a ++ b) = gramsV a ++ gramsV b := by simp [gramsV]
theorem grams_one (g : Gm) : gramsV [g] = (gmV g).toList := by simp [gramsV]
theorem grams_at : ∀ (l : List Gm) (i : Nat) (g : Gm), l[i]? = some g → ∀ j, j < 6 → (gramsV l)[i * 6 + j]? = (gmV g).toList[j]?
  | [], i, g, h, j, hj => by simp at h
  | y :: r, 0, g, h, j, hj => by
    obtain rfl : y = g := by simpa using h
    unfold gramsV
    rw [List.flatMap_cons, List.getElem?_append_left (by simp [gmV]; omega)]; congr 1; omega
  | y :: r, i + 1, g, h, j, hj => by
    have := grams_at r i g (by simpa using h) j hj
    unfold gramsV at this ⊢
    rw [List.flatMap_cons, List.getElem?_append_right (by simp [gmV]; omega), ← this]
    congr 1; simp [gmV]; omega
theorem info_gram : (Try.prog.info? 29).map (fun i => (i.zero, i.size, i.bytes)) = some (some (.agg #[.int .i64 0, .bool false, .int .i64 0, .int .i64 0, .int .i64 0, .string .empty]), 6, 56) := by kernel_rfl
/-- append of one datagram to an own row -/
theorem wpList_appG {w : World} {ops : Array Oper} {rest : List Oper} {o : Oper} {a : Act} {Q : Exit → Act → World → Prop} (hgd : o.guard = none) (s x : Operand)
    (ho : o.op = .call { callee := .builtin .append, args := #[s, x], argTypes := #[38, 38] }) (B : Nat)
    (v : Value) (L : List Gm) (hs : a.eval s = v) (hown : w.ownsRow B 29 6 v L.length (gramsV L)) (vb : Nat) (y : Gm) (hx : a.eval x = .slice (some ⟨vb, 0, none⟩) 1 1)
    (hb : Blk w vb 29 (gmV y)) (hn : L.length ≤ 30000) (hB : B ≤ w.heap.size)
    (h : ∀ v' w', w'.ownsRow B 29 6 v' (L ++ [y]).length (gramsV (L ++ [y])) → w.grownBy w' v.ownBlock → (v'.ownBlock = v.ownBlock ∨ v'.ownBlock = some w.heap.size) → wpList Try.prog ops Q rest (a.put o.dst v') w') : wpList Try.prog ops Q (o :: rest) a w := by
  obtain ⟨i0, hi, hz0, hz1, hz2⟩ := info_parts info_gram
  refine wpList_append_own_at w hgd s x 38 ho B 29 i0 (.agg #[.int .i64 0, .bool false, .int .i64 0, .int .i64 0, .int .i64 0, .string .empty]) 6 56 Try.underlying38 hi hz0 hz1 hz2 rfl (by decide) v L.length (gramsV L) hs hown ⟨vb, 0, none⟩ 1 1 (gmV y).toList hx rfl (fun j z hj => ?_) (fun z hz => ?_) (by unfold maxLen; omega) (by omega) hB ?_
  · rw [Addr.add_lit, hb.cell, Nat.zero_add, ← Array.getElem?_toList]; exact hj
  · simp [gmV] at hz; rcases hz with rfl | rfl | rfl | rfl | rfl | rfl <;> rfl
  · intro v' w' h1 h2 _ h4
    refine h v' w' ?_ h2 h4
    rw [List.length_append, grams_app, grams_one]; exact h1
theorem step_appG {ops : Array Oper} {o : Oper} {a : Act} {w : World} {K : Act → World → Prop} {Q : Exit → Act → World → Prop} {E : Prop} (hg : o.guard = none) (s x : Operand)
    (hop : o.op = .call { callee := .builtin .append, args := #[s, x], argTypes := #[38, 38] }) (B : Nat)
    (v : Value) (L : List Gm) (hs : a.eval s = v) (hown : w.ownsRow B 29 6 v L.length (gramsV L)) (vb : Nat) (y : Gm) (hx : a.eval x = .slice (some ⟨vb, 0, none⟩) 1 1)
    (hb : Blk w vb 29 (gmV y)) (hn : L.length ≤ 30000) (hB : B ≤ w.heap.size)
    (hK : ∀ v' w', w'.ownsRow B 29 6 v' (L ++ [y]).length (gramsV (L ++ [y])) → w.grownBy w' v.ownBlock → K (a.put o.dst v') w') :
    if Region.wanted o (yielded ops a.tmps) = true then Oper.wp Try.prog o a w K Q else E := by
  obtain ⟨i0, hi, hz0, hz1, hz2⟩ := info_parts info_gram
  obtain ⟨v', w', hr, h2, h3, _, _⟩ := run_append_own_at (P := Try.prog) w B 38 o.type 29 i0 (.agg #[.int .i64 0, .bool false, .int .i64 0, .int .i64 0, .int .i64 0, .string .empty]) 6 56 Try.underlying38 hi hz0 hz1 hz2 rfl (by decide) v L.length (gramsV L) hown ⟨vb, 0, none⟩ 1 1 (gmV y).toList rfl
    (fun j z hj => by rw [Addr.add_lit, hb.cell, Nat.zero_add, ← Array.getElem?_toList]; exact hj) (fun z hz => by simp [gmV] at hz; rcases hz with rfl | rfl | rfl | rfl | rfl | rfl <;> rfl) (by unfold maxLen; omega) (by omega) hB
  refine step_append_known hg s x 38 38 hop v (.slice (some ⟨vb, 0, none⟩) 1 1) hs hx hr (hK v' w' ?_ h3)
  rw [List.length_append, grams_app, grams_one]; exact h2
theorem step_out {W0 wr : World} {ops : Array Oper} {o : Oper} {a : Act} {w : World} {K : Act → World → Prop} {Q : Exit → Act → World → Prop} {E : Prop} (hg : o.guard = none) (s x : Operand)
    (hop : o.op = .call { callee := .builtin .append, args := #[s, x], argTypes := #[38, 38] })
    (v : Value) (L : List Gm) (hs : a.eval s = v) (vb : Nat) (y : Gm) (hx : a.eval x = .slice (some ⟨vb, 0, none⟩) 1 1) (hP : Below wr.heap.size wr w ∧ Blk w vb 29 (gmV y))
    (hown : wr.ownsRow W0.heap.size 29 6 v L.length (gramsV L)) (hB : Below W0.heap.size W0 wr) (hn : L.length ≤ 30000)
    (hK : ∀ v' w', w'.ownsRow W0.heap.size 29 6 v' (L ++ [y]).length (gramsV (L ++ [y])) ∧ Below W0.heap.size W0 w' → K (a.put o.dst v') w') :
    if Region.wanted o (yielded ops a.tmps) = true then Oper.wp Try.prog o a w K Q else E := by
  have hB2 : Below W0.heap.size W0 w := hB.trans (hP.1.mono hB.size)
  exact step_appG hg s x hop W0.heap.size v L hs (own_below hown hP.1) vb y hx hP.2 hn hB2.size fun v' w' h1 h2 => hK v' w' ⟨h1, hB2.grown h2 hB2.size (fun k e => own_ge hown k e)⟩
theorem gms_len (e : CE) : (gmsE e).length = e.op.length := by simp [gmsE]
theorem gms_get {e : CE} {j : Nat} {s : ByteArray} (h : e.op[j]? = some s) : (gmsE e)[j]? = some (gm e j s) := by
  unfold gmsE
  rw [List.getElem?_map, List.getElem?_zipIdx, h]; simp
def OutRes (p n : Nat) (F : Nat → Prop) (e : CE) (w : World) (r : Ending) (w' : World) : Prop :=
  ∃ v, r = .returned v ∧ w'.ownsRow w.heap.size 29 6 v (outL e).length (gramsV (outL e)) ∧ EQ w' p n F (outE e) ∧ Touch F w w'
theorem EA.cell2 {w : World} {p b n : Nat} {v : Value} {e : CE} (h : EA w p b n v e) {j : Nat} {s : ByteArray} (hj : e.op[j]? = some s) : ∃ g c, v = .slice (some ⟨g, 0, none⟩) e.op.length c ∧ e.op.length ≤ c ∧ w.cell? ⟨g, j, none⟩ = some (.string s) ∧ g < w.heap.size ∧ v.ownBlock = some g := by
  have hlt := (List.getElem?_eq_some_iff.1 hj).1
  rcases h.own.2 with ⟨_, h0⟩ | ⟨g, c, cur, rfl, _, hg, hnc, _, hcs, ht⟩
  · omega
  · refine ⟨g, c, rfl, hnc, ?_, (Array.getElem?_eq_some_iff.1 hg).1, rfl⟩
    have c2 := strs_get hj
    rw [← ht, List.getElem?_take_of_lt (by omega), Array.getElem?_toList] at c2
    exact (Blk.cell (show Blk w g _ _ from hg) _).trans c2
set_option maxRecDepth 100000 in
set_option maxHeartbeats 4000000 in
theorem out_any (p n : Nat) (F : Nat → Prop) (e : CE) (w : World) (h : EQ w p n F e) (hn : n ≤ 1000000) :
    Calls Try.prog 15 #[.pointer (some ⟨p, 0, none⟩)] w (OutRes p n F e w) := by
  have hOW := owes_any p n F e w h
  obtain ⟨b, v, h, hF, hl⟩ := h
  have hgv := h.given
  have hgn := h.gotn
  have hol := h.wf.ol
  unfold CE.given at hgv
  by_cases how : owesB e = true
  · have H := Lib.hid h
    have HOW := Lib.hid hOW
    obtain ⟨c0, c1, c2, c3, _, c5⟩ := h.at_
    obtain ⟨_, _, _, f5⟩ := h.fr
    obtain ⟨av, cv, rfl⟩ := own_shape h.own
    rw [how] at HOW
    have FINX : Hid (∀ w5 v5, w5.ownsRow w.heap.size 29 6 v5 (outL e).length (gramsV (outL e)) → Below w.heap.size w w5 → OutRes p n F e w (.returned v5) (w5.setCell ⟨p, 5, none⟩ (.bool false))) := Lib.hid fun w5 v5 ho hb => by
      have hp := h.blk.lt
      have hE5 : EA w5 p b n (.slice av e.op.length cv) e := h.same fun k hk _ => hb.block k hk
      refine ⟨v5, rfl, own_set ho (fun x => by have := own_ge ho p x; omega) 5 _, ⟨b, _, hE5.set5 false, hF, fun k hk => by have := hl k hk; have := hb.size; simp; omega⟩, (Touch.of_below hb).set_ (.inl (hF p (.inl rfl))) 5 _⟩
    have HM : Hid (w.ownsRow w.heap.size 29 6 (.slice none 0 0) 0 (gramsV ((gmsE e).take 0)) ∧ Below w.heap.size w w) := Lib.hid ⟨own_nil _ _ _ _, Below.refl _ _⟩
    clear h hOW
    go_enter Try.func15, Try.ntmps15
    go_wp2_with fail
    refine HOW.out.mono ?_
    rintro r w2 ⟨rfl, rfl⟩
    go_wp2_with fail
    go_loopw [3, 14] (fun t i wr => ∃ j : Nat, j ≤ e.op.length ∧ i = .int .i64 (j : Int) ∧ (∃ a c, t = .slice a j c) ∧ Hid (wr.ownsRow w.heap.size 29 6 t j (gramsV ((gmsE e).take j)) ∧ Below w.heap.size w wr)) (fun _ i _ => e.op.length - (intOf i).toNat)
    case atStart => exact ⟨0, Nat.zero_le _, rfl, ⟨_, _, rfl⟩, HM⟩
    case round =>
      obtain ⟨j, hj, rfl, ⟨at_, ct, rfl⟩, HK⟩ := hrel
      clear HM
      have hE : EA wr p b n (.slice av e.op.length cv) e := H.out.same fun k hk _ => HK.out.2.block k hk
      obtain ⟨c0, c1, c2, c3, _, c5⟩ := hE.at_
      by_cases hlt : j < e.op.length
      · have hx : e.op[j]? = some e.op[j] := List.getElem?_eq_getElem hlt
        have htn : gramsV ((gmsE e).take (j + 1)) = gramsV ((gmsE e).take j ++ [gm e j e.op[j]]) := by rw [List.take_add_one, gms_get hx]; rfl
        generalize e.op[j] = y at hx htn
        obtain ⟨g, c, e1, hc, d0, _, _⟩ := hE.cell2 hx
        injection e1 with e1 e2 e3
        subst e1; subst e3
        have hw1 : IntKind.i64.wrap ((e.ack : Int) + 1) = (e.ack : Int) + 1 := by rw [IntKind.wrap_i64]; omega
        have hw2 : IntKind.i64.wrap ((e.ack : Int) + 1 + (j : Int)) = (e.ack : Int) + 1 + (j : Int) := by rw [IntKind.wrap_i64]; omega
        have hlj : ((gmsE e).take j).length = j := by rw [List.length_take, gms_len]; omega
        have HO : Hid (wr.ownsRow w.heap.size 29 6 (.slice at_ j ct) ((gmsE e).take j).length (gramsV ((gmsE e).take j)) ∧ Below w.heap.size w wr) := Lib.hid (by rw [hlj]; exact HK.out)
        have FIN : Hid (∀ v5 w5, w5.ownsRow w.heap.size 29 6 v5 ((gmsE e).take j ++ [gm e j y]).length (gramsV ((gmsE e).take j ++ [gm e j y])) ∧ Below w.heap.size w w5 → (∃ a c, v5 = .slice a (j + 1) c) ∧ (w5.ownsRow w.heap.size 29 6 v5 (j + 1) (gramsV ((gmsE e).take (j + 1))) ∧ Below w.heap.size w w5)) := Lib.hid fun v5 w5 ho => by
          have hln : ((gmsE e).take j ++ [gm e j y]).length = j + 1 := by rw [List.length_append, hlj]; rfl
          rw [hln, ← htn] at ho
          exact ⟨own_shape ho.1, ho⟩
        have HL2 := Lib.hid (show ((gmsE e).take j).length ≤ 30000 by omega)
        clear hx htn hE hlj
        go_wp2_with fail
        go_region_law (refine step_out (W0 := w) (wr := wr) rfl (.tmp 19) (.tmp 37) rfl (.slice at_ j ct) ((gmsE e).take j) (by simp [Act.eval]) wr.heap.size (gm e j y) (by simp [Act.eval]) ?hp HO.out.1 HO.out.2 HL2.out ?_; (case hp => first | exact ⟨(below_box wr _).drew, Blk.new wr _ _⟩ | exact ⟨below_box wr _, Blk.new wr _ _⟩); intro v5 w5 h5; have HE5 := Lib.hid (FIN.out v5 w5 h5); clear h5)
        all_goals
          obtain ⟨a5, c5', rfl⟩ := HE5.out.1
          clear FIN HO HK
          go_wp2
          go_roundw
          case rel => exact ⟨j + 1, by omega, by go_num, ⟨_, _, rfl⟩, HE5.out.2⟩
          case measure => simp [intOf]; omega
      · obtain rfl : j = e.op.length := by omega
        obtain ⟨_, _, _, f5⟩ := hE.fr
        by_cases h0 : e.op = []
        · have h0l : e.op.length = 0 := by rw [h0]; rfl
          have hd : e.due = true := by unfold owesB at how; simpa [h0l] using how
          have hoe : outL e = [gmA e] := by unfold outL; rw [if_pos h0, if_pos hd]
          rw [hoe] at FINX
          have HO : Hid (wr.ownsRow w.heap.size 29 6 (.slice at_ e.op.length ct) ([] : List Gm).length (gramsV []) ∧ Below w.heap.size w wr) := Lib.hid (by
            have h9 := HK.out
            rw [h0l] at h9 ⊢
            exact h9)
          have FIN : Hid (∀ v5 w5, w5.ownsRow w.heap.size 29 6 v5 ([] ++ [gmA e]).length (gramsV ([] ++ [gmA e])) ∧ Below w.heap.size w w5 → (∃ a c, v5 = .slice a 1 c) ∧ OutRes p n F e w (.returned v5) (w5.setCell ⟨p, 5, none⟩ (.bool false)) ∧ w5.cell? ⟨p, 5, none⟩ = some (.bool e.due) ∧ w5.frozen? ⟨p, 5, none⟩ = false) := Lib.hid fun v5 w5 ho =>
            ⟨own_shape ho.1, FINX.out w5 v5 ho.1 ho.2, by
              have h9 : EA w5 p b n _ e := H.out.same fun k hk _ => ho.2.block k hk
              exact ⟨h9.at_.2.2.2.2.2, h9.fr.2.2.2⟩⟩
          clear FINX HK H hE
          have h0i : ((e.op.length : Int) == 0) = true := by rw [h0l]; rfl
          generalize e.op.length = m at *
          clear h0l
          go_wp2_with fail
          go_region_law (refine step_out (W0 := w) (wr := wr) rfl (.tmp 43) (.tmp 53) rfl (.slice at_ m ct) [] (by simp [Act.eval]) wr.heap.size (gmA e) (by simp [Act.eval]) ?hp HO.out.1 HO.out.2 (by simp) ?_; (case hp => first | exact ⟨(below_box wr _).drew, Blk.new wr _ _⟩ | exact ⟨below_box wr _, Blk.new wr _ _⟩); intro v5 w5 h5; have HE5 := Lib.hid (FIN.out v5 w5 h5); clear h5)
          all_goals
            obtain ⟨a5, c5', rfl⟩ := HE5.out.1
            have d5 := HE5.out.2.2.1
            have g5 := HE5.out.2.2.2
            clear FIN HO
            go_wp2
            go_ret
            exact HE5.out.2.1
        · have h0l : ((e.op.length : Int) == 0) = false := by
            rw [beq_eq_false_iff_ne]
            have : e.op.length ≠ 0 := fun x => h0 (List.eq_nil_of_length_eq_zero x)
            omega
          have hoe : outL e = gmsE e := by unfold outL; rw [if_neg h0]
          have HE := Lib.hid (FINX.out wr (.slice at_ e.op.length ct) (by rw [hoe, gms_len]; have := HK.out.1; rwa [List.take_of_length_le (by rw [gms_len]; exact Nat.le_refl _)] at this) HK.out.2)
          clear FINX HK H hE
          go_wp2
          go_ret
          exact HE.out
  · have how2 : owesB e = false := by simpa using how
    have hd : e.due = false := by unfold owesB at how2; simp at how2; exact how2.1
    have h0 : e.op = [] := by unfold owesB at how2; simp at how2; exact how2.2
    have ho2 : outE e = e := by unfold outE; cases e; cases hd; rfl
    have HE : Hid (OutRes p n F e w (.returned (.slice none 0 0)) w) := Lib.hid ⟨_, rfl, (by unfold outL; rw [if_pos h0, hd]; exact own_nil _ _ _ _), (by rw [ho2]; exact ⟨b, v, h, hF, hl⟩), Touch.refl _ _⟩
    rw [how2] at hOW
    have HOW := Lib.hid hOW
    clear h hOW hF hl
    go_enter Try.func15, Try.ntmps15
    go_wp2_with fail
    refine HOW.out.mono ?_
    rintro r w2 ⟨rfl, rfl⟩
    go_wp2
    go_ret
    exact HE.out
end Go.Proofs.Ytbbikibkijncgaa.Cord
