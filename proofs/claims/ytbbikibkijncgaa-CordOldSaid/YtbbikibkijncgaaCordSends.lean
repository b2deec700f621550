/- sends. -/
import Derived.Test.YtbbikibkijncgaaCordComes0
namespace Go.Proofs.Ytbbikibkijncgaa.Cord
set_option maxRecDepth 100000
open Go.RowKit
open Go.Proofs.Ytbbikibkijncgaa.Mem
def sendsS (t : TS) (fi : Bool) : TS := if fi then { t with A := outE t.A, pl := t.pl ++ (outL t.A).map fun g => (g, true) } else { t with B := outE t.B, pl := t.pl ++ (outL t.B).map fun g => (g, false) }
def sendsL (t : TS) (fi : Bool) : List (Gm × Bool) := if fi then (outL t.A).map fun g => (g, true) else (outL t.B).map fun g => (g, false)
section
variable {W0 w w' : World} {tp a b n : Nat} {V : Nat → Value} {X : Nat → Prop} {t : TS}
theorem TQ.outA (h : TQ W0 w tp a b n V X t) (hn : n ≤ 1000000) :
    Calls Try.prog 15 #[.pointer (some ⟨a, 0, none⟩)] w fun r w' => ∃ v q, r = .returned (.slice v (outL t.A).length q) ∧ w'.ownsRow w.heap.size 29 6 (.slice v (outL t.A).length q) (outL t.A).length (gramsV (outL t.A)) ∧ TQ W0 w' tp a b n V X { t with A := outE t.A } := by
  refine (h.two.out hn rfl rfl).mono ?_
  rintro r w' ⟨v, q, rfl, ho, h2, hk⟩
  exact ⟨v, q, rfl, ho, h.keep (hk.mono fun _ h => .inl h) (h2.less fun _ hk => .inl hk)⟩
theorem TQ.outB (h : TQ W0 w tp a b n V X t) (hn : n ≤ 1000000) :
    Calls Try.prog 15 #[.pointer (some ⟨b, 0, none⟩)] w fun r w' => ∃ v q, r = .returned (.slice v (outL t.B).length q) ∧ w'.ownsRow w.heap.size 29 6 (.slice v (outL t.B).length q) (outL t.B).length (gramsV (outL t.B)) ∧ TQ W0 w' tp a b n V X { t with B := outE t.B } := by
  refine (h.two.swap.out hn rfl rfl).mono ?_
  rintro r w' ⟨v, q, rfl, ho, h2, hk⟩
  exact ⟨v, q, rfl, ho, h.keep (hk.mono fun _ h => .inl h) (h2.less fun _ hk => .inl hk).swap⟩
end
theorem own_new (w : World) (t : TypeId) (size : Nat) : (w.alloc (.cells #[] t)).ownsRow w.heap.size t size (.slice (some ⟨w.heap.size, 0, none⟩) 0 0) 0 [] :=
  ⟨by simp, .inr ⟨w.heap.size, 0, #[], rfl, Nat.le_refl _, World.alloc_heap_new _ _, Nat.le_refl _, by decide, by simp, by simp⟩⟩
theorem own_box (w : World) (y : Gm × Bool) : (w.alloc (.cells (sentA y) 58)).ownsRow w.heap.size 58 7 (.slice (some ⟨w.heap.size, 0, none⟩) 1 1) 1 (sentV [y]) :=
  ⟨by rw [sent_len]; rfl, .inr ⟨w.heap.size, 1, sentA y, rfl, Nat.le_refl _, World.alloc_heap_new _ _, Nat.le_refl _, by decide, by simp [sentA], by rw [sent_one]; simp [sentA, sentC, gmV]⟩⟩
theorem wpList_appP {w : World} {ops : Array Oper} {rest : List Oper} {o : Oper} {a : Act} {Q : Exit → Act → World → Prop} (hgd : o.guard = none) (s x : Operand)
    (ho : o.op = .call { callee := .builtin .append, args := #[s, x], argTypes := #[54, 54] }) (B B2 : Nat)
    (v : Value) (L l : List (Gm × Bool)) (hs : a.eval s = v) (hown : w.ownsRow B 58 7 v L.length (sentV L)) (p : Option Addr) (q : Nat) (hx : a.eval x = .slice p l.length q)
    (hl : w.ownsRow B2 58 7 (.slice p l.length q) l.length (sentV l)) (hn : L.length + l.length ≤ 3000000) (hB : B ≤ w.heap.size)
    (h : ∀ v' w', w'.ownsRow B 58 7 v' (L ++ l).length (sentV (L ++ l)) → w.grownBy w' v.ownBlock → (v'.ownBlock = v.ownBlock ∨ v'.ownBlock = some w.heap.size) → wpList Try.prog ops Q rest (a.put o.dst v') w') : wpList Try.prog ops Q (o :: rest) a w := by
  obtain ⟨i0, hi, hz0, hz1, hz2⟩ := info_parts info_sent
  refine wpList_plain hgd fun K hK => ?_
  obtain ⟨v', w', hr, h2, h3, h4⟩ := run_appL (P := Try.prog) (ty := o.type) Try.underlying54 hi hz0 hz1 hz2 rfl (by decide) hown hl (sent_onecell _) (by unfold maxLen; omega) (by omega) hB
  unfold Oper.wp execOp
  simp only [ho, resolve, invoke, builtin, Sem.run_bind, Sem.run_pure, Result.andThen_ok, List.map_toArray, List.map_cons, List.map_nil, hs, hx, hr]
  refine hK _ _ (h v' w' ?_ h3 h4)
  rw [List.length_append, sent_app]; exact h2
def SendsRes (W0 : World) (tp a b n : Nat) (t : TS) (fi : Bool) (r : Ending) (w' : World) : Prop := ∃ V' v q, r = .returned (.slice v (sendsL t fi).length q) ∧ w'.ownsRow W0.heap.size 58 7 (.slice v (sendsL t fi).length q) (sendsL t fi).length (sentV (sendsL t fi)) ∧
  TQ W0 w' tp a b n V' (fun k => (Value.slice v (sendsL t fi).length q).ownBlock = some k) (sendsS t fi)
/-- the end of it: the pool is longer -/
theorem sends_end {W0 W1 wr : World} {tp a b n : Nat} {V : Nat → Value} {X : Nat → Prop} {t : TS} {fi : Bool} {A B : CE} (h : TQ W0 W1 tp a b n V X { t with A := A, B := B }) (hA : (sendsS t fi).A = A) (hB : (sendsS t fi).B = B) (hb : Below W1.heap.size W1 wr) {v : Option Addr} {q : Nat}
    (ho : wr.ownsRow W1.heap.size 58 7 (.slice v (sendsL t fi).length q) (sendsL t fi).length (sentV (sendsL t fi))) {v5 : Value} {w5 : World} (h5 : w5.ownsRow W0.heap.size 58 7 v5 (t.pl ++ sendsL t fi).length (sentV (t.pl ++ sendsL t fi))) (hg : wr.grownBy w5 (V 4).ownBlock)
    (hv : v5.ownBlock = (V 4).ownBlock ∨ v5.ownBlock = some wr.heap.size) : SendsRes W0 tp a b n t fi (.returned (.slice v (sendsL t fi).length q)) (w5.setCell ⟨tp, 6, none⟩ v5) := by
  have hsz := h.bel.size
  have hy : ∀ k, (Value.slice v (sendsL t fi).length q).ownBlock = some k → W1.heap.size ≤ k ∧ k < wr.heap.size := fun k hk => ⟨own_ge ho k hk, own_lt ho hk⟩
  have hr := (h.below hb).guard (Y := fun k => (Value.slice v (sendsL t fi).length q).ownBlock = some k) ((h.two.below hb).less fun k hk => hk.elim (fun x => .inl (.inl x)) (fun x => .inr (hy k x)))
    (fun k hk ht => by have := (h.tm k ht).2; have := (hy k hk).1; omega) (fun k hk => Nat.le_trans hsz (hy k hk).1)
  have hpl : (sendsS t fi).pl = t.pl ++ sendsL t fi := by unfold sendsS sendsL; cases fi <;> rfl
  have h9 := hr.laid (i := 4) (by decide) (t' := sendsS t fi) hg hv hA hB (by cases fi <;> rfl) (by cases fi <;> rfl) (by cases fi <;> rfl) (by cases fi <;> rfl) (by rw [hpl]; exact h5)
  refine ⟨_, v, q, rfl, ?_, h9.1⟩
  have ho2 : wr.ownsRow W0.heap.size 58 7 (.slice v (sendsL t fi).length q) (sendsL t fi).length (sentV (sendsL t fi)) := by
    obtain ⟨o1, o2 | ⟨g7, c7, cu7, ev, hg7, o2⟩⟩ := ho
    · exact ⟨o1, .inl o2⟩
    · exact ⟨o1, .inr ⟨g7, c7, cu7, ev, Nat.le_trans hsz hg7, o2⟩⟩
  exact own_same ho2 fun g hg => h9.2.block g hg
set_option maxRecDepth 100000 in
set_option maxHeartbeats 4000000 in
theorem sends_any (W0 w : World) (tp a b n : Nat) (V : Nat → Value) (X : Nat → Prop) (t : TS) (fi : Bool) (h : TQ W0 w tp a b n V X t) (hn : n ≤ 900000) (hl : t.pl.length ≤ 900000) :
    Calls Try.prog 24 #[.pointer (some ⟨tp, 0, none⟩), .bool fi] w (SendsRes W0 tp a b n t fi) := by
  cases fi with
  | true =>
    have H := Lib.hid (h.below (below_box w (.cells #[] 29)))
    have HC : Hid (∀ W', Below (w.alloc (.cells #[] 29)).heap.size (w.alloc (.cells #[] 29)) W' → Calls Try.prog 15 #[.pointer (some ⟨a, 0, none⟩)] W' fun r w' => ∃ v q, r = .returned (.slice v (outL t.A).length q) ∧ w'.ownsRow W'.heap.size 29 6 (.slice v (outL t.A).length q) (outL t.A).length (gramsV (outL t.A)) ∧ TQ W0 w' tp a b n V X { t with A := outE t.A }) :=
      Lib.hid fun W' hb => (H.out.below hb).outA (by omega)
    have c0 : (w.alloc (.cells #[] 29)).cell? ⟨tp, 0, none⟩ = some (.pointer (some ⟨a, 0, none⟩)) := H.out.blk.cell 0
    clear h H
    go_enter Try.func24, Try.ntmps24
    go_wp2_with fail
    refine (HC.out _ (Below.refl _ _)).mono ?_
    rintro r w2 ⟨v, q, rfl, ho, h2⟩
    have FIN : Hid (∀ wr a3 c3, Below w2.heap.size w2 wr → wr.ownsRow w2.heap.size 58 7 (.slice a3 ((outL t.A).map fun g => (g, true)).length c3) ((outL t.A).map fun g => (g, true)).length (sentV ((outL t.A).map fun g => (g, true))) → ∀ v5 w5, w5.ownsRow W0.heap.size 58 7 v5 (t.pl ++ (outL t.A).map fun g => (g, true)).length (sentV (t.pl ++ (outL t.A).map fun g => (g, true))) → wr.grownBy w5 (V 4).ownBlock → (v5.ownBlock = (V 4).ownBlock ∨ v5.ownBlock = some wr.heap.size) →
        SendsRes W0 tp a b n t true (.returned (.slice a3 ((outL t.A).map fun g => (g, true)).length c3)) (w5.setCell ⟨tp, 6, none⟩ v5)) := Lib.hid fun wr a3 c3 hb ho v5 w5 h5 hg hv => sends_end (fi := true) h2 rfl rfl hb ho h5 hg hv
    have hLn : (outL t.A).length ≤ 33 := by
      obtain ⟨FA, FB, k1, _⟩ := h2.two
      have := k1.wf.ol
      unfold outL
      split
      · split <;> simp
      · rw [gms_len]; exact Nat.le_trans this (by omega)
    have H2 := Lib.hid h2
    have HO := Lib.hid ho
    clear h2 ho HC c0
    generalize outL t.A = L at *
    have hLm : (L.map fun g => (g, true)).length = L.length := by simp
    have HM : Hid ((w2.alloc (.cells #[] 58)).ownsRow w2.heap.size 58 7 (.slice (some ⟨w2.heap.size, 0, none⟩) 0 0) 0 (sentV ((L.map fun g => (g, true)).take 0)) ∧ Below w2.heap.size w2 (w2.alloc (.cells #[] 58))) := Lib.hid ⟨own_new _ _ _, below_box _ _⟩
    go_wp2_with fail
    go_loopw [6, 7] (fun o i wr => ∃ j : Nat, j ≤ L.length ∧ i = .int .i64 (j : Int) ∧ (∃ a c, o = .slice a j c) ∧ Hid (wr.ownsRow w2.heap.size 58 7 o j (sentV ((L.map fun g => (g, true)).take j)) ∧ Below w2.heap.size w2 wr)) (fun _ i _ => L.length - (intOf i).toNat)
    case atStart => exact ⟨0, Nat.zero_le _, rfl, ⟨_, _, rfl⟩, HM⟩
    case round =>
      obtain ⟨j, hj, rfl, ⟨ao, co, rfl⟩, HK⟩ := hrel
      clear HM
      by_cases hlt : j < L.length
      · have hx : L[j]? = some L[j] := List.getElem?_eq_getElem hlt
        have htn : sentV ((L.map fun g => (g, true)).take (j + 1)) = sentV ((L.map fun g => (g, true)).take j ++ [(L[j], true)]) := by rw [List.take_add_one, List.getElem?_map, hx]; rfl
        generalize L[j] = y at hx htn
        obtain ⟨g, c, e1, hg1, hg2, hcl⟩ := own_pos HO.out (by omega)
        injection e1 with e1 e2 e3
        subst e1; subst e3
        have hcj : ∀ i, i < 6 → wr.cell? ⟨g, j * 6 + i, none⟩ = (gmV y).toList[i]? := fun i hi => by
          rw [HK.out.2.cell (p := ⟨g, j * 6 + i, none⟩) hg2, hcl _ (by omega)]
          exact grams_at L j y hx i hi
        have m0 : wr.cell? ⟨g, j * 6, none⟩ = some (.int .i64 y.cl) := hcj 0 (by decide)
        have m1 : wr.cell? ⟨g, j * 6 + 1, none⟩ = some (.bool y.up) := hcj 1 (by decide)
        have m2 : wr.cell? ⟨g, j * 6 + 2, none⟩ = some (.int .i64 y.ep) := hcj 2 (by decide)
        have m3 : wr.cell? ⟨g, j * 6 + 3, none⟩ = some (.int .i64 y.sq) := hcj 3 (by decide)
        have m4 : wr.cell? ⟨g, j * 6 + 4, none⟩ = some (.int .i64 y.ak) := hcj 4 (by decide)
        have m5 : wr.cell? ⟨g, j * 6 + 5, none⟩ = some (.string y.bd) := hcj 5 (by decide)
        have hlj : ((L.map fun g => (g, true)).take j).length = j := by rw [List.length_take, hLm]; omega
        have HO2 : Hid (wr.ownsRow w2.heap.size 58 7 (.slice ao j co) ((L.map fun g => (g, true)).take j).length (sentV ((L.map fun g => (g, true)).take j)) ∧ Below w2.heap.size w2 wr) := Lib.hid (by rw [hlj]; exact HK.out)
        have FIN2 : Hid (∀ v5 w5, w5.ownsRow w2.heap.size 58 7 v5 ((L.map fun g => (g, true)).take j ++ [(y, true)]).length (sentV ((L.map fun g => (g, true)).take j ++ [(y, true)])) ∧ Below w2.heap.size w2 w5 → (∃ a c, v5 = .slice a (j + 1) c) ∧ (w5.ownsRow w2.heap.size 58 7 v5 (j + 1) (sentV ((L.map fun g => (g, true)).take (j + 1))) ∧ Below w2.heap.size w2 w5)) := Lib.hid fun v5 w5 ho => by
          have hln : ((L.map fun g => (g, true)).take j ++ [(y, true)]).length = j + 1 := by rw [List.length_append, hlj]; rfl
          rw [hln, ← htn] at ho
          exact ⟨own_shape ho.1, ho⟩
        have HL2 := Lib.hid (show ((L.map fun g => (g, true)).take j).length ≤ 30000 by omega)
        clear hx htn hlj hcj hcl
        go_wp2_with (at_builtin; refine wpList_appP rfl _ _ rfl w2.heap.size wr.heap.size _ _ [(y, true)] rfl (own_below HO2.out.1 (below_box _ _)) (some ⟨wr.heap.size, 0, none⟩) 1 rfl (own_box wr (y, true)) (by have := HL2.out; simp only [List.length_cons, List.length_nil]; omega) (Nat.le_trans HO2.out.2.size (by simp)) ?_; intro v5 w5 ho5 hg5 _; have HE5 := Lib.hid (FIN2.out v5 w5 ⟨ho5, (HO2.out.2.alloc HO2.out.2.size _).grown hg5 (Nat.le_trans HO2.out.2.size (by simp)) (fun k e => own_ge HO2.out.1 k e)⟩); clear ho5 hg5)
        obtain ⟨a5, c5', rfl⟩ := HE5.out.1
        clear FIN2 HO2 HK
        go_roundw
        case rel => exact ⟨j + 1, by omega, by go_num, ⟨_, _, rfl⟩, HE5.out.2⟩
        case measure => simp [intOf]; omega
      · obtain rfl : j = L.length := by omega
        have hW := H2.out.below HK.out.2
        obtain ⟨a4, c4, hV4⟩ := own_shape hW.r4
        have d6 : wr.cell? ⟨tp, 6, none⟩ = some (.slice a4 t.pl.length c4) := by rw [← hV4]; exact hW.blk.cell 6
        have HR4 : Hid (wr.ownsRow W0.heap.size 58 7 (.slice a4 t.pl.length c4) t.pl.length (sentV t.pl)) := Lib.hid (by rw [← hV4]; exact hW.r4)
        have HOO : Hid (wr.ownsRow w2.heap.size 58 7 (.slice ao (L.map fun g => (g, true)).length co) (L.map fun g => (g, true)).length (sentV (L.map fun g => (g, true)))) := Lib.hid (by
          have h9 := HK.out.1
          rw [List.take_of_length_le (by rw [hLm]; exact Nat.le_refl _)] at h9
          rw [hLm]; exact h9)
        have HX : Hid (∀ v5 w5, w5.ownsRow W0.heap.size 58 7 v5 (t.pl ++ L.map fun g => (g, true)).length (sentV (t.pl ++ L.map fun g => (g, true))) → wr.grownBy w5 (Value.slice a4 t.pl.length c4).ownBlock → (v5.ownBlock = (Value.slice a4 t.pl.length c4).ownBlock ∨ v5.ownBlock = some wr.heap.size) →
            (∃ a5 n5 c5, v5 = .slice a5 n5 c5) ∧ w5.cell? ⟨tp, 6, none⟩ = some (.slice a4 t.pl.length c4) ∧ w5.frozen? ⟨tp, 6, none⟩ = false ∧ SendsRes W0 tp a b n t true (.returned (.slice ao L.length co)) (w5.setCell ⟨tp, 6, none⟩ v5)) := Lib.hid fun v5 w5 ho hg hv => by
          rw [← hV4] at hg hv ⊢
          have hb := hW.blk.grown hg (fun x => hW.tp0 4 (by decide) x.symm)
          obtain ⟨a5, c5, e5⟩ := own_shape ho
          have h9 := FIN.out wr ao co HK.out.2 HOO.out v5 w5 ho hg hv
          rw [hLm] at h9
          exact ⟨⟨_, _, _, e5⟩, hb.cell 6, hb.frozen 6, h9⟩
        have HSZ := Lib.hid hW.bel.size
        have HOO2 : Hid (wr.ownsRow w2.heap.size 58 7 (.slice ao (L.map fun g => (g, true)).length co) (L.map fun g => (g, true)).length (sentV (L.map fun g => (g, true)))) := HOO
        clear FIN H2 HK hV4 hW HO
        generalize hLl : (L.map fun g => (g, true)) = L7 at *
        generalize L.length = m at *
        subst hLm
        go_wp2_with (at_builtin; refine wpList_appP rfl _ _ rfl W0.heap.size w2.heap.size _ t.pl L7 rfl HR4.out ao co rfl HOO2.out (by omega) HSZ.out ?_; intro v5 w5 ho5 hg5 hv5; have HE := Lib.hid (HX.out v5 w5 ho5 hg5 hv5); obtain ⟨a5, n5, c5, e5⟩ := HE.out.1; subst e5; have k5 := HE.out.2.1; have f5 := HE.out.2.2.1; clear ho5 hg5 hv5)
        go_ret
        exact HE.out.2.2.2
  | false =>
    have H := Lib.hid (h.below (below_box w (.cells #[] 29)))
    have HC : Hid (∀ W', Below (w.alloc (.cells #[] 29)).heap.size (w.alloc (.cells #[] 29)) W' → Calls Try.prog 15 #[.pointer (some ⟨b, 0, none⟩)] W' fun r w' => ∃ v q, r = .returned (.slice v (outL t.B).length q) ∧ w'.ownsRow W'.heap.size 29 6 (.slice v (outL t.B).length q) (outL t.B).length (gramsV (outL t.B)) ∧ TQ W0 w' tp a b n V X { t with B := outE t.B }) :=
      Lib.hid fun W' hb => (H.out.below hb).outB (by omega)
    have c0 : (w.alloc (.cells #[] 29)).cell? ⟨tp, 1, none⟩ = some (.pointer (some ⟨b, 0, none⟩)) := H.out.blk.cell 1
    clear h H
    go_enter Try.func24, Try.ntmps24
    go_wp2_with fail
    refine (HC.out _ (Below.refl _ _)).mono ?_
    rintro r w2 ⟨v, q, rfl, ho, h2⟩
    have FIN : Hid (∀ wr a3 c3, Below w2.heap.size w2 wr → wr.ownsRow w2.heap.size 58 7 (.slice a3 ((outL t.B).map fun g => (g, false)).length c3) ((outL t.B).map fun g => (g, false)).length (sentV ((outL t.B).map fun g => (g, false))) → ∀ v5 w5, w5.ownsRow W0.heap.size 58 7 v5 (t.pl ++ (outL t.B).map fun g => (g, false)).length (sentV (t.pl ++ (outL t.B).map fun g => (g, false))) → wr.grownBy w5 (V 4).ownBlock → (v5.ownBlock = (V 4).ownBlock ∨ v5.ownBlock = some wr.heap.size) →
        SendsRes W0 tp a b n t false (.returned (.slice a3 ((outL t.B).map fun g => (g, false)).length c3)) (w5.setCell ⟨tp, 6, none⟩ v5)) := Lib.hid fun wr a3 c3 hb ho v5 w5 h5 hg hv => sends_end (fi := false) h2 rfl rfl hb ho h5 hg hv
    have hLn : (outL t.B).length ≤ 33 := by
      obtain ⟨FA, FB, _, k1, _⟩ := h2.two
      have := k1.wf.ol
      unfold outL
      split
      · split <;> simp
      · rw [gms_len]; exact Nat.le_trans this (by omega)
    have H2 := Lib.hid h2
    have HO := Lib.hid ho
    clear h2 ho HC c0
    generalize outL t.B = L at *
    have hLm : (L.map fun g => (g, false)).length = L.length := by simp
    have HM : Hid ((w2.alloc (.cells #[] 58)).ownsRow w2.heap.size 58 7 (.slice (some ⟨w2.heap.size, 0, none⟩) 0 0) 0 (sentV ((L.map fun g => (g, false)).take 0)) ∧ Below w2.heap.size w2 (w2.alloc (.cells #[] 58))) := Lib.hid ⟨own_new _ _ _, below_box _ _⟩
    go_wp2_with fail
    go_loopw [6, 7] (fun o i wr => ∃ j : Nat, j ≤ L.length ∧ i = .int .i64 (j : Int) ∧ (∃ a c, o = .slice a j c) ∧ Hid (wr.ownsRow w2.heap.size 58 7 o j (sentV ((L.map fun g => (g, false)).take j)) ∧ Below w2.heap.size w2 wr)) (fun _ i _ => L.length - (intOf i).toNat)
    case atStart => exact ⟨0, Nat.zero_le _, rfl, ⟨_, _, rfl⟩, HM⟩
    case round =>
      obtain ⟨j, hj, rfl, ⟨ao, co, rfl⟩, HK⟩ := hrel
      clear HM
      by_cases hlt : j < L.length
      · have hx : L[j]? = some L[j] := List.getElem?_eq_getElem hlt
        have htn : sentV ((L.map fun g => (g, false)).take (j + 1)) = sentV ((L.map fun g => (g, false)).take j ++ [(L[j], false)]) := by rw [List.take_add_one, List.getElem?_map, hx]; rfl
        generalize L[j] = y at hx htn
        obtain ⟨g, c, e1, hg1, hg2, hcl⟩ := own_pos HO.out (by omega)
        injection e1 with e1 e2 e3
        subst e1; subst e3
        have hcj : ∀ i, i < 6 → wr.cell? ⟨g, j * 6 + i, none⟩ = (gmV y).toList[i]? := fun i hi => by
          rw [HK.out.2.cell (p := ⟨g, j * 6 + i, none⟩) hg2, hcl _ (by omega)]
          exact grams_at L j y hx i hi
        have m0 : wr.cell? ⟨g, j * 6, none⟩ = some (.int .i64 y.cl) := hcj 0 (by decide)
        have m1 : wr.cell? ⟨g, j * 6 + 1, none⟩ = some (.bool y.up) := hcj 1 (by decide)
        have m2 : wr.cell? ⟨g, j * 6 + 2, none⟩ = some (.int .i64 y.ep) := hcj 2 (by decide)
        have m3 : wr.cell? ⟨g, j * 6 + 3, none⟩ = some (.int .i64 y.sq) := hcj 3 (by decide)
        have m4 : wr.cell? ⟨g, j * 6 + 4, none⟩ = some (.int .i64 y.ak) := hcj 4 (by decide)
        have m5 : wr.cell? ⟨g, j * 6 + 5, none⟩ = some (.string y.bd) := hcj 5 (by decide)
        have hlj : ((L.map fun g => (g, false)).take j).length = j := by rw [List.length_take, hLm]; omega
        have HO2 : Hid (wr.ownsRow w2.heap.size 58 7 (.slice ao j co) ((L.map fun g => (g, false)).take j).length (sentV ((L.map fun g => (g, false)).take j)) ∧ Below w2.heap.size w2 wr) := Lib.hid (by rw [hlj]; exact HK.out)
        have FIN2 : Hid (∀ v5 w5, w5.ownsRow w2.heap.size 58 7 v5 ((L.map fun g => (g, false)).take j ++ [(y, false)]).length (sentV ((L.map fun g => (g, false)).take j ++ [(y, false)])) ∧ Below w2.heap.size w2 w5 → (∃ a c, v5 = .slice a (j + 1) c) ∧ (w5.ownsRow w2.heap.size 58 7 v5 (j + 1) (sentV ((L.map fun g => (g, false)).take (j + 1))) ∧ Below w2.heap.size w2 w5)) := Lib.hid fun v5 w5 ho => by
          have hln : ((L.map fun g => (g, false)).take j ++ [(y, false)]).length = j + 1 := by rw [List.length_append, hlj]; rfl
          rw [hln, ← htn] at ho
          exact ⟨own_shape ho.1, ho⟩
        have HL2 := Lib.hid (show ((L.map fun g => (g, false)).take j).length ≤ 30000 by omega)
        clear hx htn hlj hcj hcl
        go_wp2_with (at_builtin; refine wpList_appP rfl _ _ rfl w2.heap.size wr.heap.size _ _ [(y, false)] rfl (own_below HO2.out.1 (below_box _ _)) (some ⟨wr.heap.size, 0, none⟩) 1 rfl (own_box wr (y, false)) (by have := HL2.out; simp only [List.length_cons, List.length_nil]; omega) (Nat.le_trans HO2.out.2.size (by simp)) ?_; intro v5 w5 ho5 hg5 _; have HE5 := Lib.hid (FIN2.out v5 w5 ⟨ho5, (HO2.out.2.alloc HO2.out.2.size _).grown hg5 (Nat.le_trans HO2.out.2.size (by simp)) (fun k e => own_ge HO2.out.1 k e)⟩); clear ho5 hg5)
        obtain ⟨a5, c5', rfl⟩ := HE5.out.1
        clear FIN2 HO2 HK
        go_roundw
        case rel => exact ⟨j + 1, by omega, by go_num, ⟨_, _, rfl⟩, HE5.out.2⟩
        case measure => simp [intOf]; omega
      · obtain rfl : j = L.length := by omega
        have hW := H2.out.below HK.out.2
        obtain ⟨a4, c4, hV4⟩ := own_shape hW.r4
        have d6 : wr.cell? ⟨tp, 6, none⟩ = some (.slice a4 t.pl.length c4) := by rw [← hV4]; exact hW.blk.cell 6
        have HR4 : Hid (wr.ownsRow W0.heap.size 58 7 (.slice a4 t.pl.length c4) t.pl.length (sentV t.pl)) := Lib.hid (by rw [← hV4]; exact hW.r4)
        have HOO : Hid (wr.ownsRow w2.heap.size 58 7 (.slice ao (L.map fun g => (g, false)).length co) (L.map fun g => (g, false)).length (sentV (L.map fun g => (g, false)))) := Lib.hid (by
          have h9 := HK.out.1
          rw [List.take_of_length_le (by rw [hLm]; exact Nat.le_refl _)] at h9
          rw [hLm]; exact h9)
        have HX : Hid (∀ v5 w5, w5.ownsRow W0.heap.size 58 7 v5 (t.pl ++ L.map fun g => (g, false)).length (sentV (t.pl ++ L.map fun g => (g, false))) → wr.grownBy w5 (Value.slice a4 t.pl.length c4).ownBlock → (v5.ownBlock = (Value.slice a4 t.pl.length c4).ownBlock ∨ v5.ownBlock = some wr.heap.size) →
            (∃ a5 n5 c5, v5 = .slice a5 n5 c5) ∧ w5.cell? ⟨tp, 6, none⟩ = some (.slice a4 t.pl.length c4) ∧ w5.frozen? ⟨tp, 6, none⟩ = false ∧ SendsRes W0 tp a b n t false (.returned (.slice ao L.length co)) (w5.setCell ⟨tp, 6, none⟩ v5)) := Lib.hid fun v5 w5 ho hg hv => by
          rw [← hV4] at hg hv ⊢
          have hb := hW.blk.grown hg (fun x => hW.tp0 4 (by decide) x.symm)
          obtain ⟨a5, c5, e5⟩ := own_shape ho
          have h9 := FIN.out wr ao co HK.out.2 HOO.out v5 w5 ho hg hv
          rw [hLm] at h9
          exact ⟨⟨_, _, _, e5⟩, hb.cell 6, hb.frozen 6, h9⟩
        have HSZ := Lib.hid hW.bel.size
        have HOO2 : Hid (wr.ownsRow w2.heap.size 58 7 (.slice ao (L.map fun g => (g, false)).length co) (L.map fun g => (g, false)).length (sentV (L.map fun g => (g, false)))) := HOO
        clear FIN H2 HK hV4 hW HO
        generalize hLl : (L.map fun g => (g, false)) = L7 at *
        generalize L.length = m at *
        subst hLm
        go_wp2_with (at_builtin; refine wpList_appP rfl _ _ rfl W0.heap.size w2.heap.size _ t.pl L7 rfl HR4.out ao co rfl HOO2.out (by omega) HSZ.out ?_; intro v5 w5 ho5 hg5 hv5; have HE := Lib.hid (HX.out v5 w5 ho5 hg5 hv5); obtain ⟨a5, n5, c5, e5⟩ := HE.out.1; subst e5; have k5 := HE.out.2.1; have f5 := HE.out.2.2.1; clear ho5 hg5 hv5)
        go_ret
        exact HE.out.2.2.2
end Go.Proofs.Ytbbikibkijncgaa.Cord
