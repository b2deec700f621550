/- comes and sends. -/
import Derived.Test.YtbbikibkijncgaaCordTalk
namespace Go.Proofs.Ytbbikibkijncgaa.Cord
set_option maxRecDepth 100000
open Go.RowKit
open Go.Proofs.Ytbbikibkijncgaa.Mem
def comesS (t : TS) (x : Gm × Bool) : TS := if x.2 then { t with B := takeE t.B x.1, aB := t.aB ++ takeL t.B x.1 } else { t with A := takeE t.A x.1, aA := t.aA ++ takeL t.A x.1 }
def comesX (t : TS) (x : Gm × Bool) : Int := if x.2 then takeX t.B x.1 else takeX t.A x.1
section
variable {W0 w w' : World} {tp a b n : Nat} {V : Nat → Value} {X : Nat → Prop} {t : TS}
/-- the second end takes, the talk's blocks stay -/
theorem TQ.takeB (h : TQ W0 w tp a b n V X t) (hn : n ≤ 999000) (g : Gm) :
    Calls Try.prog 17 #[.pointer (some ⟨b, 0, none⟩), .agg (gmV g)] w fun r w' => ∃ v q, r = .returned (.tuple #[.slice v (takeL t.B g).length q, .int .i64 (takeX t.B g)]) ∧ w'.ownsRow w.heap.size 9 1 (.slice v (takeL t.B g).length q) (takeL t.B g).length (strsV (takeL t.B g)) ∧ TQ W0 w' tp a b (n + 2) V X { t with B := takeE t.B g } ∧ Keep X w w' := by
  refine (h.two.swap.take hn g rfl rfl rfl).mono ?_
  rintro r w' ⟨v, q, rfl, ho, h2, hk⟩
  exact ⟨v, q, rfl, ho, h.keep (hk.mono fun _ h => .inl h) ((h2.less fun _ hk => .inl hk).swap.mono (by omega) (Nat.le_refl _)), hk.mono fun _ h => .inr h⟩
theorem TQ.takeA (h : TQ W0 w tp a b n V X t) (hn : n ≤ 999000) (g : Gm) :
    Calls Try.prog 17 #[.pointer (some ⟨a, 0, none⟩), .agg (gmV g)] w fun r w' => ∃ v q, r = .returned (.tuple #[.slice v (takeL t.A g).length q, .int .i64 (takeX t.A g)]) ∧ w'.ownsRow w.heap.size 9 1 (.slice v (takeL t.A g).length q) (takeL t.A g).length (strsV (takeL t.A g)) ∧ TQ W0 w' tp a b (n + 2) V X { t with A := takeE t.A g } ∧ Keep X w w' := by
  refine (h.two.take hn g rfl rfl rfl).mono ?_
  rintro r w' ⟨v, q, rfl, ho, h2, hk⟩
  exact ⟨v, q, rfl, ho, h.keep (hk.mono fun _ h => .inl h) ((h2.less fun _ hk => .inl hk).mono (Nat.le_refl _) (by omega)), hk.mono fun _ h => .inr h⟩
end
theorem takeL_len {e : CE} (h : e.wf) (g : Gm) : (takeL e g).length ≤ 32 := by
  have hg : (settleE e g.ak.toNat).got = e.got := (settle_got e _).1
  unfold takeL
  split
  · simp
  · rename_i hc
    split
    · simp
    · have hc0 : checkX e g = 0 := by simpa using hc
      refine told_le (wf_lay (wf_settle h _) ?_ ?_) <;>
        rcases check_cases e g with ⟨_, h⟩ | ⟨_, _, h⟩ | ⟨_, _, _, h⟩ | ⟨_, _, _, _, h⟩ | ⟨_, _, _, _, _, h⟩ | ⟨_, _, _, _, _, h⟩ | ⟨_, _, _, _, _, _, h⟩ | ⟨_, h, _⟩ | ⟨_, _, _, _, _, h, _⟩ <;> omega
/-- append of a row of the call's own to another one -/
theorem run_appL {P : Program} {w : World} {B B2 : Nat} {T ty e : TypeId} {i : TypeInfo} {z : Value} {size bytes : Nat} (ht : P.underlying T = some (.slice e)) (hi : P.info? e = some i) (hz : i.zero = some z) (hsize : i.size = size) (hby : i.bytes = bytes) (hzs : z.cells.size = size) (hsz : 0 < size)
    {v : Value} {n : Nat} {xs : List Value} (hown : w.ownsRow B e size v n xs) {p : Option Addr} {m q : Nat} {ys : List Value} (hl : w.ownsRow B2 e size (.slice p m q) m ys) (h1 : ∀ u ∈ ys, u.oneCell' = true)
    (h63 : n + m ≤ maxLen) (hbytes : (n + m) * bytes ≤ 140737488355328) (hB : B ≤ w.heap.size) :
    ∃ v' w', (Builtin.append_ #[T, T] ty #[v, .slice p m q]).run P w = .ok v' w' ∧ w'.ownsRow B e size v' (n + m) (xs ++ ys) ∧ w.grownBy w' v.ownBlock ∧ (v'.ownBlock = v.ownBlock ∨ v'.ownBlock = some w.heap.size) := by
  have hl0 := hl.1
  rcases hl.2 with ⟨e1, e2⟩ | ⟨g, c, cur, e1, hb, hg, hnc, hcm, hcs, htk⟩
  · injection e1 with e1 _ e3
    subst e1; subst e2; subst e3
    obtain rfl : ys = [] := List.eq_nil_of_length_eq_zero (by simpa using hl0)
    refine ⟨v, w, ?_, by simpa using hown, World.grownBy.refl _ _, .inl rfl⟩
    obtain ⟨ha, ⟨rfl, rfl⟩ | ⟨g, c, cur, rfl, hb, hg, hnc, _⟩⟩ := hown
    · simp [Builtin.append_, run_underlying ht, sizeOf, typeInfo, hi, Builtin.lenOf, Builtin.firstCells]
    · simp [Builtin.append_, run_underlying ht, sizeOf, typeInfo, hi, Builtin.lenOf, Builtin.firstCells, hnc, storeCells]
  · injection e1 with e1 _ e3
    subst e1; subst e3
    have hc : ∀ j u, ys[j]? = some u → w.cell? ((⟨g, 0, none⟩ : Addr).add j) = some u := fun j u hj => by
      rw [Addr.add_lit, Nat.zero_add, Blk.cell (show Blk w g _ _ from hg)]
      have hlt := (List.getElem?_eq_some_iff.1 hj).1
      rw [← htk, List.getElem?_take_of_lt (by rw [hl0] at hlt; exact hlt), Array.getElem?_toList] at hj
      exact hj
    obtain ⟨v', w', hr, h2, h3, _, h5⟩ := run_append_own_at (P := P) w B T ty e i z size bytes ht hi hz hsize hby hzs hsz v n xs hown ⟨g, 0, none⟩ m q ys hl0 hc h1 h63 hbytes hB
    exact ⟨v', w', hr, h2, h3, h5⟩
theorem wpList_appL {w : World} {ops : Array Oper} {rest : List Oper} {o : Oper} {a : Act} {Q : Exit → Act → World → Prop} (hgd : o.guard = none) (s x : Operand)
    (ho : o.op = .call { callee := .builtin .append, args := #[s, x], argTypes := #[40, 40] }) (B B2 : Nat)
    (v : Value) (L l : List ByteArray) (hs : a.eval s = v) (hown : w.ownsRow B 9 1 v L.length (strsV L)) (p : Option Addr) (q : Nat) (hx : a.eval x = .slice p l.length q)
    (hl : w.ownsRow B2 9 1 (.slice p l.length q) l.length (strsV l)) (hn : L.length + l.length ≤ 3000000) (hB : B ≤ w.heap.size)
    (h : ∀ v' w', w'.ownsRow B 9 1 v' (L ++ l).length (strsV (L ++ l)) → w.grownBy w' v.ownBlock → (v'.ownBlock = v.ownBlock ∨ v'.ownBlock = some w.heap.size) → wpList Try.prog ops Q rest (a.put o.dst v') w') : wpList Try.prog ops Q (o :: rest) a w := by
  obtain ⟨i0, hi, hz0, hz1, hz2⟩ := info_parts info_str
  refine wpList_plain hgd fun K hK => ?_
  obtain ⟨v', w', hr, h2, h3, h4⟩ := run_appL (P := Try.prog) (ty := o.type) Try.underlying40 hi hz0 hz1 hz2 rfl (by decide) hown hl (strs_one _) (by unfold maxLen; omega) (by omega) hB
  unfold Oper.wp execOp
  simp only [ho, resolve, invoke, builtin, Sem.run_bind, Sem.run_pure, Result.andThen_ok, List.map_toArray, List.map_cons, List.map_nil, hs, hx, hr]
  refine hK _ _ (h v' w' ?_ h3 h4)
  rw [List.length_append, strs_app]; exact h2
def sentA (x : Gm × Bool) : Array Value := #[.int .i64 x.1.cl, .bool x.1.up, .int .i64 x.1.ep, .int .i64 x.1.sq, .int .i64 x.1.ak, .string x.1.bd, .bool x.2]
def ComesRes (W0 w : World) (tp a b n : Nat) (X : Nat → Prop) (t : TS) (x : Gm × Bool) (r : Ending) (w' : World) : Prop := ∃ V', r = .returned (.bool (comesX t x == 0)) ∧ TQ W0 w' tp a b (n + 2) V' X (comesS t x) ∧ Keep X w w'
set_option maxRecDepth 100000 in
set_option maxHeartbeats 4000000 in
theorem comes_any (W0 w : World) (tp a b n : Nat) (V : Nat → Value) (X : Nat → Prop) (t : TS) (x : Gm × Bool) (h : TQ W0 w tp a b n V X t) (hn : n ≤ 900000) (hl : t.aA.length ≤ 900000 ∧ t.aB.length ≤ 900000) :
    Calls Try.prog 25 #[.pointer (some ⟨tp, 0, none⟩), .agg (sentA x)] w (ComesRes W0 w tp a b n X t x) := by
  have hB := h.below (below_box w (.cells (sentA x) 58))
  have hKX := h.keepX (below_box w (.cells (sentA x) 58))
  have hM := Blk.new w 58 (sentA x)
  have hsz : w.heap.size < (w.alloc (.cells (sentA x) 58)).heap.size := by simp
  obtain ⟨g, fi⟩ := x
  cases fi with
  | true =>
    have hT32 : (takeL t.B g).length ≤ 32 := by
      obtain ⟨FA, FB, _, h2, _⟩ := h.two
      exact takeL_len h2.wf g
    have FIN : Hid (∀ w2, TQ W0 w2 tp a b (n + 2) V X { t with B := takeE t.B g } ∧ Keep X w w2 → ∀ v5 w5, w5.ownsRow W0.heap.size 9 1 v5 (t.aB ++ takeL t.B g).length (strsV (t.aB ++ takeL t.B g)) → w2.grownBy w5 (V 3).ownBlock → (v5.ownBlock = (V 3).ownBlock ∨ v5.ownBlock = some w2.heap.size) →
        ComesRes W0 w tp a b n X t (g, true) (.returned (.bool (takeX t.B g == 0))) (w5.setCell ⟨tp, 5, none⟩ v5)) := Lib.hid fun w2 ⟨h2, k2⟩ v5 w5 ho hg hv =>
      have h9 := h2.laid (i := 3) (by decide) (t' := comesS t (g, true)) hg hv rfl rfl rfl rfl rfl ho rfl
      ⟨_, rfl, h9.1, k2.trans h9.2⟩
    have HC : Hid (∀ W', Below (w.alloc (.cells (sentA (g, true)) 58)).heap.size (w.alloc (.cells (sentA (g, true)) 58)) W' → Calls Try.prog 17 #[.pointer (some ⟨b, 0, none⟩), .agg #[.int .i64 g.cl, .bool g.up, .int .i64 g.ep, .int .i64 g.sq, .int .i64 g.ak, .string g.bd]] W'
        fun r w' => ∃ v q, r = .returned (.tuple #[.slice v (takeL t.B g).length q, .int .i64 (takeX t.B g)]) ∧ w'.ownsRow W'.heap.size 9 1 (.slice v (takeL t.B g).length q) (takeL t.B g).length (strsV (takeL t.B g)) ∧ TQ W0 w' tp a b (n + 2) V X { t with B := takeE t.B g } ∧ Keep X w w') :=
      Lib.hid fun W' hb => ((hB.below hb).takeB (by omega) g).mono fun r w' ⟨v, q, h1, h2, h3, h4⟩ => ⟨v, q, h1, h2, h3, hKX.trans ((hB.keepX hb).trans h4)⟩
    have c1 : (w.alloc (.cells (sentA (g, true)) 58)).cell? ⟨tp, 1, none⟩ = some (.pointer (some ⟨b, 0, none⟩)) := hB.blk.cell 1
    clear h hB hKX
    unfold sentA at *
    dsimp only at *
    obtain ⟨cl, up, gep, sq, ak, bd⟩ := g
    dsimp only at *
    go_enter Try.func25, Try.ntmps25
    go_upto_region 1 with (fail)
    generalize hGen : w.alloc (.cells #[.int .i64 cl, .bool up, .int .i64 gep, .int .i64 sq, .int .i64 ak, .string bd, .bool true] 58) = W at hM hsz HC c1 ⊢
    clear hGen
    have m0 : W.cell? ⟨w.heap.size, 0, none⟩ = some (.int .i64 cl) := hM.cell 0
    have m1 : W.cell? ⟨w.heap.size, 1, none⟩ = some (.bool up) := hM.cell 1
    have m2 : W.cell? ⟨w.heap.size, 2, none⟩ = some (.int .i64 gep) := hM.cell 2
    have m3 : W.cell? ⟨w.heap.size, 3, none⟩ = some (.int .i64 sq) := hM.cell 3
    have m4 : W.cell? ⟨w.heap.size, 4, none⟩ = some (.int .i64 ak) := hM.cell 4
    have m5 : W.cell? ⟨w.heap.size, 5, none⟩ = some (.string bd) := hM.cell 5
    have m6 : W.cell? ⟨w.heap.size, 6, none⟩ = some (.bool true) := hM.cell 6
    clear hM
    go_wp2_with fail
    go_region_law (go_simp; go_at_call 17; (with_reducible refine (HC.out _ ?_).mono ?_); (first | assumption | exact (Below.refl _ _).drew | exact Below.refl _ _); rintro r w2 ⟨v, q, rfl, ho, h2⟩; have HO := Lib.hid ho; have H2 := Lib.hid h2; clear ho h2)
    all_goals
      obtain ⟨a3, c3, hV3⟩ := own_shape H2.out.1.r3
      have d5 : w2.cell? ⟨tp, 5, none⟩ = some (.slice a3 t.aB.length c3) := by rw [← hV3]; exact H2.out.1.blk.cell 5
      have HR3 : Hid (w2.ownsRow W0.heap.size 9 1 (.slice a3 t.aB.length c3) t.aB.length (strsV t.aB)) := Lib.hid (by rw [← hV3]; exact H2.out.1.r3)
      have HX : Hid (∀ v5 w5, w5.ownsRow W0.heap.size 9 1 v5 (t.aB ++ takeL t.B ⟨cl, up, gep, sq, ak, bd⟩).length (strsV (t.aB ++ takeL t.B ⟨cl, up, gep, sq, ak, bd⟩)) → w2.grownBy w5 (Value.slice a3 t.aB.length c3).ownBlock → (v5.ownBlock = (Value.slice a3 t.aB.length c3).ownBlock ∨ v5.ownBlock = some w2.heap.size) →
          (∃ a5 n5 c5, v5 = .slice a5 n5 c5) ∧ w5.cell? ⟨tp, 5, none⟩ = some (.slice a3 t.aB.length c3) ∧ w5.frozen? ⟨tp, 5, none⟩ = false ∧ ComesRes W0 w tp a b n X t (⟨cl, up, gep, sq, ak, bd⟩, true) (.returned (.bool (takeX t.B ⟨cl, up, gep, sq, ak, bd⟩ == 0))) (w5.setCell ⟨tp, 5, none⟩ v5)) := Lib.hid fun v5 w5 ho hg hv => by
        rw [← hV3] at hg hv ⊢
        have hb := H2.out.1.blk.grown hg (fun x => H2.out.1.tp0 3 (by decide) x.symm)
        obtain ⟨a5, c5, e5⟩ := own_shape ho
        exact ⟨⟨_, _, _, e5⟩, hb.cell 5, hb.frozen 5, FIN.out w2 H2.out v5 w5 ho hg hv⟩
      have HSZ := Lib.hid H2.out.1.bel.size
      clear FIN H2 HC hV3
      generalize takeL t.B ⟨cl, up, gep, sq, ak, bd⟩ = tl at *
      generalize takeX t.B ⟨cl, up, gep, sq, ak, bd⟩ = tx at *
      go_wp2_with (at_builtin; refine wpList_appL rfl _ _ rfl W0.heap.size _ _ t.aB tl rfl HR3.out v q rfl HO.out (by omega) HSZ.out ?_; intro v5 w5 ho5 hg5 hv5; have HE := Lib.hid (HX.out v5 w5 ho5 hg5 hv5); obtain ⟨a5, n5, c5, e5⟩ := HE.out.1; subst e5; have k5 := HE.out.2.1; have f5 := HE.out.2.2.1; clear ho5 hg5 hv5)
      go_ret
      exact HE.out.2.2.2
  | false =>
    have hT32 : (takeL t.A g).length ≤ 32 := by
      obtain ⟨FA, FB, h2, _⟩ := h.two
      exact takeL_len h2.wf g
    have FIN : Hid (∀ w2, TQ W0 w2 tp a b (n + 2) V X { t with A := takeE t.A g } ∧ Keep X w w2 → ∀ v5 w5, w5.ownsRow W0.heap.size 9 1 v5 (t.aA ++ takeL t.A g).length (strsV (t.aA ++ takeL t.A g)) → w2.grownBy w5 (V 2).ownBlock → (v5.ownBlock = (V 2).ownBlock ∨ v5.ownBlock = some w2.heap.size) →
        ComesRes W0 w tp a b n X t (g, false) (.returned (.bool (takeX t.A g == 0))) (w5.setCell ⟨tp, 4, none⟩ v5)) := Lib.hid fun w2 ⟨h2, k2⟩ v5 w5 ho hg hv =>
      have h9 := h2.laid (i := 2) (by decide) (t' := comesS t (g, false)) hg hv rfl rfl rfl rfl ho rfl rfl
      ⟨_, rfl, h9.1, k2.trans h9.2⟩
    have HC : Hid (∀ W', Below (w.alloc (.cells (sentA (g, false)) 58)).heap.size (w.alloc (.cells (sentA (g, false)) 58)) W' → Calls Try.prog 17 #[.pointer (some ⟨a, 0, none⟩), .agg #[.int .i64 g.cl, .bool g.up, .int .i64 g.ep, .int .i64 g.sq, .int .i64 g.ak, .string g.bd]] W'
        fun r w' => ∃ v q, r = .returned (.tuple #[.slice v (takeL t.A g).length q, .int .i64 (takeX t.A g)]) ∧ w'.ownsRow W'.heap.size 9 1 (.slice v (takeL t.A g).length q) (takeL t.A g).length (strsV (takeL t.A g)) ∧ TQ W0 w' tp a b (n + 2) V X { t with A := takeE t.A g } ∧ Keep X w w') :=
      Lib.hid fun W' hb => ((hB.below hb).takeA (by omega) g).mono fun r w' ⟨v, q, h1, h2, h3, h4⟩ => ⟨v, q, h1, h2, h3, hKX.trans ((hB.keepX hb).trans h4)⟩
    have c1 : (w.alloc (.cells (sentA (g, false)) 58)).cell? ⟨tp, 0, none⟩ = some (.pointer (some ⟨a, 0, none⟩)) := hB.blk.cell 0
    clear h hB hKX
    unfold sentA at *
    dsimp only at *
    obtain ⟨cl, up, gep, sq, ak, bd⟩ := g
    dsimp only at *
    go_enter Try.func25, Try.ntmps25
    go_upto_region 1 with (fail)
    generalize hGen : w.alloc (.cells #[.int .i64 cl, .bool up, .int .i64 gep, .int .i64 sq, .int .i64 ak, .string bd, .bool false] 58) = W at hM hsz HC c1 ⊢
    clear hGen
    have m0 : W.cell? ⟨w.heap.size, 0, none⟩ = some (.int .i64 cl) := hM.cell 0
    have m1 : W.cell? ⟨w.heap.size, 1, none⟩ = some (.bool up) := hM.cell 1
    have m2 : W.cell? ⟨w.heap.size, 2, none⟩ = some (.int .i64 gep) := hM.cell 2
    have m3 : W.cell? ⟨w.heap.size, 3, none⟩ = some (.int .i64 sq) := hM.cell 3
    have m4 : W.cell? ⟨w.heap.size, 4, none⟩ = some (.int .i64 ak) := hM.cell 4
    have m5 : W.cell? ⟨w.heap.size, 5, none⟩ = some (.string bd) := hM.cell 5
    have m6 : W.cell? ⟨w.heap.size, 6, none⟩ = some (.bool false) := hM.cell 6
    clear hM
    go_wp2_with fail
    go_region_law (go_simp; go_at_call 17; (with_reducible refine (HC.out _ ?_).mono ?_); (first | assumption | exact (Below.refl _ _).drew | exact Below.refl _ _); rintro r w2 ⟨v, q, rfl, ho, h2⟩; have HO := Lib.hid ho; have H2 := Lib.hid h2; clear ho h2)
    all_goals
      obtain ⟨a3, c3, hV3⟩ := own_shape H2.out.1.r2
      have d5 : w2.cell? ⟨tp, 4, none⟩ = some (.slice a3 t.aA.length c3) := by rw [← hV3]; exact H2.out.1.blk.cell 4
      have HR3 : Hid (w2.ownsRow W0.heap.size 9 1 (.slice a3 t.aA.length c3) t.aA.length (strsV t.aA)) := Lib.hid (by rw [← hV3]; exact H2.out.1.r2)
      have HX : Hid (∀ v5 w5, w5.ownsRow W0.heap.size 9 1 v5 (t.aA ++ takeL t.A ⟨cl, up, gep, sq, ak, bd⟩).length (strsV (t.aA ++ takeL t.A ⟨cl, up, gep, sq, ak, bd⟩)) → w2.grownBy w5 (Value.slice a3 t.aA.length c3).ownBlock → (v5.ownBlock = (Value.slice a3 t.aA.length c3).ownBlock ∨ v5.ownBlock = some w2.heap.size) →
          (∃ a5 n5 c5, v5 = .slice a5 n5 c5) ∧ w5.cell? ⟨tp, 4, none⟩ = some (.slice a3 t.aA.length c3) ∧ w5.frozen? ⟨tp, 4, none⟩ = false ∧ ComesRes W0 w tp a b n X t (⟨cl, up, gep, sq, ak, bd⟩, false) (.returned (.bool (takeX t.A ⟨cl, up, gep, sq, ak, bd⟩ == 0))) (w5.setCell ⟨tp, 4, none⟩ v5)) := Lib.hid fun v5 w5 ho hg hv => by
        rw [← hV3] at hg hv ⊢
        have hb := H2.out.1.blk.grown hg (fun x => H2.out.1.tp0 2 (by decide) x.symm)
        obtain ⟨a5, c5, e5⟩ := own_shape ho
        exact ⟨⟨_, _, _, e5⟩, hb.cell 4, hb.frozen 4, FIN.out w2 H2.out v5 w5 ho hg hv⟩
      have HSZ := Lib.hid H2.out.1.bel.size
      clear FIN H2 HC hV3
      generalize takeL t.A ⟨cl, up, gep, sq, ak, bd⟩ = tl at *
      generalize takeX t.A ⟨cl, up, gep, sq, ak, bd⟩ = tx at *
      go_wp2_with (at_builtin; refine wpList_appL rfl _ _ rfl W0.heap.size _ _ t.aA tl rfl HR3.out v q rfl HO.out (by omega) HSZ.out ?_; intro v5 w5 ho5 hg5 hv5; have HE := Lib.hid (HX.out v5 w5 ho5 hg5 hv5); obtain ⟨a5, n5, c5, e5⟩ := HE.out.1; subst e5; have k5 := HE.out.2.1; have f5 := HE.out.2.2.1; clear ho5 hg5 hv5)
      go_ret
      exact HE.out.2.2.2
end Go.Proofs.Ytbbikibkijncgaa.Cord
