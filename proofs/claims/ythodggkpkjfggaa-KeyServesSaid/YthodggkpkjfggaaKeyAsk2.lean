/- Free, Ask. -/
import Derived.Test.YthodggkpkjfggaaKeyAsk
namespace Go.Proofs.Ythodggkpkjfggaa.Key
set_option maxRecDepth 100000
open Go.RowKit
open Go.Proofs.Ythodggkpkjfggaa.Mem
open Go.Maps
theorem setK_none {S : KS} {x c : Int} (h : S.L x c = none) : setK S x c none = S := by
  unfold setK
  congr 1
  funext q d
  split
  · rename_i e; rw [e.1, e.2, h]
  · rfl
set_option maxRecDepth 100000 in
set_option maxHeartbeats 4000000 in
theorem free_any (p : Nat) (M : Nat → Prop) (S : KS) (c x : Int) (keep : Bool) (w : World) (h : TQ w p M S) (hx : Sm x) (hc : Sm c) (hlen : S.said.length ≤ 3900000) :
    Calls Try.prog 13 #[.pointer (some ⟨p, 0, none⟩), .int .i64 c, .int .i64 x, .bool keep] w fun e w' => e = .returned (.int .i64 (freeX S c x)) ∧ TQ w' p M (freeK S c x keep) ∧ Keep M w w' := by
  obtain ⟨G, h⟩ := h
  have HH := Lib.hid (holds_any p M G S c x w h hx hc)
  have q1 := run_eqt w p
  unfold freeK freeX
  cases hl : S.L x c with
  | none =>
    have e0 : holdsS S c x = 0 := by unfold holdsS; rw [hl]
    rw [e0, if_pos rfl, if_pos rfl]
    rw [e0] at HH
    have FIN : Hid (TQ w p M S ∧ Keep M w w) := Lib.hid ⟨⟨G, h⟩, Keep.refl _ _⟩
    clear h hl e0
    go_enter Try.func13, Try.ntmps13
    go_wp2_with fail
    refine HH.out.mono ?_
    rintro e w1 ⟨rfl, rfl⟩
    go_wp2
    go_ret
    exact ⟨rfl, FIN.out⟩
  | some l =>
    have hh := h.wf.lk x c l hl
    have e0 : holdsS S c x = l.has := by unfold holdsS; rw [hl]
    rw [e0] at HH
    have e1 : (l.has == 0) = false := by rcases hh.2.2.2.2 with e | e <;> rw [e] <;> rfl
    have e2 : ¬ l.has = 0 := by rcases hh.2.2.2.2 with e | e <;> rw [e] <;> decide
    rw [e0, if_neg e2, if_neg e2]
    have hi := h.io x c (by rw [hl]; simp)
    cases keep with
    | true =>
      rw [if_pos rfl]
      have d0 := h.topc.1
      have g0 := h.getIn hi hx
      have hbx := below_box w (.cells #[.int .i64 1, .int .i64 0, .bool false] 72)
      obtain ⟨w4, hmu4, -, HE4⟩ := h.putAt (l := ⟨1, 0, false⟩) hi ⟨hh.1, hh.2.1, hh.2.2.1, hh.2.2.2.1, .inl rfl⟩ hbx (Blk.new w 72 #[.int .i64 1, .int .i64 0, .bool false])
      have HS := Lib.hid (settle_any p M _ x w4 HE4.out.1 hx hlen)
      clear h hl e0 e2 hh hbx hi
      go_enter Try.func13, Try.ntmps13
      go_wp2_with fail
      refine HH.out.mono ?_
      rintro e w1 ⟨rfl, rfl⟩
      go_wp2_with fail
      refine HS.out.mono ?_
      rintro e w5 ⟨rfl, h5, k5⟩
      have FIN := Lib.hid (show TQ w5 p M _ ∧ Keep M w w5 from ⟨h5, HE4.out.2.trans k5⟩)
      clear h5 k5 HS HE4 hmu4 HH d0 g0
      go_wp2
      go_ret
      exact ⟨rfl, FIN.out⟩
    | false =>
      rw [if_neg (by simp)]
      have HU := Lib.hid (unlock_any p M S c x w ⟨G, h⟩ hx hc (by rw [hl]; simp))
      clear h hl e0 e2 hh hi
      go_enter Try.func13, Try.ntmps13
      go_wp2_with fail
      refine HH.out.mono ?_
      rintro e w1 ⟨rfl, rfl⟩
      go_wp2_with fail
      refine HU.out.mono ?_
      rintro e w4 ⟨rfl, h4, k4⟩
      have HK4 := Lib.hid k4
      have HS := Lib.hid (settle_any p M _ x w4 h4 hx hlen)
      clear h4 k4 HU HH
      go_wp2_with fail
      refine HS.out.mono ?_
      rintro e w5 ⟨rfl, h5, k5⟩
      have FIN := Lib.hid (show TQ w5 p M _ ∧ Keep M w w5 from ⟨h5, HK4.out.trans k5⟩)
      clear h5 k5 HS HK4
      go_wp2
      go_ret
      exact ⟨rfl, FIN.out⟩
theorem free_nil (c x : Int) (k : Bool) (w : World) : Calls Try.prog 13 #[.pointer none, .int .i64 c, .int .i64 x, .bool k] w fun e w' => e = .returned (.int .i64 2) ∧ w = w' := by
  have hn := run_nilt
  go_enter Try.func13, Try.ntmps13
  go_wp2
  go_ret
  exact ⟨rfl, rfl⟩
theorem ask_nil (c x : Int) (k : Bool) (w : World) : Calls Try.prog 11 #[.pointer none, .int .i64 c, .int .i64 x, .bool k] w fun e w' => e = .returned (.int .i64 2) ∧ w = w' := by
  have hn := run_nilt
  go_enter Try.func11, Try.ntmps11
  go_wp2
  go_ret
  exact ⟨rfl, rfl⟩
/-- append, as a step of a drawn region, where its run is known -/
theorem step_append_known {P : Program} {ops : Array Oper} {o : Oper} {a : Act} {w : World} {K : Act → World → Prop} {Q : Exit → Act → World → Prop} {E : Prop}
    (hg : o.guard = none) (d x : Operand) (dT sT : TypeId) (hop : o.op = Op.call { callee := Callee.builtin Builtin.append, args := #[d, x], argTypes := #[dT, sT] })
    (v u : Value) (hd : a.eval d = v) (hx : a.eval x = u) {v' : Value} {w' : World} (hr : (Builtin.append_ #[dT, sT] o.type #[v, u]).run P w = .ok v' w') (hK : K (a.put o.dst v') w') :
    if Region.wanted o (yielded ops a.tmps) = true then Oper.wp P o a w K Q else E := by
  have hw : Region.wanted o (yielded ops a.tmps) = true := by simp [Region.wanted, hg]
  rw [if_pos hw]
  unfold Oper.wp
  simp [execOp, hop, resolve, invoke, builtin, hd, hx, hr, Result.andThen]
  exact hK
theorem step_req {ops : Array Oper} {o : Oper} {a : Act} {w wr : World} {K : Act → World → Prop} {Q : Exit → Act → World → Prop} {E : Prop} (hg : o.guard = none) (s x : Operand)
    (hop : o.op = .call { callee := .builtin .append, args := #[s, x], argTypes := #[63, 63] })
    (v : Value) (L : List Rq) (hs : a.eval s = v) (vb : Nat) (y : Rq) (hx : a.eval x = .slice (some ⟨vb, 0, none⟩) 1 1) (hP : Below wr.heap.size wr w ∧ Blk w vb 65 (rv y))
    (hown : wr.ownsRow 0 65 2 v L.length (reqV L)) (hn : L.length ≤ 30000)
    (hK : ∀ v' w', Below wr.heap.size wr w → w'.ownsRow 0 65 2 v' (L ++ [y]).length (reqV (L ++ [y])) → w.grownBy w' v.ownBlock → (v'.ownBlock = v.ownBlock ∨ v'.ownBlock = some w.heap.size) → K (a.put o.dst v') w') :
    if Region.wanted o (yielded ops a.tmps) = true then Oper.wp Try.prog o a w K Q else E := by
  obtain ⟨i0, hi, hz0, hz1, hz2⟩ := info_parts info_req
  have hown2 : w.ownsRow 0 65 2 v L.length (reqV L) := own_same hown fun g hg => hP.1.block g (own_lt hown hg)
  obtain ⟨v', w', hr, h2, h3, _, h5⟩ := run_append_own_at (P := Try.prog) w 0 63 o.type 65 i0 (.agg #[.int .i64 0, .int .i64 0]) 2 16 Try.underlying63 hi hz0 hz1 hz2 rfl (by decide) v L.length (reqV L) hown2 ⟨vb, 0, none⟩ 1 1 (rv y).toList rfl
    (fun j z hj => by rw [Addr.add_lit, hP.2.cell, Nat.zero_add, ← Array.getElem?_toList]; exact hj) (fun z hz => by simp [rv] at hz; rcases hz with rfl | rfl <;> rfl) (by unfold maxLen; omega) (by omega) (Nat.zero_le _)
  refine step_append_known hg s x 63 63 hop v (.slice (some ⟨vb, 0, none⟩) 1 1) hs hx hr (hK v' w' hP.1 ?_ h3 h5)
  have e : reqV [y] = (rv y).toList := by simp [reqV, rv]
  rw [List.length_append, req_app, e]; exact h2
set_option maxRecDepth 100000 in
set_option maxHeartbeats 4000000 in
theorem ask_any (p : Nat) (M : Nat → Prop) (S : KS) (c x : Int) (k : Bool) (w : World) (h : TQ w p M S) (hx : Sm x) (hc : Sm c) (hlen : S.said.length ≤ 3900000) :
    Calls Try.prog 11 #[.pointer (some ⟨p, 0, none⟩), .int .i64 c, .int .i64 x, .bool k] w fun e w' => e = .returned (.int .i64 (askX S c x)) ∧ TQ w' p M (askK S c x k) ∧ Keep M w w' := by
  have q1 := run_eqt w p
  by_cases hbad : c < 1 ∨ 8 < c ∨ x < 0 ∨ 1024 ≤ x
  · have e1 : askX S c x = 1 := by unfold askX; rw [if_pos hbad]
    have e2 : askK S c x k = S := by unfold askK; rw [e1]; rfl
    rw [e1, e2]
    have FIN : Hid (TQ w p M S ∧ Keep M w w) := Lib.hid ⟨h, Keep.refl _ _⟩
    clear h hx hc e1 e2
    by_cases h1 : c < 1
    · go_enter Try.func11, Try.ntmps11
      go_wp2
      go_ret
      exact ⟨rfl, FIN.out⟩
    · by_cases h2 : 8 < c
      · go_enter Try.func11, Try.ntmps11
        go_wp2
        go_ret
        exact ⟨rfl, FIN.out⟩
      · by_cases h3 : x < 0
        · go_enter Try.func11, Try.ntmps11
          go_wp2
          go_ret
          exact ⟨rfl, FIN.out⟩
        · have h4 : 1024 ≤ x := by omega
          clear hbad
          go_enter Try.func11, Try.ntmps11
          go_wp2
          go_ret
          exact ⟨rfl, FIN.out⟩
  · have h1 : ¬ c < 1 := by omega
    have h2 : ¬ 8 < c := by omega
    have h3 : ¬ x < 0 := by omega
    have h4 : ¬ 1024 ≤ x := by omega
    have HR : Hid (1 ≤ c ∧ c ≤ 8 ∧ 0 ≤ x ∧ x < 1024) := Lib.hid (by omega)
    have e1 : askX S c x = if waitB S c x then 31 else 0 := by unfold askX waitB; rw [if_neg hbad]
    clear hbad
    have hb := below_box w (.cells #[.int .i64 c] 3)
    have hB := Blk.new w 3 #[.int .i64 c]
    obtain ⟨G, hT⟩ := h
    obtain ⟨u, g1, ho, HU⟩ := hT.queue hx
    have hQl := hT.wf.len x
    have HZ : Hid (∀ W', Below w.heap.size w W' → W'.cell? ⟨p, 1, none⟩ = some (.map (some G.qb)) ∧ (Instr.lookup 59 (.map (some G.qb)) (.int .i64 x) false).run Try.prog W' = .ok u W') := Lib.hid fun W' hb' => by
      obtain ⟨u', g1', _, HU'⟩ := (hT.below hb').queue hx
      rw [← HU.out] at HU'
      rw [HU'.out] at g1'
      exact ⟨(hT.below hb').topc.2.1, g1'⟩
    have HC : Hid (∀ W, Below w.heap.size w W → Blk W w.heap.size 3 #[.int .i64 c] → Calls Try.prog 25 #[u, .func (.func 43) #[] #[.pointer (some ⟨w.heap.size, 0, none⟩)]] W (fun e w' => e = .returned (.bool (waitB S c x)) ∧ (TQ w' p M S ∧ Keep M w w') ∧ w'.cell? ⟨p, 1, none⟩ = some (.map (some G.qb)))) := Lib.hid fun W hbW hBW =>
      (has_any u (S.Q x) w.heap.size c W ((src_own ho).below hbW) hBW (by omega)).mono fun e w' hd => ⟨hd.1, ⟨⟨G, (hT.below hbW).below hd.2⟩, (Keep.of_below hbW hT.ml).trans (Keep.of_below hd.2 (hT.below hbW).ml)⟩, ((hT.below hbW).below hd.2).topc.2.1⟩
    have HZ0 := Lib.hid (HZ.out _ (Below.refl _ _)).1
    have HZ1 := Lib.hid (HZ.out _ (Below.refl _ _).drew).1
    have HZa := Lib.hid (HZ.out _ hb).1
    have HZb := Lib.hid (HZ.out _ hb.drew).1
    have HCa := Lib.hid (HC.out _ hb hB)
    have HCb := Lib.hid (HC.out _ hb.drew hB)
    have z0 := HZ0.out
    have y0 := (HZ.out _ (Below.refl _ _)).2
    have y1 := (HZ.out _ (Below.refl _ _).drew).2
    have y2 := (HZ.out _ hb).2
    have y3 := (HZ.out _ hb.drew).2
    rw [e1]
    have HASK : Hid (waitB S c x = false → askK S c x k = if wantI k ≤ holdsS S c x then sayK S false c x (holdsS S c x) else settleK (setQ S x (S.Q x ++ [⟨c, wantI k⟩])) x) := Lib.hid fun hw => by
      have e9 : askX S c x = 0 := by rw [e1, hw]; rfl
      unfold askK; rw [e9, if_pos rfl]
    have HASK2 : Hid (waitB S c x = true → askK S c x k = S) := Lib.hid fun hw => by
      have e9 : askX S c x = 31 := by rw [e1, hw]; rfl
      unfold askK; rw [e9, if_neg (by decide)]
    have HND : Hid (waitB S c x = false → (((S.Q x ++ [(⟨c, wantI k⟩ : Rq)]).map Rq.cl).Nodup)) := Lib.hid fun hw => by
      rw [List.map_append, List.nodup_append]
      refine ⟨hT.wf.nd x, by simp, fun a ha b hb e => ?_⟩
      obtain ⟨r, hr, rfl⟩ := List.mem_map.1 ha
      simp at hb
      subst hb
      have := List.any_eq_false.1 hw r hr
      simp [e] at this
    have HRQ := Lib.hid (hT.wf.rq x)
    obtain ⟨au, cu, rfl⟩ := own_shape ho
    clear hT ho HU HZ HC hb hB g1 e1
    obtain ⟨bw, hbw⟩ : ∃ bw, waitB S c x = bw := ⟨_, rfl⟩
    rw [hbw] at HCa HCb HASK HASK2 HND ⊢
    clear hbw
    cases bw with
    | true =>
      have HASK3 := Lib.hid (HASK2.out rfl)
      clear HASK HASK2 HND
      go_enter Try.func11, Try.ntmps11
      go_wp2_with fail
      go_region_held3 (fun W' => W'.cell? ⟨p, 1, none⟩ = some (.map (some G.qb)))
        (first | (with_reducible assumption) | (with_reducible exact HZ0.out) | (with_reducible exact HZ1.out) | (with_reducible exact HZa.out) | (with_reducible exact HZb.out)) (first
        | (go_at_call 26; refine (of_any c _).mono ?_; rintro e w2 ⟨rfl, rfl⟩)
        | (go_at_call 25; (first | (with_reducible refine HCa.out.mono ?_) | (with_reducible refine HCb.out.mono ?_)); rintro e w3 ⟨rfl, hq3, hz4⟩; have HQ3 := Lib.hid hq3; clear hq3))
      all_goals
        clear HZ0 HZ1 HZa HZb HCa HCb z0 y0 y1 y2 y3
        have FIN : Hid ((TQ w3 p M (askK S c x k) ∧ Keep M w w3) ∧ (TQ w3.drew p M (askK S c x k) ∧ Keep M w w3.drew)) := Lib.hid (by
          rw [HASK3.out]
          exact ⟨HQ3.out, HQ3.out.1.drewN 1, HQ3.out.2.drewN 1⟩)
        clear HQ3 HASK3 HRQ
        go_wp2
        go_ret
        first | exact ⟨rfl, FIN.out.1⟩ | exact ⟨rfl, FIN.out.2⟩
    | false =>
      have HASK3 := Lib.hid (HASK.out rfl)
      have HND3 := Lib.hid (HND.out rfl)
      clear HASK HASK2 HND
      go_enter Try.func11, Try.ntmps11
      go_wp2_with fail
      go_region_held3 (fun W' => W'.cell? ⟨p, 1, none⟩ = some (.map (some G.qb)))
        (first | (with_reducible assumption) | (with_reducible exact HZ0.out) | (with_reducible exact HZ1.out) | (with_reducible exact HZa.out) | (with_reducible exact HZb.out)) (first
        | (go_at_call 26; refine (of_any c _).mono ?_; rintro e w2 ⟨rfl, rfl⟩)
        | (go_at_call 25; (first | (with_reducible refine HCa.out.mono ?_) | (with_reducible refine HCb.out.mono ?_)); rintro e w3 ⟨rfl, hq3, hz4⟩; have HQ3 := Lib.hid hq3; clear hq3))
      all_goals
        clear HZ0 HZ1 HZa HZb HCa HCb z0 y0 y1 y2 y3
        (first
          | (obtain ⟨W9, hW9⟩ : ∃ W9, w3.drew = W9 := ⟨_, rfl⟩; have HQ9 := Lib.hid (show TQ W9 p M S by rw [← hW9]; exact HQ3.out.1.drewN 1); have HK9 := Lib.hid (show Keep M w W9 by rw [← hW9]; exact HQ3.out.2.drewN 1); rw [hW9]; clear hW9)
          | (obtain ⟨W9, hW9⟩ : ∃ W9, w3 = W9 := ⟨_, rfl⟩; have HQ9 := Lib.hid (show TQ W9 p M S by rw [← hW9]; exact HQ3.out.1); have HK9 := Lib.hid (show Keep M w W9 by rw [← hW9]; exact HQ3.out.2); rw [hW9]; clear hW9))
        clear HQ3
        cases k with
        | true =>
          have hwant : wantI true = 2 := rfl
          rw [hwant] at HASK3 HND3
          go_upto_region 10 with (fail)
          have HQ1 : Hid (TQ (W9.alloc (.cells #[.int .i64 c, .int .i64 2] 65)) p (M0 M W9.heap.size) S) := Lib.hid (HQ9.out.alloc _)
          have HB1 : Hid (Blk (W9.alloc (.cells #[.int .i64 c, .int .i64 2] 65)) W9.heap.size 65 #[.int .i64 c, .int .i64 2]) := Lib.hid (Blk.new W9 _ _)
          have HK1 : Hid (Keep M w (W9.alloc (.cells #[.int .i64 c, .int .i64 2] 65))) := Lib.hid (HK9.out.trans (keep_of_alloc HQ9.out.lt _))
          have HG1 : Hid (∀ S' w', TQ w' p (M0 M W9.heap.size) S' → Keep (M0 M W9.heap.size) (W9.alloc (.cells #[.int .i64 c, .int .i64 2] 65)) w' → TQ w' p M S' ∧ Keep M w w') := Lib.hid fun S' w' h1 h2 => ⟨h1.mono fun k hk => .inl hk, HK1.out.trans (h2.mono fun k hk => .inl hk)⟩
          clear HQ9 HK9 hwant
          generalize W9.alloc (.cells #[.int .i64 c, .int .i64 2] 65) = W1 at *
          generalize W9.heap.size = bx at *
          obtain ⟨G1, hT1⟩ := HQ1.out
          have HH := Lib.hid (holds_any p _ G1 S c x W1 hT1 hx hc)
          have HT1 := Lib.hid hT1
          have b1 : W1.cell? ⟨bx, 1, none⟩ = some (.int .i64 2) := HB1.out.cell 1
          clear hT1
          go_wp2_with fail
          refine HH.out.mono ?_
          rintro e w10 ⟨rfl, rfl⟩
          clear HH
          by_cases hge : 2 ≤ holdsS S c x
          · have HA := Lib.hid (HASK3.out.trans (if_pos hge))
            have HSA := Lib.hid (say_any p _ S false c x (holdsS S c x) W1 HQ1.out (by omega))
            clear HASK3 HND3 HT1
            go_wp2_with fail
            refine HSA.out.mono ?_
            rintro e w11 ⟨rfl, h11, k11⟩
            have FIN := Lib.hid (show TQ w11 p M (askK S c x true) ∧ Keep M w w11 by rw [HA.out]; exact HG1.out _ _ h11 k11)
            clear h11 k11 HSA HA HG1 b1
            go_wp2
            go_ret
            exact ⟨rfl, FIN.out⟩
          · have HA := Lib.hid (HASK3.out.trans (if_neg hge))
            have hb := below_box W1 (.cells #[.int .i64 c, .int .i64 2] 65)
            have hB := Blk.new W1 65 #[.int .i64 c, .int .i64 2]
            obtain ⟨u, g1, ho, HU⟩ := HT1.out.queue hx
            have HZ : Hid (∀ W', Below W1.heap.size W1 W' → (W'.cell? ⟨p, 1, none⟩ = some (.map (some G1.qb)) ∧ W'.cell? ⟨bx, 0, none⟩ = some (.int .i64 c) ∧ W'.cell? ⟨bx, 1, none⟩ = some (.int .i64 2)) ∧ (Instr.lookup 59 (.map (some G1.qb)) (.int .i64 x) false).run Try.prog W' = .ok u W') := Lib.hid fun W' hb' => by
              obtain ⟨u', g1', _, HU'⟩ := (HT1.out.below hb').queue hx
              rw [← HU.out] at HU'
              rw [HU'.out] at g1'
              exact ⟨⟨(HT1.out.below hb').topc.2.1, (HB1.out.below hb' HB1.out.lt).cell 0, (HB1.out.below hb' HB1.out.lt).cell 1⟩, g1'⟩
            have FIN : Hid (∀ W v5 w5, Below W1.heap.size W1 W → w5.ownsRow 0 65 2 v5 (S.Q x ++ [(⟨c, 2⟩ : Rq)]).length (reqV (S.Q x ++ [(⟨c, 2⟩ : Rq)])) → W.grownBy w5 u.ownBlock → (v5.ownBlock = u.ownBlock ∨ v5.ownBlock = some W.heap.size) →
                (W1.heap.size ≤ w5.heap.size ∧ w5.cell? ⟨p, 1, none⟩ = some (.map (some G1.qb)) ∧ w5.cell? ⟨bx, 0, none⟩ = some (.int .i64 c) ∧ w5.cell? ⟨bx, 1, none⟩ = some (.int .i64 2)) ∧
                ∃ w6, (Instr.mapUpdate 59 (.map (some G1.qb)) (.int .i64 x) v5).run Try.prog w5 = .ok () w6 ∧ Hid (w6.cell? ⟨p, 1, none⟩ = some (.map (some G1.qb)) ∧ w6.cell? ⟨bx, 0, none⟩ = some (.int .i64 c) ∧ w6.cell? ⟨bx, 1, none⟩ = some (.int .i64 2)) ∧ Hid (TQ w6 p (M0 M bx) (setQ S x (S.Q x ++ [⟨c, 2⟩])) ∧ Keep (M0 M bx) W1 w6)) := Lib.hid fun W v5 w5 hbW ho5 hg5 hv5 => by
              have hg : W1.grownBy w5 u.ownBlock := ⟨hg5.os.trans hbW.os, hg5.tape.trans hbW.tape, hg5.output.trans hbW.output, Nat.le_trans hbW.size hg5.size, fun k hk hne => (hg5.block k (Nat.lt_of_lt_of_le hk hbW.size) hne).trans (hbW.block k hk)⟩
              have hua : ∀ k t, G1.σ k = some t → t ≠ .row x → u.ownBlock ≠ some k := fun k t hk ht e => by
                have := HU.out
                unfold qmF at this
                split at this
                · rename_i hq
                  rw [this] at e
                  have h6 := HT1.out.l6 x hq k e
                  rw [hk] at h6; injection h6 with h6; exact ht h6
                · rw [this] at e; cases e
              have hum : ∀ k, M0 M bx k → u.ownBlock ≠ some k := fun k hk e => by
                have := HU.out
                unfold qmF at this
                split at this
                · rename_i hq
                  rw [this] at e
                  exact HT1.out.off k (by rw [HT1.out.l6 x hq k e]; simp) hk
                · rw [this] at e; cases e
              have htop := (HT1.out.top.grown hg (fun e => hua p _ HT1.out.l0 (by simp) e.symm)).cell 1
              have hbox := HB1.out.grown hg (fun e => hum bx (.inr rfl) e.symm)
              have hq5 : MapV w5 G1.qb 0 1024 (qmF G1) := HT1.out.qm.same (hg.block _ HT1.out.qm.lt (fun e => hua _ _ HT1.out.l2 (by simp) e.symm))
              obtain ⟨w6, hr, hm, ht⟩ := hq5.put Try.underlying59 (x := x) ⟨hx, by have := HR.out; omega, by have := HR.out; omega⟩ (by decide) v5
              have hh := HT1.out.qput (x := x) (l := S.Q x ++ [⟨c, 2⟩]) (u := v5) (fun r hr => by
                rcases List.mem_append.1 hr with hr | hr
                · exact HRQ.out r hr
                · obtain rfl := List.mem_singleton.1 hr
                  have := HR.out
                  exact ⟨this.2.2.1, this.2.2.2, this.1, this.2.1, by simp⟩) HND3.out ho5 (by rw [← HU.out]; exact hg) (fun g hg' => by
                rw [← HU.out]
                rcases hv5 with e | e
                · exact .inl (by rw [← e]; exact hg')
                · rw [e] at hg'; injection hg' with hg'; have := hbW.size; exact .inr (by omega)) hm ht
              have hbox6 := hh.2.blk HB1.out (.inr rfl)
              exact ⟨⟨hg.size, htop, hbox.cell 0, hbox.cell 1⟩, w6, hr, Lib.hid ⟨hh.1.topc.2.1, hbox6.cell 0, hbox6.cell 1⟩, Lib.hid ⟨⟨_, hh.1⟩, hh.2⟩⟩
            have HZ0 := Lib.hid (HZ.out _ (Below.refl _ _)).1
            have HZ1 := Lib.hid (HZ.out _ (Below.refl _ _).drew).1
            have HZa := Lib.hid (HZ.out _ hb).1
            have HZb := Lib.hid (HZ.out _ hb.drew).1
            have z0 := HZ0.out.1
            have z1 := HZ0.out.2.1
            have y0 := (HZ.out _ (Below.refl _ _)).2
            have y1 := (HZ.out _ (Below.refl _ _).drew).2
            have y2 := (HZ.out _ hb).2
            have y3 := (HZ.out _ hb.drew).2
            obtain ⟨a9, c9, rfl⟩ := own_shape ho
            have HO := Lib.hid ho
            have HQL := Lib.hid (show (S.Q x).length ≤ 30000 by omega)
            have HLN := Lib.hid (show (S.Q x ++ [(⟨c, 2⟩ : Rq)]).length = (S.Q x).length + 1 by simp)
            clear  hb hB ho HU HZ g1 HASK3 HT1 HND3 HRQ
            go_wp2_with fail
            go_region_held3 (fun W' => W'.cell? ⟨p, 1, none⟩ = some (.map (some G1.qb)) ∧ W'.cell? ⟨bx, 0, none⟩ = some (.int .i64 c) ∧ W'.cell? ⟨bx, 1, none⟩ = some (.int .i64 2))
              (first | (with_reducible assumption) | (with_reducible exact HZ0.out) | (with_reducible exact HZ1.out) | (with_reducible exact HZa.out) | (with_reducible exact HZb.out) | (with_reducible exact H6S.out) | (with_reducible exact H7S.out)) (first
              | (refine step_req (wr := W1) rfl (.tmp 66) (.tmp 68) rfl (.slice a9 (S.Q x).length c9) (S.Q x) (by simp [Act.eval]) W1.heap.size ⟨c, 2⟩ (by simp [Act.eval]) ?hp HO.out HQL.out ?_; (case hp => first | exact ⟨(below_box _ _).drew, Blk.new W1 _ _⟩ | exact ⟨below_box _ _, Blk.new W1 _ _⟩); intro v5 w5 hb5 ho5 hg5 hv5; obtain ⟨hs5, w6, hmu6, H6S, HE6⟩ := FIN.out _ v5 w5 hb5 ho5 hg5 hv5; have hs5' := hs5.2; obtain ⟨-, w7, hmu7, H7S, HE7⟩ := FIN.out _ v5 w5.drew hb5 ho5 (grown_drew2 hg5) hv5; obtain ⟨a5, n5, e5⟩ := own_shape ho5; rw [HLN.out] at e5; subst e5; clear hb5 ho5 hg5 hv5)
              | fail)
            all_goals
              clear FIN HO HZ0 HZ1 HZa HZb y0 y1 y2 y3 hmu6 hmu7 z0 z1
              have HS6 := Lib.hid (settle_any p _ _ x w6 HE6.out.1 hx hlen)
              have HS7 := Lib.hid (settle_any p _ _ x w7 HE7.out.1 hx hlen)
              go_wp2_with fail
              first | refine HS6.out.mono ?_ | refine HS7.out.mono ?_
              rintro e w8 ⟨rfl, h8, k8⟩
              have FIN := Lib.hid (show TQ w8 p M (askK S c x true) ∧ Keep M w w8 by
                rw [HA.out]
                first | exact HG1.out _ _ h8 (HE6.out.2.trans k8) | exact HG1.out _ _ h8 (HE7.out.2.trans k8))
              clear h8 k8 HS6 HS7 HA HG1 HE6 HE7 H6S H7S b1
              go_wp2
              go_ret
              exact ⟨rfl, FIN.out⟩
        | false =>
          have hwant : wantI false = 1 := rfl
          rw [hwant] at HASK3 HND3
          go_upto_region 10 with (fail)
          have HQ1 : Hid (TQ (W9.alloc (.cells #[.int .i64 c, .int .i64 1] 65)) p (M0 M W9.heap.size) S) := Lib.hid (HQ9.out.alloc _)
          have HB1 : Hid (Blk (W9.alloc (.cells #[.int .i64 c, .int .i64 1] 65)) W9.heap.size 65 #[.int .i64 c, .int .i64 1]) := Lib.hid (Blk.new W9 _ _)
          have HK1 : Hid (Keep M w (W9.alloc (.cells #[.int .i64 c, .int .i64 1] 65))) := Lib.hid (HK9.out.trans (keep_of_alloc HQ9.out.lt _))
          have HG1 : Hid (∀ S' w', TQ w' p (M0 M W9.heap.size) S' → Keep (M0 M W9.heap.size) (W9.alloc (.cells #[.int .i64 c, .int .i64 1] 65)) w' → TQ w' p M S' ∧ Keep M w w') := Lib.hid fun S' w' h1 h2 => ⟨h1.mono fun k hk => .inl hk, HK1.out.trans (h2.mono fun k hk => .inl hk)⟩
          clear HQ9 HK9 hwant
          generalize W9.alloc (.cells #[.int .i64 c, .int .i64 1] 65) = W1 at *
          generalize W9.heap.size = bx at *
          obtain ⟨G1, hT1⟩ := HQ1.out
          have HH := Lib.hid (holds_any p _ G1 S c x W1 hT1 hx hc)
          have HT1 := Lib.hid hT1
          have b1 : W1.cell? ⟨bx, 1, none⟩ = some (.int .i64 1) := HB1.out.cell 1
          clear hT1
          go_wp2_with fail
          refine HH.out.mono ?_
          rintro e w10 ⟨rfl, rfl⟩
          clear HH
          by_cases hge : 1 ≤ holdsS S c x
          · have HA := Lib.hid (HASK3.out.trans (if_pos hge))
            have HSA := Lib.hid (say_any p _ S false c x (holdsS S c x) W1 HQ1.out (by omega))
            clear HASK3 HND3 HT1
            go_wp2_with fail
            refine HSA.out.mono ?_
            rintro e w11 ⟨rfl, h11, k11⟩
            have FIN := Lib.hid (show TQ w11 p M (askK S c x false) ∧ Keep M w w11 by rw [HA.out]; exact HG1.out _ _ h11 k11)
            clear h11 k11 HSA HA HG1 b1
            go_wp2
            go_ret
            exact ⟨rfl, FIN.out⟩
          · have HA := Lib.hid (HASK3.out.trans (if_neg hge))
            have hb := below_box W1 (.cells #[.int .i64 c, .int .i64 1] 65)
            have hB := Blk.new W1 65 #[.int .i64 c, .int .i64 1]
            obtain ⟨u, g1, ho, HU⟩ := HT1.out.queue hx
            have HZ : Hid (∀ W', Below W1.heap.size W1 W' → (W'.cell? ⟨p, 1, none⟩ = some (.map (some G1.qb)) ∧ W'.cell? ⟨bx, 0, none⟩ = some (.int .i64 c) ∧ W'.cell? ⟨bx, 1, none⟩ = some (.int .i64 1)) ∧ (Instr.lookup 59 (.map (some G1.qb)) (.int .i64 x) false).run Try.prog W' = .ok u W') := Lib.hid fun W' hb' => by
              obtain ⟨u', g1', _, HU'⟩ := (HT1.out.below hb').queue hx
              rw [← HU.out] at HU'
              rw [HU'.out] at g1'
              exact ⟨⟨(HT1.out.below hb').topc.2.1, (HB1.out.below hb' HB1.out.lt).cell 0, (HB1.out.below hb' HB1.out.lt).cell 1⟩, g1'⟩
            have FIN : Hid (∀ W v5 w5, Below W1.heap.size W1 W → w5.ownsRow 0 65 2 v5 (S.Q x ++ [(⟨c, 1⟩ : Rq)]).length (reqV (S.Q x ++ [(⟨c, 1⟩ : Rq)])) → W.grownBy w5 u.ownBlock → (v5.ownBlock = u.ownBlock ∨ v5.ownBlock = some W.heap.size) →
                (W1.heap.size ≤ w5.heap.size ∧ w5.cell? ⟨p, 1, none⟩ = some (.map (some G1.qb)) ∧ w5.cell? ⟨bx, 0, none⟩ = some (.int .i64 c) ∧ w5.cell? ⟨bx, 1, none⟩ = some (.int .i64 1)) ∧
                ∃ w6, (Instr.mapUpdate 59 (.map (some G1.qb)) (.int .i64 x) v5).run Try.prog w5 = .ok () w6 ∧ Hid (w6.cell? ⟨p, 1, none⟩ = some (.map (some G1.qb)) ∧ w6.cell? ⟨bx, 0, none⟩ = some (.int .i64 c) ∧ w6.cell? ⟨bx, 1, none⟩ = some (.int .i64 1)) ∧ Hid (TQ w6 p (M0 M bx) (setQ S x (S.Q x ++ [⟨c, 1⟩])) ∧ Keep (M0 M bx) W1 w6)) := Lib.hid fun W v5 w5 hbW ho5 hg5 hv5 => by
              have hg : W1.grownBy w5 u.ownBlock := ⟨hg5.os.trans hbW.os, hg5.tape.trans hbW.tape, hg5.output.trans hbW.output, Nat.le_trans hbW.size hg5.size, fun k hk hne => (hg5.block k (Nat.lt_of_lt_of_le hk hbW.size) hne).trans (hbW.block k hk)⟩
              have hua : ∀ k t, G1.σ k = some t → t ≠ .row x → u.ownBlock ≠ some k := fun k t hk ht e => by
                have := HU.out
                unfold qmF at this
                split at this
                · rename_i hq
                  rw [this] at e
                  have h6 := HT1.out.l6 x hq k e
                  rw [hk] at h6; injection h6 with h6; exact ht h6
                · rw [this] at e; cases e
              have hum : ∀ k, M0 M bx k → u.ownBlock ≠ some k := fun k hk e => by
                have := HU.out
                unfold qmF at this
                split at this
                · rename_i hq
                  rw [this] at e
                  exact HT1.out.off k (by rw [HT1.out.l6 x hq k e]; simp) hk
                · rw [this] at e; cases e
              have htop := (HT1.out.top.grown hg (fun e => hua p _ HT1.out.l0 (by simp) e.symm)).cell 1
              have hbox := HB1.out.grown hg (fun e => hum bx (.inr rfl) e.symm)
              have hq5 : MapV w5 G1.qb 0 1024 (qmF G1) := HT1.out.qm.same (hg.block _ HT1.out.qm.lt (fun e => hua _ _ HT1.out.l2 (by simp) e.symm))
              obtain ⟨w6, hr, hm, ht⟩ := hq5.put Try.underlying59 (x := x) ⟨hx, by have := HR.out; omega, by have := HR.out; omega⟩ (by decide) v5
              have hh := HT1.out.qput (x := x) (l := S.Q x ++ [⟨c, 1⟩]) (u := v5) (fun r hr => by
                rcases List.mem_append.1 hr with hr | hr
                · exact HRQ.out r hr
                · obtain rfl := List.mem_singleton.1 hr
                  have := HR.out
                  exact ⟨this.2.2.1, this.2.2.2, this.1, this.2.1, by simp⟩) HND3.out ho5 (by rw [← HU.out]; exact hg) (fun g hg' => by
                rw [← HU.out]
                rcases hv5 with e | e
                · exact .inl (by rw [← e]; exact hg')
                · rw [e] at hg'; injection hg' with hg'; have := hbW.size; exact .inr (by omega)) hm ht
              have hbox6 := hh.2.blk HB1.out (.inr rfl)
              exact ⟨⟨hg.size, htop, hbox.cell 0, hbox.cell 1⟩, w6, hr, Lib.hid ⟨hh.1.topc.2.1, hbox6.cell 0, hbox6.cell 1⟩, Lib.hid ⟨⟨_, hh.1⟩, hh.2⟩⟩
            have HZ0 := Lib.hid (HZ.out _ (Below.refl _ _)).1
            have HZ1 := Lib.hid (HZ.out _ (Below.refl _ _).drew).1
            have HZa := Lib.hid (HZ.out _ hb).1
            have HZb := Lib.hid (HZ.out _ hb.drew).1
            have z0 := HZ0.out.1
            have z1 := HZ0.out.2.1
            have y0 := (HZ.out _ (Below.refl _ _)).2
            have y1 := (HZ.out _ (Below.refl _ _).drew).2
            have y2 := (HZ.out _ hb).2
            have y3 := (HZ.out _ hb.drew).2
            obtain ⟨a9, c9, rfl⟩ := own_shape ho
            have HO := Lib.hid ho
            have HQL := Lib.hid (show (S.Q x).length ≤ 30000 by omega)
            have HLN := Lib.hid (show (S.Q x ++ [(⟨c, 1⟩ : Rq)]).length = (S.Q x).length + 1 by simp)
            clear  hb hB ho HU HZ g1 HASK3 HT1 HND3 HRQ
            go_wp2_with fail
            go_region_held3 (fun W' => W'.cell? ⟨p, 1, none⟩ = some (.map (some G1.qb)) ∧ W'.cell? ⟨bx, 0, none⟩ = some (.int .i64 c) ∧ W'.cell? ⟨bx, 1, none⟩ = some (.int .i64 1))
              (first | (with_reducible assumption) | (with_reducible exact HZ0.out) | (with_reducible exact HZ1.out) | (with_reducible exact HZa.out) | (with_reducible exact HZb.out) | (with_reducible exact H6S.out) | (with_reducible exact H7S.out)) (first
              | (refine step_req (wr := W1) rfl (.tmp 66) (.tmp 68) rfl (.slice a9 (S.Q x).length c9) (S.Q x) (by simp [Act.eval]) W1.heap.size ⟨c, 1⟩ (by simp [Act.eval]) ?hp HO.out HQL.out ?_; (case hp => first | exact ⟨(below_box _ _).drew, Blk.new W1 _ _⟩ | exact ⟨below_box _ _, Blk.new W1 _ _⟩); intro v5 w5 hb5 ho5 hg5 hv5; obtain ⟨hs5, w6, hmu6, H6S, HE6⟩ := FIN.out _ v5 w5 hb5 ho5 hg5 hv5; have hs5' := hs5.2; obtain ⟨-, w7, hmu7, H7S, HE7⟩ := FIN.out _ v5 w5.drew hb5 ho5 (grown_drew2 hg5) hv5; obtain ⟨a5, n5, e5⟩ := own_shape ho5; rw [HLN.out] at e5; subst e5; clear hb5 ho5 hg5 hv5)
              | fail)
            all_goals
              clear FIN HO HZ0 HZ1 HZa HZb y0 y1 y2 y3 hmu6 hmu7 z0 z1
              have HS6 := Lib.hid (settle_any p _ _ x w6 HE6.out.1 hx hlen)
              have HS7 := Lib.hid (settle_any p _ _ x w7 HE7.out.1 hx hlen)
              go_wp2_with fail
              first | refine HS6.out.mono ?_ | refine HS7.out.mono ?_
              rintro e w8 ⟨rfl, h8, k8⟩
              have FIN := Lib.hid (show TQ w8 p M (askK S c x false) ∧ Keep M w w8 by
                rw [HA.out]
                first | exact HG1.out _ _ h8 (HE6.out.2.trans k8) | exact HG1.out _ _ h8 (HE7.out.2.trans k8))
              clear h8 k8 HS6 HS7 HA HG1 HE6 HE7 H6S H7S b1
              go_wp2
              go_ret
              exact ⟨rfl, FIN.out⟩
end Go.Proofs.Ythodggkpkjfggaa.Key
