/- say, unlock, unqueue. -/
import Derived.Test.YthodggkpkjfggaaKeyWay2
namespace Go.Proofs.Ythodggkpkjfggaa.Key
set_option maxRecDepth 100000
open Go.RowKit
open Go.Proofs.Ythodggkpkjfggaa.Mem
open Go.Maps
theorem info_word : (Try.prog.info? 36).map (fun i => (i.zero, i.size, i.bytes)) = some (some (.agg #[.bool false, .int .i64 0, .int .i64 0, .bool false]), 4, 32) := by kernel_rfl
section
variable {w : World} {ops : Array Oper} {rest : List Oper} {o : Oper} {a : Act} {Q : Exit → Act → World → Prop} {b n : Nat} {lo : Int} {f : Int → Option Value}
/-- append of one word to an own row -/
theorem wpList_appW (hgd : o.guard = none) (s x : Operand) (ho : o.op = .call { callee := .builtin .append, args := #[s, x], argTypes := #[33, 33] }) (B : Nat)
    (v : Value) (L : List Wd) (hs : a.eval s = v) (hown : w.ownsRow B 36 4 v L.length (wordsV L)) (vb : Nat) (y : Wd) (hx : a.eval x = .slice (some ⟨vb, 0, none⟩) 1 1)
    (hb : Blk w vb 36 (wv y)) (hn : L.length ≤ 4000000) (hB : B ≤ w.heap.size)
    (h : ∀ v' w', w'.ownsRow B 36 4 v' (L ++ [y]).length (wordsV (L ++ [y])) → w.grownBy w' v.ownBlock → (v'.ownBlock = v.ownBlock ∨ v'.ownBlock = some w.heap.size) → wpList Try.prog ops Q rest (a.put o.dst v') w') : wpList Try.prog ops Q (o :: rest) a w := by
  obtain ⟨i0, hi, hz0, hz1, hz2⟩ := info_parts info_word
  refine wpList_append_own_at w hgd s x 33 ho B 36 i0 (.agg #[.bool false, .int .i64 0, .int .i64 0, .bool false]) 4 32 Try.underlying33 hi hz0 hz1 hz2 rfl (by decide) v L.length (wordsV L) hs hown ⟨vb, 0, none⟩ 1 1 (wv y).toList hx rfl (fun j z hj => ?_) (fun z hz => ?_) (by unfold maxLen; omega) (by omega) hB ?_
  · rw [Addr.add_lit, hb.cell, Nat.zero_add, ← Array.getElem?_toList]; exact hj
  · simp [wv] at hz; rcases hz with rfl | rfl | rfl | rfl <;> rfl
  · intro v' w' h1 h2 _ h4
    refine h v' w' ?_ h2 h4
    rw [List.length_append, words_app, words_one]; exact h1
theorem wpList_mput {t e : TypeId} (hg : o.guard = none) (m x v : Operand) (hop : o.op = Op.mapUpdate t m x v) (ht : Try.prog.underlying t = some (.map 3 e)) (hm : a.eval m = .map (some b)) (h : MapV w b lo n f) (k : Int) (hk : Sm k ∧ lo ≤ k ∧ k < lo + n) (hx : a.eval x = .int .i64 k) (u : Value) (hv : a.eval v = u) (hn : n < maxLen)
    (hK : ∀ w', MapV w' b lo n (fun y => if y = k then some u else f y) → w.mapTurned w' b → wpList Try.prog ops Q rest (a.put o.dst undef) w') : wpList Try.prog ops Q (o :: rest) a w := by
  refine wpList_plain hg fun K' hK' => ?_
  obtain ⟨w', hrun, r1, r2⟩ := h.put ht hk hn u
  unfold Oper.wp
  simp [execOp, hop, hm, hx, hv, hrun, Result.andThen]
  exact hK' _ _ (hK w' r1 r2)
theorem wpList_mdel {t e : TypeId} (hg : o.guard = none) (m x : Operand) (hop : o.op = Op.call { callee := Callee.builtin Builtin.delete, args := #[m, x], argTypes := #[t, 3] }) (ht : Try.prog.underlying t = some (.map 3 e)) (hm : a.eval m = .map (some b)) (h : MapV w b lo n f) (k : Int) (hk : Sm k) (hx : a.eval x = .int .i64 k)
    (hK : ∀ w', MapV w' b lo n (fun y => if y = k then none else f y) → w.mapTurned w' b → wpList Try.prog ops Q rest (a.put o.dst (.tuple #[])) w') : wpList Try.prog ops Q (o :: rest) a w := by
  refine wpList_plain hg fun K' hK' => ?_
  obtain ⟨w', hrun, r1, r2⟩ := h.del ht hk o.type
  unfold Oper.wp
  simp [execOp, hop, resolve, invoke, builtin, hm, hx, hrun, Result.andThen]
  exact hK' _ _ (hK w' r1 r2)
theorem wpList_mlen {t e : TypeId} (hg : o.guard = none) (m : Operand) (hop : o.op = Op.call { callee := Callee.builtin Builtin.len, args := #[m], argTypes := #[t] }) (ht : Try.prog.underlying t = some (.map 3 e)) (hm : a.eval m = .map (some b)) (h : MapV w b lo n f)
    (hK : ∀ k : Nat, (k = 0 → ∀ x, f x = none) → wpList Try.prog ops Q rest (a.put o.dst (.int .i64 (k : Int))) w) : wpList Try.prog ops Q (o :: rest) a w := by
  refine wpList_plain hg fun K' hK' => ?_
  obtain ⟨k, hrun, r1⟩ := h.len ht o.type
  unfold Oper.wp
  simp [execOp, hop, resolve, invoke, builtin, hm, hrun, Result.andThen]
  exact hK' _ _ (hK k r1)
end
theorem keep_of_alloc {M : Nat → Prop} {w : World} (h : ∀ k, M k → k < w.heap.size) (o : Obj) : Keep M w (w.alloc o) := (Keep.refl M w).alloc h o
set_option maxRecDepth 100000 in
set_option maxHeartbeats 1000000 in
theorem say_any (p : Nat) (M : Nat → Prop) (S : KS) (b : Bool) (c x st : Int) (w : World) (h : TQ w p M S) (hlen : S.said.length ≤ 4000000) :
    Calls Try.prog 27 #[.pointer (some ⟨p, 0, none⟩), .bool b, .int .i64 c, .int .i64 x, .int .i64 st] w fun e w' => e = .returned (.tuple #[]) ∧ TQ w' p M (sayK S b c x st) ∧ Keep M w w' := by
  obtain ⟨G, h⟩ := h
  have hb := below_box w (.cells #[.bool b, .int .i64 c, .int .i64 x, .bool (st == 2)] 36)
  have h1 := h.below hb
  have c2 := h.topc.2.2.1
  obtain ⟨a0, cv, hv⟩ := own_shape h.sd
  rw [hv] at c2
  have FIN : Hid (∀ v5 w5, w5.ownsRow 0 36 4 v5 (S.said ++ [(⟨b, c, x, st == 2⟩ : Wd)]).length (wordsV (S.said ++ [(⟨b, c, x, st == 2⟩ : Wd)])) → (w.alloc (.cells #[.bool b, .int .i64 c, .int .i64 x, .bool (st == 2)] 36)).grownBy w5 (Value.slice a0 S.said.length cv).ownBlock → (v5.ownBlock = (Value.slice a0 S.said.length cv).ownBlock ∨ v5.ownBlock = some (w.alloc (.cells #[.bool b, .int .i64 c, .int .i64 x, .bool (st == 2)] 36)).heap.size) →
      (∃ a n c, v5 = .slice a n c) ∧ w5.cell? ⟨p, 2, none⟩ = some (.slice a0 S.said.length cv) ∧ w5.frozen? ⟨p, 2, none⟩ = false ∧ TQ (w5.setCell ⟨p, 2, none⟩ v5) p M (sayK S b c x st) ∧ Keep M w (w5.setCell ⟨p, 2, none⟩ v5)) := Lib.hid fun v5 w5 ho hg hv5 => by
    obtain ⟨a5, c5, e5⟩ := own_shape ho
    rw [← hv] at hg hv5 ⊢
    obtain ⟨k1, k2, k3, k4⟩ := h1.laid ho hg (fun g hg5 => by
      rcases hv5 with e1 | e1
      · exact .inl (e1.symm.trans hg5)
      · rw [e1] at hg5; injection hg5 with hg5; exact .inr (by omega))
    exact ⟨⟨a5, _, c5, e5⟩, k1, k2, ⟨_, k3⟩, (Keep.of_below hb h.ml).trans k4⟩
  have HO := Lib.hid (show (w.alloc (.cells #[.bool b, .int .i64 c, .int .i64 x, .bool (st == 2)] 36)).ownsRow 0 36 4 (.slice a0 S.said.length cv) S.said.length (wordsV S.said) by rw [← hv]; exact h1.sd)
  have hW := Blk.new w 36 #[.bool b, .int .i64 c, .int .i64 x, .bool (st == 2)]
  clear h h1 hb hv
  go_enter Try.func27, Try.ntmps27
  go_wp2_with (at_builtin; refine wpList_appW rfl _ _ rfl 0 _ S.said rfl HO.out w.heap.size ⟨b, c, x, st == 2⟩ rfl hW hlen (Nat.zero_le _) ?_; intro v5 w5 ho5 hg5 hv5; have HE := Lib.hid (FIN.out v5 w5 ho5 hg5 hv5); obtain ⟨a5, n5, c5, e5⟩ := HE.out.1; subst e5; have k5 := HE.out.2.1; have f5 := HE.out.2.2.1; clear ho5 hg5 hv5)
  refine bodyPost_end (v := .tuple #[]) (by simp [results, Try.results27, go_sem]) rfl ?_
  exact ⟨rfl, HE.out.2.2.2⟩
theorem grown_drew {w w' : World} {r : Option Nat} (h : w.drew.grownBy w' r) : w.grownBy w' r := ⟨h.os, h.tape, h.output, h.size, h.block⟩
theorem grown_drew2 {w w' : World} {r : Option Nat} (h : w.grownBy w' r) : w.grownBy w'.drew r := ⟨h.os, h.tape, h.output, h.size, h.block⟩
theorem imF_none {G : Gh} {S : KS} {x : Int} (h : ∀ d, imF G S x d = none) : ∀ d, S.L x d = none := fun d => by
  have := h d
  unfold imF at this
  cases e : S.L x d with
  | none => rfl
  | some l => rw [e] at this; cases this
set_option maxRecDepth 100000 in
set_option maxHeartbeats 1000000 in
theorem unlock_any (p : Nat) (M : Nat → Prop) (S : KS) (c x : Int) (w : World) (h : TQ w p M S) (hx : Sm x) (hc : Sm c) (hl : S.L x c ≠ none) :
    Calls Try.prog 29 #[.pointer (some ⟨p, 0, none⟩), .int .i64 c, .int .i64 x] w fun e w' => e = .returned (.tuple #[]) ∧ TQ w' p M (setK S x c none) ∧ Keep M w w' := by
  obtain ⟨G, h⟩ := h
  have hi := h.io x c hl
  obtain ⟨mo, g1, -, HMO⟩ := h.get hx hc
  have hmo := HMO.out
  rw [hi, if_pos rfl] at hmo
  subst hmo
  have HM := Lib.hid (h.im x hi)
  have c0 := h.topc.1
  have FIN : Hid (∀ w2, MapV w2 (G.bl x) 1 8 (fun d => if d = c then none else imF G S x d) → w.mapTurned w2 (G.bl x) →
      (TM w2 p M G (setK S x c none) ∧ Keep M w w2) ∧ w2.cell? ⟨p, 0, none⟩ = some (.map (some G.lb)) ∧ (Instr.lookup 58 (.map (some G.lb)) (.int .i64 x) false).run Try.prog w2 = .ok (.map (some (G.bl x))) w2) := Lib.hid fun w2 hm ht => by
    have h2 := h.del hi hm ht
    obtain ⟨mo2, g2, -, HMO2⟩ := h2.1.get hx hc
    have hmo2 := HMO2.out
    rw [hi, if_pos rfl] at hmo2
    subst hmo2
    exact ⟨h2, h2.1.topc.1, g2⟩
  clear h HMO hl
  go_enter Try.func29, Try.ntmps29
  go_wp2_with (first
    | (at_delete; refine wpList_mdel rfl _ _ rfl Try.underlying73 rfl HM.out c hc rfl ?_; intro w2 hm2 ht2; have HE := Lib.hid (FIN.out w2 hm2 ht2); have d0 := HE.out.2.1; have g2 := HE.out.2.2; clear hm2 ht2 HM FIN)
    | (at_len; refine wpList_mlen rfl _ rfl Try.underlying73 rfl (HE.out.1.1.im x hi) ?_; intro k hk; have HKN := Lib.hid hk; clear hk; by_cases hk0 : k = 0)
    | (at_delete; have hk1 := hk0; refine wpList_mdel rfl _ _ rfl Try.underlying58 rfl HE.out.1.1.lm x hx rfl ?_; intro w3 hm3 ht3; have HE3 := Lib.hid (HE.out.1.1.drop (imF_none (HKN.out hk0)) hm3 ht3); clear hm3 ht3)
    | fail)
  · refine bodyPost_end (v := .tuple #[]) (by simp [results, Try.results29, go_sem]) rfl ?_
    exact ⟨rfl, ⟨_, HE3.out.1⟩, HE.out.1.2.trans HE3.out.2⟩
  · refine bodyPost_end (v := .tuple #[]) (by simp [results, Try.results29, go_sem]) rfl ?_
    exact ⟨rfl, ⟨_, HE.out.1.1⟩, HE.out.1.2⟩
set_option maxRecDepth 100000 in
set_option maxHeartbeats 1000000 in
theorem unqueue_any (p : Nat) (M : Nat → Prop) (S : KS) (c x : Int) (w : World) (h : TQ w p M S) (hx : Sm x ∧ 0 ≤ x ∧ x < 1024) :
    Calls Try.prog 54 #[.pointer (some ⟨p, 0, none⟩), .int .i64 c, .int .i64 x] w fun e w' => e = .returned (.tuple #[]) ∧ TQ w' p M (unqK S c x) ∧ Keep M w w' := by
  obtain ⟨G, h⟩ := h
  have hb := below_box w (.cells #[.int .i64 c] 3)
  have hB := Blk.new w 3 #[.int .i64 c]
  obtain ⟨u, g1, ho, HU⟩ := h.queue hx.1
  have hlen := h.wf.len x
  have c1 := h.topc.2.1
  generalize hF : (S.Q x).filter (notC c) = F
  have hFl : F.length ≤ 8 := by rw [← hF]; exact Nat.le_trans (List.length_filter_le _ _) hlen
  -- what is left of the queue, stored
  have FIN : Hid (∀ w3 v3, w3.ownsRow 0 65 2 v3 F.length (reqV F) → (w.alloc (.cells #[.int .i64 c] 3)).grownBy w3 u.ownBlock → v3.ownBlock = u.ownBlock →
      ∃ w4, (Instr.mapUpdate 59 (.map (some G.qb)) (.int .i64 x) v3).run Try.prog w3 = .ok () w4 ∧ w4.cell? ⟨p, 1, none⟩ = some (.map (some G.qb)) ∧
        (∃ a4 k4, (Instr.lookup 59 (.map (some G.qb)) (.int .i64 x) false).run Try.prog w4 = .ok (.slice a4 F.length k4) w4) ∧ Hid (TQ w4 p M (unqK S c x) ∧ Keep M w w4) ∧
        Hid (∃ f4, MapV w4 G.qb 0 1024 f4 ∧ ∀ w6, MapV w6 G.qb 0 1024 (fun y => if y = x then none else f4 y) → w4.mapTurned w6 G.qb → F = [] → TQ w6 p M (unqK S c x) ∧ Keep M w w6)) := Lib.hid fun w3 v3 ho3 hg3 hv3 => by
    have hbW := hb
    have hW := h.below hbW
    have hg : w.grownBy w3 u.ownBlock := ⟨hg3.os.trans hbW.os, hg3.tape.trans hbW.tape, hg3.output.trans hbW.output, Nat.le_trans hbW.size hg3.size, fun k hk hne => (hg3.block k (Nat.lt_of_lt_of_le hk hbW.size) hne).trans (hbW.block k hk)⟩
    have huq : u.ownBlock ≠ some G.qb := fun e => by
      have := HU.out
      unfold qmF at this
      split at this
      · rename_i hq
        rw [this] at e
        have h6 := h.l6 x hq G.qb e
        rw [h.l2] at h6; cases h6
      · rw [this] at e; cases e
    have hq3 : MapV w3 G.qb 0 1024 (qmF G) := h.qm.same (hg.block _ h.qm.lt (fun e => huq e.symm))
    obtain ⟨w4, hr, hm, ht⟩ := hq3.put Try.underlying59 hx (by decide) v3
    have hh := h.qput (x := x) (l := F) (u := v3) (fun r hr => h.wf.rq x r (by rw [← hF] at hr; exact (List.mem_filter.1 hr).1)) (by rw [← hF]; exact (h.wf.nd x).sublist (List.Sublist.map _ List.filter_sublist)) ho3 (by rw [← HU.out]; exact hg) (fun g hg' => .inl (by rw [← HU.out, ← hv3]; exact hg')) hm ht
    have hS : setQ S x F = unqK S c x := by rw [← hF]; rfl
    rw [hS] at hh
    obtain ⟨u4, g4, ho4, _⟩ := hh.1.queue hx.1
    have hQ4 : (unqK S c x).Q x = F := by rw [← hS]; simp [setQ]
    rw [hQ4] at ho4
    obtain ⟨a4, k4, e4⟩ := own_shape ho4
    rw [e4] at g4
    refine ⟨w4, hr, hh.1.topc.2.1, ⟨a4, k4, g4⟩, Lib.hid ⟨⟨_, hh.1⟩, hh.2⟩, Lib.hid ⟨_, hh.1.qm, fun w6 hm6 ht6 hF0 => ?_⟩⟩
    have h6 := hh.1.qdel (x := x) (by rw [hQ4]; exact hF0) hm6 ht6
    exact ⟨⟨_, h6.1⟩, hh.2.trans h6.2⟩
  have HD : Hid (∀ W, Below w.heap.size w W → Blk W w.heap.size 3 #[.int .i64 c] → (∀ w' r, W.grownBy w' r → (w.alloc (.cells #[.int .i64 c] 3)).grownBy w' r) → Calls Try.prog 73 #[u, .func (.func 43) #[] #[.pointer (some ⟨w.heap.size, 0, none⟩)]] W (fun e w' => (∃ v', e = .returned v' ∧ w'.ownsRow 0 65 2 v' F.length (reqV F) ∧ (w.alloc (.cells #[.int .i64 c] 3)).grownBy w' u.ownBlock ∧ v'.ownBlock = u.ownBlock) ∧ w'.cell? ⟨p, 1, none⟩ = some (.map (some G.qb)))) := Lib.hid fun W hbW hB hW0 => by
    rw [← hF]
    have huC : u.ownBlock ≠ some w.heap.size := fun e => by have := own_lt ho e; omega
    refine (delf_any u w.heap.size (S.Q x) c W (own_below ho hbW) hB huC (by omega)).mono fun e w' hd => ?_
    obtain ⟨v', hd1, hd2, hg, hd4⟩ := hd
    have hpu : u.ownBlock ≠ some p := fun e => by
      have := HU.out
      unfold qmF at this
      split at this
      · rename_i hq
        rw [this] at e
        have h6 := h.l6 x hq p e
        rw [h.l0] at h6; cases h6
      · rw [this] at e; cases e
    exact ⟨⟨v', hd1, hd2, hW0 _ _ hg, hd4⟩, ((h.below hbW).top.grown hg (fun e => hpu e.symm)).cell 1⟩
  have HZ : Hid (∀ W', Below w.heap.size w W' → W'.cell? ⟨p, 1, none⟩ = some (.map (some G.qb)) ∧ (Instr.lookup 59 (.map (some G.qb)) (.int .i64 x) false).run Try.prog W' = .ok u W') := Lib.hid fun W' hb' => by
    obtain ⟨u', g1', _, HU'⟩ := (h.below hb').queue hx.1
    rw [← HU.out] at HU'
    rw [HU'.out] at g1'
    exact ⟨(h.below hb').topc.2.1, g1'⟩
  have HZ0 := Lib.hid (HZ.out _ (Below.refl _ _)).1
  have HZ1 := Lib.hid (HZ.out _ (Below.refl _ _).drew).1
  have HZa := Lib.hid (HZ.out _ hb).1
  have HZb := Lib.hid (HZ.out _ hb.drew).1
  have HDa := Lib.hid (HD.out _ hb hB fun _ _ h => h)
  have HDb := Lib.hid (HD.out _ hb.drew hB fun _ _ h => grown_drew h)
  have HFL := Lib.hid hF
  obtain ⟨au, cu, rfl⟩ := own_shape ho
  have z0 := HZ0.out
  have y0 := (HZ.out _ (Below.refl _ _)).2
  have y1 := (HZ.out _ (Below.refl _ _).drew).2
  have y2 := (HZ.out _ hb).2
  have y3 := (HZ.out _ hb.drew).2
  clear h hB hb g1 HU HZ HD ho c1 hF hlen
  go_enter Try.func54, Try.ntmps54
  go_wp2_with fail
  go_region_held3 (fun W' => W'.cell? ⟨p, 1, none⟩ = some (.map (some G.qb)))
    (first | (with_reducible assumption) | (with_reducible exact HZ0.out) | (with_reducible exact HZ1.out) | (with_reducible exact HZa.out) | (with_reducible exact HZb.out)) (first
    | (go_at_call 26; refine (of_any c _).mono ?_; rintro e w2 ⟨rfl, rfl⟩)
    | (go_at_call 73; (first | (with_reducible refine HDa.out.mono ?_) | (with_reducible refine HDb.out.mono ?_)); rintro e w3 ⟨⟨v3, rfl, ho3, hg3, hv3⟩, hz4⟩; obtain ⟨w4, hmu, d4, ⟨a4, k4, g4⟩, HE4, HM4⟩ := FIN.out w3 v3 ho3 hg3 hv3; obtain ⟨w5, hmu5, d5, ⟨a5, k5, g5⟩, HE5, HM5⟩ := FIN.out w3.drew v3 ho3 (grown_drew2 hg3) hv3; obtain ⟨av, cv, rfl⟩ := own_shape ho3; clear ho3 hg3 hv3))
  all_goals
    clear FIN HDa HDb y0 y1 y2 y3 hmu hmu5
    by_cases hF0 : F.length = 0
    · rw [hF0] at g4 g5
      have HF0 := Lib.hid (List.eq_nil_of_length_eq_zero hF0)
      clear hF0 hFl
      obtain ⟨f4, hm4, hx4⟩ := HM4.out
      obtain ⟨f5, hm5, hx5⟩ := HM5.out
      have HM4 := Lib.hid hm4
      have HX4 := Lib.hid hx4
      have HM5 := Lib.hid hm5
      have HX5 := Lib.hid hx5
      clear hm4 hx4 hm5 hx5
      go_wp2_with (at_delete; (first | (refine wpList_mdel rfl _ _ rfl Try.underlying59 rfl HM4.out x hx.1 rfl ?_; intro w6 hm6 ht6; have HEE := Lib.hid (HX4.out w6 hm6 ht6 HF0.out); clear hm6 ht6) | (refine wpList_mdel rfl _ _ rfl Try.underlying59 rfl HM5.out x hx.1 rfl ?_; intro w6 hm6 ht6; have HEE := Lib.hid (HX5.out w6 hm6 ht6 HF0.out); clear hm6 ht6)))
      refine bodyPost_end (v := .tuple #[]) (by simp [results, Try.results54, go_sem]) rfl ?_
      exact ⟨rfl, HEE.out⟩
    · have hF1 : ((F.length : Int) == 0) = false := by simp; exact fun e => hF0 (by rw [e]; rfl)
      clear hF0
      go_wp2_with fail
      refine bodyPost_end (v := .tuple #[]) (by simp [results, Try.results54, go_sem]) rfl ?_
      first | exact ⟨rfl, HE4.out⟩ | exact ⟨rfl, HE5.out⟩
end Go.Proofs.Ythodggkpkjfggaa.Key
