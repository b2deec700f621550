/- settle, tell and Take. -/
import Derived.Test.YtbbikibkijncgaaCordSend
namespace Go.Proofs.Ytbbikibkijncgaa.Cord
set_option maxRecDepth 100000
open Go.RowKit
open Go.Proofs.Ytbbikibkijncgaa.Mem
section
variable {w : World} {ops : Array Oper} {rest : List Oper} {o : Oper} {a : Act} {Q : Exit → Act → World → Prop} {b n : Nat} {f : Nat → Option ByteArray}
theorem wpList_look (hg : o.guard = none) (m x : Operand) (hop : o.op = Op.lookup 64 m x true) (hm : a.eval m = .map (some b)) (h : MapS w b n f) (k : Nat) (hk : k < 9223372036854775808) (hx : a.eval x = .int .i64 (k : Int))
    (hK : wpList Try.prog ops Q rest (a.put o.dst (.tuple #[.string ((f k).getD .empty), .bool (f k).isSome])) w) : wpList Try.prog ops Q (o :: rest) a w := by
  refine wpList_plain hg fun K' hK' => ?_
  have hrun := h.look hk
  unfold Oper.wp
  simp [execOp, hop, hm, hx, hrun, Result.andThen]
  exact hK' _ _ hK
theorem wpList_put (hg : o.guard = none) (m x v : Operand) (hop : o.op = Op.mapUpdate 64 m x v) (hm : a.eval m = .map (some b)) (h : MapS w b n f) (k : Nat) (hk : k < 9223372036854775808) (hx : a.eval x = .int .i64 (k : Int)) (s : ByteArray) (hv : a.eval v = .string s) (hs : s.size ≤ maxLen) (hn : n < maxLen)
    (hK : ∀ w', MapS w' b (n + 1) (upd f k s) → w.grownBy w' (some b) → wpList Try.prog ops Q rest (a.put o.dst undef) w') : wpList Try.prog ops Q (o :: rest) a w := by
  refine wpList_plain hg fun K' hK' => ?_
  obtain ⟨w', hrun, r1, r2⟩ := h.put hk hs hn
  unfold Oper.wp
  simp [execOp, hop, hm, hx, hv, hrun, Result.andThen]
  exact hK' _ _ (hK w' r1 r2.grown)
theorem wpList_del (hg : o.guard = none) (m x : Operand) (hop : o.op = Op.call { callee := Callee.builtin Builtin.delete, args := #[m, x], argTypes := #[64, 3] }) (hm : a.eval m = .map (some b)) (h : MapS w b n f) (k : Nat) (hk : k < 9223372036854775808) (hx : a.eval x = .int .i64 (k : Int))
    (hK : ∀ w', MapS w' b n (fun y => if y = k then none else f y) → w.grownBy w' (some b) → wpList Try.prog ops Q rest (a.put o.dst (.tuple #[])) w') : wpList Try.prog ops Q (o :: rest) a w := by
  refine wpList_plain hg fun K' hK' => ?_
  obtain ⟨w', hrun, r1, r2⟩ := h.del hk o.type
  unfold Oper.wp
  simp [execOp, hop, resolve, invoke, builtin, hm, hx, hrun, Result.andThen]
  exact hK' _ _ (hK w' r1 r2.grown)
end
set_option maxRecDepth 100000 in
set_option maxHeartbeats 4000000 in
theorem settle_any (p n : Nat) (F : Nat → Prop) (e : CE) (k : Nat) (w : World) (h : EQ w p n F e) (hn : n ≤ 1000000) (hk : k ≤ e.given) :
    Calls Try.prog 27 #[.pointer (some ⟨p, 0, none⟩), .int .i64 (k : Int)] w fun r w' => (r = .returned (.tuple #[])) ∧ EQ w' p n F (settleE e k) ∧ Touch F w w' := by
  obtain ⟨b, v, h, hF, hl⟩ := h
  obtain ⟨_, c1, c2, _⟩ := h.at_
  obtain ⟨f1, f2, _⟩ := h.fr
  by_cases h1 : k ≤ e.ack
  · have h1i : (k : Int) ≤ (e.ack : Int) := by omega
    have he : settleE e k = e := by unfold settleE; rw [if_pos h1]
    rw [he]
    have HS : Hid (EQ w p n F e) := Lib.hid ⟨b, v, h, hF, hl⟩
    clear h hF hl he
    go_enter Try.func27, Try.ntmps27
    go_wp2
    refine bodyPost_ret (v := .tuple #[]) (by simp [results, Try.results27, go_sem]) rfl ?_
    exact ⟨rfl, HS.out, Touch.refl _ _⟩
  · have h1i : ¬ (k : Int) ≤ (e.ack : Int) := by omega
    have hg := h.given
    have he : settleE e k = { e with op := e.op.drop (k - e.ack), ack := k } := by unfold settleE; rw [if_neg h1]
    rw [he]
    unfold CE.given at hk hg
    have hw : IntKind.i64.wrap ((k : Int) - (e.ack : Int)) = ((k - e.ack : Nat) : Int) := by rw [IntKind.wrap_i64]; omega
    have HD : Hid (∀ W', Below w.heap.size w W' → Calls Try.prog 32 #[v, .int .i64 0, .int .i64 ((k - e.ack : Nat) : Int)] W' (RowRes 0 v W' (e.op.drop (k - e.ack)))) :=
      Lib.hid fun W' hb => delete_any v e.op (k - e.ack) 0 W' (own_below h.own hb) (by omega) (by omega)
    have hol := h.wf.ol
    have FIN : Hid (∀ W' v' w1, Below w.heap.size w W' → w1.ownsRow 0 9 1 v' (e.op.drop (k - e.ack)).length (strsV (e.op.drop (k - e.ack))) → W'.grownBy w1 v.ownBlock → v'.ownBlock = v.ownBlock →
        (w1.cell? ⟨p, 2, none⟩ = some v ∧ w1.frozen? ⟨p, 2, none⟩ = false ∧ w1.cell? ⟨p, 1, none⟩ = some (.int .i64 e.ack) ∧ w1.frozen? ⟨p, 1, none⟩ = false) ∧
        EQ ((w1.setCell ⟨p, 2, none⟩ v').setCell ⟨p, 1, none⟩ (.int .i64 (k : Int))) p n F { e with op := e.op.drop (k - e.ack), ack := k } ∧ Touch F w ((w1.setCell ⟨p, 2, none⟩ v').setCell ⟨p, 1, none⟩ (.int .i64 (k : Int)))) :=
      Lib.hid fun W' v' w1 hbw ho hg hv => by
        have hW : EA W' p b n v e := h.same fun k hk _ => hbw.block k hk
        have hb1 := hW.blk.grown hg (fun x => h.n0 x.symm)
        have hl1 := (hW.laid ho hg (.inl hv) (Nat.le_refl n) (by simp; omega) (by simp; omega)).set1 k (by simp; omega)
        have htc : Touch F w ((w1.setCell ⟨p, 2, none⟩ v').setCell ⟨p, 1, none⟩ (.int .i64 (k : Int))) := (((Touch.of_below (F := F) hbw).grown hg (fun k hk => .inl (hF k (.inr (.inr hk))))).set_ (.inl (hF p (.inl rfl))) 2 v').set_ (.inl (hF p (.inl rfl))) 1 _
        exact ⟨⟨hb1.cell 2, hb1.frozen 2, hb1.cell 1, hb1.frozen 1⟩, ⟨b, v', hl1, fun j hj => hF j (by unfold Foot at hj ⊢; rwa [hv] at hj), fun j hj => Nat.lt_of_lt_of_le (hl j hj) htc.size⟩, htc⟩
    clear h hF hl he hg hk hol
    generalize e.op.drop (k - e.ack) = L' at HD FIN ⊢
    generalize k - e.ack = j at HD hw
    go_enter Try.func27, Try.ntmps27
    go_wp2_with fail
    go_region_law (go_simp; go_at_call 32; (with_reducible refine (HD.out _ ?_).mono ?_); (first | assumption | exact (Below.refl _ _).drew | exact Below.refl _ _); rintro r w1 ⟨v', rfl, ho, hg, hv⟩; have HE := Lib.hid (FIN.out _ v' w1 (by first | assumption | exact (Below.refl _ _).drew | exact Below.refl _ _) ho hg hv); have d2 := HE.out.1.1; have g2 := HE.out.1.2.1; have d1 := HE.out.1.2.2.1; have g1 := HE.out.1.2.2.2; obtain ⟨av, cv, rfl⟩ := own_shape ho; clear ho hg hv)
    all_goals
      clear c1 c2 f1 f2 HD FIN
      go_wp2
      refine bodyPost_end (v := .tuple #[]) (by simp [results, Try.results27, go_sem]) rfl ?_
      exact ⟨rfl, HE.out.2⟩
theorem own_ge {w : World} {base n size : Nat} {t : TypeId} {v : Value} {xs : List Value} (h : w.ownsRow base t size v n xs) : ∀ g, v.ownBlock = some g → base ≤ g := by
  intro g hg
  obtain ⟨_, ⟨rfl, _⟩ | ⟨g', c, cur, rfl, hb, _⟩⟩ := h
  · cases hg
  · cases hg; exact hb
theorem step_succ (e : CE) (j : Nat) : (fun y => if y = e.got + j + 1 then none else (stepE e j).f y) = (stepE e (j + 1)).f := by
  funext y
  unfold stepE
  dsimp only
  by_cases h1 : y = e.got + j + 1
  · rw [if_pos h1, if_pos (by omega)]
  · rw [if_neg h1]
    by_cases h2 : y ≤ e.got + j
    · rw [if_pos h2, if_pos (by omega)]
    · rw [if_neg h2, if_neg (by omega)]
section
variable {w w2 w3 : World} {p b n j : Nat} {v : Value} {e : CE}
theorem EA.next (h : EA w p b n v (stepE e j)) (hw : e.wf) (hm : MapS w3 b n (fun y => if y = e.got + j + 1 then none else (stepE e j).f y)) (hg : ((w.setCell ⟨p, 3, none⟩ (.int .i64 ((e.got + j + 1 : Nat) : Int))).drew).grownBy w3 (some b)) (hn : e.got + (j + 1) ≤ 32 * n) : EA w3 p b n v (stepE e (j + 1)) := by
  have hb2 := (show Blk ((w.setCell ⟨p, 3, none⟩ (.int .i64 ((e.got + j + 1 : Nat) : Int))).drew) p _ _ from h.blk.set_ 3 (.int .i64 ((e.got + j + 1 : Nat) : Int))).grown hg (fun x => h.pb (by injection x with x; exact x.symm))
  refine ⟨?_, ?_, ?_, h.n0, h.nb, h.pb, wf_step hw _, h.given, hn⟩
  · simpa [stepE, Nat.add_assoc] using hb2
  · have ho := own_set h.own h.n0 3 (.int .i64 ((e.got + j + 1 : Nat) : Int))
    exact own_same ho fun g hgo => hg.block g (own_lt ho hgo) (fun x => h.nb (by rw [hgo]; exact x))
  · rw [step_succ] at hm; exact hm
end
set_option maxRecDepth 100000 in
set_option maxHeartbeats 4000000 in
theorem tell_any (p n : Nat) (F : Nat → Prop) (e : CE) (w : World) (h : EQ w p n F e) (hn : n ≤ 1000000) :
    Calls Try.prog 28 #[.pointer (some ⟨p, 0, none⟩)] w fun r w' => ∃ v, r = .returned v ∧ w'.ownsRow w.heap.size 9 1 v (told e).length (strsV (told e)) ∧ EQ w' p (n + 1) F (tellE e) ∧ Touch F w w' := by
  obtain ⟨b, v, h, hF, hl⟩ := h
  have hwf := h.wf
  have hB := h.lt p (.inl rfl)
  have hgB : e.got ≤ 32000000 := by have := h.gotn; omega
  have HM : Hid (w.ownsRow w.heap.size 9 1 (.slice none 0 0) 0 (strsV ((told e).take 0)) ∧ EA w p b (n + 1) v (stepE e 0) ∧ Touch F w w) := Lib.hid ⟨own_nil _ _ _ _, by rw [step_zero hwf]; exact ⟨h.blk, h.own, h.map.mono (by omega), h.n0, h.nb, h.pb, h.wf, Nat.le_trans h.given (by omega), Nat.le_trans h.gotn (by omega)⟩, Touch.refl _ _⟩
  have hgN := h.gotn
  have htl := told_le hwf
  clear h
  go_enter Try.func28, Try.ntmps28
  go_wp2_with fail
  go_loopw [3] (fun t wr => ∃ j : Nat, j ≤ (told e).length ∧ (∃ a c, t = .slice a j c) ∧ Hid (wr.ownsRow w.heap.size 9 1 t j (strsV ((told e).take j)) ∧ EA wr p b (n + 1) v (stepE e j) ∧ Touch F w wr)) (fun t _ => 64 - (match t with | .slice _ j _ => j | _ => 0))
  case atStart => exact ⟨0, Nat.zero_le _, ⟨_, _, rfl⟩, HM⟩
  case round =>
    obtain ⟨j, hj, ⟨at_, ct, rfl⟩, HK⟩ := hrel
    obtain ⟨_, _, _, c3, c4, _⟩ := HK.out.2.1.at_
    obtain ⟨_, _, f3, _⟩ := HK.out.2.1.fr
    have hnx := told_next hwf hj
    have hgj : (e.got : Int) + (j : Int) + 1 = ((e.got + j + 1 : Nat) : Int) := by omega
    have hgot : ((stepE e j).got : Int) = (e.got : Int) + (j : Int) := by unfold stepE; simp
    have hgn : e.got + j + 1 ≤ 100000000 := by have := hgB; have := told_le hwf; omega
    have hwg : IntKind.i64.wrap (((stepE e j).got : Int) + 1) = ((e.got + j + 1 : Nat) : Int) := by rw [hgot, IntKind.wrap_i64]; omega
    have hlk : ∀ q, (Instr.lookup 64 (.map (some b)) (.int .i64 ((e.got + j + 1 : Nat) : Int)) true).run Try.prog (wr.drewN q) = .ok (.tuple #[.string (((told e)[j]?).getD .empty), .bool ((told e)[j]?).isSome]) (wr.drewN q) := fun q => by
      have h9 := (HK.out.2.1.map.same (w' := wr.drewN q) rfl).look (x := e.got + j + 1) (by omega)
      rw [hnx] at h9
      exact h9
    have FIN : Hid (∀ nq w3, MapS w3 b (n + 1) (fun y => if y = e.got + j + 1 then none else (stepE e j).f y) → (((wr.drewN nq).setCell ⟨p, 3, none⟩ (.int .i64 ((e.got + j + 1 : Nat) : Int))).drew).grownBy w3 (some b) → j < (told e).length →
        w3.ownsRow w.heap.size 9 1 (.slice at_ j ct) ((told e).take j).length (strsV ((told e).take j)) ∧ EA w3 p b (n + 1) v (stepE e (j + 1)) ∧ Touch F w w3) := Lib.hid fun nq w3 hm hg hjl => by
      rw [show ((told e).take j).length = j by simp; omega]
      obtain ⟨k1, k2, k3⟩ := HK.out
      have hp : (Value.slice at_ j ct).ownBlock ≠ some p := fun x => by have := own_ge k1 p x; have := hl p (hF p (.inl rfl)); omega
      have hb : (Value.slice at_ j ct).ownBlock ≠ some b := fun x => by have := own_ge k1 b x; have := hl b (hF b (.inr (.inl rfl))); omega
      have ho := own_set (show (wr.drewN nq).ownsRow w.heap.size 9 1 (.slice at_ j ct) j (strsV ((told e).take j)) from k1) hp 3 (.int .i64 ((e.got + j + 1 : Nat) : Int))
      refine ⟨own_same ho fun g hgo => hg.block g (own_lt ho hgo) (fun x => hb (by rw [hgo]; exact x)), (EA.same (w' := wr.drewN nq) k2 (fun _ _ _ => rfl)).next hwf hm hg (by omega), ?_⟩
      exact ((((k3.drewN nq).set_ (.inl (hF p (.inl rfl))) 3 _).drewN 1).grown hg (fun k e => .inl (hF k (.inr (.inl (by injection e with e; exact e.symm))))))
    have HMP : Hid (∀ nq, MapS (((wr.drewN nq).setCell ⟨p, 3, none⟩ (.int .i64 ((e.got + j + 1 : Nat) : Int))).drew) b (n + 1) (stepE e j).f) := Lib.hid fun nq => HK.out.2.1.map.same (Below.heap_setCell (wr.drewN nq) ⟨p, 3, none⟩ _ b HK.out.2.1.pb)
    clear hnx hgj hgot
    generalize (stepE e j).got = gj at c3 hwg
    generalize hnxe : e.got + j + 1 = nx at hwg hlk hgn FIN HMP
    have HNX := Lib.hid hnxe
    clear hnxe
    go_wp2_with fail
    go_quiet (fail)
    clear hlk
    by_cases hjl : j < (told e).length
    · have hx : (told e)[j]? = some (told e)[j] := List.getElem?_eq_getElem hjl
      have htn : strsV ((told e).take (j + 1)) = strsV ((told e).take j ++ [(told e)[j]]) := by rw [List.take_add_one, hx]; rfl
      rw [hx]
      generalize (told e)[j] = y at hx htn
      have FIN5 : Hid (∀ w3 v5 w5, (w3.ownsRow w.heap.size 9 1 (.slice at_ j ct) ((told e).take j).length (strsV ((told e).take j)) ∧ EA w3 p b (n + 1) v (stepE e (j + 1)) ∧ Touch F w w3) → w5.ownsRow w.heap.size 9 1 v5 ((told e).take j ++ [y]).length (strsV ((told e).take j ++ [y])) →
          (w3.alloc (.cells #[.string y] 9)).grownBy w5 (Value.slice at_ j ct).ownBlock → (∃ a c, v5 = .slice a (j + 1) c) ∧ (w5.ownsRow w.heap.size 9 1 v5 (j + 1) (strsV ((told e).take (j + 1))) ∧ EA w5 p b (n + 1) v (stepE e (j + 1)) ∧ Touch F w w5)) := Lib.hid fun w3 v5 w5 h3 ho5 hg5 => by
        obtain ⟨k1, k2, k3⟩ := h3
        have hln : ((told e).take j ++ [y]).length = j + 1 := by simp; omega
        rw [hln, ← htn] at ho5
        refine ⟨own_shape ho5, ho5, (k2.alloc (.cells #[.string y] 9)).same fun k hk hf => hg5.block k hk fun x => ?_, (k3.alloc _).grown hg5 fun k x => .inr (own_ge k1 k x)⟩
        have := own_ge k1 k x.symm
        have := hl k (hF k hf)
        omega
      have HLJ := Lib.hid (show ((told e).take j).length ≤ 3000000 by simp; omega)
      clear hx htn
      go_wp2_with fail
      have HM2 : Hid (MapS ((wr.drewN nq).setCell ⟨p, 3, none⟩ (.int .i64 (nx : Int))).drew b (n + 1) (stepE e j).f) := Lib.hid (HMP.out nq)
      have FIN2 := Lib.hid (FIN.out nq)
      have e4 : ((wr.drewN nq).setCell ⟨p, 3, none⟩ (.int .i64 (nx : Int))).cell? ⟨p, 4, none⟩ = some (.map (some b)) := (World.cell?_setCell_other _ _ _ _ (by simp)).trans c4
      have e3 : ((wr.drewN nq).setCell ⟨p, 3, none⟩ (.int .i64 (nx : Int))).cell? ⟨p, 3, none⟩ = some (.int .i64 (nx : Int)) := World.cell?_setCell_same _ _ _ (show (wr.drewN nq).cell? ⟨p, 3, none⟩ = some (.int .i64 (gj : Int)) from c3)
      clear FIN HMP
      generalize ((wr.drewN nq).setCell ⟨p, 3, none⟩ (.int .i64 (nx : Int))) = W2 at HM2 FIN2 e3 e4 ⊢
      go_still_tail 8, (by kernel_rfl)
      change wpList _ _ _ _ _ W2.drew
      have HM3 : Hid (MapS W2.drew b (n + 1) (stepE e j).f) := HM2
      have FIN3 : Hid (∀ w3, MapS w3 b (n + 1) (fun y => if y = nx then none else (stepE e j).f y) → W2.drew.grownBy w3 (some b) → j < (told e).length → _) := FIN2
      generalize W2.drew = W3 at HM3 FIN3 ⊢
      clear HM2 FIN2
      go_wp2_with (first
        | (refine wpList_del rfl _ _ rfl rfl HM3.out nx (by omega) rfl ?_; intro w3 hm3 hg3; have HE := Lib.hid (FIN3.out w3 hm3 hg3 hjl); clear hm3 hg3)
        | (refine wpList_app rfl _ _ rfl w.heap.size _ ((told e).take j) rfl (own_below HE.out.1 (below_box _ _)) w3.heap.size y rfl (Blk.new w3 _ _) HLJ.out (Nat.le_trans HE.out.2.2.size (by simp)) ?_; intro v5 w5 ho5 hg5 _; have HE5 := Lib.hid (FIN5.out w3 v5 w5 HE.out ho5 hg5); clear ho5 hg5))
      obtain ⟨a5, c5, rfl⟩ := HE5.out.1
      clear FIN3 FIN5 HM3 HE HK
      go_roundw
      case rel => exact ⟨j + 1, by omega, ⟨_, _, rfl⟩, HE5.out.2⟩
      case measure => simp; omega
    · obtain rfl : j = (told e).length := by omega
      rw [List.getElem?_eq_none (Nat.le_refl _)]
      have HE := Lib.hid (show (wr.drewN nq).ownsRow w.heap.size 9 1 (.slice at_ (told e).length ct) (told e).length (strsV (told e)) ∧ EQ (wr.drewN nq) p (n + 1) F (tellE e) ∧ Touch F w (wr.drewN nq) from by
        obtain ⟨k1, k2, k3⟩ := HK.out
        rw [List.take_length] at k1
        exact ⟨k1, ⟨b, v, EA.same (w' := wr.drewN nq) k2 (fun _ _ _ => rfl), hF, fun k hk => Nat.lt_of_lt_of_le (hl k hk) k3.size⟩, k3.drewN nq⟩)
      clear HK FIN HMP
      go_wp2
      go_ret
      exact ⟨_, rfl, HE.out⟩
end Go.Proofs.Ytbbikibkijncgaa.Cord
