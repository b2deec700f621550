/- Take. -/
import Derived.Test.YtbbikibkijncgaaCordTake
namespace Go.Proofs.Ytbbikibkijncgaa.Cord
set_option maxRecDepth 100000
open Go.RowKit
open Go.Proofs.Ytbbikibkijncgaa.Mem
section
variable {w w2 w3 : World} {p b n : Nat} {v : Value} {e : CE}
theorem EA.put (h : EA w p b n v e) {x : Nat} {s : ByteArray} (hm : MapS w3 b (n + 1) (upd e.f x s)) (hg : w.grownBy w3 (some b)) (hx : e.got < x ∧ x ≤ e.got + 32) (hs : s.size ≤ 16384) : EA w3 p b (n + 1) v { e with f := upd e.f x s } := by
  refine ⟨h.blk.grown hg (fun x => h.pb (by injection x with x; exact x.symm)), own_same h.own fun g hgo => hg.block g (own_lt h.own hgo) (fun x => h.nb (by rw [hgo]; exact x)), hm, h.n0, h.nb, h.pb, ⟨fun y t hy => ?_, h.wf.ol, h.wf.e1, h.wf.e2⟩, Nat.le_trans h.given (by omega), Nat.le_trans h.gotn (by omega)⟩
  dsimp only [upd] at hy ⊢
  split at hy
  · rename_i e1; cases hy; subst e1; exact ⟨hx.1, hx.2, hs⟩
  · exact h.wf.win y t hy
theorem EA.more (h : EA w p b n v e) {m : Nat} (hm : n ≤ m) : EA w p b m v e := ⟨h.blk, h.own, h.map.mono hm, h.n0, h.nb, h.pb, h.wf, Nat.le_trans h.given hm, Nat.le_trans h.gotn (Nat.mul_le_mul_left 32 hm)⟩
theorem Touch.blk {F : Nat → Prop} {g : Nat} {t : TypeId} {cs : Array Value} (h : Touch F w w2) (hb : Blk w g t cs) (hf : ¬ F g) : Blk w2 g t cs := (h.block hb.lt hf).trans hb
end
def TakeRes (p n : Nat) (F : Nat → Prop) (e : CE) (g : Gm) (w : World) (r : Ending) (w' : World) : Prop :=
  ∃ v, r = .returned (.tuple #[v, .int .i64 (checkX e g)]) ∧ w'.ownsRow w.heap.size 9 1 v (takeL e g).length (strsV (takeL e g)) ∧ EQ w' p (n + 2) F (takeE e g) ∧ Touch F w w'
set_option maxRecDepth 100000 in
set_option maxHeartbeats 4000000 in
theorem take_any (p n : Nat) (F : Nat → Prop) (e : CE) (g : Gm) (w : World) (h : EQ w p n F e) (hn : n ≤ 999000) :
    Calls Try.prog 17 #[.pointer (some ⟨p, 0, none⟩), .agg (gmV g)] w (TakeRes p n F e g w) := by
  have hM := Blk.new w 29 (gmV g)
  have hT := (Touch.refl F w).alloc (.cells (gmV g) 29)
  have hnb : ¬ F w.heap.size := fun x => Nat.lt_irrefl _ (h.lt _ x)
  have hE := h.below (below_box w (.cells (gmV g) 29))
  have hck := check_cases e g
  have hgot := h.gotn
  have hgiv := h.given
  have FIN1 : Hid (checkX e g ≠ 0 → ∀ w', EQ w' p n F e → Touch F w w' → TakeRes p n F e g w (.returned (.tuple #[.slice none 0 0, .int .i64 (checkX e g)])) w') := Lib.hid fun hc w' h1 h2 => by
    refine ⟨_, rfl, ?_, ?_, h2⟩
    · unfold takeL; rw [if_pos hc]; exact own_nil _ _ _ _
    · unfold takeE; rw [if_pos hc]; exact h1.mono (by omega)
  have FIN2 : Hid (checkX e g = 0 → g.sq = 0 → ∀ w', EQ w' p n F (settleE e g.ak.toNat) → Touch F w w' → TakeRes p n F e g w (.returned (.tuple #[.slice none 0 0, .int .i64 (checkX e g)])) w') := Lib.hid fun hc hs w' h1 h2 => by
    refine ⟨_, rfl, ?_, ?_, h2⟩
    · unfold takeL; rw [if_neg (by simp [hc]), if_pos hs]; exact own_nil _ _ _ _
    · unfold takeE; rw [if_neg (by simp [hc]), if_pos hs]; exact h1.mono (by omega)
  have FIN3 : Hid (checkX e g = 0 → g.sq ≠ 0 → ∀ v w', w'.ownsRow w.heap.size 9 1 v (told (layE (settleE e g.ak.toNat) g.sq.toNat g.bd)).length (strsV (told (layE (settleE e g.ak.toNat) g.sq.toNat g.bd))) → EQ w' p (n + 2) F (tellE (layE (settleE e g.ak.toNat) g.sq.toNat g.bd)) → Touch F w w' → TakeRes p n F e g w (.returned (.tuple #[v, .int .i64 (checkX e g)])) w') := Lib.hid fun hc hs v w' h0 h1 h2 => by
    refine ⟨_, rfl, ?_, ?_, h2⟩
    · unfold takeL; rw [if_neg (by simp [hc]), if_neg hs]; exact h0
    · unfold takeE; rw [if_neg (by simp [hc]), if_neg hs]; exact h1
  have hCA : ∀ W, EQ W p n F e → Calls Try.prog 26 #[.pointer (some ⟨p, 0, none⟩), .agg (gmV g)] W fun r w' => r = .returned (.int .i64 (checkX e g)) ∧ Below W.heap.size W w' := fun W hW => check_any p n F e g W hW (by omega)
  clear h
  generalize TakeRes p n F e g w = RES at *
  generalize checkX e g = ck at *
  obtain ⟨cl, up, gep, sq, ak, bd⟩ := g
  unfold gmV at *
  dsimp only at *
  have HCA := Lib.hid hCA
  clear hCA
  go_enter Try.func17, Try.ntmps17
  go_upto_region 1 with (fail)
  generalize hGen : w.alloc (.cells #[.int .i64 cl, .bool up, .int .i64 gep, .int .i64 sq, .int .i64 ak, .string bd] 29) = W at hM hT hE ⊢
  clear hGen
  have m0 : W.cell? ⟨w.heap.size, 0, none⟩ = some (.int .i64 cl) := hM.cell 0
  have m1 : W.cell? ⟨w.heap.size, 1, none⟩ = some (.bool up) := hM.cell 1
  have m2 : W.cell? ⟨w.heap.size, 2, none⟩ = some (.int .i64 gep) := hM.cell 2
  have m3 : W.cell? ⟨w.heap.size, 3, none⟩ = some (.int .i64 sq) := hM.cell 3
  have m4 : W.cell? ⟨w.heap.size, 4, none⟩ = some (.int .i64 ak) := hM.cell 4
  have m5 : W.cell? ⟨w.heap.size, 5, none⟩ = some (.string bd) := hM.cell 5
  have HM := Lib.hid hM
  have HT := Lib.hid hT
  have HE := Lib.hid hE
  clear hM hT hE
  go_wp2_with fail
  refine (HCA.out _ HE.out).mono ?_
  rintro r w2 ⟨rfl, b2⟩
  have HT2 : Hid (Touch F w w2) := HT.out.trans (Touch.of_below (F := F) b2) (fun k hk => .inl hk)
  have HE2 := Lib.hid (HE.out.below b2)
  have HM2 := Lib.hid (HM.out.below b2 HM.out.lt)
  clear HT HE HM m0 m1 m2 m3 m4 m5 b2 HCA
  by_cases hc0 : ck = 0
  · subst hc0
    have hak : 0 ≤ ak ∧ ak ≤ (e.given : Int) := by omega
    have hsq : (sq = 0 ∧ bd.size = 0) ∨ (0 < sq ∧ sq ≤ (e.got : Int) + 32 ∧ bd.size ≤ 16384) := by omega
    clear hck FIN1
    obtain ⟨k, rfl⟩ : ∃ k : Nat, ak = (k : Int) := ⟨ak.toNat, by omega⟩
    have hkg : k ≤ e.given := by omega
    rw [Int.toNat_natCast] at FIN2 FIN3
    have m3 : w2.cell? ⟨w.heap.size, 3, none⟩ = some (.int .i64 sq) := HM2.out.cell 3
    have m4 : w2.cell? ⟨w.heap.size, 4, none⟩ = some (.int .i64 (k : Int)) := HM2.out.cell 4
    go_wp2_with fail
    refine (settle_any p n F e k w2 HE2.out (by omega) hkg).mono ?_
    rintro r w3 ⟨rfl, e3, t3⟩
    have HT3 : Hid (Touch F w w3) := HT2.out.trans t3 (fun k hk => .inl hk)
    have HM3 := Lib.hid (t3.blk HM2.out hnb)
    have HE3 := Lib.hid e3
    clear e3 t3 HT2 HM2 HE2 m3 m4
    have m3 : w3.cell? ⟨w.heap.size, 3, none⟩ = some (.int .i64 sq) := HM3.out.cell 3
    have m5 : w3.cell? ⟨w.heap.size, 5, none⟩ = some (.string bd) := HM3.out.cell 5
    have hsg : (settleE e k).got = e.got := by unfold settleE; split <;> rfl
    by_cases hs0 : sq = 0
    · subst hs0
      have HEND := Lib.hid (FIN2.out (by first | rfl | trivial) (by first | rfl | trivial) w3 HE3.out HT3.out)
      clear HE3 HT3 HM3 m5 hsq FIN2 FIN3
      go_wp2
      exact HEND.out
    · have hs1 : (sq == 0) = false := by rw [beq_eq_false_iff_ne]; exact hs0
      obtain ⟨x, rfl⟩ : ∃ x : Nat, sq = (x : Int) := ⟨sq.toNat, by omega⟩
      rw [Int.toNat_natCast] at FIN3
      have hx : 0 < x ∧ x ≤ (settleE e k).got + 32 ∧ bd.size ≤ 16384 := by rw [hsg]; omega
      have hgb : (settleE e k).got ≤ 32000000 := by rw [hsg]; omega
      have FIN4 : Hid (∀ v w', w'.ownsRow w.heap.size 9 1 v (told (layE (settleE e k) x bd)).length (strsV (told (layE (settleE e k) x bd))) → EQ w' p (n + 2) F (tellE (layE (settleE e k) x bd)) → Touch F w w' → RES (.returned (.tuple #[v, .int .i64 0])) w') := Lib.hid (FIN3.out (by first | rfl | trivial) hs0)
      clear hsq hs0 hsg hkg hak FIN2 FIN3
      generalize settleE e k = e' at HE3 hx hgb FIN4
      obtain ⟨b, v, h3, hF3, hl3⟩ := HE3.out
      obtain ⟨_, _, _, c3, c4, c5⟩ := h3.at_
      obtain ⟨_, _, _, f5⟩ := h3.fr
      have H5 := Lib.hid (h3.set5 true)
      have HM5 := Lib.hid (HM3.out.far (p := ⟨p, 5, none⟩) (fun x => hnb (by rw [x]; exact hF3 p (.inl rfl))) (.bool true))
      have HT5 := Lib.hid (HT3.out.set_ (.inl (hF3 p (.inl rfl))) 5 (.bool true))
      have HF3 := Lib.hid hF3
      have HL3 : Hid (∀ k, F k → k < w3.heap.size) := Lib.hid hl3
      clear HE3 HT3 HM3 h3 hF3 hl3
      have HS5 := Lib.hid (show w3.heap.size ≤ (w3.setCell ⟨p, 5, none⟩ (.bool true)).heap.size by simp)
      go_wp2_with fail
      generalize hGen : w3.setCell ⟨p, 5, none⟩ (.bool true) = W5 at H5 HM5 HT5 HS5 ⊢
      clear hGen
      have k3 := H5.out.at_.2.2.2.1
      have k4 := H5.out.at_.2.2.2.2.1
      dsimp only at k3 k4
      have n3 : W5.cell? ⟨w.heap.size, 3, none⟩ = some (.int .i64 (x : Int)) := HM5.out.cell 3
      have n5 : W5.cell? ⟨w.heap.size, 5, none⟩ = some (.string bd) := HM5.out.cell 5
      have hlk : ∀ q, (Instr.lookup 64 (.map (some b)) (.int .i64 (x : Int)) true).run Try.prog (W5.drewN q) = .ok (.tuple #[.string ((e'.f x).getD .empty), .bool (e'.f x).isSome]) (W5.drewN q) := fun q =>
        (H5.out.map.same (w' := W5.drewN q) rfl).look (x := x) (by omega)
      clear c3 c4 c5 f5 m3 m5
      go_quiet (fail)
      clear hlk
      clear k3 k4 n3 n5
      have H6 := Lib.hid (EA.same (w' := W5.drewN nq) H5.out (fun _ _ _ => rfl))
      have HM6 : Hid (Blk (W5.drewN nq) w.heap.size 29 #[.int .i64 cl, .bool up, .int .i64 gep, .int .i64 x, .int .i64 k, .string bd]) := HM5
      have HT6 := Lib.hid (HT5.out.drewN nq)
      have HS6 : Hid (w3.heap.size ≤ (W5.drewN nq).heap.size) := HS5
      clear H5 HM5 HT5 HS5
      generalize hGen : W5.drewN nq = W6 at H6 HM6 HT6 HS6 ⊢
      clear hGen
      have H5 := H6
      have HM5 := HM6
      have HT5 := HT6
      have HS5 := HS6
      clear H6 HM6 HT6 HS6
      have k3 := H5.out.at_.2.2.2.1
      have k4 := H5.out.at_.2.2.2.2.1
      dsimp only at k3 k4
      have n3 : W6.cell? ⟨w.heap.size, 3, none⟩ = some (.int .i64 (x : Int)) := HM5.out.cell 3
      have n5 : W6.cell? ⟨w.heap.size, 5, none⟩ = some (.string bd) := HM5.out.cell 5
      have LAY : Hid (∀ w6 m, EA w6 p b m v (layE e' x bd) → m = n + 1 → Touch F w w6 → w3.heap.size ≤ w6.heap.size → Calls Try.prog 28 #[.pointer (some ⟨p, 0, none⟩)] w6 fun r w' => ∃ v1, r = .returned v1 ∧ RES (.returned (.tuple #[v1, .int .i64 0])) w') := Lib.hid fun w6 m h6 hm ht hs => by
        subst hm
        refine (tell_any p (n + 1) F (layE e' x bd) w6 ⟨b, v, h6, HF3.out, fun k hk => Nat.lt_of_lt_of_le (HL3.out k hk) hs⟩ (by omega)).mono ?_
        rintro r w7 ⟨v1, rfl, o7, e7, t7⟩
        refine ⟨v1, rfl, FIN4.out v1 w7 ?_ e7 (ht.trans t7 (fun k hk => .inl hk))⟩
        obtain ⟨ol, o1 | ⟨g7, c7, cu7, ev, hg, o1⟩⟩ := o7
        · exact ⟨ol, .inl o1⟩
        · exact ⟨ol, .inr ⟨g7, c7, cu7, ev, Nat.le_trans ht.size hg, o1⟩⟩
      clear FIN4
      cases hfx : e'.f x with
      | some t =>
        have hl : layE e' x bd = { e' with due := true } := by unfold layE; rw [if_neg (by simp [hfx])]
        have HL : Hid (∀ q, Calls Try.prog 28 #[.pointer (some ⟨p, 0, none⟩)] (W6.drewN q) fun r w' => ∃ v1, r = .returned v1 ∧ RES (.returned (.tuple #[v1, .int .i64 0])) w') := Lib.hid fun q =>
          LAY.out (W6.drewN q) (n + 1) (by rw [hl]; exact (EA.same (w' := W6.drewN q) H5.out (fun _ _ _ => rfl)).more (by omega)) rfl (HT5.out.drewN q) HS5.out
        clear LAY H5 HM5 HT5 HS5
        simp only [Option.isSome_some, Option.getD_some]
        go_wp2_with fail
        go_quiet (fail)
        go_wp2_with fail
        refine (HL.out _).mono ?_
        rintro r w7 ⟨v1, rfl, HR⟩
        go_wp2
        exact HR
      | none =>
        simp only [Option.isSome_none, Option.getD_none]
        by_cases hgx : e'.got < x
        · have hgi : (e'.got : Int) < (x : Int) := by omega
          have hl : layE e' x bd = { e' with due := true, f := upd e'.f x bd } := by unfold layE; rw [if_pos ⟨hfx, hgx⟩]
          rw [hl] at LAY
          have HMP : Hid (∀ q, MapS (W6.drewN q).drew b n e'.f) := Lib.hid fun q => H5.out.map
          have HL : Hid (∀ q w6, MapS w6 b (n + 1) (upd e'.f x bd) → (W6.drewN q).drew.grownBy w6 (some b) → Calls Try.prog 28 #[.pointer (some ⟨p, 0, none⟩)] w6 fun r w' => ∃ v1, r = .returned v1 ∧ RES (.returned (.tuple #[v1, .int .i64 0])) w') := Lib.hid fun q w6 m6 g6 =>
            LAY.out w6 (n + 1) ((EA.same (w' := (W6.drewN q).drew) H5.out (fun _ _ _ => rfl)).put m6 g6 ⟨hgx, hx.2.1⟩ hx.2.2) rfl (((HT5.out.drewN q).drewN 1).grown g6 (fun k e => .inl (HF3.out k (.inr (.inl (by injection e with e; exact e.symm)))))) (Nat.le_trans HS5.out g6.size)
          clear LAY H5 HT5 HS5 hl hfx
          go_wp2_with fail
          go_quiet (fail)
          go_wp2_with fail
          have d3 : (W6.drewN nq).cell? ⟨w.heap.size, 3, none⟩ = some (.int .i64 (x : Int)) := n3
          have d5 : (W6.drewN nq).cell? ⟨w.heap.size, 5, none⟩ = some (.string bd) := n5
          have d4 : (W6.drewN nq).cell? ⟨p, 4, none⟩ = some (.map (some b)) := k4
          have HMQ := Lib.hid (HMP.out nq)
          have HLQ := Lib.hid (HL.out nq)
          clear HMP HL n3 n5 k3 k4
          generalize hGen : W6.drewN nq = W7 at HMQ HLQ d3 d5 d4 ⊢
          clear hGen
          go_still_tail 8, (by kernel_rfl)
          change wpList _ _ _ _ _ W7.drew
          go_wp2_with (refine wpList_put rfl _ _ _ rfl rfl HMQ.out x (by omega) rfl bd rfl (by unfold maxLen; omega) (by unfold maxLen; omega) ?_; intro w6 m6 g6; have HL6 := Lib.hid (HLQ.out w6 m6 g6); clear m6 g6)
          refine HL6.out.mono ?_
          rintro r w7 ⟨v1, rfl, HR⟩
          go_wp2
          exact HR
        · have hgi : ¬ (e'.got : Int) < (x : Int) := by omega
          have hl : layE e' x bd = { e' with due := true } := by unfold layE; rw [if_neg (by omega)]
          have HL : Hid (∀ q, Calls Try.prog 28 #[.pointer (some ⟨p, 0, none⟩)] (W6.drewN q) fun r w' => ∃ v1, r = .returned v1 ∧ RES (.returned (.tuple #[v1, .int .i64 0])) w') := Lib.hid fun q =>
            LAY.out (W6.drewN q) (n + 1) (by rw [hl]; exact (EA.same (w' := W6.drewN q) H5.out (fun _ _ _ => rfl)).more (by omega)) rfl (HT5.out.drewN q) HS5.out
          clear LAY H5 HM5 HT5 HS5
          go_wp2_with fail
          go_quiet (fail)
          go_wp2_with fail
          refine (HL.out _).mono ?_
          rintro r w7 ⟨v1, rfl, HR⟩
          go_wp2
          exact HR
  · have hc1 : (ck == 0) = false := by rw [beq_eq_false_iff_ne]; exact hc0
    have HEND := Lib.hid (FIN1.out hc0 w2 HE2.out HT2.out)
    clear HE2 HT2 HM2 hck FIN1 FIN2 FIN3
    go_wp2
    exact HEND.out
end Go.Proofs.Ytbbikibkijncgaa.Cord
