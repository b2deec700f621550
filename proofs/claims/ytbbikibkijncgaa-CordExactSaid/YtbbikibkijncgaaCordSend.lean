/- Send, check and settle. -/
import Derived.Test.YtbbikibkijncgaaCordRow
namespace Go.Proofs.Ytbbikibkijncgaa.Cord
set_option maxRecDepth 100000
open Go.RowKit
open Go.Proofs.Ytbbikibkijncgaa.Mem
/-- what a call on an end leaves -/
def Did (F : Nat → Prop) (w w' : World) (p n : Nat) (e : CE) : Prop := (∃ F', EQ w' p n F' e ∧ ∀ k, F' k → F k ∨ w.heap.size ≤ k) ∧ Touch F w w'
section
variable {w w' : World} {p b n : Nat} {v : Value} {e : CE}
theorem EA.alloc (h : EA w p b n v e) (o : Obj) : EA (w.alloc o) p b n v e := h.same fun k hk _ => Below.heap_alloc w o k hk
theorem EA.foot (h : EA w p b n v e) {v' : Value} (hv : v'.ownBlock = v.ownBlock ∨ v'.ownBlock = some w.heap.size) : (v'.ownBlock ≠ some p) ∧ (v'.ownBlock ≠ some b) ∧ ∀ k, Foot p b v' k → Foot p b v k ∨ w.heap.size ≤ k := by
  have h1 := h.blk.lt
  have h2 := h.map.lt
  rcases hv with hv | hv
  · refine ⟨by rw [hv]; exact h.n0, by rw [hv]; exact h.nb, fun k hk => .inl ?_⟩
    unfold Foot at hk ⊢; rwa [hv] at hk
  · refine ⟨by rw [hv]; intro e; injection e; omega, by rw [hv]; intro e; injection e; omega, fun k hk => ?_⟩
    rcases hk with rfl | rfl | hk
    · exact .inl (.inl rfl)
    · exact .inl (.inr (.inl rfl))
    · rw [hv] at hk; injection hk; exact .inr (by omega)
/-- another row laid in -/
theorem EA.laid (h : EA w p b n v e) {w1 : World} {v' : Value} {op' : List ByteArray} (ho : w1.ownsRow 0 9 1 v' op'.length (strsV op')) (hg : w.grownBy w1 v.ownBlock) (hv : v'.ownBlock = v.ownBlock ∨ v'.ownBlock = some w.heap.size)
    {m : Nat} (hm : n ≤ m) (hl : op'.length ≤ 32) (hn : e.ack + op'.length ≤ m) : EA (w1.setCell ⟨p, 2, none⟩ v') p b m v' { e with op := op' } := by
  obtain ⟨n1, n2, _⟩ := h.foot hv
  have hb2 := (h.blk.grown hg (fun x => h.n0 x.symm)).set_ 2 v'
  have hmp : MapS (w1.setCell ⟨p, 2, none⟩ v') b n e.f := h.map.same ((Below.heap_setCell w1 ⟨p, 2, none⟩ v' b h.pb).trans (hg.block b h.map.lt (fun x => h.nb x.symm)))
  exact ⟨by simpa using hb2, own_set ho n1 _ _, hmp.mono hm, n1, n2, h.pb, ⟨h.wf.win, hl, h.wf.e1, h.wf.e2⟩, hn, Nat.le_trans h.gotn (Nat.mul_le_mul_left 32 hm)⟩
theorem EA.set1 (h : EA w p b n v e) (k : Nat) (hk : k + e.op.length ≤ n) : EA (w.setCell ⟨p, 1, none⟩ (.int .i64 k)) p b n v { e with ack := k } :=
  ⟨by simpa using h.blk.set_ 1 (.int .i64 k), own_set h.own h.n0 _ _, h.map.same (Below.heap_setCell w ⟨p, 1, none⟩ _ b h.pb), h.n0, h.nb, h.pb, ⟨h.wf.win, h.wf.ol, h.wf.e1, h.wf.e2⟩, hk, h.gotn⟩
theorem EA.set5 (h : EA w p b n v e) (d : Bool) : EA (w.setCell ⟨p, 5, none⟩ (.bool d)) p b n v { e with due := d } :=
  ⟨by simpa using h.blk.set_ 5 (.bool d), own_set h.own h.n0 _ _, h.map.same (Below.heap_setCell w ⟨p, 5, none⟩ _ b h.pb), h.n0, h.nb, h.pb, ⟨h.wf.win, h.wf.ol, h.wf.e1, h.wf.e2⟩, h.given, h.gotn⟩
end
theorem sendX_is (e : CE) (s : ByteArray) : (16384 < s.size ∧ sendX e s = 5 ∧ sendE e s = e) ∨ (s.size ≤ 16384 ∧ 32 ≤ e.op.length ∧ sendX e s = 11 ∧ sendE e s = e) ∨ (s.size ≤ 16384 ∧ e.op.length < 32 ∧ sendX e s = 0 ∧ sendE e s = { e with op := e.op ++ [s] }) := by
  unfold sendX sendE
  by_cases h1 : 16384 < s.size
  · left; exact ⟨h1, by rw [if_pos h1], by rw [if_neg (by omega)]⟩
  · by_cases h2 : 32 ≤ e.op.length
    · right; left; exact ⟨by omega, h2, by rw [if_neg h1, if_pos h2], by rw [if_neg (by omega)]⟩
    · right; right; exact ⟨by omega, by omega, by rw [if_neg h1, if_neg h2], by rw [if_pos (by omega)]⟩
set_option maxRecDepth 100000 in
set_option maxHeartbeats 4000000 in
theorem send_any (p n : Nat) (F : Nat → Prop) (e : CE) (s : ByteArray) (w : World) (h : EQ w p n F e) :
    Calls Try.prog 11 #[.pointer (some ⟨p, 0, none⟩), .string s] w fun r w' => r = .returned (.int .i64 (sendX e s)) ∧ Did F w w' p (n + 1) (sendE e s) := by
  have hsame : Did F w w p (n + 1) e := ⟨⟨F, h.mono (by omega), fun k hk => .inl hk⟩, Touch.refl _ _⟩
  obtain ⟨b, v, h, hF, hl⟩ := h
  obtain ⟨_, _, c2, _⟩ := h.at_
  obtain ⟨_, f2, _⟩ := h.fr
  obtain ⟨a, c, rfl⟩ := own_shape h.own
  rcases sendX_is e s with ⟨h1, hx, he⟩ | ⟨h1, h2, hx, he⟩ | ⟨h1, h2, hx, he⟩
  · rw [hx, he]
    have h1i : (16384 : Int) < (s.size : Int) := by omega
    have HS := Lib.hid hsame
    clear h hF hl hsame hx he
    go_enter Try.func11, Try.ntmps11
    go_wp2
    go_ret
    exact ⟨rfl, HS.out⟩
  · rw [hx, he]
    have h1i : ¬ (16384 : Int) < (s.size : Int) := by omega
    have h2i : (32 : Int) ≤ (e.op.length : Int) := by omega
    have HS := Lib.hid hsame
    clear h hF hl hsame hx he
    generalize e.op.length = m at *
    go_enter Try.func11, Try.ntmps11
    go_wp2
    go_ret
    exact ⟨rfl, HS.out⟩
  · rw [hx, he]
    have h1i : ¬ (16384 : Int) < (s.size : Int) := by omega
    have h2i : ¬ (32 : Int) ≤ (e.op.length : Int) := by omega
    have ha := h.alloc (.cells #[.string s] 9)
    have HA := Lib.hid ha
    have FIN : Hid (∀ v' w1, w1.ownsRow 0 9 1 v' (e.op ++ [s]).length (strsV (e.op ++ [s])) → (w.alloc (.cells #[.string s] 9)).grownBy w1 (Value.slice a e.op.length c).ownBlock → (v'.ownBlock = (Value.slice a e.op.length c).ownBlock ∨ v'.ownBlock = some (w.alloc (.cells #[.string s] 9)).heap.size) → Did F w (w1.setCell ⟨p, 2, none⟩ v') p (n + 1) { e with op := e.op ++ [s] }) :=
      Lib.hid fun v' w1 ho hg hv => by
        have hl1 := ha.laid ho hg hv (m := n + 1) (by omega) (by simp; omega) (by have := h.given; unfold CE.given at this; simp; omega)
        have hft : ∀ k, Foot p b v' k → F k ∨ w.heap.size ≤ k := fun k hk => ((ha.foot hv).2.2 k hk).elim (fun x => .inl (hF k x)) (fun x => .inr (by simp at x; omega))
        have htc : Touch F w (w1.setCell ⟨p, 2, none⟩ v') := (((Touch.refl F w).alloc _).grown hg (fun k hk => .inl (hF k (.inr (.inr hk))))).set_ (.inl (hF p (.inl rfl))) 2 v'
        exact ⟨⟨fun k => Foot p b v' k ∨ F k, ⟨b, v', hl1, fun k hk => .inl hk, fun k hk => hk.elim (hl1.lt k) (fun x => Nat.lt_of_lt_of_le (hl k x) htc.size)⟩, fun k hk => hk.elim (hft k) .inl⟩, htc⟩
    clear h hF hl hsame hx he ha
    go_enter Try.func11, Try.ntmps11
    go_wp2_with (at_builtin; refine wpList_app rfl _ _ rfl 0 _ e.op rfl HA.out.own w.heap.size s rfl (Blk.new w _ _) (by omega) (Nat.zero_le _) ?_; intro v' w1 ho hg hv; have hb1 := HA.out.blk.grown hg (fun x => HA.out.n0 x.symm); have d2 : w1.cell? ⟨p, 2, none⟩ = some (.slice a e.op.length c) := hb1.cell 2; have g2 := hb1.frozen 2; have HE := Lib.hid (FIN.out v' w1 ho hg hv); obtain ⟨av, cv, rfl⟩ := own_shape ho; clear hb1 ho hg hv)
    go_ret
    refine ⟨rfl, ?_⟩
    have h9 := HE.out
    rw [List.length_append] at h9
    exact h9
theorem check_cases (e : CE) (g : Gm) :
    (g.ep ≠ e.ep ∧ checkX e g = 23) ∨ (g.ep = e.ep ∧ g.sq < 0 ∧ checkX e g = 4) ∨ (g.ep = e.ep ∧ 0 ≤ g.sq ∧ (e.got : Int) + 32 < g.sq ∧ checkX e g = 4) ∨
    (g.ep = e.ep ∧ 0 ≤ g.sq ∧ g.sq ≤ (e.got : Int) + 32 ∧ g.ak < 0 ∧ checkX e g = 4) ∨ (g.ep = e.ep ∧ 0 ≤ g.sq ∧ g.sq ≤ (e.got : Int) + 32 ∧ 0 ≤ g.ak ∧ (e.given : Int) < g.ak ∧ checkX e g = 4) ∨
    (g.ep = e.ep ∧ g.sq = 0 ∧ 0 ≤ g.ak ∧ g.ak ≤ (e.given : Int) ∧ g.bd.size ≠ 0 ∧ checkX e g = 4) ∨
    (g.ep = e.ep ∧ 0 < g.sq ∧ g.sq ≤ (e.got : Int) + 32 ∧ 0 ≤ g.ak ∧ g.ak ≤ (e.given : Int) ∧ 16384 < g.bd.size ∧ checkX e g = 5) ∨
    (g.ep = e.ep ∧ g.sq = 0 ∧ 0 ≤ g.ak ∧ g.ak ≤ (e.given : Int) ∧ g.bd.size = 0 ∧ checkX e g = 0) ∨
    (g.ep = e.ep ∧ 0 < g.sq ∧ g.sq ≤ (e.got : Int) + 32 ∧ 0 ≤ g.ak ∧ g.ak ≤ (e.given : Int) ∧ g.bd.size ≤ 16384 ∧ checkX e g = 0) := by
  unfold checkX
  by_cases h1 : g.ep = e.ep
  · rw [if_neg (by simp [h1])]
    by_cases h2 : g.sq < 0
    · rw [if_pos (.inl h2)]; exact .inr (.inl ⟨h1, h2, rfl⟩)
    · by_cases h3 : (e.got : Int) + 32 < g.sq
      · rw [if_pos (.inr h3)]; exact .inr (.inr (.inl ⟨h1, by omega, h3, rfl⟩))
      · rw [if_neg (by omega)]
        by_cases h4 : g.ak < 0
        · rw [if_pos (.inl h4)]; exact .inr (.inr (.inr (.inl ⟨h1, by omega, by omega, h4, rfl⟩)))
        · by_cases h5 : (e.given : Int) < g.ak
          · rw [if_pos (.inr h5)]; exact .inr (.inr (.inr (.inr (.inl ⟨h1, by omega, by omega, by omega, h5, rfl⟩))))
          · rw [if_neg (by omega)]
            by_cases h6 : g.sq = 0
            · by_cases h7 : g.bd.size = 0
              · rw [if_neg (by omega), if_neg (by omega)]; exact .inr (.inr (.inr (.inr (.inr (.inr (.inr (.inl ⟨h1, h6, by omega, by omega, h7, rfl⟩)))))))
              · rw [if_pos ⟨h6, h7⟩]; exact .inr (.inr (.inr (.inr (.inr (.inl ⟨h1, h6, by omega, by omega, h7, rfl⟩)))))
            · rw [if_neg (by omega)]
              by_cases h7 : 16384 < g.bd.size
              · rw [if_pos h7]; exact .inr (.inr (.inr (.inr (.inr (.inr (.inl ⟨h1, by omega, by omega, by omega, by omega, h7, rfl⟩))))))
              · rw [if_neg h7]; exact .inr (.inr (.inr (.inr (.inr (.inr (.inr (.inr ⟨h1, by omega, by omega, by omega, by omega, by omega, rfl⟩)))))))
  · rw [if_pos h1]; exact .inl ⟨h1, rfl⟩
/-- its cells -/
def gmV (g : Gm) : Array Value := #[.int .i64 g.cl, .bool g.up, .int .i64 g.ep, .int .i64 g.sq, .int .i64 g.ak, .string g.bd]
theorem full_str {s : ByteArray} (h : s.size ≠ 0) : s.toList.isEmpty = false := by
  rw [ByteArray.toList_eq]
  cases hs : s.data.toList with
  | nil => exact absurd (by have : s.data.size = 0 := by simpa using congrArg List.length hs
                            exact this) h
  | cons x r => rfl
theorem below_box (w : World) (o : Obj) : Below w.heap.size w (w.alloc o) := (Below.refl _ _).alloc (Nat.le_refl _) o
set_option maxRecDepth 100000 in
set_option maxHeartbeats 4000000 in
theorem check_any (p n : Nat) (F : Nat → Prop) (e : CE) (g : Gm) (w : World) (h : EQ w p n F e) (hn : n ≤ 1000000) :
    Calls Try.prog 26 #[.pointer (some ⟨p, 0, none⟩), .agg (gmV g)] w fun r w' => r = .returned (.int .i64 (checkX e g)) ∧ Below w.heap.size w w' := by
  obtain ⟨b, v, h, _⟩ := h
  obtain ⟨a, c, rfl⟩ := own_shape h.own
  have hgv := h.given
  have hgn := h.gotn
  have hck := check_cases e g
  have hwg : IntKind.i64.wrap ((e.got : Int) + 32) = (e.got : Int) + 32 := by rw [IntKind.wrap_i64]; omega
  have hwa : IntKind.i64.wrap ((e.ack : Int) + (e.op.length : Int)) = (e.given : Int) := by unfold CE.given at hgv ⊢; rw [IntKind.wrap_i64]; omega
  obtain ⟨c0, c1, c2, c3, _⟩ := (h.alloc (.cells (gmV g) 29)).at_
  have hM := Blk.new w 29 (gmV g)
  have hb := below_box w (.cells (gmV g) 29)
  clear h
  obtain ⟨cl, up, gep, sq, ak, bd⟩ := g
  unfold gmV at *
  dsimp only at *
  generalize checkX e ⟨cl, up, gep, sq, ak, bd⟩ = r at *
  generalize e.given = gv at *
  generalize e.got = got at *
  generalize e.op.length = ol at *
  generalize e.ack = ack at *
  generalize e.ep = ep at *
  clear hgv hgn hn
  have hbs : bd.size = 0 → bd = .empty := fun h => by
    have : bd.data = #[] := Array.size_eq_zero_iff.1 h
    cases bd; cases this; rfl
  go_enter Try.func26, Try.ntmps26
  go_upto_region 1 with (fail)
  generalize hGen : w.alloc (.cells #[.int .i64 cl, .bool up, .int .i64 gep, .int .i64 sq, .int .i64 ak, .string bd] 29) = W at c0 c1 c2 c3 hM hb ⊢
  clear hGen
  have m2 : W.cell? ⟨w.heap.size, 2, none⟩ = some (.int .i64 gep) := hM.cell 2
  have m3 : W.cell? ⟨w.heap.size, 3, none⟩ = some (.int .i64 sq) := hM.cell 3
  have m4 : W.cell? ⟨w.heap.size, 4, none⟩ = some (.int .i64 ak) := hM.cell 4
  have m5 : W.cell? ⟨w.heap.size, 5, none⟩ = some (.string bd) := hM.cell 5
  have HB := Lib.hid hb
  clear hM hb
  rcases hck with ⟨h1, rfl⟩ | ⟨rfl, h2, rfl⟩ | ⟨rfl, h2, h3, rfl⟩ | ⟨rfl, h2, h3, h4, rfl⟩ | ⟨rfl, h2, h3, h4, h5, rfl⟩ | ⟨rfl, rfl, h4, h5, h6, rfl⟩ | ⟨rfl, h2, h3, h4, h5, h6, rfl⟩ | ⟨rfl, rfl, h4, h5, h6, rfl⟩ | ⟨rfl, h2, h3, h4, h5, h6, rfl⟩
  · have n1 : (gep == ep) = false := by rw [beq_eq_false_iff_ne]; exact h1
    go_wp2
    go_quiet (fail)
    go_wp2
    go_ret
    exact ⟨rfl, below_drewN HB.out _⟩
  all_goals
    (try (have h2n : ¬ sq < 0 := by omega))
    (try (have h3n : ¬ (got : Int) + 32 < sq := by omega))
    (try (have h4n : ¬ ak < 0 := by omega))
    (try (have h5n : ¬ (gv : Int) < ak := by omega))
    (try (have h6n : (sq == 0) = false := by rw [beq_eq_false_iff_ne]; omega))
    (try (have h7n : ¬ (16384 : Int) < (bd.size : Int) := by omega))
    (try (have h8n : (16384 : Int) < (bd.size : Int) := by omega))
    (try (have hz : bd.size = 0 := by omega; have hz2 := hbs hz; subst hz2))
    (try (have h9n : bd.toList.isEmpty = false := full_str (by omega)))
    go_wp2
    repeat (go_quiet (fail); go_wp2)
    go_ret
    refine ⟨rfl, ?_⟩
    repeat (first | exact HB.out | refine below_drewN ?_ _)
end Go.Proofs.Ytbbikibkijncgaa.Cord
