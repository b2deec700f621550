/- Waits. -/
import Derived.Test.YthodggkpkjfggaaKeyComp
namespace Go.Proofs.Ythodggkpkjfggaa.Key
set_option maxRecDepth 100000
open Go.RowKit
open Go.Proofs.Ythodggkpkjfggaa.Mem
open Go.Maps
/-- one that waits, and for whom -/
def EdgeOf (S : KS) (a b : Int) : Prop := ∃ x, (∃ r ∈ S.Q x, a = r.cl) ∧ ((∃ r ∈ S.Q x, b = r.cl) ∨ S.L x b ≠ none)
def WaitsRes (S : KS) (w : World) (e : Ending) (w' : World) : Prop := ∃ v E, e = .returned v ∧ w'.ownsRow w.heap.size 52 2 v E.length (reqV E) ∧ (∀ r ∈ E, EdgeOf S r.cl r.wants) ∧ Below w.heap.size w w'
/-- the list, since it was v0 in W0 -/
def LR (S : KS) (w W0 : World) (v0 : Value) (bd : Nat) (wr : World) (v : Value) : Prop :=
  ∃ E, wr.ownsRow w.heap.size 52 2 v E.length (reqV E) ∧ (∀ r ∈ E, EdgeOf S r.cl r.wants) ∧ E.length ≤ bd ∧ Below w.heap.size w wr ∧ W0.grownBy wr v0.ownBlock ∧ (∀ g, v.ownBlock = some g → v0.ownBlock = some g ∨ W0.heap.size ≤ g)
section
variable {S : KS} {w W0 W1 wr w' w5 : World} {v0 v1 v v5 : Value} {bd bd' : Nat}
theorem grown_of_below (h : Below wr.heap.size wr w') (r : Option Nat) : wr.grownBy w' r := ⟨h.os, h.tape, h.output, h.size, fun k hk _ => h.block k hk⟩
theorem LR.below (h : LR S w W0 v0 bd wr v) (hb : Below wr.heap.size wr w') : LR S w W0 v0 bd w' v := by
  obtain ⟨E, h1, h2, h3, h4, h5, h6⟩ := h
  exact ⟨E, own_below h1 hb, h2, h3, h4.trans (hb.mono h4.size), h5.andThen (grown_of_below hb none) (fun j e => by cases e), h6⟩
theorem LR.more (h : LR S w W0 v0 bd wr v) (hb : bd ≤ bd') : LR S w W0 v0 bd' wr v := by
  obtain ⟨E, h1, h2, h3, h4⟩ := h
  exact ⟨E, h1, h2, Nat.le_trans h3 hb, h4⟩
theorem LR.shape (h : LR S w W0 v0 bd wr v) : ∃ a n c, v = .slice a n c := by
  obtain ⟨E, h1, _⟩ := h
  obtain ⟨a, c, e⟩ := own_shape h1
  exact ⟨a, _, c, e⟩
/-- begun anew -/
theorem LR.start (h : LR S w W0 v0 bd wr v) : LR S w wr v bd wr v := by
  obtain ⟨E, h1, h2, h3, h4, h5, h6⟩ := h
  exact ⟨E, h1, h2, h3, h4, World.grownBy.refl _ _, fun g hg => .inl hg⟩
theorem LR.up (h : LR S w W0 v0 bd W1 v1) (h' : LR S w W1 v1 bd' wr v) : LR S w W0 v0 bd' wr v := by
  obtain ⟨_, _, _, _, _, h5, h6⟩ := h
  obtain ⟨E, k1, k2, k3, k4, k5, k6⟩ := h'
  exact ⟨E, k1, k2, k3, k4, h5.andThen k5 (fun j e => (h6 j e).symm), fun g hg => (k6 g hg).elim (h6 g) fun x => .inr (Nat.le_trans h5.size x)⟩
theorem LR.bel (h : LR S w W0 v0 bd wr v) : Below w.heap.size w wr := by obtain ⟨_, _, _, _, h, _⟩ := h; exact h
theorem LR.gr (h : LR S w W0 v0 bd wr v) : W0.grownBy wr v0.ownBlock := by obtain ⟨_, _, _, _, _, h, _⟩ := h; exact h
theorem own_cap {w : World} {B n k c : Nat} {a : Option Addr} {T : TypeId} {xs : List Value} (h : w.ownsRow B T 2 (.slice a n c) k xs) : k ≤ c := by
  rcases h.2 with ⟨e, h0⟩ | ⟨g, cap, cur, e, _, _, h1, _⟩
  · omega
  · injection e with _ _ e3; omega
theorem LR.low (h : LR S w W0 v0 bd wr v) : ∀ g, v.ownBlock = some g → g < wr.heap.size ∧ w.heap.size ≤ g := by
  obtain ⟨_, h1, _⟩ := h
  exact fun g hg => ⟨own_lt h1 hg, own_ge2 h1 g hg⟩
end
/-- append of an edge to the list -/
theorem wpList_edge {S : KS} {w W0 W wr : World} {v0 v : Value} {bd : Nat} {ops : Array Oper} {rest : List Oper} {o : Oper} {a : Act} {Q : Exit → Act → World → Prop} (hgd : o.guard = none) (s x : Operand)
    (ho : o.op = .call { callee := .builtin .append, args := #[s, x], argTypes := #[37, 37] })
    (h : LR S w W0 v0 bd wr v) (hb : Below wr.heap.size wr W) (hs : a.eval s = v) (vb : Nat) (y : Rq) (hx : a.eval x = .slice (some ⟨vb, 0, none⟩) 1 1) (hbk : Blk W vb 52 (rv y)) (hy : EdgeOf S y.cl y.wants) (hbd : bd ≤ 3000000)
    (hK : ∀ an nn cn w', LR S w W0 v0 (bd + 1) w' (.slice an nn cn) → wpList Try.prog ops Q rest (a.put o.dst (.slice an nn cn)) w') : wpList Try.prog ops Q (o :: rest) a W := by
  obtain ⟨E, h1, h2, h3, h4, h5, h6⟩ := h
  refine wpList_appE hgd s x ho w.heap.size v E hs (own_below h1 hb) vb y hx hbk (by omega) (Nat.le_trans h4.size hb.size) fun v' w' k1 k2 k3 => ?_
  obtain ⟨an, cn, e⟩ := own_shape k1
  have hW := h5.andThen (grown_of_below hb none) (fun j e => by cases e)
  have hL : LR S w W0 v0 (bd + 1) w' v' := ⟨E ++ [y], k1, fun r hr => by
    rcases List.mem_append.1 hr with hr | hr
    · exact h2 r hr
    · obtain rfl := List.mem_singleton.1 hr; exact hy, by rw [List.length_append]; simp; omega, (h4.trans (hb.mono h4.size)).grown k2 (Nat.le_trans h4.size hb.size) (fun k hk => own_ge2 h1 k hk), hW.andThen k2 (fun j e => (h6 j e).symm), fun g hg => by
      rcases k3 with e | e
      · exact h6 g (by rw [← e]; exact hg)
      · rw [e] at hg; injection hg with hg; exact .inr (by have := hW.size; omega)⟩
  rw [e] at hL ⊢
  exact hK an _ cn w' hL
set_option maxRecDepth 100000 in
set_option maxHeartbeats 4000000 in
theorem waits_any (p : Nat) (M : Nat → Prop) (S : KS) (w : World) (h : TQ w p M S) :
    Calls Try.prog 14 #[.pointer (some ⟨p, 0, none⟩)] w (WaitsRes S w) := by
  obtain ⟨G, hT⟩ := h
  have q1 := run_eqt w p
  have c1 := hT.topc.2.1
  have HT := Lib.hid hT
  obtain ⟨D, hown, hD, hdom⟩ := hT.qm
  have HD := Lib.hid hD
  have hbl := hown.lt
  clear hT hD hdom
  go_enter Try.func14, Try.ntmps14
  go_wp2_with (first
    | (at_range; refine wpList_range_own _ rfl _ 59 rfl 3 63 law Try.underlying59 RV G.qb 1024 D rfl hown ?_; intro w0 hrg0 hg0 hs0)
    | fail)
  go_frame
  have HS0 := Lib.hid hs0
  clear hs0
  go_loopw [3] (fun v wr => ∃ (left : Lit → Bool) (cnt : Nat), wr.ranges Try.prog 3 RV G.qb w.heap.size 1024 D left cnt ∧ (∃ a n c, v = .slice a n c) ∧ Hid (∃ bd, LR S w wr v bd wr v ∧ bd + 128 * cnt ≤ 131072))
    (fun _ wr => wr.rangeLeft G.qb w.heap.size)
  case atStart =>
    refine ⟨_, _, hrg0, ⟨_, _, _, rfl⟩, Lib.hid ⟨0, ⟨[], own_nil _ _ _ _, (fun r hr => by cases hr), Nat.le_refl _, (Below.refl _ _).grown hg0 (Nat.le_refl _) (fun j hj => by cases hj), World.grownBy.refl _ _, fun g hg => Or.inl hg⟩, ?_⟩⟩
    have := hown.size_le; omega
  case round =>
    obtain ⟨left, cnt, hrg, ⟨a3, n3, k3, rfl⟩, HL⟩ := hrel
    clear hrg0 hg0 HS0
    go_wp2_with (first
      | (at_next; refine wpList_next_ranges _ rfl _ rfl 3 law RV (Value.int .i64) id (fun key kl hkey => by obtain ⟨x, rfl, _⟩ := Maps.keyOf_int_inv Try.underlying3 hkey; exact ⟨x, rfl⟩) (fun v y _ => ⟨v, rfl⟩) G.qb w.heap.size 1024 _ _ _ rfl hrg ?_ ?_)
      | fail)
    · -- nothing is left
      intro hc0 hl0
      obtain ⟨bd, ⟨E, e1, e2, e3, e4, _, _⟩, hbd⟩ := HL.out
      have HSO := Lib.hid (sortE_any w.heap.size _ E wr e1 (by omega))
      have HEO := Lib.hid e2
      have HB := Lib.hid e4
      have HEL := Lib.hid (show E.length ≤ 131072 by omega)
      clear hrg HL e1 e2 e3 e4 hbd hc0 hl0
      go_wp2_with fail
      refine HSO.out.mono ?_
      rintro e w2 ⟨rfl, E2, hl2, hm2, ho2, hb2⟩
      have HEO2 : Hid (∀ r ∈ E2, EdgeOf S r.cl r.wants) := Lib.hid fun r hr => HEO.out r (hm2 r hr)
      have HCO := Lib.hid (comp_any w.heap.size _ E2 w2 ho2 (Nat.le_trans HB.out.size hb2.size) (by rw [hl2]; have := HEL.out; omega))
      have HB2 := Lib.hid (HB.out.trans hb2)
      clear hl2 hm2 ho2 hb2 HSO HEO HB
      go_wp2_with fail
      refine HCO.out.mono ?_
      rintro e w3 ⟨v3, E3, rfl, _, hm3, ho3, hb3⟩
      have FIN : Hid (WaitsRes S w (.returned v3) w3) := Lib.hid ⟨v3, E3, rfl, ho3, fun r hr => HEO2.out r (hm3 r hr), HB2.out.trans hb3⟩
      obtain ⟨a4, k4, rfl⟩ := own_shape ho3
      clear hm3 ho3 hb3 HCO HB2 HEO2
      go_wp2
      go_ret
      exact FIN.out
    · -- an entry has come
      intro x c kl yd yp w2 cnt2 hkey hlk hv hat hrg2 hlt hg2 hs2 hen
      obtain ⟨x', ex, rfl, hwx⟩ := Maps.keyOf_int_inv Try.underlying3 hkey
      cases ex
      have hfx : qmF G x = some c := by
        have h1 := HD.out x hwx
        have h2 : has D (.int .i64 x) = true := has_true_of_atKey hat
        rw [h2] at h1
        cases hf : qmF G x with
        | none => rw [hf] at h1; cases h1.1
        | some u =>
          have := h1.2 u hf .nil
          rw [hat] at this
          unfold RV at hv
          injection hv with hv
          injection hv with hv _
          rw [← hv] at this
          injection this with this
          rw [this]
      have hqp : G.qp x = true ∧ c = G.qv x := by
        unfold qmF at hfx
        split at hfx
        · rename_i hh; injection hfx with hfx; exact ⟨hh, hfx.symm⟩
        · cases hfx
      have hrow0 := HT.out.qr x hqp.1
      rw [← hqp.2] at hrow0
      obtain ⟨au, cu, rfl⟩ := own_shape hrow0
      have hcap := own_cap hrow0
      have hql := HT.out.wf.len x
      have HSR := Lib.hid (src_own hrow0)
      obtain ⟨bd, hLR, hbd⟩ := HL.out
      have hLR2 : LR S w w2 (.slice a3 n3 k3) bd w2 (.slice a3 n3 k3) ∧ some w.heap.size ≠ (Value.slice a3 n3 k3).ownBlock := by
        obtain ⟨E, e1, e2, e3, e4, _, _⟩ := hLR
        have hne := row_ne_iter e1 hrg
        exact ⟨⟨E, e1.kept hg2 (Or.inr hne.symm), e2, e3, e4.grown hg2 e4.size (fun j hj => by cases hj; exact Nat.le_refl _), World.grownBy.refl _ _, fun g hg => .inl hg⟩, hne⟩
      have HL2 := Lib.hid hLR2.1
      have HNE := Lib.hid hLR2.2
      have HRG2 := Lib.hid hrg2
      have HLT := Lib.hid hlt
      have HMEAS := Lib.hid hrg.left_eq
      have hxS : Sm x := hwx
      clear hs2 hkey hlk hv hat hg2 hlt hrg hLR hLR2 hrg2 hqp hfx hrow0 HL hwx
      obtain ⟨nq, hnq⟩ : ∃ nq, (S.Q x).length = nq := ⟨_, rfl⟩
      have HNQ := Lib.hid hnq
      rw [hnq] at hcap hql HSR hen ⊢
      clear hnq
      have HL20 : Hid (LR S w w2 (.slice a3 n3 k3) (bd + 16 * 0) w2 (.slice a3 n3 k3)) := HL2
      go_wp2_with fail
      go_loopw [3, 26] (fun v i wr => ∃ j : Nat, j ≤ nq ∧ i = .int .i64 (j : Int) ∧ (∃ a n c, v = .slice a n c) ∧ Hid (LR S w w2 (.slice a3 n3 k3) (bd + 16 * j) wr v)) (fun _ i _ => nq - (intOf i).toNat)
      case atStart => exact ⟨0, Nat.zero_le _, rfl, ⟨_, _, _, rfl⟩, HL20⟩
      case round =>
        obtain ⟨j, hj, rfl, ⟨a4, n4, k4, rfl⟩, HK⟩ := hrel
        clear HL20
        by_cases hjl : j < nq
        · have hjQ : j < (S.Q x).length := by rw [HNQ.out]; exact hjl
          have hr : (S.Q x)[j]? = some (S.Q x)[j] := List.getElem?_eq_getElem hjQ
          have hrm := List.getElem_mem hjQ
          generalize (S.Q x)[j] = r at hr hrm
          obtain ⟨g, cc, e1, hgo, hgl, -, -⟩ := HSR.out.at_ hr
          injection e1 with e1 e2 e3
          clear e2
          subst e1; subst e3
          have hSrc : ∀ W, Below w.heap.size w W → ∀ i y, (S.Q x)[i]? = some y → W.cell? ⟨g, i * 2, none⟩ = some (.int .i64 y.cl) ∧ W.cell? ⟨g, i * 2 + 1, none⟩ = some (.int .i64 y.wants) := fun W hb i y hy => by
            obtain ⟨g', c', e1, _, _, k1, k2⟩ := (HSR.out.below hb).at_ hy
            injection e1 with e1 _ _
            injection e1 with e1
            injection e1 with e1 _ _
            subst e1
            exact ⟨k1, k2⟩
          have HSC := Lib.hid hSrc
          have cc0 := (hSrc _ HK.out.bel j r hr).1
          have cc1 := (hSrc _ HK.out.bel j r hr).2
          have HRM := Lib.hid hrm
          have hjc : j ≤ cu := by omega
          have hjn : j ≤ nq := hj
          clear hSrc hr hrm hjQ hgo hgl
          obtain ⟨cl, wn⟩ := r
          dsimp only at cc0 cc1
          go_upto_region 10 with (fail)
          have hbx := below_box wr (.cells #[.int .i64 cl, .int .i64 wn] 65)
          have HLB := Lib.hid (HK.out.below hbx)
          have HBX := Lib.hid (Blk.new wr 65 #[.int .i64 cl, .int .i64 wn])
          have HLO : Hid (∀ k, (Value.slice a4 n4 k4).ownBlock = some k → k ≠ wr.heap.size) := Lib.hid fun k hk e => by have := (HK.out.low k hk).1; omega
          clear hbx HK cc0 cc1
          generalize wr.alloc (.cells #[.int .i64 cl, .int .i64 wn] 65) = Wb at *
          generalize wr.heap.size = bx at *
          have HL30 : Hid (LR S w Wb (.slice a4 n4 k4) (bd + 16 * j + 0) Wb (.slice a4 n4 k4)) := Lib.hid HLB.out.start
          go_wp2_with fail
          go_loopw [3, 35] (fun v i wq => ∃ l : Nat, l ≤ j ∧ i = .int .i64 (l : Int) ∧ (∃ a n c, v = .slice a n c) ∧ Hid (LR S w Wb (.slice a4 n4 k4) (bd + 16 * j + l) wq v)) (fun _ i _ => j - (intOf i).toNat)
          case atStart => exact ⟨0, Nat.zero_le _, rfl, ⟨_, _, _, rfl⟩, HL30⟩
          case round =>
            obtain ⟨l, hl, rfl, ⟨a5, n5, k5, rfl⟩, HK3⟩ := hrel
            clear HL30
            have hbx3 : Blk wr bx 65 #[.int .i64 cl, .int .i64 wn] := HBX.out.grown HK3.out.gr (fun e => HLO.out bx e.symm rfl)
            have b0 : wr.cell? ⟨bx, 0, none⟩ = some (.int .i64 cl) := hbx3.cell 0
            have b1 : wr.cell? ⟨bx, 1, none⟩ = some (.int .i64 wn) := hbx3.cell 1
            by_cases hlj : l < j
            · have hlQ : l < (S.Q x).length := by rw [HNQ.out]; omega
              have hs : (S.Q x)[l]? = some (S.Q x)[l] := List.getElem?_eq_getElem hlQ
              have hsm := List.getElem_mem hlQ
              generalize (S.Q x)[l] = s at hs hsm
              obtain ⟨d0, d1⟩ := HSC.out _ HK3.out.bel l s hs
              have HED : Hid (EdgeOf S cl s.cl) := Lib.hid ⟨x, ⟨_, HRM.out, rfl⟩, .inl ⟨s, hsm, rfl⟩⟩
              obtain ⟨sc, sw⟩ := s
              dsimp only at d0 d1 HED
              have hb9 := below_box wr (.cells #[.int .i64 sc, .int .i64 sw] 65)
              have HB99 := Lib.hid (hb9.trans ((below_box (wr.alloc (.cells #[.int .i64 sc, .int .i64 sw] 65)) (.cells #[.int .i64 cl, .int .i64 sc] 52)).mono hb9.size))
              have HBK : Hid (Blk ((wr.alloc (.cells #[.int .i64 sc, .int .i64 sw] 65)).alloc (.cells #[.int .i64 cl, .int .i64 sc] 52)) (wr.heap.size + 1) 52 (rv ⟨cl, sc⟩)) := Lib.hid (by
                have := Blk.new (wr.alloc (.cells #[.int .i64 sc, .int .i64 sw] 65)) 52 #[.int .i64 cl, .int .i64 sc]
                rw [show (wr.alloc (.cells #[.int .i64 sc, .int .i64 sw] 65)).heap.size = wr.heap.size + 1 by simp] at this
                exact this)
              have hbxl := hbx3.lt
              have b0' : (wr.alloc (.cells #[.int .i64 sc, .int .i64 sw] 65)).cell? ⟨bx, 0, none⟩ = some (.int .i64 cl) := (hbx3.below hb9 hbx3.lt).cell 0
              have hbdl : bd + 16 * j + l ≤ 3000000 := by omega
              clear hs hsm hlQ hbx3 hb9
              go_wp2_with (at_builtin; refine wpList_edge rfl _ _ rfl HK3.out HB99.out rfl (wr.heap.size + 1) ⟨cl, sc⟩ rfl HBK.out HED.out hbdl ?_; intro a6 n6 k6 w6 hL6; have HL6 := Lib.hid hL6; clear hL6)
              go_roundw
              case rel => exact ⟨l + 1, by omega, by go_num, ⟨_, _, _, rfl⟩, HL6⟩
              case measure => simp [intOf]; omega
            · obtain rfl : l = j := by omega
              have HIW := Lib.hid (inWay_any p M G S x ⟨cl, wn⟩ wr (HT.out.below HK3.out.bel) hxS)
              have hbxl := hbx3.lt
              have HBX3 := Lib.hid hbx3
              have HWS : Hid (∀ c ∈ ways S x ⟨cl, wn⟩, Sm c ∧ S.L x c ≠ none) := Lib.hid fun c hc => by
                obtain ⟨h1, h2⟩ := List.mem_filter.1 hc
                have h3 := (mem_upFrom 8 1 c).1 h1
                refine ⟨sm_of (by omega), fun e => ?_⟩
                unfold inB at h2; rw [e] at h2; cases h2
              have hwl := ways_len S x ⟨cl, wn⟩
              have HWE : Hid ((upFrom 1 8).filter (inB S x ⟨cl, wn⟩) = ways S x ⟨cl, wn⟩) := Lib.hid rfl
              clear hbx3
              dsimp only at HIW
              go_wp2_with fail
              refine HIW.out.mono ?_
              rintro e w5 ⟨vW, rfl, hoW, hb5⟩
              rw [HWE.out] at hoW
              generalize ways S x ⟨cl, wn⟩ = ws at HWS hwl hoW
              have HL5 := Lib.hid (HK3.out.below hb5)
              have HB5 := Lib.hid (HBX3.out.below hb5 hbxl)
              have HLO5 : Hid (∀ k, (Value.slice a5 n5 k5).ownBlock = some k → k ≠ bx ∧ k < wr.heap.size) := Lib.hid fun k hk => ⟨fun e => by
                have := HK3.out
                obtain ⟨_, _, _, _, _, _, h6⟩ := this
                rcases h6 k hk with h | h
                · exact HLO.out k h e
                · have := HBX.out.lt; omega, (HK3.out.low k hk).1⟩
              have HOW := Lib.hid hoW
              have HWG : Hid (∀ k, vW.ownBlock = some k → wr.heap.size ≤ k) := Lib.hid fun k hk => own_ge2 hoW k hk
              obtain ⟨aW, cW, rfl⟩ := own_shape hoW
              have HL40 : Hid (LR S w w5 (.slice a5 n5 k5) (bd + 16 * l + l + 0) w5 (.slice a5 n5 k5)) := Lib.hid HL5.out.start
              clear hoW hb5 HIW b0 b1 HBX3
              generalize wr.heap.size = sz5 at *
              go_wp2_with fail
              go_loopw [3, 53] (fun v i wz => ∃ q : Nat, q ≤ ws.length ∧ i = .int .i64 (q : Int) ∧ (∃ a n c, v = .slice a n c) ∧ Hid (LR S w w5 (.slice a5 n5 k5) (bd + 16 * l + l + q) wz v)) (fun _ i _ => ws.length - (intOf i).toNat)
              case atStart => exact ⟨0, Nat.zero_le _, rfl, ⟨_, _, _, rfl⟩, HL40⟩
              case round =>
                obtain ⟨q, hq, rfl, ⟨a6, n6, k6, rfl⟩, HK4⟩ := hrel
                clear HL40
                by_cases hqw : q < ws.length
                · have hc : ws[q]? = some ws[q] := List.getElem?_eq_getElem hqw
                  obtain ⟨hcS, hcL⟩ := HWS.out ws[q] (List.getElem_mem hqw)
                  generalize ws[q] = c at hc hcS hcL
                  have hrowW := own_same HOW.out fun k hk => HK4.out.gr.block k (own_lt HOW.out hk) (fun e => by have h1 := (HLO5.out k e.symm).2; have h2 := HWG.out k hk; omega)
                  obtain ⟨gW, cW2, e1, c0⟩ := row_at hrowW hc
                  injection e1 with e1 e2 e3
                  clear e2
                  subst e1; subst e3
                  have hbx4 : Blk wr bx 65 #[.int .i64 cl, .int .i64 wn] := HB5.out.grown HK4.out.gr (fun e => (HLO5.out bx e.symm).1 rfl)
                  have b0 : wr.cell? ⟨bx, 0, none⟩ = some (.int .i64 cl) := hbx4.cell 0
                  have hT4 := HT.out.below HK4.out.bel
                  have t0 := hT4.topc.1
                  obtain ⟨mo, g1, g2, -⟩ := hT4.get hxS hcS
                  cases hl' : S.L x c with
                  | none => exact absurd hl' hcL
                  | some lk =>
                    rw [hl'] at g2
                    dsimp only [Option.map] at g2
                    obtain ⟨-, -, d2, -, -⟩ := hT4.lkc hl'
                    have HED : Hid (EdgeOf S cl c) := Lib.hid ⟨x, ⟨_, HRM.out, rfl⟩, .inr hcL⟩
                    have hbdl : bd + 16 * l + l + q ≤ 3000000 := by omega
                    have hb9 := below_box wr (.cells #[.int .i64 cl, .int .i64 c] 52)
                    have HB99 := Lib.hid hb9
                    have HBK := Lib.hid (Blk.new wr 52 (rv ⟨cl, c⟩))
                    have hbxl4 := hbx4.lt
                    have HLL : Hid (LR S w w5 (.slice a5 n5 k5) (bd + 16 * l + l + (q + 1)) wr (.slice a6 n6 k6)) := Lib.hid (HK4.out.more (by omega))
                    clear hT4 hrowW hbx4 hb9 hc hcL hcS hl'
                    generalize G.pl x c = lb at g2 d2
                    cases hbs : lk.busy with
                    | false =>
                      rw [hbs] at d2
                      clear hbs
                      go_wp2
                      go_roundw
                      case rel => exact ⟨q + 1, by omega, by go_num, ⟨_, _, _, rfl⟩, HLL⟩
                      case measure => simp [intOf]; omega
                    | true =>
                      rw [hbs] at d2
                      clear hbs HLL
                      go_wp2_with (at_builtin; refine wpList_edge rfl _ _ rfl HK4.out HB99.out rfl wr.heap.size ⟨cl, c⟩ rfl HBK.out HED.out hbdl ?_; intro a7 n7 k7 w7 hL7; have HL7 := Lib.hid hL7; clear hL7)
                      go_roundw
                      case rel => exact ⟨q + 1, by omega, by go_num, ⟨_, _, _, rfl⟩, HL7⟩
                      case measure => simp [intOf]; omega
                · obtain rfl : q = ws.length := by omega
                  have HF : Hid (LR S w w2 (.slice a3 n3 k3) (bd + 16 * (l + 1)) _ (.slice a6 n6 k6)) := Lib.hid ((HLB.out.up (HL5.out.up HK4.out)).more (by omega))
                  clear HK4 HL5 HLB HB5
                  go_wp2
                  go_roundw
                  case rel => exact ⟨l + 1, by omega, by go_num, ⟨_, _, _, rfl⟩, HF⟩
                  case measure => simp [intOf]; omega
        · obtain rfl : j = nq := by omega
          have HRG := Lib.hid (HRG2.out.kept HK.out.gr (fun e => by have := (HL2.out.low _ e.symm).2; omega) HNE.out)
          have HF : Hid (∃ bd', LR S w _ (.slice a4 n4 k4) bd' _ (.slice a4 n4 k4) ∧ bd' + 128 * cnt2 ≤ 131072) := Lib.hid ⟨_, HK.out.start, by have := HLT.out; omega⟩
          have HRL := HRG.out
          clear HK HRG2 HL2
          go_wp2
          go_roundw
          case rel => exact ⟨_, cnt2, HRL, ⟨_, _, _, rfl⟩, HF⟩
          case measure => rw [HRL.left_eq, HMEAS.out]; exact HLT.out
end Go.Proofs.Ythodggkpkjfggaa.Key
