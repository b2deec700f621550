/- grant, call. -/
import Derived.Test.YthodggkpkjfggaaKeySay
namespace Go.Proofs.Ythodggkpkjfggaa.Key
set_option maxRecDepth 100000
open Go.RowKit
open Go.Proofs.Ythodggkpkjfggaa.Mem
open Go.Maps
theorem quiet_left {P : Program} {f : FuncId} {args : Array Value} {w : World} {n : Nat} {v : Value}
    (h : Calls P f args (w.drewN n) fun e w' => e = .returned v ∧ w.drewN n = w') : Calls P f args (w.drewN n) fun e w'' => e = .returned v ∧ ∃ m, w'' = w.drewN m :=
  h.mono fun _ _ ⟨he, hm⟩ => ⟨he, n, hm.symm⟩
def M0 (M : Nat → Prop) (b : Nat) (k : Nat) : Prop := M k ∨ k = b
section
variable {w W : World} {p : Nat} {M : Nat → Prop} {G : Gh} {S : KS}
/-- a lock is boxed and laid -/
theorem TM.putAt (h : TM W p M G S) {x c : Int} {l : Lk} (hi : G.inn x = true) (hl : 0 ≤ x ∧ x < 1024 ∧ 1 ≤ c ∧ c ≤ 8 ∧ (l.has = 1 ∨ l.has = 2)) {W' : World} (hb : Below W.heap.size W W') (hn : Blk W' W.heap.size 72 (lockA l)) :
    ∃ w4, (Instr.mapUpdate 73 (.map (some (G.bl x))) (.int .i64 c) (.pointer (some ⟨W.heap.size, 0, none⟩))).run Try.prog W' = .ok () w4 ∧ w4.cell? ⟨p, 0, none⟩ = some (.map (some G.lb)) ∧ Hid (TQ w4 p M (setK S x c (some l)) ∧ Keep M W w4) := by
  obtain ⟨w4, hr, hm, ht⟩ := ((h.im x hi).same (hb.block _ (h.im x hi).lt)).put Try.underlying73 (x := c) ⟨sm_of (by omega), by omega⟩ (by decide) (.pointer (some ⟨W.heap.size, 0, none⟩))
  have hh := h.put hi hl hn (Nat.le_refl _) hb hm ht
  exact ⟨w4, hr, hh.1.topc.1, Lib.hid ⟨⟨_, hh.1⟩, hh.2⟩⟩
theorem TV.getIn (h : TV w p G S) {x : Int} (hi : G.inn x = true) (hx : Sm x) : (Instr.lookup 58 (.map (some G.lb)) (.int .i64 x) false).run Try.prog w = .ok (.map (some (G.bl x))) w := by
  obtain ⟨mo, g1, -, HM⟩ := h.get hx (c := 1) (sm_of (by decide))
  have := HM.out
  rw [hi, if_pos rfl] at this
  rw [this] at g1
  exact g1
theorem TV.getOut (h : TV w p G S) {x : Int} (hi : G.inn x = false) (hx : Sm x) : (Instr.lookup 58 (.map (some G.lb)) (.int .i64 x) false).run Try.prog w = .ok (.map none) w := by
  obtain ⟨mo, g1, -, HM⟩ := h.get hx (c := 1) (sm_of (by decide))
  have := HM.out
  rw [hi, if_neg (by simp)] at this
  rw [this] at g1
  exact g1
end
set_option maxRecDepth 100000 in
set_option maxHeartbeats 4000000 in
theorem grant_any (p : Nat) (M : Nat → Prop) (S : KS) (x : Int) (r : Rq) (w : World) (h : TQ w p M S) (hr : 0 ≤ x ∧ x < 1024 ∧ 1 ≤ r.cl ∧ r.cl ≤ 8 ∧ (r.wants = 1 ∨ r.wants = 2)) (hlen : S.said.length ≤ 4000000) :
    Calls Try.prog 45 #[.pointer (some ⟨p, 0, none⟩), .int .i64 x, .agg #[.int .i64 r.cl, .int .i64 r.wants]] w fun e w' => e = .returned (.tuple #[]) ∧ TQ w' p M (grantK S x r) ∧ Keep M w w' := by
  obtain ⟨G, h⟩ := h
  have hx : Sm x := sm_of (by omega)
  have hc : Sm r.cl := sm_of (by omega)
  have HGOAL : Hid (∀ w', TQ w' p (M0 M w.heap.size) (grantK S x r) → Keep (M0 M w.heap.size) (w.alloc (.cells #[.int .i64 r.cl, .int .i64 r.wants] 65)) w' → TQ w' p M (grantK S x r) ∧ Keep M w w') := Lib.hid fun w' h1 h2 =>
    ⟨h1.mono fun k hk => .inl hk, (keep_of_alloc h.ml _).trans (h2.mono fun k hk => .inl hk)⟩
  have hw : (w.alloc (.cells #[.int .i64 r.cl, .int .i64 r.wants] 65)).heap.size = w.heap.size + 1 := by simp
  have h0 : TM (w.alloc (.cells #[.int .i64 r.cl, .int .i64 r.wants] 65)) p (M0 M w.heap.size) G S := h.alloc _
  have hB : Blk (w.alloc (.cells #[.int .i64 r.cl, .int .i64 r.wants] 65)) w.heap.size 65 #[.int .i64 r.cl, .int .i64 r.wants] := Blk.new w 65 (rv r)
  have hmax := hasK_or h.wf (p := x) hr.2.2.2.2
  have hgr : grantK S x r = sayK (unqK (setK S x r.cl (some ⟨hasK S r x, 0, false⟩)) r.cl x) false r.cl x (hasK S r x) := rfl
  have hhk : max r.wants (holdsS S r.cl x) = hasK S r x := rfl
  have HSM : Hid (1 ≤ r.cl ∧ r.cl ≤ 8) := Lib.hid ⟨hr.2.2.1, hr.2.2.2.1⟩
  rw [hgr] at HGOAL ⊢
  generalize hasK S r x = hv at hmax hhk HGOAL ⊢
  obtain ⟨cl, wn⟩ := r
  dsimp only at hr hc HGOAL h0 hB hhk HSM ⊢
  have HMX := Lib.hid hhk
  have HHH := Lib.hid hmax
  have HH := Lib.hid h0
  have HBK := Lib.hid hB
  have HCA : Hid (∀ q, Calls Try.prog 24 #[.pointer (some ⟨p, 0, none⟩), .int .i64 cl, .int .i64 x] ((w.alloc (.cells #[.int .i64 cl, .int .i64 wn] 65)).drewN q) fun e w' => e = .returned (.int .i64 (holdsS S cl x)) ∧ (w.alloc (.cells #[.int .i64 cl, .int .i64 wn] 65)).drewN q = w') := Lib.hid fun q => holds_any p _ G S cl x _ (h0.drewN q) hx hc
  clear h h0 hB hhk hgr hmax hw
  go_enter Try.func45, Try.ntmps45
  go_upto_region 1 with (fail)
  generalize w.alloc (.cells #[.int .i64 cl, .int .i64 wn] 65) = W0 at *
  have c0 : W0.cell? ⟨w.heap.size, 0, none⟩ = some (.int .i64 cl) := HBK.out.cell 0
  have c1 : W0.cell? ⟨w.heap.size, 1, none⟩ = some (.int .i64 wn) := HBK.out.cell 1
  have hmx := HMX.out
  go_quiet ((go_at_call 24; exact quiet_left (HCA.out _)))
  obtain ⟨W1, hW1⟩ : ∃ W1, W0.drewN nq = W1 := ⟨_, rfl⟩
  have HT1 : Hid (TM W1 p (M0 M w.heap.size) G S) := Lib.hid (by rw [← hW1]; exact HH.out.drewN nq)
  have HB1 : Hid (Blk W1 w.heap.size 65 #[.int .i64 cl, .int .i64 wn]) := Lib.hid (by rw [← hW1]; exact HBK.out)
  have HK1 : Hid (Keep (M0 M w.heap.size) W0 W1) := Lib.hid (by rw [← hW1]; exact (Keep.refl _ _).drewN nq)
  rw [hW1]
  clear hW1 HH HBK HCA c0 c1 hmx
  cases hi : G.inn x with
  | true =>
    have hnil := run_eql_map_nil (P := Try.prog) W1 73 3 70 (some (G.bl x)) Try.underlying73
    dsimp only [Option.isNone] at hnil
    have d0 := HT1.out.topc.1
    have g0 := HT1.out.getIn hi hx
    have hT := HT1.out
    have hBw := HB1.out
    have hI := hi
    have HKW := HK1
    clear HT1 HB1 hi HK1
    -- the lock is laid
    have hnw := hT.topc.1
    have hgw := hT.getIn hI hx
    have hbx := below_box W1 (.cells #[.int .i64 hv, .int .i64 0, .bool false] 72)
    have hBX := Blk.new W1 72 #[.int .i64 hv, .int .i64 0, .bool false]
    obtain ⟨w4, hmu4, e4, HE4⟩ := hT.putAt (l := ⟨hv, 0, false⟩) hI ⟨hr.1, hr.2.1, HSM.out.1, HSM.out.2, HHH.out⟩ hbx hBX
    obtain ⟨w5, hmu5, e5, HE5⟩ := hT.putAt (l := ⟨hv, 0, false⟩) hI ⟨hr.1, hr.2.1, HSM.out.1, HSM.out.2, HHH.out⟩ hbx.drew hBX
    have b0 : W1.cell? ⟨w.heap.size, 0, none⟩ = some (.int .i64 cl) := hBw.cell 0
    have y1 := (hT.below (Below.refl _ _).drew).getIn hI hx
    have y2 := (hT.below hbx).getIn hI hx
    have y3 := (hT.below hbx.drew).getIn hI hx
    have HS1 := Lib.hid (show W1.drew.cell? ⟨p, 0, none⟩ = some (.map (some G.lb)) ∧ W1.drew.cell? ⟨w.heap.size, 0, none⟩ = some (.int .i64 cl) from ⟨hnw, b0⟩)
    have HS2 := Lib.hid (show (W1.alloc (.cells #[.int .i64 hv, .int .i64 0, .bool false] 72)).cell? ⟨p, 0, none⟩ = some (.map (some G.lb)) ∧ (W1.alloc (.cells #[.int .i64 hv, .int .i64 0, .bool false] 72)).cell? ⟨w.heap.size, 0, none⟩ = some (.int .i64 cl) from ⟨(hT.below hbx).topc.1, (hBw.below hbx hBw.lt).cell 0⟩)
    have HS3 := Lib.hid (show (W1.alloc (.cells #[.int .i64 hv, .int .i64 0, .bool false] 72)).drew.cell? ⟨p, 0, none⟩ = some (.map (some G.lb)) ∧ (W1.alloc (.cells #[.int .i64 hv, .int .i64 0, .bool false] 72)).drew.cell? ⟨w.heap.size, 0, none⟩ = some (.int .i64 cl) from HS2.out)
    have HZ4 := Lib.hid (show w4.cell? ⟨p, 0, none⟩ = some (.map (some G.lb)) ∧ w4.cell? ⟨w.heap.size, 0, none⟩ = some (.int .i64 cl) from ⟨e4, (HE4.out.2.blk hBw (.inr rfl)).cell 0⟩)
    have HZ5 := Lib.hid (show w5.cell? ⟨p, 0, none⟩ = some (.map (some G.lb)) ∧ w5.cell? ⟨w.heap.size, 0, none⟩ = some (.int .i64 cl) from ⟨e5, (HE5.out.2.blk hBw (.inr rfl)).cell 0⟩)
    have HB5 := Lib.hid (HE5.out.2.blk hBw (.inr rfl))
    clear hT hbx hBX hBw
    go_wp2_with fail
    go_region_held3 (fun W' => W'.cell? ⟨p, 0, none⟩ = some (.map (some G.lb)) ∧ W'.cell? ⟨w.heap.size, 0, none⟩ = some (.int .i64 cl))
      (first | (with_reducible assumption) | (with_reducible exact ⟨hnw, b0⟩) | (with_reducible exact HS1.out) | (with_reducible exact HS2.out) | (with_reducible exact HS3.out) | (with_reducible exact HZ4.out) | (with_reducible exact HZ5.out)) (fail)
    all_goals
      clear hmu4 hmu5 HE4 HZ4 HS1 HS2 HS3 y1 y2 y3 hnw hgw b0 e4 e5
      have HQ5 := Lib.hid HE5.out.1
      have HK5 := Lib.hid HE5.out.2
      have u0 := HZ5.out.2
      clear HE5 HZ5
      go_wp2_with fail
      refine (unqueue_any p _ _ cl x w5 HQ5.out ⟨hx, hr.1, hr.2.1⟩).mono ?_
      rintro e w6 ⟨rfl, h6, k6⟩
      have HQ6 := Lib.hid h6
      have u6 : w6.cell? ⟨w.heap.size, 0, none⟩ = some (.int .i64 cl) := (k6.blk HB5.out (.inr rfl)).cell 0
      have HK6 := Lib.hid (HKW.out.trans (HK5.out.trans k6))
      clear h6 k6 HQ5 HK5 u0 HKW
      go_wp2_with fail
      refine (say_any p _ _ false cl x hv w6 HQ6.out hlen).mono ?_
      rintro e w7 ⟨rfl, h7, k7⟩
      have HE7 := Lib.hid (HGOAL.out w7 h7 (HK6.out.trans k7))
      clear h7 k7 HK6 HQ6 u6
      go_wp2
      refine bodyPost_end (v := .tuple #[]) (by simp [results, Try.results45, go_sem]) rfl ?_
      exact ⟨rfl, HE7.out⟩
  | false =>
    have hnil := run_eql_map_nil (P := Try.prog) W1 73 3 70 none Try.underlying73
    dsimp only [Option.isNone] at hnil
    have d0 := HT1.out.topc.1
    have g0 := HT1.out.getOut hi hx
    have hmm := @run_makeMap Try.prog
    have hbm := below_box W1 (.map #[] 0)
    have HLM := Lib.hid (HT1.out.below hbm).lm
    have HMD : Hid (∀ w2, MapV w2 G.lb 0 1024 (fun y => if y = x then some (.map (some W1.heap.size)) else lmF G y) → (W1.alloc (.map #[] 0)).mapTurned w2 G.lb → ∃ G2, TM w2 p (M0 M w.heap.size) G2 S ∧ G2.inn x = true ∧ Keep (M0 M w.heap.size) W1 w2) := Lib.hid fun w2 hm ht => by
      have hh := HT1.out.made hi (map_made W1 1 8) (Nat.le_refl _) hbm hm ht
      exact ⟨_, hh.1, by simp, hh.2⟩
    clear hbm
    go_wp2_with (at_mapUpdate; refine wpList_mput rfl _ _ _ rfl Try.underlying58 rfl HLM.out x ⟨hx, hr.1, hr.2.1⟩ rfl (.map (some W1.heap.size)) rfl (by decide) ?_; intro w2 hm2 ht2; obtain ⟨G2, hT2, hI2, hK2⟩ := HMD.out w2 hm2 ht2; have HT2 := Lib.hid hT2; have HKW := Lib.hid (HK1.out.trans hK2); have HBW := Lib.hid (hK2.blk HB1.out (.inr rfl)); clear hm2 ht2 hT2 hK2)
    have hT := HT2.out
    have hBw := HBW.out
    have hI := hI2
    clear HT1 HB1 hi HK1 hnil d0 g0 hmm HLM HMD HT2 HBW hI2
    -- the lock is laid
    have hnw := hT.topc.1
    have hgw := hT.getIn hI hx
    have hbx := below_box w2 (.cells #[.int .i64 hv, .int .i64 0, .bool false] 72)
    have hBX := Blk.new w2 72 #[.int .i64 hv, .int .i64 0, .bool false]
    obtain ⟨w4, hmu4, e4, HE4⟩ := hT.putAt (l := ⟨hv, 0, false⟩) hI ⟨hr.1, hr.2.1, HSM.out.1, HSM.out.2, HHH.out⟩ hbx hBX
    obtain ⟨w5, hmu5, e5, HE5⟩ := hT.putAt (l := ⟨hv, 0, false⟩) hI ⟨hr.1, hr.2.1, HSM.out.1, HSM.out.2, HHH.out⟩ hbx.drew hBX
    have b0 : w2.cell? ⟨w.heap.size, 0, none⟩ = some (.int .i64 cl) := hBw.cell 0
    have y1 := (hT.below (Below.refl _ _).drew).getIn hI hx
    have y2 := (hT.below hbx).getIn hI hx
    have y3 := (hT.below hbx.drew).getIn hI hx
    have HS1 := Lib.hid (show w2.drew.cell? ⟨p, 0, none⟩ = some (.map (some G2.lb)) ∧ w2.drew.cell? ⟨w.heap.size, 0, none⟩ = some (.int .i64 cl) from ⟨hnw, b0⟩)
    have HS2 := Lib.hid (show (w2.alloc (.cells #[.int .i64 hv, .int .i64 0, .bool false] 72)).cell? ⟨p, 0, none⟩ = some (.map (some G2.lb)) ∧ (w2.alloc (.cells #[.int .i64 hv, .int .i64 0, .bool false] 72)).cell? ⟨w.heap.size, 0, none⟩ = some (.int .i64 cl) from ⟨(hT.below hbx).topc.1, (hBw.below hbx hBw.lt).cell 0⟩)
    have HS3 := Lib.hid (show (w2.alloc (.cells #[.int .i64 hv, .int .i64 0, .bool false] 72)).drew.cell? ⟨p, 0, none⟩ = some (.map (some G2.lb)) ∧ (w2.alloc (.cells #[.int .i64 hv, .int .i64 0, .bool false] 72)).drew.cell? ⟨w.heap.size, 0, none⟩ = some (.int .i64 cl) from HS2.out)
    have HZ4 := Lib.hid (show w4.cell? ⟨p, 0, none⟩ = some (.map (some G2.lb)) ∧ w4.cell? ⟨w.heap.size, 0, none⟩ = some (.int .i64 cl) from ⟨e4, (HE4.out.2.blk hBw (.inr rfl)).cell 0⟩)
    have HZ5 := Lib.hid (show w5.cell? ⟨p, 0, none⟩ = some (.map (some G2.lb)) ∧ w5.cell? ⟨w.heap.size, 0, none⟩ = some (.int .i64 cl) from ⟨e5, (HE5.out.2.blk hBw (.inr rfl)).cell 0⟩)
    have HB5 := Lib.hid (HE5.out.2.blk hBw (.inr rfl))
    clear hT hbx hBX hBw
    go_wp2_with fail
    go_region_held3 (fun W' => W'.cell? ⟨p, 0, none⟩ = some (.map (some G2.lb)) ∧ W'.cell? ⟨w.heap.size, 0, none⟩ = some (.int .i64 cl))
      (first | (with_reducible assumption) | (with_reducible exact ⟨hnw, b0⟩) | (with_reducible exact HS1.out) | (with_reducible exact HS2.out) | (with_reducible exact HS3.out) | (with_reducible exact HZ4.out) | (with_reducible exact HZ5.out)) (fail)
    all_goals
      clear hmu4 hmu5 HE4 HZ4 HS1 HS2 HS3 y1 y2 y3 hnw hgw b0 e4 e5
      have HQ5 := Lib.hid HE5.out.1
      have HK5 := Lib.hid HE5.out.2
      have u0 := HZ5.out.2
      clear HE5 HZ5
      go_wp2_with fail
      refine (unqueue_any p _ _ cl x w5 HQ5.out ⟨hx, hr.1, hr.2.1⟩).mono ?_
      rintro e w6 ⟨rfl, h6, k6⟩
      have HQ6 := Lib.hid h6
      have u6 : w6.cell? ⟨w.heap.size, 0, none⟩ = some (.int .i64 cl) := (k6.blk HB5.out (.inr rfl)).cell 0
      have HK6 := Lib.hid (HKW.out.trans (HK5.out.trans k6))
      clear h6 k6 HQ5 HK5 u0 HKW
      go_wp2_with fail
      refine (say_any p _ _ false cl x hv w6 HQ6.out hlen).mono ?_
      rintro e w7 ⟨rfl, h7, k7⟩
      have HE7 := Lib.hid (HGOAL.out w7 h7 (HK6.out.trans k7))
      clear h7 k7 HK6 HQ6 u6
      go_wp2
      refine bodyPost_end (v := .tuple #[]) (by simp [results, Try.results45, go_sem]) rfl ?_
      exact ⟨rfl, HE7.out⟩
end Go.Proofs.Ythodggkpkjfggaa.Key
