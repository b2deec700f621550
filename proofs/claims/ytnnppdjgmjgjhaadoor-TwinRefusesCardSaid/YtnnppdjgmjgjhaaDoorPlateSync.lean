/- The walks of (*Plate).Sync and (*Plate).On. -/
import Derived.Test.YtnnppdjgmjgjhaaDoorPlateWrite
import Derived.Test.YtnnppdjgmjgjhaaDoorPlateFateOf
import Derived.Deep.RegionWith
namespace Go.Proofs.YtnnppdjgmjgjhaaDoor.Plate
set_option maxRecDepth 100000
open Go.RowKit
open Go.Proofs.YtnnppdjgmjgjhaaDoor.Mem

theorem PA.clear {w : World} {p sb : Nat} {qv : Value} {M : Nat → Prop} {S : PS} (h : PA w p sb qv M S) :
    PA (w.setCell ⟨p, 1, none⟩ (.slice none 0 0)) p sb (.slice none 0 0) M { S with q := [] } := by
  obtain ⟨cs, h1, h2⟩ := h.sec
  refine ⟨?_, ⟨cs, h1.far (show sb ≠ p from fun e => h.n0 e.symm) _, h2⟩, own_nil _ _ _ _, by simp, h.n0, by simp [Value.ownBlock], by simp [Value.ownBlock], h.m0, h.m1, by simp [Value.ownBlock], fun k hk => by simpa using h.lt k hk⟩
  have := h.blk.set_ 1 (.slice none 0 0)
  simpa using this
/-- the k-th write that waits -/
theorem PA.at_ {w : World} {p sb k : Nat} {a : Option Addr} {n c : Nat} {M : Nat → Prop} {S : PS} (h : PA w p sb (.slice a n c) M S) (hk : k < S.q.length) :
    ∃ g x, a = some ⟨g, 0, none⟩ ∧ S.q.getD k now = x ∧ x.n < S.N ∧ w.cell? ⟨g, k * 2, none⟩ = some (.int .i64 (x.n : Int)) ∧ w.cell? ⟨g, k * 2 + 1, none⟩ = some (.string x.d) := by
  obtain ⟨g, cap, e, -, hg, hc⟩ := own_pos h.own (by omega)
  simp only [Value.slice.injEq] at e
  obtain ⟨rfl, -, -⟩ := e
  have hx : S.q[k]? = some (S.q.getD k now) := by simp [List.getD, hk]
  obtain ⟨g1, g2⟩ := wcells_get hx
  refine ⟨g, _, rfl, rfl, h.wf _ ?_, (hc _ (by omega)).trans g1, (hc _ (by omega)).trans g2⟩
  have : S.q.getD k now = S.q[k] := by simp [List.getD, hk]
  rw [this]; exact List.getElem_mem hk
theorem tame_act {S : PS} (h : S.life ≤ 1000000) (ha : S.acts ≤ 1000000) (hr : S.arm ≤ 4611686018427387904) (hq : S.q.length ≤ 1000000) : Tame S := ⟨by omega, by omega, hr, hq⟩
theorem sync_off {S : PS} (h : S.off = true) : syncE S = 10 ∧ syncS S = S := by unfold syncE syncS; simp [h]
theorem sync_down {S : PS} (h : S.off = false) (h1 : S.arm = 1) : syncE S = 10 ∧ syncS S = actS S := by unfold syncE syncS actE; simp [h, h1]
theorem sync_done {S : PS} (h : S.off = false) (h1 : S.arm ≠ 1) : syncE S = 0 ∧ syncS S = doneS (actS S) fun _ => 1 := by unfold syncE syncS actE; simp [h, h1]
theorem act_q (S : PS) : (actS S).q = S.q ∧ (actS S).N = S.N ∧ (actS S).sec = S.sec := by unfold actS offS; split <;> (try split) <;> exact ⟨rfl, rfl, rfl⟩
set_option maxRecDepth 100000 in
set_option maxHeartbeats 1000000 in
theorem sync_any (w : World) (p sb : Nat) (qv : Value) (M : Nat → Prop) (S : PS) (h : PA w p sb qv M S) (ht : Tame S) :
    Calls Tryd.prog 51 #[.pointer (some ⟨p, 0, none⟩)] w fun e w' => e = .returned (.int .i64 (syncE S)) ∧ (∃ qv', PA w' p sb qv' M (syncS S)) ∧ Keep M w w' := by
  have H := Lib.hid h
  have hr := ready_any w p sb qv M S h
  have ha := act_any w p sb qv M S h ht.life ht.acts ht.arm
  have hql := ht.q
  clear ht
  cases ho : S.off with
  | true =>
    rw [ho, if_pos rfl] at hr
    have HR := Lib.hid hr
    have HE := Lib.hid (sync_off ho)
    clear h hr ha ho
    go_enter Tryd.func51, Tryd.ntmps51
    go_wp2_with fail
    refine HR.out.mono ?_
    rintro e w1 ⟨rfl, rfl⟩
    go_wp2
    go_ret
    rw [HE.out.1, HE.out.2]
    exact ⟨rfl, ⟨qv, H.out⟩, Keep.refl _ _⟩
  | false =>
    rw [ho, if_neg (by decide)] at hr
    have HR := Lib.hid hr
    by_cases h1 : S.arm = 1
    · have e : actE S = 10 := by unfold actE; rw [if_pos h1]
      rw [e] at ha
      have HE := Lib.hid (sync_down ho h1)
      have HA := Lib.hid ha
      clear h hr ha ho h1 e
      go_enter Tryd.func51, Tryd.ntmps51
      go_wp2_with fail
      refine HR.out.mono ?_
      rintro e w1 ⟨rfl, rfl⟩
      go_wp2_with fail
      refine HA.out.mono ?_
      rintro e w1 ⟨rfl, hp1, k1⟩
      have HP1 := Lib.hid hp1
      have HK1 := Lib.hid k1
      clear hp1 k1
      go_wp2
      go_ret
      rw [HE.out.1, HE.out.2]
      exact ⟨rfl, ⟨qv, HP1.out⟩, HK1.out⟩
    · have e : actE S = 0 := by unfold actE; rw [if_neg h1]
      rw [e] at ha
      have HE := Lib.hid (sync_done ho h1)
      have HA := Lib.hid ha
      have hqa := (act_q S).1
      obtain ⟨a, c, rfl⟩ := own_shape h.own
      clear h hr ha ho h1 e
      generalize actS S = A at *
      obtain ⟨len, hlen⟩ : ∃ len, len = S.q.length := ⟨_, rfl⟩
      rw [← hlen] at H HA hql
      have HLEN := Lib.hid (show len = A.q.length by rw [hqa]; exact hlen)
      clear hlen hqa
      go_enter Tryd.func51, Tryd.ntmps51
      go_wp2_with fail
      refine HR.out.mono ?_
      rintro e w1 ⟨rfl, rfl⟩
      go_wp2_with fail
      refine HA.out.mono ?_
      rintro e w1 ⟨rfl, hp1, k1⟩
      obtain ⟨-, c1, -⟩ := hp1.get
      go_wp2
      go_loopw [6, 22] (fun y i wr => ∃ k : Nat, k ≤ len ∧ i = .int .i64 (k : Int) ∧ PA wr p sb (.slice a len c) M { A with sec := setTo A.sec (fun _ => 1) A.q k } ∧ Keep M w wr) (fun _ i _ => len - (intOf i).toNat)
      case atStart => exact ⟨0, Nat.zero_le _, rfl, hp1, k1⟩
      case round =>
        obtain ⟨k, hk, rfl, hP, hK⟩ := hrel
        have HP := Lib.hid hP
        have HK := Lib.hid hK
        clear hp1 k1 c1
        by_cases hlt : k < len
        · obtain ⟨g, x, rfl, hx, hxn, g1, g2⟩ := hP.at_ (k := k) (by rw [← HLEN.out]; exact hlt)
          have HXN := Lib.hid hxn
          have HX := Lib.hid hx
          have hb : Below wr.heap.size wr (wr.alloc (.cells #[.int .i64 (x.n : Int), .string x.d] 76)) := (Below.refl _ _).alloc (Nat.le_refl _) _
          have HPB := Lib.hid (hP.below hb)
          have HKB := Lib.hid (hK.trans (Keep.of_below hb hP.lt))
          clear hP hK hxn hx hb
          go_wp2_with fail
          refine (settle_any _ p sb _ M _ x 1 HPB.out HXN.out).mono ?_
          rintro e w3 ⟨rfl, p3, k3⟩
          have HP3 := Lib.hid p3
          have HK3 := Lib.hid (HKB.out.trans k3)
          clear p3 k3
          go_wp2
          go_roundw
          case rel => exact ⟨k + 1, by omega, by go_num, by have := HP3.out; rw [← HX.out] at this; exact this, HK3.out⟩
          case measure => simp [intOf]; omega
        · have hkn : k = A.q.length := by have := HLEN.out; omega
          have f1 := hP.blk.frozen 1
          have c1 := hP.get.2.1
          subst hkn
          clear hP hK
          go_wp2
          go_ret
          rw [HE.out.1, HE.out.2]
          exact ⟨rfl, ⟨_, HP.out.clear⟩, HK.out.set_ HP.out.m0 _ _⟩

theorem _root_.Go.Proofs.YtnnppdjgmjgjhaaDoor.Mem.Ints.keep {w w' : World} {a : Option Addr} {n : Nat} {zs : List Int} {M : Nat → Prop} (h : Ints w a n zs) (hk : Keep M w w') (hm : ∀ b off, a = some ⟨b, off, none⟩ → 0 < n → M b) : Ints w' a n zs := by
  obtain ⟨h1, h2, h3⟩ := h
  refine ⟨h1, h2, fun hn => ?_⟩
  obtain ⟨b, off, ha, hlt, hc⟩ := h3 hn
  exact ⟨b, off, ha, Nat.lt_of_lt_of_le hlt hk.size, fun i hi => (hk.cell (p := ⟨b, off + i, none⟩) (hm b off ha hn)).trans (hc i hi)⟩
theorem on_on {S : PS} {fs : List Int} (h : S.off = false) : onS S fs = S := by unfold onS; simp [h]
theorem on_off {S : PS} {fs : List Int} (h : S.off = true) : onS S fs = doneS { S with off := false } (fateZ fs) := by unfold onS; simp [h]
set_option maxRecDepth 100000 in
set_option maxHeartbeats 2000000 in
theorem on_any (w : World) (p sb : Nat) (qv : Value) (M : Nat → Prop) (S : PS) (fa : Option Addr) (fn fc : Nat) (fs : List Int) (h : PA w p sb qv M S) (hq : S.q.length ≤ 1000000) (hF : Ints w fa fn fs) (hfn : fn ≤ 9223372036854775807) (hfm : ∀ b off, fa = some ⟨b, off, none⟩ → 0 < fn → M b) :
    Calls Tryd.prog 11 #[.pointer (some ⟨p, 0, none⟩), .slice fa fn fc] w fun e w' => e = .returned (.tuple #[]) ∧ (∃ qv', PA w' p sb qv' M (onS S fs)) ∧ Keep M w w' := by
  have H := Lib.hid h
  obtain ⟨-, c1, c2, -⟩ := h.get
  obtain ⟨-, -, f2, -⟩ := h.fro
  cases ho : S.off with
  | false =>
    rw [ho] at c2
    have HE := Lib.hid (on_on (fs := fs) ho)
    clear h ho hF hfm f2 c1
    go_enter Tryd.func11, Tryd.ntmps11
    go_wp2
    refine bodyPost_ret (results_none rfl _ _ _) rfl ?_
    rw [HE.out]
    exact ⟨rfl, ⟨qv, H.out⟩, Keep.refl _ _⟩
  | true =>
    rw [ho] at c2
    have HE := Lib.hid (on_off (fs := fs) ho)
    have hP0 := h.put { S with off := false } 2 (.bool false) rfl rfl rfl (by simp)
    have hK0 := (Keep.refl M w).set_ h.m0 2 (.bool false)
    obtain ⟨a, c, rfl⟩ := own_shape h.own
    obtain ⟨len, hlen⟩ : ∃ len, len = S.q.length := ⟨_, rfl⟩
    rw [← hlen] at H hP0 hq c1
    have HLEN := Lib.hid hlen
    have HFM := Lib.hid hfm
    have HF := Lib.hid hF
    clear h ho hlen hF hfm
    go_enter Tryd.func11, Tryd.ntmps11
    go_wp2
    go_loopw [4, 5, 23] (fun y1 y2 i wr => ∃ k : Nat, k ≤ len ∧ i = .int .i64 (k : Int) ∧ PA wr p sb (.slice a len c) M { S with off := false, sec := setTo S.sec (fateZ fs) S.q k } ∧ Keep M w wr) (fun _ _ i _ => len - (intOf i).toNat)
    case atStart => exact ⟨0, Nat.zero_le _, rfl, hP0, hK0⟩
    case round =>
      obtain ⟨k, hk, rfl, hP, hK⟩ := hrel
      have HP := Lib.hid hP
      have HK := Lib.hid hK
      clear hP0 hK0 c1 c2 f2
      by_cases hlt : k < len
      · obtain ⟨g, x, rfl, hx, hxn, g1, g2⟩ := hP.at_ (k := k) (by show k < S.q.length; rw [← HLEN.out]; exact hlt)
        have HXN := Lib.hid hxn
        have HX := Lib.hid hx
        have hb : Below wr.heap.size wr (wr.alloc (.cells #[.int .i64 (x.n : Int), .string x.d] 76)) := (Below.refl _ _).alloc (Nat.le_refl _) _
        have hb0 := (Blk.new wr 76 #[.int .i64 (x.n : Int), .string x.d]).cell 0
        have hb1 := (Blk.new wr 76 #[.int .i64 (x.n : Int), .string x.d]).cell 1
        have HPB := Lib.hid (hP.below hb)
        have hKB := hK.trans (Keep.of_below hb hP.lt)
        have hfate : ∀ q, Calls Tryd.prog 31 #[.slice fa fn fc, .int .i64 (k : Int)] ((wr.alloc (.cells #[.int .i64 (x.n : Int), .string x.d] 76)).drewN q) fun e w' => e = .returned (.int .i64 (fateZ fs k)) ∧ ((wr.alloc (.cells #[.int .i64 (x.n : Int), .string x.d] 76)).drewN q) = w' :=
          fun q => fateOf_any _ fa fn fc fs k ((HF.out.keep hKB HFM.out).drewN q) (by omega) hfn
        have hset : ∀ q, Calls Tryd.prog 30 #[.pointer (some ⟨p, 0, none⟩), .agg #[.int .i64 (x.n : Int), .string x.d], .int .i64 (fateZ fs k)] ((wr.alloc (.cells #[.int .i64 (x.n : Int), .string x.d] 76)).drewN q) fun e w' => e = .returned (.tuple #[]) ∧ PA w' p sb (.slice (some ⟨g, 0, none⟩) len c) M { S with off := false, sec := setTo S.sec (fateZ fs) S.q (k + 1) } ∧ Keep M w w' := fun q => by
          refine (settle_any _ p sb _ M _ x (fateZ fs k) (HPB.out.drewN q) HXN.out).mono ?_
          rintro e w' ⟨h1, h2, h3⟩
          exact ⟨h1, by rw [← HX.out] at h2; exact h2, (hKB.drewN q).trans h3⟩
        have HFATE := Lib.hid hfate
        have HSET := Lib.hid hset
        clear hP hK hxn hx hb hKB hfate hset
        go_wp2_with fail
        go_region_with (first
          | (refine (HFATE.out 0).mono ?_; rintro e w5 ⟨rfl, rfl⟩)
          | (refine (HFATE.out 1).mono ?_; rintro e w5 ⟨rfl, rfl⟩)
          | (refine (HFATE.out 2).mono ?_; rintro e w5 ⟨rfl, rfl⟩)
          | (refine (HSET.out 0).mono ?_; rintro e w5 ⟨rfl, p5, k5⟩)
          | (refine (HSET.out 1).mono ?_; rintro e w5 ⟨rfl, p5, k5⟩)
          | (refine (HSET.out 2).mono ?_; rintro e w5 ⟨rfl, p5, k5⟩))
        all_goals
          have HP3 := Lib.hid p5
          have HK3 := Lib.hid k5
          clear p5 k5
          go_wp2
          go_roundw
          case rel => exact ⟨k + 1, by omega, by go_num, HP3.out, HK3.out⟩
          case measure => simp [intOf]; omega
      · have hkn : k = S.q.length := by have := HLEN.out; omega
        have f1 := hP.blk.frozen 1
        have c1 := hP.get.2.1
        subst hkn
        clear hP hK
        go_wp2
        go_end0
        rw [HE.out]
        exact ⟨rfl, ⟨_, HP.out.clear⟩, HK.out.set_ HP.out.m0 _ _⟩
end Go.Proofs.YtnnppdjgmjgjhaaDoor.Plate
