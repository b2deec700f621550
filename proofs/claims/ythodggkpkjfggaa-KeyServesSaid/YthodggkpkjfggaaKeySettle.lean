/- call, settle. -/
import Derived.Test.YthodggkpkjfggaaKeyGrant
import Derived.Deep.LoopGhost
namespace Go.Proofs.Ythodggkpkjfggaa.Key
set_option maxRecDepth 100000
open Go.RowKit
open Go.Proofs.Ythodggkpkjfggaa.Mem
open Go.Maps
theorem call1_some {S : KS} {x st c d : Int} (h : S.L x d ≠ none) : (call1 x st S c).L x d ≠ none := by
  unfold call1
  split
  · exact h
  · split
    · unfold sayK setK
      dsimp only
      split
      · simp
      · exact h
    · exact h
theorem callK_some {x st d : Int} : ∀ (cs : List Int) {S : KS}, S.L x d ≠ none → (callK S x cs st).L x d ≠ none
  | [], _, h => h
  | _ :: cs, _, h => callK_some cs (call1_some h)
theorem callK_take {S : KS} {x st : Int} {cs : List Int} {j : Nat} {c : Int} (hj : cs[j]? = some c) : callK S x (cs.take (j + 1)) st = call1 x st (callK S x (cs.take j) st) c := by
  unfold callK
  rw [List.take_add_one, hj, List.foldl_append]
  rfl
theorem call1_lt {S : KS} {x st c : Int} {l : Lk} (hl : S.L x c = some l) (h : l.called < st) : call1 x st S c = sayK (setK S x c (some { l with called := st })) true c x st := by
  unfold call1; rw [hl]; dsimp only; rw [if_pos h]
theorem call1_ge {S : KS} {x st c : Int} {l : Lk} (hl : S.L x c = some l) (h : ¬ l.called < st) : call1 x st S c = S := by
  unfold call1; rw [hl]; dsimp only; rw [if_neg h]
set_option maxRecDepth 100000 in
set_option maxHeartbeats 4000000 in
theorem call_any (p B : Nat) (M : Nat → Prop) (S : KS) (x st : Int) (cs : List Int) (v : Value) (w : World) (h : TQ w p M S) (hx : Sm x) (hv : w.ownsRow B 3 1 v cs.length (cs.map (Value.int .i64))) (hvM : ∀ g, v.ownBlock = some g → M g)
    (hcs : ∀ c ∈ cs, Sm c ∧ S.L x c ≠ none) (hlen : S.said.length + cs.length ≤ 4000000) :
    Calls Try.prog 44 #[.pointer (some ⟨p, 0, none⟩), .int .i64 x, v, .int .i64 st] w fun e w' => e = .returned (.tuple #[]) ∧ TQ w' p M (callK S x cs st) ∧ Keep M w w' := by
  have HV := Lib.hid hv
  have HVM := Lib.hid hvM
  have HCS := Lib.hid hcs
  have HS : Hid (TQ w p M (callK S x (cs.take 0) st) ∧ Keep M w w) := Lib.hid ⟨h, Keep.refl _ _⟩
  obtain ⟨av, cv, rfl⟩ := own_shape hv
  clear h hv hvM hcs
  have hl63 : cs.length ≤ 4000000 := by omega
  go_enter Try.func44, Try.ntmps44
  go_wp2_with fail
  go_loopw [13] (fun i wr => ∃ j : Nat, j ≤ cs.length ∧ i = .int .i64 (j : Int) ∧ Hid (TQ wr p M (callK S x (cs.take j) st) ∧ Keep M w wr)) (fun i _ => cs.length - (intOf i).toNat)
  case atStart => exact ⟨0, Nat.zero_le _, rfl, HS⟩
  case round =>
    obtain ⟨j, hj, rfl, HK⟩ := hrel
    clear HS
    by_cases hlt : j < cs.length
    · have hc : cs[j]? = some cs[j] := List.getElem?_eq_getElem hlt
      have hm := HCS.out cs[j] (List.getElem_mem hlt)
      generalize cs[j] = c at hc hm
      obtain ⟨hcS, hcL⟩ := hm
      obtain ⟨⟨G, hT⟩, hK⟩ := HK.out
      have hrow := own_same HV.out fun g hg => hK.block g (HVM.out g hg)
      obtain ⟨g, cap, e1, _, _, hcell⟩ := own_pos hrow (by omega)
      injection e1 with e1 _ e3
      subst e1; subst e3
      have c0 : wr.cell? ⟨g, j, none⟩ = some (.int .i64 c) := by rw [hcell j (by omega)]; simp [hc]
      have hs := callK_some (st := st) (cs.take j) hcL
      have hsl := callK_said x st (cs.take j) S
      rw [List.length_take] at hsl
      have HST := Lib.hid (callK_take (S := S) (x := x) (st := st) hc)
      generalize callK S x (cs.take j) st = S1 at hT hs hsl HST
      cases hl : S1.L x c with
      | none => exact absurd hl hs
      | some l =>
        have d0 := hT.topc.1
        obtain ⟨mo, g1, g2, -⟩ := hT.get hx hcS
        rw [hl] at g2
        dsimp only [Option.map] at g2
        obtain ⟨-, d2, -, f2, -⟩ := hT.lkc hl
        by_cases hlc : l.called < st
        · have hmk := hT.mark (l' := { l with called := st }) (i := 1) (u := .int .i64 st) hl rfl rfl
          have e := call1_lt hl hlc
          rw [e] at HST
          have HQ := Lib.hid (show TQ (wr.setCell ⟨G.pl x c, 1, none⟩ (.int .i64 st)) p M (setK S1 x c (some { l with called := st })) from ⟨G, hmk.1⟩)
          have HKK := Lib.hid (hK.trans hmk.2)
          have HSA := Lib.hid (say_any p M _ true c x st _ HQ.out (by show S1.said.length ≤ _; omega))
          clear hT hK hrow hcell hs hsl hmk e hl HK hcL hcS hc
          generalize G.pl x c = lb at g2 d2 f2 HQ HKK HSA
          go_wp2_with fail
          refine HSA.out.mono ?_
          rintro e w3 ⟨rfl, h3, k3⟩
          have HK3 : Hid (TQ w3 p M (callK S x (cs.take (j + 1)) st) ∧ Keep M w w3) := Lib.hid ⟨by rw [HST.out]; exact h3, HKK.out.trans k3⟩
          clear h3 k3 HSA HQ HKK c0 d0 d2 f2 g1 g2 HST
          go_wp2
          go_roundw
          case rel => exact ⟨j + 1, by omega, by go_num, HK3⟩
          case measure => simp [intOf]; omega
        · have e := call1_ge hl hlc
          rw [e] at HST
          have HK3 : Hid (TQ wr p M (callK S x (cs.take (j + 1)) st) ∧ Keep M w wr) := Lib.hid ⟨by rw [HST.out]; exact ⟨G, hT⟩, hK⟩
          clear hT hK hrow hcell hs hsl e hl HK hcL hcS hc HST
          generalize G.pl x c = lb at g2 d2 f2
          go_wp2
          go_roundw
          case rel => exact ⟨j + 1, by omega, by go_num, HK3⟩
          case measure => simp [intOf]; omega
    · obtain rfl : j = cs.length := by omega
      have HE : Hid (TQ wr p M (callK S x cs st) ∧ Keep M w wr) := Lib.hid (by have := HK.out; rw [List.take_of_length_le (Nat.le_refl _)] at this; exact this)
      clear HK
      go_wp2
      refine bodyPost_end (v := .tuple #[]) (by simp [results, Try.results44, go_sem]) rfl ?_
      exact ⟨rfl, HE.out⟩
theorem own_ge2 {w : World} {base n size : Nat} {t : TypeId} {v : Value} {xs : List Value} (h : w.ownsRow base t size v n xs) : ∀ g, v.ownBlock = some g → base ≤ g := by
  intro g hg
  obtain ⟨_, ⟨rfl, _⟩ | ⟨g', c, cur, rfl, hb, _⟩⟩ := h
  · cases hg
  · cases hg; exact hb
theorem settleN_nil {S : KS} {x : Int} (n : Nat) (h : S.Q x = []) : settleN n S x = S := by unfold settleN; rw [h]
theorem settleN_call {S : KS} {x : Int} (n : Nat) {r : Rq} {q : List Rq} (h : S.Q x = r :: q) (hw : ways S x r ≠ []) : settleN n S x = callK S x (ways S x r) r.wants := by
  unfold settleN; rw [h]; dsimp only; rw [if_neg hw]
theorem settleN_grant {S : KS} {x : Int} (m : Nat) {r : Rq} {q : List Rq} (h : S.Q x = r :: q) (hw : ways S x r = []) : settleN (m + 1) S x = settleN m (grantK S x r) x := by
  conv => lhs; unfold settleN
  rw [h]; dsimp only; rw [if_pos hw]
theorem grant_len {S : KS} {x : Int} {r : Rq} {q : List Rq} (h : S.Q x = r :: q) : ((grantK S x r).Q x).length ≤ q.length := by
  have e : (grantK S x r).Q x = (S.Q x).filter (notR r.cl) := by simp [grantK, sayK, unqK, setQ, setK]
  rw [e, h, List.filter_cons]
  have : notR r.cl r = false := by simp [notR]
  rw [this]
  exact List.length_filter_le _ _
theorem grant_said (S : KS) (x : Int) (r : Rq) : (grantK S x r).said.length = S.said.length + 1 := by simp [grantK, sayK, unqK, setQ, setK]
set_option maxRecDepth 100000 in
set_option maxHeartbeats 4000000 in
theorem settle_any (p : Nat) (M : Nat → Prop) (S : KS) (x : Int) (w : World) (h : TQ w p M S) (hx : Sm x) (hlen : S.said.length ≤ 3900000) :
    Calls Try.prog 28 #[.pointer (some ⟨p, 0, none⟩), .int .i64 x] w fun e w' => e = .returned (.tuple #[]) ∧ TQ w' p M (settleK S x) ∧ Keep M w w' := by
  have hQl := h.wf.len x
  have HS : Hid (∃ S1, (S1.Q x).length ≤ (S.Q x).length ∧ TQ w p M S1 ∧ Keep M w w ∧ settleN (S.Q x).length S1 x = settleK S x ∧ S1.said.length + (S.Q x).length ≤ 3900008) := Lib.hid ⟨S, Nat.le_refl _, h, Keep.refl _ _, rfl, by omega⟩
  clear h
  go_enter Try.func28, Try.ntmps28
  go_wp2_with fail
  go_loopg [] (S.Q x).length (fun gg wr => Hid (∃ S1, (S1.Q x).length ≤ gg ∧ TQ wr p M S1 ∧ Keep M w wr ∧ settleN gg S1 x = settleK S x ∧ S1.said.length + gg ≤ 3900008))
  case atStart => exact HS
  case round =>
    obtain ⟨S1, h1, hTQ, hK, hst, hsd⟩ := hrel.out
    obtain ⟨G, hT⟩ := hTQ
    clear HS
    have d1 := hT.topc.2.1
    obtain ⟨u, g1, ho, -⟩ := hT.queue hx
    have HG := Lib.hid hT
    have HK := Lib.hid hK
    have HST := Lib.hid hst
    have HSD := Lib.hid hsd
    clear hrel hT hK hst hsd
    cases hq : S1.Q x with
    | nil =>
      rw [hq] at ho
      obtain ⟨au, cu, rfl⟩ := own_shape ho
      have HE : Hid (TQ wr p M (settleK S x) ∧ Keep M w wr) := Lib.hid ⟨by rw [← HST.out, settleN_nil _ hq]; exact ⟨G, HG.out⟩, HK.out⟩
      dsimp only [List.length_nil] at g1
      clear ho hq h1 HG HK HST HSD
      go_wp2
      refine bodyPost_end (v := .tuple #[]) (by simp [results, Try.results28, go_sem]) rfl ?_
      exact ⟨rfl, HE.out⟩
    | cons r q =>
      rw [hq] at ho h1
      obtain ⟨g, cap, rfl, _, _, hcell⟩ := own_pos ho (by simp)
      have r0 : wr.cell? ⟨g, 0, none⟩ = some (.int .i64 r.cl) := by rw [hcell 0 (by simp)]; simp [reqV]
      have r1 : wr.cell? ⟨g, 0 + 1, none⟩ = some (.int .i64 r.wants) := by rw [hcell 1 (by simp; omega)]; simp [reqV]
      have hrq := HG.out.wf.rq x r (by rw [hq]; exact List.mem_cons_self)
      obtain ⟨m, hm⟩ : ∃ m, gk = m + 1 := ⟨gk - 1, by simp at h1; omega⟩
      have hqm : q.length ≤ m := by simp at h1; omega
      have hst1 := HST.out
      rw [hm] at hst1
      have HCW : Hid (ways S1 x r ≠ [] → callK S1 x (ways S1 x r) r.wants = settleK S x) := Lib.hid fun hw => (settleN_call _ hq hw).symm.trans hst1
      have HGW : Hid (ways S1 x r = [] → settleN m (grantK S1 x r) x = settleK S x) := Lib.hid fun hw => (settleN_grant m hq hw).symm.trans hst1
      have HGL := Lib.hid (grant_len hq)
      have HSD2 : Hid (S1.said.length + (m + 1) ≤ 3900008) := Lib.hid (by have := HSD.out; rw [hm] at this; exact this)
      have HM := Lib.hid hm
      obtain ⟨n, hn⟩ : ∃ n, (r :: q).length = n := ⟨_, rfl⟩
      rw [hn] at g1
      have hn0 : 0 < n := by rw [← hn]; simp
      clear ho hcell hst1 hq hn h1 hm HST HSD
      have hbx := below_box wr (.cells #[.int .i64 r.cl, .int .i64 r.wants] 65)
      have HBX := Lib.hid (Blk.new wr 65 #[.int .i64 r.cl, .int .i64 r.wants])
      have HTB := Lib.hid (HG.out.below hbx)
      have HIW := Lib.hid (inWay_any p M G S1 x r _ HTB.out hx)
      have HBB := Lib.hid hbx
      have HML := Lib.hid HG.out.ml
      have HWS : Hid (∀ c ∈ ways S1 x r, Sm c ∧ S1.L x c ≠ none) := Lib.hid fun c hc => by
        obtain ⟨h1, h2⟩ := List.mem_filter.1 hc
        have h3 := (mem_upFrom 8 1 c).1 h1
        refine ⟨sm_of (by omega), fun e => ?_⟩
        unfold inB at h2; rw [e] at h2; cases h2
      have hwl := ways_len S1 x r
      clear hbx
      obtain ⟨cl, wn⟩ := r
      dsimp only at r0 r1 hrq HBX HTB HIW HBB HCW HGW HGL
      go_wp2_with fail
      refine HIW.out.mono ?_
      rintro e w2 ⟨v, rfl, hov, hb2⟩
      have HQ2 := Lib.hid (HTB.out.below hb2)
      have HB2 := Lib.hid (HBB.out.trans (hb2.mono HBB.out.size))
      have HX2 := Lib.hid (HBX.out.below hb2 HBX.out.lt)
      have HOV := Lib.hid (show w2.ownsRow (wr.alloc (.cells #[.int .i64 cl, .int .i64 wn] 65)).heap.size 3 1 v (ways S1 x ⟨cl, wn⟩).length ((ways S1 x ⟨cl, wn⟩).map (Value.int .i64)) from hov)
      have hsh := own_shape HOV.out
      clear HIW HTB HBX HBB hb2 hov r0 r1 d1 g1
      have x0 : w2.cell? ⟨wr.heap.size, 0, none⟩ = some (.int .i64 cl) := HX2.out.cell 0
      have x1 : w2.cell? ⟨wr.heap.size, 1, none⟩ = some (.int .i64 wn) := HX2.out.cell 1
      obtain ⟨av, cv, rfl⟩ := hsh
      by_cases hws : (ways S1 x ⟨cl, wn⟩).length = 0
      · have hw0 := List.eq_nil_of_length_eq_zero hws
        have HGG := Lib.hid (HGW.out hw0)
        rw [hws]
        have HGA := Lib.hid (grant_any p M S1 x ⟨cl, wn⟩ w2 ⟨G, HQ2.out⟩ hrq (by have := HSD2.out; omega))
        have HKM := Lib.hid (Keep.of_below HB2.out HML.out)
        clear hws hw0 HGW HCW HOV HQ2 HB2 HX2 HWS hwl
        dsimp only at HGA
        go_wp2_with fail
        refine HGA.out.mono ?_
        rintro e w3 ⟨rfl, h3, k3⟩
        have HR : Hid (∃ S2, (S2.Q x).length ≤ m ∧ TQ w3 p M S2 ∧ Keep M w w3 ∧ settleN m S2 x = settleK S x ∧ S2.said.length + m ≤ 3900008) := Lib.hid ⟨_, Nat.le_trans HGL.out hqm, h3, HK.out.trans (HKM.out.trans k3), HGG.out, by rw [grant_said]; have := HSD2.out; omega⟩
        clear h3 k3 HGA HK HKM HGG HGL HSD2 HG x0 x1
        go_wp2
        go_roundg m
        case rel => exact HR
        case measure => have := HM.out; omega
      · have hwi : (0 : Int) < ((ways S1 x ⟨cl, wn⟩).length : Int) := by omega
        have hwn : 0 < (ways S1 x ⟨cl, wn⟩).length := by omega
        have HCC := Lib.hid (HCW.out fun e => hws (by rw [e]; rfl))
        have HQM := Lib.hid (show TQ w2 p (fun k => M k ∨ (wr.heap.size ≤ k ∧ k < w2.heap.size)) S1 from (show TQ wr p M S1 from ⟨G, HG.out⟩).belowM HB2.out)
        have HCA := Lib.hid (call_any p _ _ S1 x wn (ways S1 x ⟨cl, wn⟩) _ w2 HQM.out hx HOV.out (fun g hg => .inr ⟨by have := own_ge2 HOV.out g hg; simp at this; omega, own_lt HOV.out hg⟩) HWS.out (by have := HSD2.out; omega))
        have HKM := Lib.hid (Keep.of_below HB2.out HML.out)
        generalize (ways S1 x ⟨cl, wn⟩).length = nw at hws hwi hwn hwl HOV HCA ⊢
        clear hws HGW HCW HOV HQ2 HB2 HX2 HWS hwl HQM
        go_wp2_with fail
        refine HCA.out.mono ?_
        rintro e w3 ⟨rfl, h3, k3⟩
        have HR : Hid (TQ w3 p M (settleK S x) ∧ Keep M w w3) := Lib.hid ⟨by rw [← HCC.out]; exact h3.mono fun k hk => .inl hk, HK.out.trans (HKM.out.trans (k3.mono fun k hk => .inl hk))⟩
        clear h3 k3 HCA HK HKM HCC HGL HSD2 HG x0 x1
        go_wp2
        refine bodyPost_ret (v := .tuple #[]) (by simp [results, Try.results28, go_sem]) rfl ?_
        exact ⟨rfl, HR.out⟩
end Go.Proofs.Ythodggkpkjfggaa.Key
