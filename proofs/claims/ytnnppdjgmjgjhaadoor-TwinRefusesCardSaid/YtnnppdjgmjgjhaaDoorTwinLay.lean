/- The walk of lay, at each of the functions that it is handed. -/
import Derived.Test.YtnnppdjgmjgjhaaDoorTwinTakesAll
import Derived.Laws.Strings
namespace Go.Proofs.YtnnppdjgmjgjhaaDoor.Twin
set_option maxRecDepth 100000
open Go.RowKit Go.Sort
open Go.Proofs.YtnnppdjgmjgjhaaDoor.Mem
open Go.Proofs.YtnnppdjgmjgjhaaDoor.Plate

/-- k acts more can come -/
structure Calm (S : PS) (k : Nat) : Prop where
  life : S.life + k ≤ 1000000
  acts : S.acts + k ≤ 1000000
  arm : S.arm ≤ 4611686018427387904
  q : S.q.length + k ≤ 1000000
theorem Calm.tame {S : PS} {k : Nat} (h : Calm S k) : Tame S := ⟨by have := h.life; omega, by have := h.acts; omega, h.arm, by have := h.q; omega⟩
theorem act_le (S : PS) : (actS S).life ≤ S.life + 1 ∧ (actS S).acts = S.acts + 1 ∧ (actS S).arm ≤ S.arm ∧ (actS S).q = S.q := by
  unfold actS
  split
  · exact ⟨Nat.le_succ _, rfl, Nat.le_refl _, rfl⟩
  · split
    · refine ⟨?_, rfl, Nat.zero_le _, rfl⟩
      unfold offS
      simp only
      split <;> omega
    · exact ⟨Nat.le_succ _, rfl, Nat.sub_le _ _, rfl⟩
theorem Calm.write {S : PS} {k : Nat} (h : Calm S (k + 1)) (n : Int) (s : ByteArray) : Calm (writeS S n s) k := by
  obtain ⟨h1, h2, h3, h4⟩ := h
  unfold writeS
  split
  · exact ⟨by omega, by omega, h3, by omega⟩
  · split
    · obtain ⟨a1, a2, a3, a4⟩ := act_le (putS S n.toNat s)
      have e1 : (putS S n.toNat s).life = S.life := rfl
      have e2 : (putS S n.toNat s).acts = S.acts := rfl
      have e3 : (putS S n.toNat s).arm = S.arm := rfl
      have e4 : (putS S n.toNat s).q.length = S.q.length + 1 := by simp [putS]
      exact ⟨by omega, by omega, by omega, by rw [a4]; omega⟩
    · exact ⟨by omega, by omega, h3, by omega⟩
theorem Calm.mono {S : PS} {k j : Nat} (h : Calm S k) (hj : j ≤ k) : Calm S j := ⟨by have := h.life; omega, by have := h.acts; omega, h.arm, by have := h.q; omega⟩
theorem ws_len (wh : Nat → Nat) (ls : List Lf) : (wsOf wh ls).length = ls.length := by simp [wsOf]
theorem ws_drop (wh : Nat → Nat) (ls : List Lf) {k : Nat} (hk : k < ls.length) : (wsOf wh ls).drop k = ⟨wh k, secB (ls.getD k lf0).n.toNat (ls.getD k lf0).l (ls.getD k lf0).z⟩ :: (wsOf wh ls).drop (k + 1) := by
  have hl : k < (wsOf wh ls).length := by rw [ws_len]; exact hk
  rw [List.drop_eq_getElem_cons hl]
  congr 1
  simp [wsOf]
theorem run_next {wh : Nat → Nat} {ls : List Lf} {k : Nat} {S Sk : PS} {x : Lf} (h : layRun (wsOf wh ls) S = layRun ((wsOf wh ls).drop k) Sk) (hk : k < ls.length) (hx : ls.getD k lf0 = x) :
    (writeE Sk (wh k : Int) (secB x.n.toNat x.l x.z) = 0 → layRun (wsOf wh ls) S = layRun ((wsOf wh ls).drop (k + 1)) (writeS Sk (wh k : Int) (secB x.n.toNat x.l x.z))) ∧
    (¬ writeE Sk (wh k : Int) (secB x.n.toNat x.l x.z) = 0 → layRun (wsOf wh ls) S = (writeE Sk (wh k : Int) (secB x.n.toNat x.l x.z), writeS Sk (wh k : Int) (secB x.n.toNat x.l x.z))) := by
  rw [ws_drop wh ls hk, hx, layRun] at h
  constructor
  · intro h0; rw [h, if_pos h0]
  · intro h0; rw [h, if_neg h0]
theorem lay_run {wh : Nat → Nat} {ls : List Lf} (S : PS) (h : 0 < ls.length) : lay (wsOf wh ls) S = layRun (wsOf wh ls) S := by
  unfold lay
  rw [if_neg]
  intro e
  have := congrArg List.length e
  rw [ws_len, List.length_nil] at this
  omega
theorem lay_none {wh : Nat → Nat} {ls : List Lf} (S : PS) (h : ls.length = 0) : lay (wsOf wh ls) S = (0, S) := by
  have : ls = [] := List.eq_nil_of_length_eq_zero h
  subst this
  rfl
theorem run_end {wh : Nat → Nat} {ls : List Lf} {S Sk : PS} (h : layRun (wsOf wh ls) S = layRun ((wsOf wh ls).drop ls.length) Sk) : layRun (wsOf wh ls) S = (syncE Sk, syncS Sk) := by
  rw [h, ← ws_len wh ls, List.drop_length]; rfl
theorem enc_size (l : Int) (z : List Slab.Slot) : (Slab.encS' l z).size ≤ 240 := by
  unfold Slab.encS'
  split
  · have h := Slab.encB_len (L := l.toNat) (l := z) (by rename_i hg; exact (Slab.good_parts hg).2.2.2.2.2)
    show (List.toArray _).size ≤ _
    simp [h]
  · simp [ByteArray.size]
theorem nextB {W W1 W2 : World} {B : Nat} (h : Below B W W1) (h' : Below W1.heap.size W1 W2) (hB : B ≤ W1.heap.size) : Below B W W2 := h.trans (h'.mono hB)
theorem nextW {W W1 W2 : World} (h : Below W.heap.size W W1) (h' : Below W1.heap.size W1 W2) : Below W.heap.size W W2 := h.trans (h'.mono h.size)
theorem held2 {W W' : World} {p q : Addr} {x y : Value} (h : W.cell? p = some x ∧ W.cell? q = some y) (hb : Below W.heap.size W W') : W'.cell? p = some x ∧ W'.cell? q = some y :=
  ⟨(hb.cell (World.block_lt_of_cell? _ _ h.1)).trans h.1, (hb.cell (World.block_lt_of_cell? _ _ h.2)).trans h.2⟩
theorem held2k {M : Nat → Prop} {W W' : World} {p q : Addr} {x y : Value} (h : W.cell? p = some x ∧ W.cell? q = some y) (hk : Keep M W W') (h1 : M p.block) (h2 : M q.block) : W'.cell? p = some x ∧ W'.cell? q = some y :=
  ⟨(hk.cell h1).trans h.1, (hk.cell h2).trans h.2⟩
section
variable {M : Nat → Prop} {p s lf : Nat} {C : Cfg}
set_option maxHeartbeats 1000000 in
theorem homes1_any (w : World) (a : Option Addr) (n c b1 b2 i : Nat) (ls : List Lf) (h : Sto M w s p C lf) (hc : C.small) (hM : ∀ k, M k → k < w.heap.size) (hl : Leaves M w a n ls) (h1 : w.cell? ⟨b1, 0, none⟩ = some (.pointer (some ⟨s, 0, none⟩))) (h2 : w.cell? ⟨b2, 0, none⟩ = some (.slice a n c)) (hi : i < n) (hx : ∀ x ∈ ls, 0 ≤ x.n ∧ x.n ≤ 1024) :
    Calls Tryd.prog 52 #[.int .i64 (i : Int), .pointer (some ⟨b1, 0, none⟩), .pointer (some ⟨b2, 0, none⟩)] w fun e w' => e = .returned (.int .i64 (homeOf C ls i : Int)) ∧ Below w.heap.size w w' := by
  obtain ⟨b, off, a', n', c', y, rfl, hMb, hb1, hg, hgd, d1, d2, d3, hS, -⟩ := hl.at_ hi
  have hy := hx y (List.mem_of_getElem? hg)
  obtain ⟨m, hm⟩ := Int.eq_ofNat_of_zero_le hy.1
  have hh : homeOf C ls i = C.home m := by unfold homeOf; rw [hgd, hm]; rfl
  rw [hm] at d1
  rw [hh]
  have cH : ∀ d os, Calls Tryd.prog 53 #[.pointer (some ⟨s, 0, none⟩), .int .i64 (m : Int)] (grow (redrawn w d) os) fun e w'' => e = .returned (.int .i64 (C.home m : Int)) ∧ ∃ q : Regrown, w'' = grow (redrawn w q.d) q.os :=
    fun d os => Calls.regrown_of (home_any _ m (h.keep (Keep.of_below (below_regrown w d os) hM)) hc (by omega))
  have k0 := cell_regrown h1
  have k1 := cell_regrown h2
  have k2 := cell_regrown d1
  clear h hM hl hx hS hMb hg hgd hh d1 d2 d3 hb1 hy hm
  go_enter Tryd.func52, Tryd.ntmps52
  go_wp2_with fail
  refine wp_region_quiet_below (by kernel_rfl) (by kernel_rfl) ?_
  repeat (go_big_quiet_step ((exact cH _ _)))
  refine wpQuiet_nil ?_
  intro _ hw'
  obtain ⟨⟨dq, osq⟩, hw''⟩ := hw'
  subst hw''
  have bq := below_regrown w dq osq
  generalize grow (redrawn w dq) osq = W1 at bq ⊢
  go_wp2
  go_ret
  exact ⟨rfl, bq⟩
set_option maxHeartbeats 4000000 in
theorem lay_twin (w : World) (S : PS) (a : Option Addr) (n c : Nat) (ls : List Lf) (h : Sto M w s p C lf) (hp : PQ w p M S) (hc : C.small) (hl : Leaves M w a n ls) (hn : n ≤ 1024) (hx : ∀ x ∈ ls, 0 ≤ x.n ∧ x.n ≤ 1024) (hS : Calm S (n + 1)) :
    Calls Tryd.prog 27 #[.pointer (some ⟨s, 0, none⟩), .slice a n c, .func (.func 28) #[.pointer (some ⟨s, 0, none⟩)] #[]] w fun e w' => e = .returned (.int .i64 (lay (wsOf C.twin ls) S).1) ∧ PQ w' p M (lay (wsOf C.twin ls) S).2 ∧ Keep M w w' := by
  have HSTO := Lib.hid h
  have HPQ := Lib.hid hp
  have HC := Lib.hid hc
  have HL := Lib.hid hl
  have HX := Lib.hid hx
  have HSC := Lib.hid hS
  have HM := Lib.hid hp.lt
  have HLEN := Lib.hid hl.len
  clear h hp hc hl hx hS
  by_cases hz : n = 0
  · have HLY := Lib.hid (lay_none (wh := C.twin) S (HLEN.out.trans hz))
    rw [HLY.out]
    subst hz
    go_enter Tryd.func27, Tryd.ntmps27
    go_wp2
    go_ret
    exact ⟨rfl, HPQ.out, Keep.refl _ _⟩
  have hz' : ((n : Int) == 0) = false := by simp; omega
  have HLY := Lib.hid (lay_run (wh := C.twin) S (show 0 < ls.length by have := HLEN.out; omega))
  rw [HLY.out]
  go_enter Tryd.func27, Tryd.ntmps27
  go_wp2
  go_loopw [17] (fun i wr => ∃ (k : Nat) (Sk : PS), k ≤ n ∧ i = .int .i64 (k : Int) ∧ Hid (layRun (wsOf C.twin ls) S = layRun ((wsOf C.twin ls).drop k) Sk) ∧ Hid (PQ wr p M Sk) ∧ Hid (Keep M w wr) ∧ Hid (Calm Sk (n + 1 - k))) (fun i _ => n - (intOf i).toNat)
  case atStart => exact ⟨0, S, Nat.zero_le _, rfl, Lib.hid rfl, HPQ, Lib.hid (Keep.refl _ _), HSC⟩
  case round =>
    obtain ⟨k, Sk, hk, rfl, HRUN, HP, HK, HCALM⟩ := hrel
    by_cases hlt : k < n
    · have hlr := HL.out.keep HK.out
      obtain ⟨b, off, a', n', c', y, rfl, hMb, hbl, hg, hgd, d1, d2, d3, hSl, -⟩ := hlr.at_ hlt
      have hy := HX.out y (List.mem_of_getElem? hg)
      have hnx := run_next HRUN.out (by have := HLEN.out; omega) hgd
      obtain ⟨yn, yl, yz⟩ := y
      obtain ⟨m, rfl⟩ := Int.eq_ofNat_of_zero_le hy.1
      simp only at d1 d2 hSl hnx hy
      rw [Int.toNat_natCast] at hnx
      have hX := Blk.new wr 43 #[.int .i64 (m : Int), .int .i64 yl, .slice a' n' c']
      have hb0 : Below wr.heap.size wr (wr.alloc (.cells #[.int .i64 (m : Int), .int .i64 yl, .slice a' n' c'] 43)) := (Below.refl _ _).alloc (Nat.le_refl _) _
      have hS1 := hSl.below hb0 HP.out.lt
      have hp1 := HP.out.alloc (.cells #[.int .i64 (m : Int), .int .i64 yl, .slice a' n' c'] 43)
      have hst := (HSTO.out.keep HK.out).keep (Keep.of_below hb0 HP.out.lt)
      have hk0 := HK.out.trans (Keep.of_below hb0 HP.out.lt)
      have hll := hlr.keep (Keep.of_below hb0 HP.out.lt)
      have HNX := Lib.hid hnx
      have hm : m ≤ 1024 := by omega
      clear hnx hg hgd hlr hSl hMb hb0 hy hbl
      go_upto_region 6 with (fail)
      have hwr : M wr.heap.size → False := fun e => Nat.lt_irrefl _ (HP.out.lt _ e)
      generalize hGen : wr.alloc (.cells #[.int .i64 (m : Int), .int .i64 yl, .slice a' n' c'] 43) = W at hX hS1 hp1 hst hk0 hll ⊢
      clear hGen
      have x0 := hX.cell 0
      have x1 := hX.cell 1
      have x2 := hX.cell 2
      simp at x0 x1 x2
      have hE := Slab.enc_any yl a' n' c' yz W hS1.1 hS1.2.1
      have him := enc_size yl yz
      have HST := Lib.hid hst
      have HX0 := Lib.hid hX
      have HP1 := Lib.hid hp1
      have HK0 := Lib.hid hk0
      have HLL := Lib.hid hll
      obtain ⟨im, hime⟩ : ∃ im, im = Slab.encS' yl yz := ⟨_, rfl⟩
      rw [← hime] at hE him
      have hsec : secB m yl yz = im ++ tailB m := by rw [hime]; rfl
      rw [hsec] at HNX
      generalize Slab.encCode yl yz = ec at hE
      have HE := Lib.hid hE
      clear hE hX hp1 hst hk0 hll hS1 hime hsec d1 d2 d3
      go_wp2_with fail
      refine HE.out.mono ?_
      rintro e w1 ⟨rfl, b1⟩
      go_upto_region 7 with (fail)
      have hp2 := HP1.out.below b1
      have hx2 := (HX0.out.below b1 HX0.out.lt).cell 0
      have hst2 := HST.out.keep (Keep.of_below (M := M) b1 (fun j hj => HP1.out.lt j (.inl hj)))
      have HLL2 := Lib.hid (HLL.out.keep (Keep.of_below (M := M) b1 (fun j hj => HP1.out.lt j (.inl hj))))
      have HK2 := Lib.hid (HK0.out.trans (Keep.of_below (M := M) b1 (fun j hj => HP1.out.lt j (.inl hj))))
      obtain ⟨s0, -⟩ := hst2.get
      simp at hx2
      have HZ := Lib.hid (And.intro s0 hx2)
      have HST2 := Lib.hid hst2
      have HP2 := Lib.hid hp2
      have HM2 : Hid (∀ j, M j → j < w1.heap.size) := Lib.hid fun j hj => hp2.lt j (.inl hj)
      have hwh : ∀ W', Below w1.heap.size w1 W' → Calls Tryd.prog 28 #[.pointer (some ⟨s, 0, none⟩), .int .i64 (k : Int)] W' fun e w' => e = .returned (.int .i64 (C.twin k : Int)) ∧ Below W'.heap.size W' w' := fun W' hb => twin_any W' k (HST2.out.keep (Keep.of_below hb HM2.out)) HC.out (by omega)
      have htl : ∀ W', Calls Tryd.prog 50 #[.int .i64 (m : Int)] W' fun e w' => e = .returned (.string (tailB m)) ∧ Below W'.heap.size W' w' := fun W' => tail_any m W' (by omega)
      have htz : (tailB m).size = 16 := rfl
      have hadd : ∀ W, (Op.stringOp .add im (tailB m)).run Tryd.prog W = .ok (.string (im ++ tailB m)) W := fun W => run_string_add_sum W _ _ (by omega)
      have hwr2 : ∀ W', Below w1.heap.size w1 W' → Calls Tryd.prog 49 #[.pointer (some ⟨p, 0, none⟩), .int .i64 (C.twin k : Int), .string (im ++ tailB m)] W' fun e w' => e = .returned (.int .i64 (writeE Sk (C.twin k : Int) (im ++ tailB m))) ∧ PQ w' p (fun j => M j ∨ j = wr.heap.size) (writeS Sk (C.twin k : Int) (im ++ tailB m)) ∧ Keep (fun j => M j ∨ j = wr.heap.size) w1 w' := fun W' hb => by
        refine (pq_write W' p _ Sk _ _ (HP2.out.below hb) HCALM.out.tame).mono ?_
        rintro e w' ⟨e1, e2, e3⟩
        exact ⟨e1, e2, (Keep.of_below hb HP2.out.lt).trans e3⟩
      generalize tailB m = tl at *
      generalize (C.twin k : Int) = at_ at *
      have HNX1 := Lib.hid HNX.out.1
      have HNX2 := Lib.hid HNX.out.2
      have HCW := Lib.hid ((HCALM.out.mono (show n + 1 - (k + 1) + 1 ≤ n + 1 - k by omega)).write at_ (im ++ tl))
      generalize writeS Sk at_ (im ++ tl) = S2 at hwr2 HNX1 HNX2 HCW
      generalize writeE Sk at_ (im ++ tl) = E2 at hwr2 HNX1 HNX2
      have HWH := Lib.hid hwh
      have HTL := Lib.hid htl
      have HWR := Lib.hid hwr2
      clear hwh htl hwr2 hp2 hst2 b1 x0 x1 x2 HNX
      go_region_held3 (fun w' => w'.cell? ⟨s, 0, none⟩ = some (.pointer (some ⟨p, 0, none⟩)) ∧ w'.cell? ⟨wr.heap.size, 0, none⟩ = some (.int .i64 (m : Int))) (first | assumption | exact HZ.out | exact ⟨s0, hx2⟩) (first
        | (go_at_call 28; (with_reducible refine (HWH.out _ ?_).mono ?_); (first | assumption | exact (Below.refl _ _).drew); rintro e wA ⟨rfl, bq⟩; have hbW := nextW (W := w1) (by first | assumption | exact (Below.refl _ _).drew) bq; have hz3 := held2 HZ.out hbW)
        | (go_at_call 50; (with_reducible refine (HTL.out _).mono ?_); rintro e wA ⟨rfl, bq⟩; have hbW := nextW (W := w1) (by first | assumption | exact (Below.refl _ _).drew) bq; have hz3 := held2 HZ.out hbW)
        | (go_at_call 49; (with_reducible refine (HWR.out _ ?_).mono ?_); (first | assumption | exact (Below.refl _ _).drew); rintro e wW ⟨rfl, hpW, hkW⟩; have hz4 := held2k HZ.out hkW (.inl HST2.out.2) (.inr rfl)))
      all_goals
        have HKW := Lib.hid (HK2.out.trans (hkW.mono (fun j hj => Or.inl hj)))
        have HPW := Lib.hid (hpW.mono (fun j hj => Or.inl hj))
        clear hz3 hz4 hkW hpW hbW bq
        by_cases he : E2 = 0
        · subst he
          have HR := Lib.hid (HNX1.out rfl)
          go_wp2
          go_roundw
          case rel => exact ⟨k + 1, S2, by omega, by go_num, HR, HPW, HKW, HCW⟩
          case measure => simp [intOf]; omega
        · have he' : (E2 != 0) = true := by rw [bne_iff_ne]; exact he
          have HR := Lib.hid (HNX2.out he)
          clear he
          go_wp2
          go_ret
          rw [HR.out]
          exact ⟨rfl, HPW.out, HKW.out⟩
    · obtain rfl : k = n := by omega
      have hsy := pq_sync wr p M Sk HP.out HCALM.out.tame
      obtain ⟨s0, -⟩ := (HSTO.out.keep HK.out).get
      have HR := Lib.hid (run_end (by have := HLEN.out; rw [this]; exact HRUN.out))
      generalize syncE Sk = E at hsy HR
      generalize syncS Sk = S2 at hsy HR
      have HSY := Lib.hid hsy
      clear hsy
      go_wp2_with fail
      refine HSY.out.mono ?_
      rintro e w2 ⟨rfl, hp2, hk2⟩
      have HP2 := Lib.hid hp2
      have HK2 := Lib.hid (HK.out.trans hk2)
      clear hp2 hk2
      go_wp2
      go_ret
      rw [HR.out]
      exact ⟨rfl, HP2.out, HK2.out⟩
set_option maxHeartbeats 4000000 in
theorem lay_home (w : World) (S : PS) (a : Option Addr) (n c gA gB : Nat) (ls : List Lf) (h : Sto M w s p C lf) (hp : PQ w p M S) (hc : C.small) (hl : Leaves M w a n ls) (hn : n ≤ 1024) (hx : ∀ x ∈ ls, 0 ≤ x.n ∧ x.n ≤ 1024) (hS : Calm S (n + 1)) (hb1 : Blk w gA 28 #[.pointer (some ⟨s, 0, none⟩)]) (hb2 : Blk w gB 35 #[.slice a n c]) (hm1 : M gA) (hm2 : M gB) :
    Calls Tryd.prog 27 #[.pointer (some ⟨s, 0, none⟩), .slice a n c, .func (.func 52) #[] #[.pointer (some ⟨gA, 0, none⟩), .pointer (some ⟨gB, 0, none⟩)]] w fun e w' => e = .returned (.int .i64 (lay (wsOf (homeOf C ls) ls) S).1) ∧ PQ w' p M (lay (wsOf (homeOf C ls) ls) S).2 ∧ Keep M w w' := by
  have HSTO := Lib.hid h
  have HPQ := Lib.hid hp
  have HC := Lib.hid hc
  have HL := Lib.hid hl
  have HX := Lib.hid hx
  have HSC := Lib.hid hS
  have HM := Lib.hid hp.lt
  have HLEN := Lib.hid hl.len
  have HB1 := Lib.hid hb1
  have HB2 := Lib.hid hb2
  clear h hp hc hl hx hS hb1 hb2
  by_cases hz : n = 0
  · have HLY := Lib.hid (lay_none (wh := (homeOf C ls)) S (HLEN.out.trans hz))
    rw [HLY.out]
    subst hz
    go_enter Tryd.func27, Tryd.ntmps27
    go_wp2
    go_ret
    exact ⟨rfl, HPQ.out, Keep.refl _ _⟩
  have hz' : ((n : Int) == 0) = false := by simp; omega
  have HLY := Lib.hid (lay_run (wh := (homeOf C ls)) S (show 0 < ls.length by have := HLEN.out; omega))
  rw [HLY.out]
  go_enter Tryd.func27, Tryd.ntmps27
  go_wp2
  go_loopw [17] (fun i wr => ∃ (k : Nat) (Sk : PS), k ≤ n ∧ i = .int .i64 (k : Int) ∧ Hid (layRun (wsOf (homeOf C ls) ls) S = layRun ((wsOf (homeOf C ls) ls).drop k) Sk) ∧ Hid (PQ wr p M Sk) ∧ Hid (Keep M w wr) ∧ Hid (Calm Sk (n + 1 - k))) (fun i _ => n - (intOf i).toNat)
  case atStart => exact ⟨0, S, Nat.zero_le _, rfl, Lib.hid rfl, HPQ, Lib.hid (Keep.refl _ _), HSC⟩
  case round =>
    obtain ⟨k, Sk, hk, rfl, HRUN, HP, HK, HCALM⟩ := hrel
    by_cases hlt : k < n
    · have hlr := HL.out.keep HK.out
      obtain ⟨b, off, a', n', c', y, rfl, hMb, hbl, hg, hgd, d1, d2, d3, hSl, -⟩ := hlr.at_ hlt
      have hy := HX.out y (List.mem_of_getElem? hg)
      have hnx := run_next HRUN.out (by have := HLEN.out; omega) hgd
      obtain ⟨yn, yl, yz⟩ := y
      obtain ⟨m, rfl⟩ := Int.eq_ofNat_of_zero_le hy.1
      simp only at d1 d2 hSl hnx hy
      rw [Int.toNat_natCast] at hnx
      have hX := Blk.new wr 43 #[.int .i64 (m : Int), .int .i64 yl, .slice a' n' c']
      have hb0 : Below wr.heap.size wr (wr.alloc (.cells #[.int .i64 (m : Int), .int .i64 yl, .slice a' n' c'] 43)) := (Below.refl _ _).alloc (Nat.le_refl _) _
      have hS1 := hSl.below hb0 HP.out.lt
      have hp1 := HP.out.alloc (.cells #[.int .i64 (m : Int), .int .i64 yl, .slice a' n' c'] 43)
      have hst := (HSTO.out.keep HK.out).keep (Keep.of_below hb0 HP.out.lt)
      have hk0 := HK.out.trans (Keep.of_below hb0 HP.out.lt)
      have hll := hlr.keep (Keep.of_below hb0 HP.out.lt)
      have HNX := Lib.hid hnx
      have hm : m ≤ 1024 := by omega
      clear hnx hg hgd hlr hSl hMb hb0 hy hbl
      go_upto_region 6 with (fail)
      have hwr : M wr.heap.size → False := fun e => Nat.lt_irrefl _ (HP.out.lt _ e)
      generalize hGen : wr.alloc (.cells #[.int .i64 (m : Int), .int .i64 yl, .slice a' n' c'] 43) = W at hX hS1 hp1 hst hk0 hll ⊢
      clear hGen
      have x0 := hX.cell 0
      have x1 := hX.cell 1
      have x2 := hX.cell 2
      simp at x0 x1 x2
      have hE := Slab.enc_any yl a' n' c' yz W hS1.1 hS1.2.1
      have him := enc_size yl yz
      have HST := Lib.hid hst
      have HX0 := Lib.hid hX
      have HP1 := Lib.hid hp1
      have HK0 := Lib.hid hk0
      have HLL := Lib.hid hll
      obtain ⟨im, hime⟩ : ∃ im, im = Slab.encS' yl yz := ⟨_, rfl⟩
      rw [← hime] at hE him
      have hsec : secB m yl yz = im ++ tailB m := by rw [hime]; rfl
      rw [hsec] at HNX
      generalize Slab.encCode yl yz = ec at hE
      have HE := Lib.hid hE
      clear hE hX hp1 hst hk0 hll hS1 hime hsec d1 d2 d3
      go_wp2_with fail
      refine HE.out.mono ?_
      rintro e w1 ⟨rfl, b1⟩
      go_upto_region 7 with (fail)
      have hp2 := HP1.out.below b1
      have hx2 := (HX0.out.below b1 HX0.out.lt).cell 0
      have hst2 := HST.out.keep (Keep.of_below (M := M) b1 (fun j hj => HP1.out.lt j (.inl hj)))
      have HLL2 := Lib.hid (HLL.out.keep (Keep.of_below (M := M) b1 (fun j hj => HP1.out.lt j (.inl hj))))
      have HK2 := Lib.hid (HK0.out.trans (Keep.of_below (M := M) b1 (fun j hj => HP1.out.lt j (.inl hj))))
      obtain ⟨s0, -⟩ := hst2.get
      simp at hx2
      have HZ := Lib.hid (And.intro s0 hx2)
      have HST2 := Lib.hid hst2
      have HP2 := Lib.hid hp2
      have HM2 : Hid (∀ j, M j → j < w1.heap.size) := Lib.hid fun j hj => hp2.lt j (.inl hj)
      have hwh : ∀ W', Below w1.heap.size w1 W' → Calls Tryd.prog 52 #[.int .i64 (k : Int), .pointer (some ⟨gA, 0, none⟩), .pointer (some ⟨gB, 0, none⟩)] W' fun e w' => e = .returned (.int .i64 ((homeOf C ls) k : Int)) ∧ Below W'.heap.size W' w' := fun W' hb => homes1_any W' (some ⟨b, off, none⟩) n c gA gB k ls (HST2.out.keep (Keep.of_below hb HM2.out)) HC.out (fun j hj => Nat.lt_of_lt_of_le (HM2.out j hj) hb.size) (HLL2.out.below hb HM2.out) ((((HK2.out.blk HB1.out hm1).below hb (HM2.out _ hm1))).cell 0) ((((HK2.out.blk HB2.out hm2).below hb (HM2.out _ hm2))).cell 0) hlt HX.out
      have htl : ∀ W', Calls Tryd.prog 50 #[.int .i64 (m : Int)] W' fun e w' => e = .returned (.string (tailB m)) ∧ Below W'.heap.size W' w' := fun W' => tail_any m W' (by omega)
      have htz : (tailB m).size = 16 := rfl
      have hadd : ∀ W, (Op.stringOp .add im (tailB m)).run Tryd.prog W = .ok (.string (im ++ tailB m)) W := fun W => run_string_add_sum W _ _ (by omega)
      have hwr2 : ∀ W', Below w1.heap.size w1 W' → Calls Tryd.prog 49 #[.pointer (some ⟨p, 0, none⟩), .int .i64 ((homeOf C ls) k : Int), .string (im ++ tailB m)] W' fun e w' => e = .returned (.int .i64 (writeE Sk ((homeOf C ls) k : Int) (im ++ tailB m))) ∧ PQ w' p (fun j => M j ∨ j = wr.heap.size) (writeS Sk ((homeOf C ls) k : Int) (im ++ tailB m)) ∧ Keep (fun j => M j ∨ j = wr.heap.size) w1 w' := fun W' hb => by
        refine (pq_write W' p _ Sk _ _ (HP2.out.below hb) HCALM.out.tame).mono ?_
        rintro e w' ⟨e1, e2, e3⟩
        exact ⟨e1, e2, (Keep.of_below hb HP2.out.lt).trans e3⟩
      generalize tailB m = tl at *
      generalize ((homeOf C ls) k : Int) = at_ at *
      have HNX1 := Lib.hid HNX.out.1
      have HNX2 := Lib.hid HNX.out.2
      have HCW := Lib.hid ((HCALM.out.mono (show n + 1 - (k + 1) + 1 ≤ n + 1 - k by omega)).write at_ (im ++ tl))
      generalize writeS Sk at_ (im ++ tl) = S2 at hwr2 HNX1 HNX2 HCW
      generalize writeE Sk at_ (im ++ tl) = E2 at hwr2 HNX1 HNX2
      have HWH := Lib.hid hwh
      have HTL := Lib.hid htl
      have HWR := Lib.hid hwr2
      clear hwh htl hwr2 hp2 hst2 b1 x0 x1 x2 HNX
      go_region_held3 (fun w' => w'.cell? ⟨s, 0, none⟩ = some (.pointer (some ⟨p, 0, none⟩)) ∧ w'.cell? ⟨wr.heap.size, 0, none⟩ = some (.int .i64 (m : Int))) (first | assumption | exact HZ.out | exact ⟨s0, hx2⟩) (first
        | (go_at_call 52; (with_reducible refine (HWH.out _ ?_).mono ?_); (first | assumption | exact (Below.refl _ _).drew); rintro e wA ⟨rfl, bq⟩; have hbW := nextW (W := w1) (by first | assumption | exact (Below.refl _ _).drew) bq; have hz3 := held2 HZ.out hbW)
        | (go_at_call 50; (with_reducible refine (HTL.out _).mono ?_); rintro e wA ⟨rfl, bq⟩; have hbW := nextW (W := w1) (by first | assumption | exact (Below.refl _ _).drew) bq; have hz3 := held2 HZ.out hbW)
        | (go_at_call 49; (with_reducible refine (HWR.out _ ?_).mono ?_); (first | assumption | exact (Below.refl _ _).drew); rintro e wW ⟨rfl, hpW, hkW⟩; have hz4 := held2k HZ.out hkW (.inl HST2.out.2) (.inr rfl)))
      all_goals
        have HKW := Lib.hid (HK2.out.trans (hkW.mono (fun j hj => Or.inl hj)))
        have HPW := Lib.hid (hpW.mono (fun j hj => Or.inl hj))
        clear hz3 hz4 hkW hpW hbW bq
        by_cases he : E2 = 0
        · subst he
          have HR := Lib.hid (HNX1.out rfl)
          go_wp2
          go_roundw
          case rel => exact ⟨k + 1, S2, by omega, by go_num, HR, HPW, HKW, HCW⟩
          case measure => simp [intOf]; omega
        · have he' : (E2 != 0) = true := by rw [bne_iff_ne]; exact he
          have HR := Lib.hid (HNX2.out he)
          clear he
          go_wp2
          go_ret
          rw [HR.out]
          exact ⟨rfl, HPW.out, HKW.out⟩
    · obtain rfl : k = n := by omega
      have hsy := pq_sync wr p M Sk HP.out HCALM.out.tame
      obtain ⟨s0, -⟩ := (HSTO.out.keep HK.out).get
      have HR := Lib.hid (run_end (by have := HLEN.out; rw [this]; exact HRUN.out))
      generalize syncE Sk = E at hsy HR
      generalize syncS Sk = S2 at hsy HR
      have HSY := Lib.hid hsy
      clear hsy
      go_wp2_with fail
      refine HSY.out.mono ?_
      rintro e w2 ⟨rfl, hp2, hk2⟩
      have HP2 := Lib.hid hp2
      have HK2 := Lib.hid (HK.out.trans hk2)
      clear hp2 hk2
      go_wp2
      go_ret
      rw [HR.out]
      exact ⟨rfl, HP2.out, HK2.out⟩
end
end Go.Proofs.YtnnppdjgmjgjhaaDoor.Twin
