/- The walk of the statement PurseKeeps. -/
import Derived.Test.YtoiakenepmbalaaPursePlay
import Derived.Test.YtoiakenepmbalaaArr
import Derived.StillTailTactics
import Derived.Deep.RegionHeld3
import Derived.Lib.QuietBelow
import Derived.Deep.CutBlock
import Derived.Deep.DeepCutAuto
namespace Go.Proofs.Ytoiakenepmbalaa.Purse
set_option maxRecDepth 100000
open Go.RowKit Go.Shelf Go.Sort
open Go.Proofs.Ytoiakenepmbalaa.Mem
attribute [local go_sem] Oper.semAt_some
theorem info_i : (Try.prog.info? 3).map (fun i => (i.zero, i.size, i.bytes)) = some (some (.int .i64 0), 1, 8) := by kernel_rfl
theorem run_ii (w : World) : (Instr.makeSlice 43 (.int .i64 4) (.int .i64 4)).run Try.prog w = .ok (.slice (some ⟨w.heap.size, 0, none⟩) 4 4) (w.alloc (.cells (madeCells #[.int .i64 0] 4) 3)) := by
  obtain ⟨i0, hi, hz0, hz1, hz2⟩ := info_parts info_i
  have h := run_make (P := Try.prog) w 43 3 i0 _ Try.underlying43 hi hz0 .i64 .i64 4 4 (by omega) (Int.le_refl _) (by rw [hz2]; omega) (by omega)
  rw [hz1] at h
  exact h
/-- the first k of the four together -/
def upS (L : List Due) : Nat → Int
  | 0 => 0
  | k + 1 => upS L k + ofL L (k : Int)
theorem up_le {L : List Due} (hp : ∀ x ∈ L, 1 ≤ x.2) : ∀ k, 0 ≤ upS L k
  | 0 => Int.le_refl _
  | k + 1 => by have := up_le hp k; have := ofL_nn hp (k : Int); simp only [upS]; omega
theorem up_mono {L : List Due} (hp : ∀ x ∈ L, 1 ≤ x.2) (k j : Nat) (h : k ≤ j) : upS L k ≤ upS L j := by
  induction j with
  | zero => obtain rfl : k = 0 := by omega
            exact Int.le_refl _
  | succ j ih =>
    rcases Nat.eq_or_lt_of_le h with rfl | h
    · exact Int.le_refl _
    · have := ih (by omega); have := ofL_nn hp (j : Int); simp only [upS]; omega
theorem of_cons {x : Due} {r : List Due} (hs : (x :: r).Pairwise (fun a b => a.1 < b.1)) (k : Int) : ofL (x :: r) k = if k = x.1 then x.2 else ofL r k := by
  rw [List.pairwise_cons] at hs
  simp only [ofL]
  by_cases e : k = x.1
  · subst e; rw [if_neg (by omega), if_pos rfl, if_pos rfl]
  · rw [if_neg e]
    by_cases h : x.1 < k
    · rw [if_pos h]
    · rw [if_neg h, if_neg (fun h2 => e h2.symm)]
      exact (ofL_absent r k (fun y hy e2 => by have := hs.1 y hy; omega)).symm
/-- all that is promised is what the four are -/
theorem up_all {L : List Due} (hs : L.Pairwise (fun a b => a.1 < b.1)) (hk : ∀ x ∈ L, 0 ≤ x.1 ∧ x.1 < 4) : upS L 4 = total L := by
  induction L with
  | nil => simp [upS, ofL, total]
  | cons x r ih =>
    have hc := of_cons hs
    have hs' := hs
    rw [List.pairwise_cons] at hs
    have ih := ih hs.2 (fun y hy => hk y (List.mem_cons_of_mem _ hy))
    have hx := hk x List.mem_cons_self
    have ha : ofL r x.1 = 0 := ofL_absent r x.1 (fun y hy e => by have := hs.1 y hy; omega)
    simp only [upS, total] at ih ⊢
    rw [← ih, hc, hc, hc, hc]
    rcases (show x.1 = 0 ∨ x.1 = 1 ∨ x.1 = 2 ∨ x.1 = 3 by omega) with e | e | e | e
    all_goals
      rw [e] at ha ⊢
      simp
      try simp at ha
      omega
theorem key_ask {L : List Due} {k n room : Int} {lo hi : Int} (h : ∀ x ∈ L, lo ≤ x.1 ∧ x.1 < hi) (h1 : lo ≤ k) (h2 : k < hi) : ∀ x ∈ askL L k n room, lo ≤ x.1 ∧ x.1 < hi := by
  intro x hx
  unfold askL at hx
  split at hx
  · rcases mem_add hx with hx | hx
    · exact h x hx
    · omega
  · exact h x hx
theorem key_take {L : List Due} {k n : Int} {lo hi : Int} (h : ∀ x ∈ L, lo ≤ x.1 ∧ x.1 < hi) (h1 : lo ≤ k) (h2 : k < hi) : ∀ x ∈ takeL L k n, lo ≤ x.1 ∧ x.1 < hi := by
  intro x hx
  unfold takeL at hx
  split at hx
  · rcases mem_cut hx with hx | hx
    · exact h x hx
    · omega
  · exact h x hx
/-- what a round knows of memory -/
structure KI (w0 W : World) (p gH R m : Nat) (L : List Due) : Prop where
  ra : PQ W p (fun j => j < w0.heap.size ∨ j = gH) L
  ar : Arr W gH 3 4 (fun k => .int .i64 (ofL L (k : Int)))
  bel : Below w0.heap.size w0 W
  le : w0.heap.size ≤ gH
  len : L.length ≤ m
  key : ∀ x ∈ L, 0 ≤ x.1 ∧ x.1 < 4
  tot : total L ≤ R
def Kn (w0 W : World) (p gH R m : Nat) : Prop := ∃ L, KI w0 W p gH R m L
section
variable {w0 W W' : World} {p gH R m : Nat} {L : List Due}
theorem KI.below (h : KI w0 W p gH R m L) (hb : Below W.heap.size W W') : KI w0 W' p gH R m L :=
  ⟨h.ra.below hb, h.ar.below hb, h.bel.trans (hb.mono h.bel.size), h.le, h.len, h.key, h.tot⟩
/-- a call that changed the purse, and the cell that is behind -/
theorem KI.turned {K m' : Nat} {L' : List Due} (h : KI w0 W p gH R m L) (hK : K < 4) (r : PQ W' p (fun j => j < w0.heap.size ∨ j = gH) L') (k : Keep (fun j => j < w0.heap.size ∨ j = gH) W W') (hl : L'.length ≤ m') (hk : ∀ x ∈ L', 0 ≤ x.1 ∧ x.1 < 4) (ht : total L' ≤ R) (ho : ∀ j : Int, j ≠ K → ofL L' j = ofL L j) :
    KI w0 (W'.setCell ⟨gH, K, none⟩ (.int .i64 (ofL L' (K : Int)))) p gH R m' L' := by
  refine ⟨r.set_ (.inr rfl) K _, ?_, (h.bel.trans (k.below (fun _ hj => .inl hj))).setCell (p := ⟨gH, K, none⟩) h.le _, h.le, hl, hk, ht⟩
  exact (h.ar.keep k (.inr rfl)).set_ hK (fun j => .int .i64 (ofL L' (j : Int))) (fun j => by
    split
    · rename_i e; rw [e]
    · rename_i e; rw [ho j (by omega)])
theorem KI.more (h : KI w0 W p gH R m L) : KI w0 W p gH R (m + 1) L := ⟨h.ra, h.ar, h.bel, h.le, Nat.le_succ_of_le h.len, h.key, h.tot⟩
/-- the purse has turned, the cell is still to be -/
structure Half (w0 W : World) (p gH R m K : Nat) (n : Int) (L : List Due) : Prop where
  ra : PQ W p (fun j => j < w0.heap.size ∨ j = gH) (addL L (K : Int) n)
  ar : Arr W gH 3 4 (fun k => .int .i64 (ofL L (k : Int)))
  bel : Below w0.heap.size w0 W
  le : w0.heap.size ≤ gH
  len : L.length ≤ m
  key : ∀ x ∈ addL L (K : Int) n, 0 ≤ x.1 ∧ x.1 < 4
  n1 : 1 ≤ n
  tot : total L + n ≤ R
  wf : wfL L
theorem Half.whole {K : Nat} {n : Int} (h : Half w0 W p gH R m K n L) (hK : K < 4) : KI w0 (W.setCell ⟨gH, K, none⟩ (.int .i64 (ofL L (K : Int) + n))) p gH R (m + 1) (addL L (K : Int) n) := by
  have hof := fun j => ofL_add h.wf.srt (K : Int) n j
  have hoK := hof (K : Int)
  rw [if_pos rfl] at hoK
  rw [← hoK]
  refine ⟨h.ra.set_ (.inr rfl) K _, ?_, h.bel.setCell (p := ⟨gH, K, none⟩) h.le _, h.le, Nat.le_trans (addL_len L (K : Int) n) (Nat.succ_le_succ h.len), h.key, by rw [total_add]; exact h.tot⟩
  exact h.ar.set_ hK (fun j => .int .i64 (ofL (addL L (K : Int) n) (j : Int))) (fun j => by
    split
    · rename_i e; rw [e]
    · rename_i e; rw [hof, if_neg (by omega)])
theorem KI.call (h : KI w0 W p gH R m L) (r : PQ W' p (fun j => j < w0.heap.size ∨ j = gH) L) (k : Keep (fun j => j < w0.heap.size ∨ j = gH) W W') : KI w0 W' p gH R m L :=
  ⟨r, h.ar.keep k (.inr rfl), h.bel.trans (k.below (fun _ hj => .inl hj)), h.le, h.len, h.key, h.tot⟩
end
set_option maxRecDepth 100000 in
set_option maxHeartbeats 8000000 in
theorem keeps_walk (room : Int) (a : Option Addr) (n c : Nat) (zs : List Act) (w : World) (_hr : -9223372036854775808 ≤ room ∧ room ≤ 9223372036854775807) (hI : Acts w a n zs) :
    Calls Try.prog 4 #[.int .i64 room, .slice a n c] w fun e w' => e = .returned (.bool true) ∧ Below w.heap.size w w' := by
  obtain ⟨R, hRe, hRl⟩ := cut_of room 1000 (by omega) (by omega)
  have HI := Lib.hid hI
  have hi := run_ii
  clear hI
  go_enter Try.func4, Try.ntmps4
  go_wp2_with fail
  refine (awake_any w).mono ?_
  rintro e w1 ⟨rfl, b1⟩
  go_wp2_with fail
  rw [hRe]
  refine (new_any w1).mono ?_
  rintro e w2 ⟨rfl, r2, b2⟩
  have B2 := b1.trans (b2.mono b1.size)
  have K0 : Hid (Kn w (w2.alloc (.cells (madeCells #[.int .i64 0] 4) 3)) w1.heap.size w2.heap.size R 0) := by
    refine ⟨[], ?_, ?_, B2.alloc B2.size _, B2.size, Nat.le_refl _, fun _ h => (by cases h), by show (0 : Int) ≤ _; omega⟩
    · have hb1 := b1.size
      exact ((r2.mono (fun k (hk : k < w.heap.size) => show k < w1.heap.size by omega)).alloc _)
    · exact Arr.made w2 3 4 (.int .i64 0)
  clear b1 b2 r2 B2 hRe
  go_wp2
  generalize w1.heap.size = p at *
  generalize hGen : w2.alloc (.cells (madeCells #[.int .i64 0] 4) 3) = W2 at K0 ⊢
  clear hGen
  generalize w2.heap.size = gH at *
  clear hi
  go_loopw [7] (fun i wr => ∃ k : Nat, k ≤ 200 ∧ k ≤ n ∧ i = .int .i64 (k : Int) ∧ Hid (Kn w wr p gH R k)) (fun i _ => 200 - (intOf i).toNat)
  case atStart => exact ⟨0, Nat.zero_le _, Nat.zero_le _, rfl, K0⟩
  case round =>
    obtain ⟨m, hm, hmn, rfl, HK⟩ := hrel
    clear K0
    rcases (show (m < n ∧ m < 200) ∨ (m < n ∧ m = 200) ∨ m = n by omega) with ⟨hlt, hlt2⟩ | ⟨hlt, h⟩ | h
    · obtain ⟨L, hK⟩ := HK.out
      obtain ⟨bz, off, x, rfl, hbz, -, hx, hg⟩ := HI.out.at_ hlt
      obtain ⟨zk, zw, zn, zr⟩ := x
      obtain ⟨x0, x1, x2, x3⟩ := hx
      obtain ⟨g1, g2, g3, g4, g5, g6, g7, g8⟩ := hg
      simp only at x0 x1 x2 x3 g1 g2 g3 g4 g5 g6 g7 g8
      have HX0 := Lib.hid x0
      have HBZ := Lib.hid hbz
      have x0 := (hK.bel.cell (p := ⟨bz, off + m * 4, none⟩) hbz).trans x0
      have x1 := (hK.bel.cell (p := ⟨bz, off + m * 4 + 1, none⟩) hbz).trans x1
      have x2 := (hK.bel.cell (p := ⟨bz, off + m * 4 + 1 + 1, none⟩) hbz).trans x2
      clear x3 hbz
      obtain ⟨K, hKe, hKl⟩ := cut_of zw 4 (by omega) (by omega)
      have hK4 : K < 4 := by omega
      have hKi : (K : Int) < 4 := by omega
      have hK0 : (0 : Int) ≤ (K : Int) := by omega
      have HKE := Lib.hid hKe
      have HKK := Lib.hid hK
      clear hKe hKl hK HK
      go_upto_region 11 with (fail)
      rw [HKE.out]
      clear HKE x1
      go_cut [55] (fun v wx => ∃ b, v = .bool b ∧ ((b = false ∧ Hid (Kn w wx p gH R (m + 1))) ∨ (b = true ∧ Hid (∃ L, Half w wx p gH R m K zn L))))
      case first =>
        by_cases k1 : zk = 1
        · subst k1
          have HA := Lib.hid (ask_any p _ L (K : Int) zn (R : Int) wr HKK.out.ra (by have := HKK.out.len; omega) (by omega))
          go_wp2_with fail
          refine HA.out.mono ?_
          rintro e w5 ⟨rfl, r5, k5⟩
          have HN : Hid ((askB L zn (R : Int) = false ∧ Hid (Kn w w5 p gH R (m + 1))) ∨ (askB L zn (R : Int) = true ∧ Hid (∃ L, Half w w5 p gH R m K zn L))) := by
            cases hb : askB L zn (R : Int) with
            | false =>
              have e3 : askL L (K : Int) zn (R : Int) = L := by unfold askL; rw [hb]; rfl
              rw [e3] at r5
              exact .inl ⟨rfl, ⟨L, (HKK.out.call r5 k5).more⟩⟩
            | true =>
              have hc := of_decide_eq_true hb
              have e3 : askL L (K : Int) zn (R : Int) = addL L (K : Int) zn := by unfold askL; rw [hb]; rfl
              have hky := key_ask (k := (K : Int)) (n := zn) (room := (R : Int)) HKK.out.key hK0 hKi
              rw [e3] at r5 hky
              exact .inr ⟨rfl, ⟨L, r5, HKK.out.ar.keep k5 (.inr rfl), HKK.out.bel.trans (k5.below (fun _ hj => .inl hj)), HKK.out.le, HKK.out.len, hky, hc.1, by omega, HKK.out.ra.wf⟩⟩
          clear r5 k5 HA HKK HX0 HBZ x0 x2
          generalize askB L zn (R : Int) = b at HN
          go_wp2_with fail
          go_meet
          exact ⟨b, rfl, HN.out⟩
        · have n1 : (zk == 1) = false := by rw [beq_eq_false_iff_ne]; exact k1
          have HN : Hid (Kn w wr p gH R (m + 1)) := ⟨L, HKK.out.more⟩
          clear k1 HKK HX0 HBZ x2
          go_wp2_with fail
          go_meet
          exact ⟨false, rfl, .inl ⟨rfl, HN⟩⟩
      case rest =>
        obtain ⟨b, rfl, hcut⟩ := hcut
        have HC := Lib.hid hcut
        clear hcut x0 x2 HKK
        go_upto_if 55 with (fail)
        go_cut [] (fun wx => Kn w wx p gH R (m + 1))
        case first =>
          cases b with
          | false =>
            have HN : Hid (Kn w wc p gH R (m + 1)) := by
              rcases HC.out with ⟨_, h⟩ | ⟨h, _⟩
              · exact h
              · cases h
            clear HC
            go_wp2_with fail
            go_meet
            exact HN.out
          | true =>
            have HH : Hid (∃ L, Half w wc p gH R m K zn L) := by
              rcases HC.out with ⟨h, _⟩ | ⟨_, h⟩
              · cases h
              · exact h
            obtain ⟨L5, hh⟩ := HH.out
            obtain ⟨y1, y2⟩ := hh.ar.at_ hK4
            have hot := ofL_total L5 (K : Int) hh.wf.pos
            have hon := ofL_nn hh.wf.pos (K : Int)
            have hts := hh.tot
            have hn1 := hh.n1
            have hwo : IntKind.i64.wrap (ofL L5 (K : Int) + zn) = ofL L5 (K : Int) + zn := by rw [IntKind.wrap_i64]; omega
            have HN : Hid (Kn w (wc.setCell ⟨gH, K, none⟩ (.int .i64 (ofL L5 (K : Int) + zn))) p gH R (m + 1)) := ⟨_, hh.whole hK4⟩
            generalize ofL L5 (K : Int) = o at y1 hwo HN
            clear HC HH hh hot hon hts hn1
            go_wp2_with fail
            go_meet
            exact HN.out
        case rest =>
        obtain ⟨L1, hK1⟩ := hcut
        have HK1 := Lib.hid hK1
        have x0 := (hK1.bel.cell (p := ⟨bz, off + m * 4, none⟩) HBZ.out).trans HX0.out
        clear hK1 HX0 HBZ HC
        go_upto_if 68 with (fail)
        go_cut [] (fun wx => Kn w wx p gH R (m + 1))
        case first =>
          by_cases k2 : zk = 2
          · subst k2
            have hwf := HK1.out.ra.wf
            have hn2 : L1.length ≤ 1000000 := by have := HK1.out.len; omega
            have hlt9 := HK1.out.ra.lt
            have hof := of_take hwf (K : Int) zn
            have hoK := hof (K : Int)
            rw [if_pos rfl] at hoK
            have htot := total_take (L := L1) (K : Int) zn
            have hpos : 0 ≤ takeN L1 (K : Int) zn ∧ takeN L1 (K : Int) zn ≤ ofL L1 (K : Int) := by
              by_cases hh : hasL L1 (K : Int) = true ∧ 1 ≤ zn
              · have := takeN_has hwf hh.1 hh.2; omega
              · rw [takeN_not hh]; exact ⟨Int.le_refl _, ofL_nn hwf.pos _⟩
            have hot := ofL_total L1 (K : Int) hwf.pos
            have hts := HK1.out.tot
            have HP : Hid (∀ W', Below wc.heap.size wc W' → Calls Try.prog 11 #[.pointer (some ⟨p, 0, none⟩), .int .i64 (K : Int), .int .i64 zn] W' fun e w' => e = .returned (.int .i64 (takeN L1 (K : Int) zn)) ∧ PQ w' p (fun j => j < w.heap.size ∨ j = gH) (takeL L1 (K : Int) zn) ∧ Keep (fun j => j < w.heap.size ∨ j = gH) wc w') :=
              Lib.hid (fun W' hb => (take_any p _ L1 (K : Int) zn W' (HK1.out.ra.below hb) hn2).mono (fun e w' h => ⟨h.1, h.2.1, (Keep.of_below hb hlt9).trans h.2.2⟩))
            have HTU : Hid (∀ W', PQ W' p (fun j => j < w.heap.size ∨ j = gH) (takeL L1 (K : Int) zn) → Keep (fun j => j < w.heap.size ∨ j = gH) wc W' → Kn w (W'.setCell ⟨gH, K, none⟩ (.int .i64 (ofL L1 (K : Int) - takeN L1 (K : Int) zn))) p gH R (m + 1)) :=
              Lib.hid (fun W' r k => ⟨_, by
                rw [← hoK]
                exact HK1.out.turned (m' := m + 1) hK4 r k (Nat.le_trans (take_len L1 (K : Int) zn) HK1.out.len) (key_take HK1.out.key hK0 hKi) (by omega) (fun j hj => by rw [hof, if_neg hj])⟩)
            have HAR : Hid (∀ W', Keep (fun j => j < w.heap.size ∨ j = gH) wc W' → W'.cell? ⟨gH, K, none⟩ = some (.int .i64 (ofL L1 (K : Int))) ∧ W'.frozen? ⟨gH, K, none⟩ = false) := Lib.hid (fun W' k => (HK1.out.ar.keep k (.inr rfl)).at_ hK4)
            have HZ : Hid (wc.cell? ⟨gH, K, none⟩ = some (.int .i64 (ofL L1 (K : Int)))) := Lib.hid (HK1.out.ar.at_ hK4).1
            have hwo : IntKind.i64.wrap (ofL L1 (K : Int) - takeN L1 (K : Int) zn) = ofL L1 (K : Int) - takeN L1 (K : Int) zn := by rw [IntKind.wrap_i64]; omega
            generalize ofL L1 (K : Int) = o at HTU HAR HZ hwo
            generalize takeN L1 (K : Int) zn = t at HP HTU hwo
            generalize takeL L1 (K : Int) zn = L9 at HP HTU
            clear hwf hn2 hlt9 hof hoK htot hpos hot hts HK1 x0
            go_upto_region 14 with (fail)
            have hz0 := HZ.out
            go_region_law (go_simp; go_at_call 11; (with_reducible refine (HP.out _ ?_).mono ?_); (first | assumption | exact (Below.refl _ _).drew | exact Below.refl _ _); rintro e wW ⟨rfl, hkW⟩; have hz4 := (HAR.out wW hkW.2).1; have hz5 := (HAR.out wW hkW.2).2)
            all_goals
              have HN := Lib.hid (HTU.out wW hkW.1 hkW.2)
              clear hkW hz4 hz0 HP HTU HAR HZ
              go_wp2_with fail
              go_meet
              exact HN.out
          · have n1 : (zk == 2) = false := by rw [beq_eq_false_iff_ne]; exact k2
            have HN := Lib.hid (show Kn w _ p gH R (m + 1) from ⟨L1, HK1.out⟩)
            clear k2 HK1
            go_wp2_with fail
            go_meet
            exact HN.out
        case rest =>
          obtain ⟨L2, hK2⟩ := hcut
          have HK2 := Lib.hid hK2
          clear hK2 HK1 x0
          go_wp2_with fail
          go_loopw [10, 11] (fun s k wr => ∃ j : Nat, j ≤ 4 ∧ k = .int .i64 (j : Int) ∧ s = .int .i64 (upS L2 j) ∧ Hid (KI w wr p gH R (m + 1) L2)) (fun _ k _ => 4 - (intOf k).toNat)
          case atStart => exact ⟨0, Nat.zero_le _, rfl, rfl, HK2⟩
          case round =>
            obtain ⟨j, hj, rfl, rfl, HK3⟩ := hrel
            clear HK2
            have hwf := HK3.out.ra.wf
            have hup := up_all hwf.srt HK3.out.key
            have hts := HK3.out.tot
            by_cases hj4 : j < 4
            · have hj4i : (j : Int) < 4 := by omega
              have hj0 : (0 : Int) ≤ (j : Int) := by omega
              have hn2 : L2.length ≤ 1000000 := by have := HK3.out.len; omega
              have hon := ofL_nn hwf.pos (j : Int)
              have hu1 := up_le hwf.pos j
              have hu2 := up_mono hwf.pos (j + 1) 4 (by omega)
              have hu3 : upS L2 (j + 1) = upS L2 j + ofL L2 (j : Int) := rfl
              have HP : Hid (∀ W', Below wr.heap.size wr W' → Calls Try.prog 13 #[.pointer (some ⟨p, 0, none⟩), .int .i64 (j : Int)] W' fun e w' => e = .returned (.int .i64 (ofL L2 (j : Int))) ∧ Below wr.heap.size wr w') :=
                Lib.hid (fun W' hb => (of_any p _ L2 (j : Int) W' (HK3.out.ra.below hb) hn2).mono (fun e w' h => ⟨h.1, hb.trans (h.2.mono hb.size)⟩))
              have HZ : Hid (wr.cell? ⟨gH, j, none⟩ = some (.int .i64 (ofL L2 (j : Int)))) := Lib.hid (HK3.out.ar.at_ hj4).1
              have HLT := Lib.hid HK3.out.ar.lt
              have hwo : IntKind.i64.wrap (upS L2 j + ofL L2 (j : Int)) = upS L2 j + ofL L2 (j : Int) := by rw [IntKind.wrap_i64]; omega
              have HU3 := Lib.hid hu3
              generalize upS L2 j = s at hwo HU3
              generalize ofL L2 (j : Int) = o at HP HZ hwo HU3 hon
              have hon2 : ¬ o < 0 := by omega
              clear hwf hup hts hn2 hu1 hu2 hu3
              go_upto_region 19 with (fail)
              go_region_held3 (fun w' => w'.cell? ⟨gH, j, none⟩ = some (.int .i64 o)) (first | assumption | exact HZ.out) (first
                | (go_at_call 13; (with_reducible refine (HP.out _ ?_).mono ?_); (first | assumption | exact (Below.refl _ _).drew | exact Below.refl _ _); rintro e wW ⟨rfl, hkW⟩; have hz4 := (hkW.cell (p := ⟨gH, j, none⟩) HLT.out).trans HZ.out))
              all_goals
                have HN := Lib.hid (HK3.out.below hkW)
                clear hkW HP HZ HLT HK3
                go_wp2
                go_roundw
                case rel => exact ⟨j + 1, by omega, by go_num, by rw [HU3.out], HN⟩
                case measure => simp [intOf]; omega
            · obtain rfl : j = 4 := by omega
              rw [hup]
              have hle : ¬ (R : Int) < total L2 := by omega
              have HS := Lib.hid (sum_any p _ L2 wr HK3.out.ra)
              clear hwf hup hts hj4
              generalize total L2 = s at hle HS
              go_wp2_with fail
              refine HS.out.mono ?_
              rintro e w8 ⟨rfl, rfl⟩
              have HN : Hid (Kn w wr p gH R (m + 1)) := ⟨L2, HK3.out⟩
              clear HS HK3
              go_wp2
              go_roundw
              case rel => exact ⟨m + 1, by omega, by omega, by go_num, HN⟩
              case measure => simp [intOf]; omega
    all_goals
      first | (have h9 : ¬ m < n := by omega) | (have h9 : ¬ m < 200 := by omega)
      clear h
      obtain ⟨L, hK⟩ := HK.out
      have HB := Lib.hid hK.bel
      clear hK HK
      go_wp2
      go_ret
      exact ⟨rfl, HB.out⟩
end Go.Proofs.Ytoiakenepmbalaa.Purse
