/- The walk of the statement TwinRefuses. -/
import Derived.Test.YtnnppdjgmjgjhaaDoorTwinIn2
namespace Go.Proofs.YtnnppdjgmjgjhaaDoor.Twin
set_option maxRecDepth 100000
open Go.RowKit Go.Sort
open Go.Proofs.YtnnppdjgmjgjhaaDoor.Mem
open Go.Proofs.YtnnppdjgmjgjhaaDoor.Plate

def lsB : List Lf := [⟨2, 1, oneS 97⟩]
def sureB : Nat → Pg := fun _ => (0, [])
def nxtB : Nat → Pg := fun n => if n = 2 then (1, oneS 97) else (0, [])
theorem newest_b : Newest lsB sureB nxtB 1 := by
  have hg := one_good 97 (l := 1) (by decide) (by decide)
  refine ⟨?_, fun x hx => ?_, fun n hn hx => ?_⟩
  · unfold takesR lsB
    simp [oksR, okR, hasR, CF, hg]
  · simp [lsB] at hx; subst hx; exact ⟨rfl, rfl⟩
  · unfold nxtB
    rw [if_neg]
    · rfl
    · rintro rfl; exact hx _ List.mem_cons_self rfl
/-- what the first Write leaves -/
structure FirstB (T : PS) : Prop where
  inv : Inv T nxtB 1
  life : T.life = 0
  arm : T.arm = 0
  acts : T.acts = 4
theorem first_b : (writeR CF (newS 16) lsB).1 = 0 ∧ FirstB (writeR CF (newS 16) lsB).2 := by
  rcases write_cases Inv.start (show (0 : Int) < 1 by decide) newest_b with ⟨h1, h2, h3, h4, h5⟩ | ⟨-, h, -⟩
  · exact ⟨h1, h2, h3, h4 rfl, h5 (by simp [lsB])⟩
  · exact absurd rfl h
theorem list_ok {T : PS} (hT : Calmed T) (ha : T.arm = 0) {ls : List Lf} (h : takesR CF ls = true) :
    (writeR CF T ls).1 = 0 ∧ Calmed (writeR CF T ls).2 ∧ (writeR CF T ls).2.life = T.life ∧ ∀ y ∈ ls, ∃ m : Nat, m < 5 ∧ y.n = (m : Int) ∧ HasP m (y.l, y.z) ((writeR CF T ls).2.sec (3 + m)) := by
  by_cases hne : ls = []
  · subst hne
    exact ⟨rfl, hT, rfl, fun y hy => by simp at hy⟩
  · have ht := takes_is h
    rcases write_run h hT.off (by rw [hT.N]; decide) hne with ⟨-, c⟩ | ⟨-, T1, c, d⟩ | ⟨c1, T1, c, d⟩
    · exact absurd ha c.armed
    · exact absurd (c.arm ha) d.armed
    · refine ⟨c1, ⟨d.off, d.q, d.N.trans (c.N.trans hT.N)⟩, d.life.trans c.life, fun y hy => ?_⟩
      obtain ⟨m, hm, e, hg⟩ := ht.has y hy
      obtain ⟨y', hy', e2, e3⟩ := home_set (f := T1.sec) hy
      obtain ⟨m', hm', e', -⟩ := ht.has y' hy'
      have : y' = y := ht.once y' hy' y hy (by omega)
      subst this
      have em : y'.n.toNat = m := by omega
      refine ⟨m, hm, e, ?_⟩
      rw [em] at e3
      rw [d.sec, c.q, List.nil_append, e3]
      exact ⟨rfl, .inr ⟨hg, rfl⟩⟩
theorem takes_twice (C : Cfg) (o : Lf) : takesR C [o, o] = false := by
  unfold takesR
  simp [oksR, okR]
theorem write_twice (C : Cfg) (S : PS) (o : Lf) : writeR C S [o, o] = (1, S) := by
  unfold writeR
  rw [takes_twice]
  rfl
theorem take_not {C : Cfg} {S : PS} {ls : List Lf} (h : takesR C ls = false) : writeR C S ls = (1, S) := by
  unfold writeR; rw [h]; rfl
theorem page_len {m : Nat} {P : Pg} {x : Sec} (h : HasP m P x) : P.2.length ≤ 1000000 := by
  rcases h.2 with ⟨-, e⟩ | ⟨hg, -⟩
  · rw [e]; exact Nat.zero_le _
  · have := (Slab.good_parts hg).2.2.1; omega
theorem same_call' {w : World} {P1 P2 : Pg} {a1 a2 : Option Addr} {n1 n2 c1 c2 : Nat} (b : Bool) (h1 : Slab.Slots w a1 n1 P1.2) (h2 : Slab.Slots w a2 n2 P2.2) (hn : n1 ≤ 1000000) (hb : b = true ↔ P1 = P2) :
    ∀ d os, Calls Tryd.prog 14 #[.agg #[.int .i64 P1.1, .slice a1 n1 c1], .agg #[.int .i64 P2.1, .slice a2 n2 c2]] (grow (redrawn w d) os) fun e w'' => e = .returned (.bool b) ∧ ∃ q : Regrown, w'' = grow (redrawn w q.d) q.os :=
  fun d os => Calls.regrown_of (Slab.same_any P1.1 P2.1 a1 a2 n1 n2 c1 c2 P1.2 P2.2 b _ (h1.below (below_regrown w d os)) (h2.below (below_regrown w d os)) hn (by rw [hb]; exact Prod.ext_iff))
theorem same_calls {w : World} {P1 P2 : Pg} {a1 a2 : Option Addr} {n1 n2 c1 c2 : Nat} (h1 : Slab.Slots w a1 n1 P1.2) (h2 : Slab.Slots w a2 n2 P2.2) (hn : n1 ≤ 1000000) (hb : P1 = P2) :
    Calls Tryd.prog 14 #[.agg #[.int .i64 P1.1, .slice a1 n1 c1], .agg #[.int .i64 P2.1, .slice a2 n2 c2]] w fun e w' => e = .returned (.bool true) ∧ Below w.heap.size w w' :=
  Slab.same_any P1.1 P2.1 a1 a2 n1 n2 c1 c2 P1.2 P2.2 true w h1 h2 hn (by simp [hb])
set_option maxHeartbeats 16000000 in
theorem refuses_walk (a : Option Addr) (n c : Nat) (ls : List Lf) (y : Ro) (w : World) (hl : LeavesI w a n ls) (hn : n ≤ maxLen) (hnc : n ≤ c) (hy : Slab.Slots w y.a y.n y.x.z) (hyn : y.n ≤ maxLen) (hyx : -9223372036854775808 ≤ y.x.n ∧ y.x.n ≤ 9223372036854775807) :
    Calls Tryd.prog 4 #[.slice a n c, .agg #[.int .i64 y.x.n, .int .i64 y.x.l, .slice y.a y.n y.c]] w fun e w' => e = .returned (.bool true) ∧ Below w.heap.size w w' := by
  have hb0 : Below w.heap.size w (w.alloc (.cells #[.int .i64 y.x.n, .int .i64 y.x.l, .slice y.a y.n y.c] 43)) := (Below.refl _ _).alloc (Nat.le_refl _) _
  have hB := Blk.new w 43 #[.int .i64 y.x.n, .int .i64 y.x.l, .slice y.a y.n y.c]
  have HL := Lib.hid hl
  have HY := Lib.hid hy
  have HYX := Lib.hid hyx
  obtain ⟨⟨yn, yl, yz⟩, ya, ym, yc⟩ := y
  simp only at hb0 hB HY HYX hyn ⊢
  unfold maxLen at hn hyn
  clear hl hy hyx
  go_enter Tryd.func4, Tryd.ntmps4
  go_upto_region 1 with (fail)
  generalize hGen : w.alloc (.cells #[.int .i64 yn, .int .i64 yl, .slice ya ym yc] 43) = W0 at hb0 hB ⊢
  clear hGen
  go_wp2_with fail
  refine (awake_any _).mono ?_
  rintro e w1 ⟨rfl, b1⟩
  have B1 := hb0.trans (b1.mono hb0.size)
  have hB1 := hB.below b1 hB.lt
  have o0 := hB1.cell 0
  have o1 := hB1.cell 1
  have o2 := hB1.cell 2
  simp only [List.getElem?_toArray, List.getElem?_cons_zero, List.getElem?_cons_succ] at o0 o1 o2
  have b2 : Below w1.heap.size w1 (w1.alloc (.cells #[.int .i64 yn, .int .i64 yl, .slice ya ym yc] 43)) := (Below.refl _ _).alloc (Nat.le_refl _) _
  have hO := Blk.new w1 43 #[.int .i64 yn, .int .i64 yl, .slice ya ym yc]
  have b3 := b2.alloc b2.size (.cells #[.int .i64 0, .int .i64 0, .int .u8 0, .slice a n c, .slice none 0 0, .int .i64 0, .int .i64 0, .int .u8 0, .slice (some ⟨w1.heap.size, 0, none⟩) 1 1, .slice none 0 0] 52)
  have hO3 := hO.alloc (.cells #[.int .i64 0, .int .i64 0, .int .u8 0, .slice a n c, .slice none 0 0, .int .i64 0, .int .i64 0, .int .u8 0, .slice (some ⟨w1.heap.size, 0, none⟩) 1 1, .slice none 0 0] 52)
  have hA3 := Blk.new (w1.alloc (.cells #[.int .i64 yn, .int .i64 yl, .slice ya ym yc] 43)) 52 #[.int .i64 0, .int .i64 0, .int .u8 0, .slice a n c, .slice none 0 0, .int .i64 0, .int .i64 0, .int .u8 0, .slice (some ⟨w1.heap.size, 0, none⟩) 1 1, .slice none 0 0]
  rw [World.size_alloc] at hA3
  have B3 := B1.trans (b3.mono B1.size)
  have hB3 := hB1.below b3 hB1.lt
  have hgr := great_any (w1.heap.size + 1) 2 2 (fun i => if i = 0 then ⟨a, n, c, ls⟩ else ⟨some ⟨w1.heap.size, 0, none⟩, 1, 1, [⟨yn, yl, yz⟩]⟩) _ (Nat.le_refl _) (fun i hi => by
    match i, hi with
    | 0, _ => exact ⟨hA3.cell 3, hA3.cell 4, HL.out.below B3, by unfold maxLen; exact hn⟩
    | 1, _ => exact ⟨hA3.cell 8, hA3.cell 9, ⟨rfl, by simp; exact HYX.out, fun _ => ⟨w1.heap.size, 0, rfl, hO3.lt, fun j hj => by
        have hj' : j < 1 := hj
        obtain rfl : j = 0 := by omega
        exact ⟨_, _, _, hO3.cell 0, hO3.cell 1, hO3.cell 2, HY.out.below B3, by unfold maxLen; exact hyn⟩⟩⟩, show (1 : Nat) ≤ maxLen by unfold maxLen; decide⟩)
  have HGR := Lib.hid hgr
  have HB3 := Lib.hid B3
  have HO3 := Lib.hid hB3
  clear b1 B1 hB1 hb0 hB b2 hO b3 hO3 hA3 B3 hB3 hgr
  go_wp2_with fail
  refine HGR.out.mono ?_
  rintro e w4 ⟨b, rfl, rfl, hsm⟩
  cases b with
  | true =>
    go_wp2
    go_ret
    exact ⟨rfl, HB3.out⟩
  | false =>
    have hs0 : SmallL ⟨a, n, c, ls⟩ := hsm rfl 0 (by decide)
    have hs1 : yz.length ≤ 50 := (hsm rfl 1 (by decide)).2 ⟨yn, yl, yz⟩ List.mem_cons_self
    have hn20 : n ≤ 20 := hs0.1
    have HLV := Lib.hid (HL.out.leaves (M := fun k => k < w.heap.size) (fun k hk => hk) hs0.2)
    have HYS : Hid (SlotsM (fun k => k < w.heap.size) w ya ym yz) := Lib.hid ⟨HY.out, by have := HY.out.len; omega, fun b off e he h0 => by
      obtain ⟨b', off', e', hlt', -⟩ := HY.out.2.2 h0
      rw [he] at e'; cases e'; exact hlt'⟩
    clear hsm hs0 hs1 HGR o0 o1 o2
    generalize hGen : (w1.alloc (.cells #[.int .i64 yn, .int .i64 yl, .slice ya ym yc] 43)).alloc (.cells #[.int .i64 0, .int .i64 0, .int .u8 0, .slice a n c, .slice none 0 0, .int .i64 0, .int .i64 0, .int .u8 0, .slice (some ⟨w1.heap.size, 0, none⟩) 1 1, .slice none 0 0] 52) = X at HB3 HO3 ⊢
    clear hGen
    go_wp2_with fail
    refine (pq_new _ 16 (by decide) (by decide)).mono ?_
    rintro e w5 ⟨p, rfl, hp, hb⟩
    have B5 := HB3.out.trans (hb.mono HB3.out.size)
    have hO5 := HO3.out.below hb HO3.out.lt
    have hx5 : w.heap.size < X.heap.size := HO3.out.lt
    have H5 : Pw w w5 p (fun k => k < X.heap.size) (newS 16) := ⟨hp, B5, fun _ h => Nat.lt_of_lt_of_le h HB3.out.size⟩
    have HOP := Lib.hid (open_any (C := CF) (S := newS 16) w5 _ hp cf_small (by decide) (by decide) (by decide) (by decide) rfl (Full.new 16) (new_calm 16 _ (by decide)))
    rw [new_open (by decide)] at HOP
    clear hp hb
    go_wp2_with fail
    refine HOP.out.mono ?_
    rintro e w6 ⟨s, M6, rfl, hp6, hk6, hm6, hs6⟩
    have H6 : Pw w w6 p M6 (newS 16) := ⟨hp6, B5.trans (hk6.below H5.mb), fun k hk => hm6 k (H5.mb k hk)⟩
    have HO6 := Lib.hid (And.intro (hk6.blk hO5 hx5) (hm6 _ hx5))
    have HI := Lib.hid (fun W => image_any 1 (one 97) W (by decide))
    clear hp6 hk6 hm6 H5 HOP B5 hO5 hx5
    go_wp2_with fail
    refine (HI.out _).mono ?_
    rintro e w7 ⟨g, rfl, hg1, hg2, hS, b7⟩
    have b8 : Below w7.heap.size w7 (w7.alloc (.cells #[.int .i64 2, .int .i64 1, .slice (some ⟨g, 0, none⟩) 1 1] 43)) := (Below.refl _ _).alloc (Nat.le_refl _) _
    have b9 := b7.trans (b8.mono b7.size)
    have hB8 := Blk.new w7 43 #[.int .i64 2, .int .i64 1, .slice (some ⟨g, 0, none⟩) 1 1]
    have hS8 := hS.below b8
    obtain ⟨M8, H8, m8, n8, k8⟩ := H6.more b9
    have hl8 := leaf_one (M := M8) hB8 (n8 _ b7.size hB8.lt) (n8 _ hg1 (Nat.lt_of_lt_of_le hg2 b8.size)) hS8 (by decide)
    have hs8 := (hs6.keep k8).mono m8
    have hw := write_any (S := newS 16) _ M8 s 0 _ 1 1 lsB hs8 H8.pq cf_small hl8 (by decide) (by decide) (new_calm 16 _ (by decide)) rfl
    obtain ⟨ea, hT⟩ := first_b
    have hcl : Calm (writeR CF (newS 16) lsB).2 1000 := Calm.write' (new_calm 16 _ (by decide))
    have hfl := (Full.new 16).write' (C := CF) lsB
    rw [ea] at hw
    generalize (writeR CF (newS 16) lsB).2 = T at hw hT hcl hfl
    have HW := Lib.hid hw
    have HH8 := Lib.hid H8
    have HS8 := Lib.hid hs8
    have HT := Lib.hid hT
    have HCL := Lib.hid hcl
    have HFL := Lib.hid hfl
    have HO8 := Lib.hid (And.intro (k8.blk HO6.out.1 HO6.out.2) (m8 _ HO6.out.2))
    clear H6 hs6 hg1 hg2 hS b7 b8 b9 hB8 hS8 H8 m8 n8 k8 hl8 hs8 hw ea hT hcl hfl HO6
    go_wp2_with fail
    refine HW.out.mono ?_
    rintro e w9 ⟨rfl, hp9, hk9⟩
    have HH9 := Lib.hid (HH8.out.next hp9 hk9)
    have HS9 := Lib.hid (HS8.out.keep hk9)
    have HO9 := Lib.hid (And.intro (hk9.blk HO8.out.1 HO8.out.2) HO8.out.2)
    clear hp9 hk9 HH8 HS8 HW HO8
    have hw2 := write_any w9 M8 s 0 a n c ls HS9.out HH9.out.pq cf_small ((HLV.out.below HH9.out.bel (fun k hk => hk)).mono HH9.out.mb) (by omega) hnc (HCL.out.mono (by omega)) HT.out.life
    cases hb : takesR CF ls with
    | false =>
      rw [take_not hb] at hw2
      have HW2 := Lib.hid hw2
      clear hw2 hb
      go_wp2_with fail
      refine HW2.out.mono ?_
      rintro e w10 ⟨rfl, hp10, hk10⟩
      have HH10 := Lib.hid (HH9.out.next hp10 hk10)
      have HS10 := Lib.hid (HS9.out.keep hk10)
      have hac := pq_acts w10 p M8 T HH10.out.pq
      rw [HT.out.acts] at hac
      have HAC := Lib.hid hac
      clear hp10 hk10 HH9 HS9 HW2 hac HO9
      go_wp2_with fail
      refine HAC.out.mono ?_
      rintro e w11 ⟨rfl, rfl⟩
      go_wp2_with fail
      go_loopw [9] (fun nv wr => ∃ (q : Nat) (M' : Nat → Prop), q ≤ 5 ∧ nv = .int .i64 (q : Int) ∧ Hid (Pw w wr p M' T) ∧ Hid (Sto M' wr s p CF 0)) (fun nv _ => 5 - (intOf nv).toNat)
      case atStart => exact ⟨0, M8, Nat.zero_le _, rfl, HH10, HS10⟩
      case round =>
        obtain ⟨q, M', hq5, rfl, HX, HST⟩ := hrel
        by_cases hq : q < 5
        · have hlk := look_has HT.out.inv.cal hq (HT.out.inv.home q hq)
          have hrd := readp_any wr M' s 0 q HST.out HX.out.pq cf_small hq (by rw [HT.out.inv.cal.q]; exact Nat.zero_le _) HFL.out HT.out.life
          rw [hlk] at hrd
          have hln := page_len (HT.out.inv.home q hq)
          have hnx : nxtB q = if q = 2 then (1, oneS 97) else (0, []) := rfl
          obtain ⟨Pq, hPq⟩ : ∃ Pq, Pq = nxtB q := ⟨_, rfl⟩
          rw [← hPq] at hrd hln hnx
          have HRD := Lib.hid hrd
          have HNX := Lib.hid hnx
          clear hlk hrd hPq hnx
          go_wp2_with fail
          refine HRD.out.mono ?_
          rintro e w12 ⟨a8, k8, c8, rfl, hS8, b8, -⟩
          have hk8 : k8 ≤ 1000000 := by have := hS8.len; omega
          have hX := (Blk.new w12 41 #[.int .i64 Pq.1, .slice a8 k8 c8]).alloc (.cells #[.int .i64 0, .slice none 0 0] 41)
          have hV := Blk.new (w12.alloc (.cells #[.int .i64 Pq.1, .slice a8 k8 c8] 41)) 41 #[.int .i64 0, .slice none 0 0]
          rw [World.size_alloc] at hV
          have b9 : Below w12.heap.size w12 ((w12.alloc (.cells #[.int .i64 Pq.1, .slice a8 k8 c8] 41)).alloc (.cells #[.int .i64 0, .slice none 0 0] 41)) := ((Below.refl _ _).alloc (Nat.le_refl _) _).alloc (by simp) _
          have hS9 := hS8.below b9
          have B9 := b8.trans (b9.mono b8.size)
          have HX9 := Lib.hid hX
          have HV9 := Lib.hid hV
          have HS9' := Lib.hid hS9
          have HB9 := Lib.hid B9
          have HB8 := Lib.hid b8
          have HB12 := Lib.hid b9
          have HS8w := Lib.hid hS8
          clear hX hV b9 hS9 B9 hS8 b8 HRD
          go_upto_region 16 with (fail)
          generalize hGen : (w12.alloc (.cells #[.int .i64 Pq.1, .slice a8 k8 c8] 41)).alloc (.cells #[.int .i64 0, .slice none 0 0] 41) = X2 at HX9 HV9 HS9' HB9 HB12 ⊢
          clear hGen
          by_cases hq2 : q = 2
          · subst hq2
            have HNX2 := Lib.hid (HNX.out.trans (if_pos rfl))
            go_wp2_with fail
            refine (HI.out _).mono ?_
            rintro e w13 ⟨g2, rfl, hg1, hg2, hS13, b13⟩
            have hX13 := HX9.out.below b13 HX9.out.lt
            have hV13 := HV9.out.below b13 HV9.out.lt
            obtain ⟨⟨v0, v1, v2, v3⟩, ⟨v4, v5, v6⟩, ⟨v7, v8, v9, v10⟩, -⟩ := page_store hV13 (.int .i64 1) (.slice (some ⟨g2, 0, none⟩) 1 1)
            have hne : w12.heap.size ≠ w12.heap.size + 1 := by omega
            have hX14 := (hX13.far (p := ⟨w12.heap.size + 1, 0, none⟩) hne (.int .i64 1)).far (p := ⟨w12.heap.size + 1, 1, none⟩) hne (.slice (some ⟨g2, 0, none⟩) 1 1)
            have hvl := HV9.out.lt
            have hS14 : Slab.Slots ((w13.setCell ⟨w12.heap.size + 1, 0, none⟩ (.int .i64 1)).setCell ⟨w12.heap.size + 1, 1, none⟩ (.slice (some ⟨g2, 0, none⟩) 1 1)) (some ⟨g2, 0, none⟩) 1 [⟨true, one 97⟩] := slots_set (slots_set hS13 (B := X2.heap.size) (fun b off e he => by cases he; exact hg1) hvl _ _) (B := X2.heap.size) (fun b off e he => by cases he; exact hg1) hvl _ _
            obtain ⟨x0, x1⟩ : _ ∧ _ := ⟨hX14.cell 0, hX14.cell 1⟩
            simp only [List.getElem?_toArray, List.getElem?_cons_zero, List.getElem?_cons_succ] at x0 x1
            have bb := ((HB12.out.trans (b13.mono HB12.out.size)).setCell (p := ⟨w12.heap.size + 1, 0, none⟩) (Nat.le_succ _) (.int .i64 1)).setCell (p := ⟨w12.heap.size + 1, 1, none⟩) (Nat.le_succ _) (.slice (some ⟨g2, 0, none⟩) 1 1)
            have HSA := Lib.hid (same_calls (P1 := Pq) (P2 := (1, oneS 97)) (c1 := c8) (c2 := 1) (HS8w.out.below bb) hS14 hk8 HNX2.out)
            have HBB := Lib.hid (HB8.out.trans (bb.mono HB8.out.size))
            clear bb hS14 hX14 hX13 hV13 hS13 hg1 hg2 b13 hvl
            go_wp2_with fail
            refine HSA.out.mono ?_
            rintro e w15 ⟨rfl, b15⟩
            obtain ⟨M14, X14, m14, -, k14⟩ := HX.out.more (HBB.out.trans (b15.mono HBB.out.size))
            have HX14 := Lib.hid X14
            have HS14 := Lib.hid ((HST.out.keep k14).mono m14)
            clear X14 m14 k14 b15 x0 x1 v0 v1 v2 v3 v4 v5 v6 v7 v8 v9 v10 HSA HBB
            go_wp2
            go_roundw
            case rel => exact ⟨2 + 1, M14, by omega, by go_num, HX14, HS14⟩
            case measure => simp [intOf]
          · have HNX2 := Lib.hid (HNX.out.trans (if_neg hq2))
            have hq2' : ((q : Int) == 2) = false := by rw [beq_eq_false_iff_ne]; omega
            have x0 := HX9.out.cell 0
            have x1 := HX9.out.cell 1
            have y0 := HV9.out.cell 0
            have y1 := HV9.out.cell 1
            simp only [List.getElem?_toArray, List.getElem?_cons_zero, List.getElem?_cons_succ] at x0 x1 y0 y1
            have HSA := Lib.hid (same_calls (P1 := Pq) (P2 := (0, [])) (c1 := c8) (c2 := 0) HS9'.out (Slab.Slots.nil X2 none) hk8 HNX2.out)
            go_wp2_with fail
            refine HSA.out.mono ?_
            rintro e w14 ⟨rfl, b14⟩
            obtain ⟨M14, X14, m14, -, k14⟩ := HX.out.more (HB9.out.trans (b14.mono HB9.out.size))
            have HX14 := Lib.hid X14
            have HS14 := Lib.hid ((HST.out.keep k14).mono m14)
            clear X14 m14 k14 b14 x0 x1 y0 y1
            go_wp2
            go_roundw
            case rel => exact ⟨q + 1, M14, by omega, by go_num, HX14, HS14⟩
            case measure => simp [intOf]; omega
        · obtain rfl : q = 5 := by omega
          go_wp2
          go_ret
          exact ⟨rfl, HX.out.bel⟩
    | true =>
      obtain ⟨r1, r2, r3, r4⟩ := list_ok HT.out.inv.cal HT.out.arm hb
      have hcl2 : Calm (writeR CF T ls).2 500 := Calm.write' (HCL.out.mono (by have := HLV.out.len; omega))
      have hfl2 := HFL.out.write' (C := CF) ls
      rw [r1] at hw2
      rw [HT.out.life] at r3
      generalize (writeR CF T ls).2 = T2 at hw2 r2 r3 r4 hcl2 hfl2
      have HW2 := Lib.hid hw2
      have HC2 := Lib.hid r2
      have HL2 := Lib.hid r3
      have HP2 := Lib.hid r4
      have HCL2 := Lib.hid hcl2
      have HFL2 := Lib.hid hfl2
      clear hw2 hb r1 r2 r3 r4 hcl2 hfl2
      go_wp2_with fail
      refine HW2.out.mono ?_
      rintro e w10 ⟨rfl, hp10, hk10⟩
      have HH10 := Lib.hid (HH9.out.next hp10 hk10)
      have HS10 := Lib.hid (HS9.out.keep hk10)
      have HO10 := Lib.hid (And.intro (hk10.blk HO9.out.1 HO9.out.2) HO9.out.2)
      clear hp10 hk10 HH9 HS9 HW2 HO9
      go_wp2_with fail
      go_loopw [13] (fun nv wr => ∃ (q : Nat) (M' : Nat → Prop), q ≤ n ∧ nv = .int .i64 (q : Int) ∧ Hid (Pw w wr p M' T2) ∧ Hid (Sto M' wr s p CF 0) ∧ Hid (Blk wr w.heap.size 43 #[.int .i64 yn, .int .i64 yl, .slice ya ym yc] ∧ M' w.heap.size)) (fun nv _ => n - (intOf nv).toNat)
      case atStart => exact ⟨0, M8, Nat.zero_le _, rfl, HH10, HS10, HO10⟩
      case round =>
        obtain ⟨q, M', hqn, rfl, HX, HST, HOX⟩ := hrel
        by_cases hq : q < n
        · obtain ⟨lb, lo, a', n', c', x, rfl, hMb, hbl, hg, -, d1, d2, d3, hSl, -⟩ := (HLV.out.below HX.out.bel (fun k hk => hk)).at_ hq
          have hmem := List.mem_of_getElem? hg
          obtain ⟨m, hm5, hxm, hh⟩ := HP2.out x hmem
          obtain ⟨xn, xl, xz⟩ := x
          simp only at hxm d1 d2 hSl hh
          subst hxm
          have hlk := look_has HC2.out hm5 hh
          have hrd := readp_any wr M' s 0 m HST.out HX.out.pq cf_small hm5 (by rw [HC2.out.q]; exact Nat.zero_le _) HFL2.out HL2.out
          rw [hlk] at hrd
          have hln := page_len hh
          have HRD := Lib.hid hrd
          have HSL := Lib.hid hSl
          clear hlk hrd hh hmem hg hSl hMb
          go_wp2_with fail
          refine HRD.out.mono ?_
          rintro e w12 ⟨a8, k8, c8, rfl, hS8, b8, -⟩
          have hk8 : k8 ≤ 1000000 := by have := hS8.len; omega
          have b9 := b8.alloc b8.size (.cells #[.int .i64 xl, .slice a8 k8 c8] 41)
          have hX := Blk.new w12 41 #[.int .i64 xl, .slice a8 k8 c8]
          have hS9 := hS8.below (show Below w12.heap.size w12 (w12.alloc (.cells #[.int .i64 xl, .slice a8 k8 c8] 41)) from (Below.refl _ _).alloc (Nat.le_refl _) _)
          have z1 := (b9.cell (p := ⟨lb, lo + q * 3 + 1, none⟩) hbl).trans d2
          have z2 := (b9.cell (p := ⟨lb, lo + q * 3 + 2, none⟩) hbl).trans d3
          have HSL9 := Lib.hid (HSL.out.1.below b9)
          have HX9 := Lib.hid hX
          have HS9 := Lib.hid hS9
          have HB9 := Lib.hid b9
          clear hS8 b8 b9 hX hS9 HRD d1 d2 d3
          go_upto_region 25 with (fail)
          generalize hGen : w12.alloc (.cells #[.int .i64 xl, .slice a8 k8 c8] 41) = X2 at HX9 HS9 HB9 HSL9 z1 z2 ⊢
          clear hGen
          have x0 := HX9.out.cell 0
          have x1 := HX9.out.cell 1
          simp only [List.getElem?_toArray, List.getElem?_cons_zero, List.getElem?_cons_succ] at x0 x1
          have kx0 := cell_regrown x0
          have kx1 := cell_regrown x1
          have kz1 := cell_regrown z1
          have kz2 := cell_regrown z2
          have cA := same_call' (P1 := (xl, xz)) (P2 := (xl, xz)) (c1 := c8) (c2 := c') true HS9.out HSL9.out hk8 (by simp)
          clear x0 x1 z1 z2
          refine wp_region_quiet_below (by kernel_rfl) (by kernel_rfl) ?_
          repeat (go_big_quiet_step ((with_reducible exact cA _ _)))
          refine wpQuiet_nil ?_
          intro _ hw'
          obtain ⟨⟨dq, osq⟩, hw''⟩ := hw'
          subst hw''
          have b1 := below_regrown X2 dq osq
          generalize grow (redrawn X2 dq) osq = W1 at b1 ⊢
          obtain ⟨M14, X14, m14, -, k14⟩ := HX.out.more (HB9.out.trans (b1.mono HB9.out.size))
          have HX14 := Lib.hid X14
          have HS14 := Lib.hid ((HST.out.keep k14).mono m14)
          have HO14 := Lib.hid (And.intro (k14.blk HOX.out.1 HOX.out.2) (m14 _ HOX.out.2))
          clear X14 m14 k14 b1 cA kx0 kx1 kz1 kz2
          go_wp2
          go_roundw
          case rel => exact ⟨q + 1, M14, by omega, by go_num, HX14, HS14, HO14⟩
          case measure => simp [intOf]; omega
        · obtain rfl : q = n := by omega
          have HRN := Lib.hid (read_nil' wr 0)
          go_wp2_with fail
          refine HRN.out.mono ?_
          rintro e w12 ⟨rfl, b12⟩
          have b13 := b12.alloc b12.size (.cells #[.int .i64 0, .slice none 0 0] 41)
          obtain ⟨M13, X13, m13, -, k13⟩ := HX.out.more b13
          have HX13 := Lib.hid X13
          have HS13 := Lib.hid ((HST.out.keep k13).mono m13)
          have HO13 := Lib.hid (And.intro (k13.blk HOX.out.1 HOX.out.2) (m13 _ HOX.out.2))
          clear b12 b13 X13 m13 k13 HRN
          go_upto_region 29 with (fail)
          generalize hGen : w12.alloc (.cells #[.int .i64 0, .slice none 0 0] 41) = X2 at HX13 HS13 HO13 ⊢
          clear hGen
          have o0 := HO13.out.1.cell 0
          have o1 := HO13.out.1.cell 1
          have o2 := HO13.out.1.cell 2
          simp only [List.getElem?_toArray, List.getElem?_cons_zero, List.getElem?_cons_succ] at o0 o1 o2
          have b14 : Below X2.heap.size X2 (X2.alloc (.cells #[.int .i64 yn, .int .i64 yl, .slice ya ym yc, .int .i64 yn, .int .i64 yl, .slice ya ym yc] 43)) := (Below.refl _ _).alloc (Nat.le_refl _) _
          have hB14 := Blk.new X2 43 #[.int .i64 yn, .int .i64 yl, .slice ya ym yc, .int .i64 yn, .int .i64 yl, .slice ya ym yc]
          obtain ⟨M14, X14, m14, n14, k14⟩ := HX13.out.more b14
          have hys : SlotsM M14 (X2.alloc (.cells #[.int .i64 yn, .int .i64 yl, .slice ya ym yc, .int .i64 yn, .int .i64 yl, .slice ya ym yc] 43)) ya ym yz := (HYS.out.below X14.bel (fun k hk => hk)).mono X14.mb
          have hl14 : Leaves M14 (X2.alloc (.cells #[.int .i64 yn, .int .i64 yl, .slice ya ym yc, .int .i64 yn, .int .i64 yl, .slice ya ym yc] 43)) (some ⟨X2.heap.size, 0, none⟩) 2 [⟨yn, yl, yz⟩, ⟨yn, yl, yz⟩] :=
            ⟨rfl, by simp; exact HYX.out, fun _ => ⟨X2.heap.size, 0, rfl, n14 _ (Nat.le_refl _) hB14.lt, hB14.lt, fun i hi => by
              match i, hi with
              | 0, _ => exact ⟨_, _, _, hB14.cell 0, hB14.cell 1, hB14.cell 2, hys⟩
              | 1, _ => exact ⟨_, _, _, hB14.cell 3, hB14.cell 4, hB14.cell 5, hys⟩⟩⟩
          have hw3 := write_any _ M14 s 0 _ 2 2 [⟨yn, yl, yz⟩, ⟨yn, yl, yz⟩] ((HS13.out.keep k14).mono m14) X14.pq cf_small hl14 (by decide) (by decide) (HCL2.out.mono (by decide)) HL2.out
          rw [write_twice] at hw3
          have HW3 := Lib.hid hw3
          have HX14 := Lib.hid X14
          clear b14 hB14 X14 m14 n14 k14 hys hl14 hw3
          go_wp2_with fail
          refine HW3.out.mono ?_
          rintro e w15 ⟨rfl, hp15, hk15⟩
          have HX15 := Lib.hid (HX14.out.next hp15 hk15)
          clear hp15 hk15 HX14 HW3 o0 o1 o2
          go_wp2_with fail
          refine (write_nil' _ _).mono ?_
          rintro e w16 ⟨rfl, b16⟩
          go_wp2
          go_ret
          exact ⟨rfl, HX15.out.bel.trans (b16.mono HX15.out.bel.size)⟩
end Go.Proofs.YtnnppdjgmjgjhaaDoor.Twin
