/- The walk of the statement TwinPower. -/
import Derived.Test.YtnnppdjgmjgjhaaDoorTwinBook
import Derived.Deep.CutRange
import Derived.Deep.CutBlock
import Derived.Deep.RegionLaw
namespace Go.Proofs.YtnnppdjgmjgjhaaDoor.Twin
set_option maxRecDepth 100000
open Go.RowKit Go.Sort
open Go.Proofs.YtnnppdjgmjgjhaaDoor.Mem
open Go.Proofs.YtnnppdjgmjgjhaaDoor.Plate

theorem info_page : (Tryd.prog.info? 41).map (fun i => (i.zero, i.size, i.bytes)) = some (some (.agg #[.int .i64 0, .slice none 0 0]), 2, 32) := by kernel_rfl
theorem run_pages (w : World) :
    (Instr.makeSlice 32 (.int .i64 5) (.int .i64 5)).run Tryd.prog w = .ok (.slice (some ⟨w.heap.size, 0, none⟩) 5 5) (w.alloc (.cells (madeCells #[.int .i64 0, .slice none 0 0] 10) 41)) := by
  obtain ⟨i0, hi, hz0, hz1, hz2⟩ := info_parts info_page
  have h := run_make (P := Tryd.prog) w 32 41 i0 _ Tryd.underlying32 hi hz0 .i64 .i64 5 5 (by omega) (Int.le_refl _) (by rw [hz2]; omega) (by omega)
  rw [hz1] at h
  simpa [Value.cells] using h
theorem PRow.new (N : Nat → Prop) (w : World) (hN : ¬ N w.heap.size) : PRow N (w.alloc (.cells (madeCells #[.int .i64 0, .slice none 0 0] 10) 41)) w.heap.size (fun _ => (0, [])) := by
  refine ⟨⟨_, Blk.new w _ _, by simp [madeCells], fun k hk => ⟨none, 0, 0, ?_, ?_, SlotsM.nil _ _ _⟩⟩, hN⟩
  · simp [madeCells, show k * 2 < 10 by omega]
  · have e3 : (k * 2 + 1) % 2 = 1 := by omega
    simp [madeCells, show k * 2 + 1 < 10 by omega, e3]
/-- all that the statement holds between two rounds -/
structure PwI (w W : World) (p s gs : Nat) (M : Nat → Prop) (sure : Nat → Pg) (S : PS) (i : Nat) (cs : Array Value) : Prop where
  pw : Pw w W p M S
  sto : Sto M W s p CF S.life
  row : PRow (fun k => M k ∧ k ≠ gs) W gs sure
  mg : M gs
  bg : w.heap.size < gs
  inv : Inv S sure (i : Int)
  full : Full S
  calm : Calm S (900000 - 1000 * i)
  box : Blk W w.heap.size 24 cs
  mb : M w.heap.size
theorem PwI.more {w W W' : World} {p s gs i : Nat} {M : Nat → Prop} {sure : Nat → Pg} {S : PS} {cs : Array Value} (h : PwI w W p s gs M sure S i cs) (hb : Below W.heap.size W W') :
    ∃ M', PwI w W' p s gs M' sure S i cs ∧ (∀ k, M k → M' k) ∧ (∀ k, W.heap.size ≤ k → k < W'.heap.size → M' k) ∧ Keep M W W' := by
  obtain ⟨M', h1, m1, n1, k1⟩ := h.pw.more hb
  exact ⟨M', ⟨h1, (h.sto.keep k1).mono m1, (h.row.keep k1 (fun k hk => hk.1) h.mg).mono (fun k hk => ⟨m1 k hk.1, hk.2⟩) (fun hk => hk.2 rfl), m1 _ h.mg, h.bg, h.inv, h.full, h.calm, k1.blk h.box h.mb, m1 _ h.mb⟩, m1, n1, k1⟩
/-- a second row is made -/
theorem PwI.two {w W W' : World} {p s gs gn i : Nat} {M : Nat → Prop} {sure f2 : Nat → Pg} {S : PS} {cs : Array Value} (h : PwI w W p s gs M sure S i cs) (hb : Below W.heap.size W W') (hg : W.heap.size ≤ gn) (hl : gn < W'.heap.size)
    (h2 : ∀ M' : Nat → Prop, (∀ k, M k → M' k) → PRow (DD M' gs gn) W' gn f2) :
    ∃ M', Two w W' p gs gn M' sure f2 S cs ∧ (∀ k, M k → M' k) ∧ Keep M W W' := by
  obtain ⟨M', a1, m1, n1, k1⟩ := h.pw.more hb
  have hlt : gs < W.heap.size := h.row.lt
  refine ⟨M', ⟨a1, (h.row.keep k1 (fun k hk => hk.1) h.mg).mono (fun k hk => ⟨m1 k hk.1, hk.2, ?_⟩) (fun hk => hk.2.1 rfl), h2 M' m1, m1 _ h.mg, n1 _ hg hl, by omega, h.bg, by have := h.bg; omega, k1.blk h.box h.mb, m1 _ h.mb⟩, m1, k1⟩
  have := h.pw.pq.lt k hk.1
  omega
theorem PRow.get2 {N : Nat → Prop} {w : World} {g : Nat} {f : Nat → Pg} (h : PRow N w g f) {k : Nat} (hk : k < 5) (u : Value) : ∃ a m c, (w.setCell ⟨g, k * 2, none⟩ u).cell? ⟨g, k * 2 + 1, none⟩ = some (.slice a m c) ∧ (w.setCell ⟨g, k * 2, none⟩ u).frozen? ⟨g, k * 2 + 1, none⟩ = false := by
  obtain ⟨cs, h1, h2, h3⟩ := h.row
  obtain ⟨a, m, c, e1, e2, e3⟩ := h3 k hk
  have h4 := h1.set_ (k * 2) u
  exact ⟨a, m, c, (h4.cell _).trans (by rw [Array.getElem?_setIfInBounds_ne (by omega)]; exact e2), h4.frozen _⟩
theorem part_zero (P sure : Nat → Pg) : (fun j => if j < 0 then P j else sure j) = sure := by funext j; simp
theorem part_next (P sure : Nat → Pg) (q : Nat) : setP (fun j => if j < q then P j else sure j) q ((P q).1, (P q).2) = fun j => if j < q + 1 then P j else sure j := by
  funext j
  unfold setP
  by_cases h : j = q
  · subst h; rw [if_pos rfl, if_pos (by omega)]
  · rw [if_neg h]
    by_cases h2 : j < q
    · simp only [if_pos h2, if_pos (show j < q + 1 by omega)]
    · simp only [if_neg h2, if_neg (show ¬ j < q + 1 by omega)]
theorem has_len {n : Nat} {P : Pg} {x : Sec} (h : HasP n P x) : P.2.length ≤ 1000000 := by
  rcases h.2 with ⟨-, e⟩ | ⟨hg, -⟩
  · rw [e]; exact Nat.zero_le _
  · have := (Slab.good_parts hg).2.2.1; omega
theorem same_call {w : World} {P1 P2 : Pg} {a1 a2 : Option Addr} {n1 n2 c1 c2 : Nat} (b : Bool) (h1 : Slab.Slots w a1 n1 P1.2) (h2 : Slab.Slots w a2 n2 P2.2) (hn : n1 ≤ 1000000) (hb : b = true ↔ P1 = P2) :
    ∀ d os, Calls Tryd.prog 14 #[.agg #[.int .i64 P1.1, .slice a1 n1 c1], .agg #[.int .i64 P2.1, .slice a2 n2 c2]] (grow (redrawn w d) os) fun e w'' => e = .returned (.bool b) ∧ ∃ q : Regrown, w'' = grow (redrawn w q.d) q.os :=
  fun d os => Calls.regrown_of (Slab.same_any P1.1 P2.1 a1 a2 n1 n2 c1 c2 P1.2 P2.2 b _ (h1.below (below_regrown w d os)) (h2.below (below_regrown w d os)) hn (by rw [hb]; exact Prod.ext_iff))
theorem mod_forty (x : Int) : ∃ K : Nat, wrap64 ((IntKind.u64.wrap x).tmod 40) = (K : Int) ∧ (K : Int) < 40 := Slab.cut_of x 40 (by decide) (by decide)
theorem mod_three (x : Int) : ∃ K : Nat, wrap64 ((IntKind.u64.wrap x).tmod 3) = (K : Int) ∧ (K : Int) < 3 := Slab.cut_of x 3 (by decide) (by decide)
set_option maxHeartbeats 16000000 in
theorem power_walk (a : Option Addr) (n c : Nat) (gs : List Grp) (pa : Option Addr) (pn pc : Nat) (pz : List Int) (qa : Option Addr) (qn qc : Nat) (qz : List Int) (w : World) (hg : Grps w a n gs) (hp : Ints w pa pn pz) (_hpn : pn ≤ maxLen) (hq : Ints w qa qn qz) (hqn : qn ≤ maxLen) :
    Calls Tryd.prog 3 #[.slice a n c, .agg #[.slice pa pn pc, .slice qa qn qc]] w fun e w' => e = .returned (.bool true) ∧ Below w.heap.size w w' := by
  have hb0 : Below w.heap.size w (w.alloc (.cells #[.slice pa pn pc, .slice qa qn qc] 24)) := (Below.refl _ _).alloc (Nat.le_refl _) _
  have hB := Blk.new w 24 #[.slice pa pn pc, .slice qa qn qc]
  have HG := Lib.hid hg
  have HP := Lib.hid hp
  have HQ := Lib.hid hq
  have HQN := Lib.hid hqn
  unfold maxLen at _hpn
  have hrp := run_pages
  clear hg hp hq hqn
  go_enter Tryd.func3, Tryd.ntmps3
  go_upto_region 1 with (fail)
  generalize hGen : w.alloc (.cells #[.slice pa pn pc, .slice qa qn qc] 24) = W0 at hb0 hB ⊢
  clear hGen
  go_wp2_with fail
  refine (awake_any _).mono ?_
  rintro e w1 ⟨rfl, b1⟩
  have B1 := hb0.trans (b1.mono hb0.size)
  have hB1 := hB.below b1 hB.lt
  clear b1 hb0 hB
  go_wp2_with fail
  refine (pq_new _ 16 (by decide) (by decide)).mono ?_
  rintro e w2 ⟨p, rfl, hp, hb⟩
  have B2 := B1.trans (hb.mono B1.size)
  have H2 : Pw w w2 p (fun k => k < w1.heap.size) (newS 16) := ⟨hp, B2, fun _ h => Nat.lt_of_lt_of_le h B1.size⟩
  have hB2 := hB1.below hb hB1.lt
  have HO := Lib.hid (open_any (C := CF) (S := newS 16) w2 _ hp cf_small (by decide) (by decide) (by decide) (by decide) rfl (Full.new 16) (new_calm 16 _ (by decide)))
  rw [new_open (by decide)] at HO
  have hlt1 : w.heap.size < w1.heap.size := hB1.lt
  clear hp hb B1 hB1
  go_wp2_with fail
  refine HO.out.mono ?_
  rintro e w3 ⟨s, M3, rfl, hp3, hk3, hm3, hs3⟩
  have H3 : Pw w w3 p M3 (newS 16) := ⟨hp3, B2.trans (hk3.below H2.mb), fun k hk => hm3 k (H2.mb k hk)⟩
  have hB3 := hk3.blk hB2 hlt1
  have hM3 := hm3 _ hlt1
  have b4 : Below w3.heap.size w3 (w3.alloc (.cells (madeCells #[.int .i64 0, .slice none 0 0] 10) 41)) := (Below.refl _ _).alloc (Nat.le_refl _) _
  obtain ⟨M4, H4, m4, n4, k4⟩ := H3.more b4
  have I4 : PwI w (w3.alloc (.cells (madeCells #[.int .i64 0, .slice none 0 0] 10) 41)) p s w3.heap.size M4 (fun _ => (0, [])) (newS 16) 0 #[.slice pa pn pc, .slice qa qn qc] :=
    ⟨H4, (hs3.keep k4).mono m4, PRow.new _ _ (fun h => h.2 rfl), n4 _ (Nat.le_refl _) (by simp), hB3.lt, Inv.start, Full.new 16, new_calm 16 _ (by decide), k4.blk hB3 hM3, m4 _ hM3⟩
  clear hp3 hk3 hm3 hs3 H3 H2 HO B2 hB2 hB3 hM3 b4 H4 m4 n4 k4 hlt1
  go_upto_region 8 with (fail)
  generalize madeCells #[.int .i64 0, .slice none 0 0] 10 = mc at I4 ⊢
  generalize hGen : w3.alloc (.cells mc 41) = W at I4 ⊢
  clear hGen
  generalize w3.heap.size = g0 at I4 ⊢
  have HI4 := Lib.hid I4
  have g_0 := I4.box.cell 0
  have g_1 := I4.box.cell 1
  simp only [List.getElem?_toArray, List.getElem?_cons_zero, List.getElem?_cons_succ] at g_0 g_1
  clear I4 hrp
  go_upto_if 34 with (fail)
  go_cut [] from 20 (fun wx => ∃ M S, PwI w wx p s g0 M (fun _ => (0, [])) S 0 #[.slice pa pn pc, .slice qa qn qc])
  case first =>
    by_cases h0 : 0 < pn
    · obtain ⟨pb, po, z, rfl, hpb, -, c1, -, -⟩ := (HP.out.below HI4.out.pw.bel).at_ h0
      rw [Nat.add_zero] at c1
      obtain ⟨K, hK, hK4⟩ := mod_forty z
      have har := pq_arm W p _ (newS 16) (K : Int) HI4.out.pw.pq
      have HAR := Lib.hid har
      clear har
      go_wp2_with fail
      rw [hK]
      refine HAR.out.mono ?_
      rintro e w5 ⟨rfl, hp5, hk5⟩
      have I5 : PwI w w5 p s g0 _ (fun _ => (0, [])) (armS (newS 16) K) 0 #[.slice (some ⟨pb, po, none⟩) pn pc, .slice qa qn qc] := ⟨HI4.out.pw.next hp5 hk5, HI4.out.sto.keep hk5, HI4.out.row.keep hk5 (fun k hk => hk.1) HI4.out.mg, HI4.out.mg, HI4.out.bg, HI4.out.inv.arm _, HI4.out.full.arm _, HI4.out.calm.arm' (by omega), hk5.blk HI4.out.box HI4.out.mb, HI4.out.mb⟩
      go_wp2
      go_meet
      exact ⟨_, _, I5⟩
    · go_wp2
      go_meet
      exact ⟨_, _, HI4.out⟩
  case rest =>
  obtain ⟨M5, S5, I5⟩ := hcut
  have HI5 := Lib.hid I5
  obtain ⟨i0, hi, hz0, hz1, hz2⟩ := info_parts info_page
  clear I5 HI4 g_0 g_1
  go_wp2_with fail
  go_loopw [6, 7, 8, 9, 10] (fun ps ev sv lv iv wr => ∃ (i sx gx cap L : Nat) (M : Nat → Prop) (sure : Nat → Pg) (S : PS) (e0 : Int), i ≤ n ∧ i ≤ 30 ∧ iv = .int .i64 (i : Int) ∧ ps = .pointer (some ⟨sx, 0, none⟩) ∧ ev = .int .i64 e0 ∧ sv = .slice (some ⟨gx, 0, none⟩) 5 cap ∧ lv = .int .i64 (L : Int) ∧ L ≤ 5 ∧ Hid (PwI w wr p sx gx M sure S i #[.slice pa pn pc, .slice qa qn qc])) (fun _ _ _ _ iv _ => 30 - (intOf iv).toNat)
  case atStart => exact ⟨0, s, g0, 5, 0, _, _, _, 0, Nat.zero_le _, by omega, rfl, rfl, rfl, rfl, rfl, by omega, HI5⟩
  case round =>
    obtain ⟨i, sx, gx, cap, L, M, sure, S, e0, hin, hi30, rfl, rfl, rfl, rfl, rfl, hL5, HI⟩ := hrel
    have g_0 := HI.out.box.cell 0
    have g_1 := HI.out.box.cell 1
    simp only [List.getElem?_toArray, List.getElem?_cons_zero, List.getElem?_cons_succ] at g_0 g_1
    by_cases hgo : i < n ∧ i < 30
    · obtain ⟨hlt, hl3⟩ := hgo
      · obtain ⟨gb, go, x, rfl, hgb, c0, c1, hxi, hxn⟩ := (HG.out.below HI.out.pw.bel).at_ hlt
        have HLD := Lib.hid (laid_any x.a x.n x.c x.zs x.b ((i : Int) + 1) wr hxi hxn)
        generalize x.a = xa at c0 HLD
        generalize x.n = xn at c0 HLD
        generalize x.c = xc at c0 HLD
        generalize x.b = xb at c1 HLD
        have hxb := xb.toNat_lt
        clear hxi hxn
        go_wp2_with fail
        refine HLD.out.mono ?_
        rintro e w2 ⟨v, rs, rfl, hrow, hlaid, b2⟩
        obtain ⟨M2, I2, m2, n2, k2⟩ := HI.out.more b2
        have hgx : gx < wr.heap.size := HI.out.row.lt
        obtain ⟨la, lc, rfl, hlc, hlv⟩ := hrow.leaves (M := fun k => M2 k ∧ k ≠ gx ∧ k < w2.heap.size) (fun k h1 h2 => ⟨n2 k h1 h2, by omega, h2⟩)
        have HI2 := Lib.hid I2
        have HLV := Lib.hid hlv
        have HLAID := Lib.hid hlaid
        have HLC := Lib.hid hlc
        have hb3 : Below w2.heap.size w2 (w2.alloc (.cells #[] 41)) := (Below.refl _ _).alloc (Nat.le_refl _) _
        have HOWN : Hid ((w2.alloc (.cells #[] 41)).ownsRow w2.heap.size 41 2 (.slice (some ⟨w2.heap.size, 0, none⟩) 0 0) 0 []) := Lib.hid ⟨rfl, .inr ⟨w2.heap.size, 0, #[], rfl, Nat.le_refl _, World.alloc_heap_new w2 _, Nat.le_refl _, by decide, rfl, rfl⟩⟩
        obtain ⟨a0, m0, x0, e0a, e0b, s0, -, -⟩ := (I2.row.keep (Keep.of_below hb3 I2.pw.pq.lt) (fun k hk => hk.1) I2.mg).get (show 0 < 5 by decide)
        obtain ⟨a1, m1, x1, e1a, e1b, s1, -, -⟩ := (I2.row.keep (Keep.of_below hb3 I2.pw.pq.lt) (fun k hk => hk.1) I2.mg).get (show 1 < 5 by decide)
        obtain ⟨a2, m2', x2, e2a, e2b, s2, -, -⟩ := (I2.row.keep (Keep.of_below hb3 I2.pw.pq.lt) (fun k hk => hk.1) I2.mg).get (show 2 < 5 by decide)
        obtain ⟨a3, m3, x3, e3a, e3b, s3, -, -⟩ := (I2.row.keep (Keep.of_below hb3 I2.pw.pq.lt) (fun k hk => hk.1) I2.mg).get (show 3 < 5 by decide)
        obtain ⟨a4, m4, x4, e4a, e4b, s4, -, -⟩ := (I2.row.keep (Keep.of_below hb3 I2.pw.pq.lt) (fun k hk => hk.1) I2.mg).get (show 4 < 5 by decide)
        have HE := Lib.hid (And.intro (And.intro e0a e0b) (And.intro (And.intro e1a e1b) (And.intro (And.intro e2a e2b) (And.intro (And.intro e3a e3b) (And.intro e4a e4b)))))
        have HSS := Lib.hid (And.intro s0 (And.intro s1 (And.intro s2 (And.intro s3 s4))))
        clear e0a e0b e1a e1b e2a e2b e3a e3b e4a e4b s0 s1 s2 s3 s4 hrow hlaid hlv hlc I2 b2 c0 c1 hxb k2 n2 m2
        go_wp2_with (at_builtin; refine wpList_append_own_at _ rfl _ _ 32 rfl w2.heap.size 41 i0 (.agg #[.int .i64 0, .slice none 0 0]) 2 32 Tryd.underlying32 hi hz0 hz1 hz2 rfl (by decide) (.slice (some ⟨w2.heap.size, 0, none⟩) 0 0) 0 [] rfl HOWN.out ⟨gx, 0, none⟩ 5 cap [.int .i64 (sure 0).1, .slice a0 m0 x0, .int .i64 (sure 1).1, .slice a1 m1 x1, .int .i64 (sure 2).1, .slice a2 m2' x2, .int .i64 (sure 3).1, .slice a3 m3 x3, .int .i64 (sure 4).1, .slice a4 m4 x4] rfl rfl ?c1 ?c2 ?c3 ?c4 ?c5 ?_)
        case c1 =>
          obtain ⟨⟨f0, f1⟩, ⟨f2, f3⟩, ⟨f4, f5⟩, ⟨f6, f7⟩, f8, f9⟩ := HE.out
          intro j u hj
          match j, hj with
          | 0, hj => simp at hj; subst hj; simpa [Addr.add] using f0
          | 1, hj => simp at hj; subst hj; simpa [Addr.add] using f1
          | 2, hj => simp at hj; subst hj; simpa [Addr.add] using f2
          | 3, hj => simp at hj; subst hj; simpa [Addr.add] using f3
          | 4, hj => simp at hj; subst hj; simpa [Addr.add] using f4
          | 5, hj => simp at hj; subst hj; simpa [Addr.add] using f5
          | 6, hj => simp at hj; subst hj; simpa [Addr.add] using f6
          | 7, hj => simp at hj; subst hj; simpa [Addr.add] using f7
          | 8, hj => simp at hj; subst hj; simpa [Addr.add] using f8
          | 9, hj => simp at hj; subst hj; simpa [Addr.add] using f9
        case c2 => intro u hu; simp at hu; rcases hu with rfl | rfl | rfl | rfl | rfl | rfl | rfl | rfl | rfl | rfl <;> rfl
        case c3 => decide
        case c4 => decide
        case c5 => exact hb3.size
        intro v' w4 hown' hgrow' _ hat
        have hb4 : Below w2.heap.size w2 w4 := ⟨hgrow'.os, hgrow'.tape, hgrow'.output, Nat.le_trans hb3.size hgrow'.size, fun j hj => (hgrow'.block j (Nat.lt_of_lt_of_le hj hb3.size) (fun e => by simp [Value.ownBlock] at e; omega)).trans (hb3.block j hj)⟩
        have hsl : ∀ (N : Nat → Prop), (∀ k, M2 k → k ≠ gx → N k) → ∀ {a : Option Addr} {m : Nat} {z : List Slab.Slot}, SlotsM (fun k => M2 k ∧ k ≠ gx) (w2.alloc (.cells #[] 41)) a m z → SlotsM N w4 a m z := fun N hN a m z hs =>
          (hs.keep ⟨hgrow'.os, hgrow'.tape, hgrow'.output, hgrow'.size, fun j hj => hgrow'.block j (Nat.lt_of_lt_of_le (HI2.out.pw.pq.lt j hj.1) hb3.size) (fun e => by have := HI2.out.pw.pq.lt j hj.1; simp [Value.ownBlock] at e; omega)⟩).mono (fun k hk => hN k hk.1 hk.2)
        obtain ⟨gn, ncap, rfl, hgn1, hgn2, -⟩ := PRow.of_own (N := fun k => M2 k ∧ k ≠ gx) (f := sure) hown' (by
          obtain ⟨s0, s1, s2, s3, s4⟩ := HSS.out
          intro k hk
          match k, hk with
          | 0, _ => exact ⟨_, _, _, rfl, rfl, hsl _ (fun k h1 h2 => ⟨h1, h2⟩) s0⟩
          | 1, _ => exact ⟨_, _, _, rfl, rfl, hsl _ (fun k h1 h2 => ⟨h1, h2⟩) s1⟩
          | 2, _ => exact ⟨_, _, _, rfl, rfl, hsl _ (fun k h1 h2 => ⟨h1, h2⟩) s2⟩
          | 3, _ => exact ⟨_, _, _, rfl, rfl, hsl _ (fun k h1 h2 => ⟨h1, h2⟩) s3⟩
          | 4, _ => exact ⟨_, _, _, rfl, rfl, hsl _ (fun k h1 h2 => ⟨h1, h2⟩) s4⟩)
        have hM2n : ∀ k, M2 k → k ≠ gn := fun k hk => by have := HI2.out.pw.pq.lt k hk; omega
        obtain ⟨M4, T4, m4', k4⟩ := HI2.out.two (gn := gn) (f2 := sure) hb4 hgn1 hgn2 (fun M' hM' => by
          obtain ⟨g', c', he, -, -, hr⟩ := PRow.of_own (N := DD M' gx gn) (f := sure) hown' (by
            obtain ⟨s0, s1, s2, s3, s4⟩ := HSS.out
            intro k hk
            match k, hk with
            | 0, _ => exact ⟨_, _, _, rfl, rfl, hsl _ (fun k h1 h2 => ⟨hM' k h1, h2, hM2n k h1⟩) s0⟩
            | 1, _ => exact ⟨_, _, _, rfl, rfl, hsl _ (fun k h1 h2 => ⟨hM' k h1, h2, hM2n k h1⟩) s1⟩
            | 2, _ => exact ⟨_, _, _, rfl, rfl, hsl _ (fun k h1 h2 => ⟨hM' k h1, h2, hM2n k h1⟩) s2⟩
            | 3, _ => exact ⟨_, _, _, rfl, rfl, hsl _ (fun k h1 h2 => ⟨hM' k h1, h2, hM2n k h1⟩) s3⟩
            | 4, _ => exact ⟨_, _, _, rfl, rfl, hsl _ (fun k h1 h2 => ⟨hM' k h1, h2, hM2n k h1⟩) s4⟩)
          simp only [Value.slice.injEq, Option.some.injEq, Addr.mk.injEq] at he
          obtain ⟨⟨rfl, -, -⟩, -⟩ := he
          exact hr (fun hk => hk.2.2 rfl))
        have HT4 := Lib.hid T4
        have HSTO4 := Lib.hid ((HI2.out.sto.keep k4).mono m4')
        have HLV4 := Lib.hid ((HLV.out.keep (k4.mono (fun k hk => hk.1))).mono (fun k hk => (⟨m4' k hk.1, hk.2.1, by have := hk.2.2; omega⟩ : DD M4 gx gn k)))
        have HNEW := Lib.hid (laid_newest HLAID.out (by omega) (by omega) sure)
        clear hown' hgrow' hat hb3 hb4 hsl T4 m4' k4 hM2n hgn1 hgn2 HE HSS HOWN HLV
        go_wp2_with fail
        go_loopw [13] (fun kv wr2 => ∃ k : Nat, k ≤ rs.length ∧ kv = .int .i64 (k : Int) ∧ Hid (Two w wr2 p gx gn M4 sure (nextF sure ((rs.map (·.x)).take k)) S #[.slice pa pn pc, .slice qa qn qc]) ∧ Hid (Sto M4 wr2 sx p CF S.life) ∧ Hid (Leaves (DD M4 gx gn) wr2 la rs.length (rs.map (·.x)))) (fun kv _ => rs.length - (intOf kv).toNat)
        case atStart => exact ⟨0, Nat.zero_le _, rfl, HT4, HSTO4, HLV4⟩
        case round =>
          obtain ⟨k, hk, rfl, HT, HST, HLS⟩ := hrel
          have hr3 : rs.length ≤ 3 := HLAID.out.len
          by_cases hkl : k < rs.length
          · obtain ⟨lb, lo, a', n', c', y, rfl, hMb, hbl, hgk, hgd, d1, d2, d3, hSl, -⟩ := HLS.out.at_ hkl
            have hsn := nextF_snoc sure ((rs.map (·.x)).take k) y
            have htk : (rs.map (·.x)).take (k + 1) = (rs.map (·.x)).take k ++ [y] := by
              obtain ⟨hl', he'⟩ := List.getElem?_eq_some_iff.1 hgk
              rw [List.take_succ_eq_append_getElem hl', he']
            rw [← htk] at hsn
            obtain ⟨r, hr, hry⟩ := List.mem_map.1 (List.mem_of_getElem? hgk)
            obtain ⟨m, hm5, e1, -, -⟩ := HLAID.out.has r hr
            obtain ⟨yn, yl, yz⟩ := y
            have hyn : yn = (m : Int) := by rw [← e1, hry]
            subst hyn
            simp only [Int.toNat_natCast] at d1 d2 hSl hsn
            obtain ⟨ga, gm, gc, q1, q2, -, q3, q4⟩ := HT.out.r2.get hm5
            have TD := HT.out.next (HT.out.pw.pq.below ((Below.refl _ _).drew)) ((Keep.refl _ _).drew)
            have HTN := Lib.hid (TD.put2 hm5 (l := yl) (a := a') (m := n') (c := c') (z := yz) (hSl.keep ((Keep.refl _ _).drew)))
            rw [← hsn] at HTN
            have HSTN := Lib.hid ((HST.out.keep ((Keep.refl _ _).drew)).set2 (sto_ne HST.out HT.out.r2) (m * 2) (m * 2 + 1) (.int .i64 yl) (.slice a' n' c'))
            have HLSN := Lib.hid ((HLS.out.keep ((Keep.refl _ _).drew)).set2 (fun hk => hk.2.2 rfl : ¬ DD M4 gx gn gn) (m * 2) (m * 2 + 1) (.int .i64 yl) (.slice a' n' c'))
            clear TD hsn htk hr hry e1 hgk hgd hMb hbl hSl
            go_wp2_with fail
            go_region
            all_goals
              go_wp2
              go_roundw
              case rel => exact ⟨k + 1, by omega, by go_num, HTN, HSTN, HLSN⟩
              case measure => simp [intOf]; omega
          · obtain rfl : k = rs.length := by omega
            have htk : (rs.map (·.x)).take rs.length = rs.map (·.x) := List.take_of_length_le (by simp)
            rw [htk] at HT
            obtain ⟨nx, hnx⟩ : ∃ nx, nx = nextF sure (rs.map (·.x)) := ⟨_, rfl⟩
            rw [← hnx] at HT HNEW
            have hlm : (rs.map (·.x)).length = rs.length := by simp
            have hw := write_any wr M4 sx S.life la rs.length lc (rs.map (·.x)) HST.out HT.out.pw.pq cf_small (HLS.out.mono (fun k hk => hk.1)) (by omega) HLC.out (HI2.out.calm.mono (by omega)) rfl
            have hcs := write_cases HI2.out.inv (show (i : Int) < (i : Int) + 1 by omega) HNEW.out
            have hcl : Calm (writeR CF S (rs.map (·.x))).2 (900000 - 1000 * i - 10) := Calm.write' (HI2.out.calm.mono (by omega))
            have hfl := HI2.out.full.write' (C := CF) (rs.map (·.x))
            generalize writeR CF S (rs.map (·.x)) = WR at hw hcs hcl hfl
            obtain ⟨we, T⟩ := WR
            simp only at hw hcs hcl hfl
            have HW := Lib.hid hw
            have HCL := Lib.hid hcl
            have HFL := Lib.hid hfl
            clear htk hnx hlm hw hcl hfl HNEW HLS HLV4 HT4 HSTO4 g_0 g_1
            rcases hcs with ⟨rfl, hinv, hlife, -, -⟩ | ⟨rfl, -, hdown⟩
            · have HINV := Lib.hid hinv
              have HLF := Lib.hid hlife
              clear hinv hlife
              go_wp2_with fail
              refine HW.out.mono ?_
              rintro e w6 ⟨rfl, hp6, hk6⟩
              have T6 := HT.out.next hp6 hk6
              have HN6 : Hid (PwI w w6 p sx gn M4 nx T (i + 1) #[.slice pa pn pc, .slice qa qn qc]) := Lib.hid ⟨T6.pw, by rw [HLF.out]; exact HST.out.keep hk6, T6.r2.mono (fun k hk => ⟨hk.1, hk.2.2⟩) (fun hk => hk.2 rfl), T6.m2, T6.b2, by have := HINV.out; rwa [show ((i : Int) + 1) = ((i + 1 : Nat) : Int) by omega] at this, HFL.out, HCL.out.mono (by omega), T6.box, T6.mb⟩
              clear T6 hp6 hk6 HW
              go_wp2
              go_roundw
              case rel => exact ⟨i + 1, sx, gn, ncap, L, M4, nx, T, 0, by omega, by omega, by go_num, rfl, rfl, rfl, rfl, hL5, HN6⟩
              case measure => simp [intOf]; omega
            · have HDN := Lib.hid hdown
              clear hdown
              go_wp2_with fail
              refine HW.out.mono ?_
              rintro e w6 ⟨rfl, hp6, hk6⟩
              have HT6 := Lib.hid (HT.out.next hp6 hk6)
              have g_1 := HT6.out.box.cell 1
              simp only [List.getElem?_toArray, List.getElem?_cons_zero, List.getElem?_cons_succ] at g_1
              have hqm : ∀ b off, qa = some ⟨b, off, none⟩ → 0 < qn → b < w.heap.size := fun b off e h0 => by
                obtain ⟨b', off', e', hlt', -⟩ := HQ.out.2.2 h0
                rw [e] at e'; cases e'; exact hlt'
              have HQM := Lib.hid hqm
              have hon := pq_on w6 p M4 T qa qn qc qz HT6.out.pw.pq (by have := HCL.out.q; omega) (HQ.out.below HT6.out.pw.bel) (by have := HQN.out; unfold maxLen at this; omega) (fun b off e h0 => HT6.out.pw.mb b (HQM.out b off e h0))
              have HON := Lib.hid hon
              clear hp6 hk6 HW HT hqm hon
              go_wp2_with fail
              refine HON.out.mono ?_
              rintro e w7 ⟨rfl, hp7, hk7⟩
              have HT7 := Lib.hid (HT6.out.next hp7 hk7)
              have HCA7 := Lib.hid (HDN.out.on qz)
              have HAR7 : Hid ((onS T qz).arm = 0) := Lib.hid (by unfold onS; split <;> exact HDN.out.arm)
              have HFL7 := Lib.hid (HFL.out.on qz)
              have HCL7 := Lib.hid (HCL.out.on qz)
              generalize onS T qz = T7 at HT7 HCA7 HAR7 HFL7 HCL7
              clear hp7 hk7 HON HT6 HCL HFL HDN g_1
              go_wp2_with fail
              go_loopw [9] (fun lv wr3 => ∃ (L2 : Nat) (S8 : PS), lv = .int .i64 (L2 : Int) ∧ L2 ≤ 5 ∧ Hid (Two w wr3 p gx gn M4 sure nx S8 #[.slice pa pn pc, .slice qa qn qc]) ∧ Hid (Calmed S8 ∧ CrS S8.sec sure nx ((i : Int) + 1)) ∧ Hid (S8.arm = 0) ∧ Hid (Full S8) ∧ Hid (Calm S8 (900000 - 1000 * i - 20 - 20 * L2))) (fun lv _ => 5 - (intOf lv).toNat)
              case atStart => exact ⟨L, T7, rfl, hL5, HT7, HCA7, HAR7, HFL7, Lib.hid (HCL7.out.mono (by omega))⟩
              case round =>
                obtain ⟨L2, S8, rfl, hL2, HT, HCA, HAR, HFL, HCL⟩ := hrel
                have g_0 := HT.out.box.cell 0
                simp only [List.getElem?_toArray, List.getElem?_cons_zero] at g_0
                by_cases hlp : L2 < pn ∧ L2 < 5
                · obtain ⟨hlp, hl5⟩ := hlp
                  obtain ⟨pb, po, z, rfl, hpb, -, c1, -, -⟩ := (HP.out.below HT.out.pw.bel).at_ hlp
                  obtain ⟨K, hK, hK3⟩ := mod_three z
                  have HAR2 := Lib.hid (pq_arm wr p M4 S8 (1 + (K : Int)) HT.out.pw.pq)
                  go_wp2_with fail
                  rw [hK]
                  refine HAR2.out.mono ?_
                  rintro e w9 ⟨rfl, hp9, hk9⟩
                  have HT9 := Lib.hid (HT.out.next hp9 hk9)
                  have HOP := Lib.hid (open_any (C := CF) (S := armS S8 (1 + (K : Int))) w9 M4 HT9.out.pw.pq cf_small (by decide) (by decide) (by show 0 + 3 + 5 ≤ S8.N; rw [HCA.out.1.N]; decide) (by show S8.N ≤ _; rw [HCA.out.1.N]; decide) HCA.out.1.off (HFL.out.arm _) ((HCL.out.arm' (by omega)).mono (by show 2 * 5 + 2 ≤ _; omega)))
                  have hcl2 : Calm (openR CF (armS S8 (1 + (K : Int)))).2 (900000 - 1000 * i - 20 - 20 * L2 - 10) := Calm.open' ((HCL.out.arm' (by omega)).mono (by show _ - 10 + 5 + 1 ≤ _; omega))
                  have hfl2 := (HFL.out.arm (1 + (K : Int))).open' (C := CF)
                  obtain ⟨k1, k2, k3⟩ := again (S := armS S8 (1 + (K : Int))) ⟨HCA.out.1.off, HCA.out.1.q, HCA.out.1.N⟩ HCA.out.2 qz
                  generalize openR CF (armS S8 (1 + (K : Int))) = O at HOP hcl2 hfl2 k1 k2 k3
                  obtain ⟨oe, OS⟩ := O
                  have HC2 := Lib.hid hcl2
                  have HF2 := Lib.hid hfl2
                  have HK := Lib.hid (And.intro k1 (And.intro k2 k3))
                  clear hp9 hk9 HAR2 hcl2 hfl2 k1 k2 k3 hK hK3 c1 hpb HT
                  go_wp2_with fail
                  refine HOP.out.mono ?_
                  rintro e w10 ⟨s', M10, he10, hp10, hk10, hm10, -⟩
                  generalize (if (oe, OS).1 = 0 then some (⟨s', 0, none⟩ : Addr) else none) = pt at he10
                  subst he10
                  have HT10 := Lib.hid (HT9.out.next (hp10.mono hm10) hk10)
                  have HOF := Lib.hid (pq_off w10 p M4 OS HT10.out.pw.pq (by have := HC2.out.life; omega))
                  clear hp10 hk10 hm10 HOP HT9
                  go_wp2_with fail
                  refine HOF.out.mono ?_
                  rintro e w11 ⟨rfl, hp11, hk11⟩
                  have HT11 := Lib.hid (HT10.out.next hp11 hk11)
                  have g_1 := HT11.out.box.cell 1
                  simp only [List.getElem?_toArray, List.getElem?_cons_zero, List.getElem?_cons_succ] at g_1
                  have HON := Lib.hid (pq_on w11 p M4 (offS OS) qa qn qc qz HT11.out.pw.pq (by have := HC2.out.q; show OS.q.length ≤ _; omega) (HQ.out.below HT11.out.pw.bel) (by have := HQN.out; unfold maxLen at this; omega) (fun b off e h0 => HT11.out.pw.mb b (HQM.out b off e h0)))
                  clear hp11 hk11 HOF HT10
                  go_wp2_with fail
                  refine HON.out.mono ?_
                  rintro e w12 ⟨rfl, hp12, hk12⟩
                  have HT12 := Lib.hid (HT11.out.next hp12 hk12)
                  have HA12 := Lib.hid (And.intro HK.out.1 HK.out.2.1)
                  have HB12 := Lib.hid HK.out.2.2
                  have HF12 := Lib.hid (HF2.out.off.on qz)
                  have HC12 : Hid (Calm (onS (offS OS) qz) (900000 - 1000 * i - 20 - 20 * (L2 + 1))) := Lib.hid (((HC2.out.mono (show (900000 - 1000 * i - 20 - 20 * (L2 + 1)) + 1 ≤ 900000 - 1000 * i - 20 - 20 * L2 - 10 by omega)).off).on qz)
                  clear hp12 hk12 HON HT11 HK g_1 g_0
                  go_wp2
                  go_roundw
                  case rel => exact ⟨L2 + 1, _, by go_num, by omega, HT12, HA12, HB12, HF12, HC12⟩
                  case measure => simp [intOf]; omega
                · have ho := open_on HCA.out.1 HAR.out HCA.out.2
                  have hop := open_any (C := CF) (S := S8) wr M4 HT.out.pw.pq cf_small (by decide) (by decide) (by show 0 + 3 + 5 ≤ S8.N; rw [HCA.out.1.N]; decide) (by rw [HCA.out.1.N]; decide) HCA.out.1.off HFL.out (HCL.out.mono (by show 2 * 5 + 2 ≤ _; omega))
                  have hcl2 : Calm (openR CF S8).2 (900000 - 1000 * (i + 1)) := Calm.open' (HCL.out.mono (by show _ + 5 + 1 ≤ _; omega))
                  have hfl2 := HFL.out.open' (C := CF)
                  generalize openR CF S8 = O at ho hop hcl2 hfl2
                  obtain ⟨oe, T2⟩ := O
                  simp only at ho hcl2 hfl2
                  obtain ⟨rfl, hopd⟩ := ho
                  obtain ⟨P, hP⟩ := pick hopd.look
                  have HOP := Lib.hid hop
                  have HC2 := Lib.hid hcl2
                  have HF2 := Lib.hid hfl2
                  have HPD := Lib.hid hopd
                  have HP5 := Lib.hid hP
                  have hor : (L2 < pn ∧ ¬ (L2 : Int) < 5) ∨ ¬ L2 < pn := by omega
                  clear hop hcl2 hfl2 hopd hP hlp HAR HFL HCL
                  rcases hor with ⟨hlp, hl5⟩ | hlp
                  all_goals
                    go_wp2_with fail
                    refine HOP.out.mono ?_
                    rintro e w9 ⟨s2, M9, rfl, hp9, hk9, hm9, hs9⟩
                    have HT9 := Lib.hid ((HT.out.next (hp9.mono hm9) hk9).wide hp9 hm9)
                    have HS9 : Hid (Sto M9 w9 s2 p CF T2.life) := Lib.hid (by rw [HPD.out.life]; exact hs9)
                    clear hp9 hk9 hm9 hs9 HOP HT g_0
                    go_wp2_with fail
                    go_loopw [14] (fun nv wr4 => ∃ (q : Nat) (M' : Nat → Prop), q ≤ 5 ∧ nv = .int .i64 (q : Int) ∧ Hid (Two w wr4 p gx gn M' (fun j => if j < q then P j else sure j) nx T2 #[.slice pa pn pc, .slice qa qn qc]) ∧ Hid (Sto M' wr4 s2 p CF T2.life)) (fun nv _ => 5 - (intOf nv).toNat)
                    case atStart => exact ⟨0, M9, Nat.zero_le _, rfl, Lib.hid (by rw [part_zero]; exact HT9.out), HS9⟩
                    case round =>
                      obtain ⟨q, M', hq5, rfl, HT, HST⟩ := hrel
                      by_cases hq : q < 5
                      · have hlk := look_has HPD.out.cal hq (HP5.out q hq).2
                        have hrd := readp_any wr M' s2 T2.life q HST.out HT.out.pw.pq cf_small hq (by rw [HPD.out.cal.q]; exact Nat.zero_le _) HF2.out rfl
                        rw [hlk] at hrd
                        have hln := has_len (HP5.out q hq).2
                        have hor2 := (HP5.out q hq).1
                        have HPN := Lib.hid (part_next P sure q)
                        obtain ⟨Pq, hPq⟩ : ∃ Pq, Pq = P q := ⟨_, rfl⟩
                        rw [← hPq] at hrd hln hor2 HPN
                        have HRD := Lib.hid hrd
                        clear hlk hrd hPq
                        go_wp2_with fail
                        refine HRD.out.mono ?_
                        rintro e w10 ⟨a8, n8, c8, rfl, hS8, b8, hnw⟩
                        have b9 := b8.alloc b8.size (.cells #[.int .i64 Pq.1, .slice a8 n8 c8] 41)
                        have hX := Blk.new w10 41 #[.int .i64 Pq.1, .slice a8 n8 c8]
                        have hS9 := hS8.below (show Below w10.heap.size w10 (w10.alloc (.cells #[.int .i64 Pq.1, .slice a8 n8 c8] 41)) from (Below.refl _ _).alloc (Nat.le_refl _) _)
                        obtain ⟨M11, T11, m11, n11, k11⟩ := HT.out.more b9
                        have HSM : Hid (SlotsM (DD M11 gx gn) (w10.alloc (.cells #[.int .i64 Pq.1, .slice a8 n8 c8] 41)) a8 n8 Pq.2) := Lib.hid ⟨hS9, by have := hS9.len; omega, fun b off e he h0 => n11 b (hnw b off e he) (by
                          obtain ⟨b', off', e', hlt', -⟩ := hS9.2.2 h0
                          rw [he] at e'; cases e'; exact hlt')⟩
                        have HXX := Lib.hid (And.intro hX (n11 _ b8.size hX.lt))
                        have HT11 := Lib.hid T11
                        have HS11 := Lib.hid ((HST.out.keep k11).mono m11)
                        clear hS8 b8 hnw b9 hX hS9 T11 m11 n11 k11 HRD HT HST
                        go_upto_region 39 with (fail)
                        generalize hGen : w10.alloc (.cells #[.int .i64 Pq.1, .slice a8 n8 c8] 41) = X at HSM HXX HT11 HS11 ⊢
                        clear hGen
                        have x0 := HXX.out.1.cell 0
                        have x1 := HXX.out.1.cell 1
                        simp only [List.getElem?_toArray, List.getElem?_cons_zero, List.getElem?_cons_succ] at x0 x1
                        obtain ⟨ra, rm, rc, y0, y1, rs1, -, -⟩ := HT11.out.r1.get hq
                        rw [if_neg (Nat.lt_irrefl q)] at y0 rs1
                        obtain ⟨ta, tm, tc, z0, z1, ts1, -, -⟩ := HT11.out.r2.get hq
                        have kx0 := cell_regrown x0
                        have kx1 := cell_regrown x1
                        have ky0 := cell_regrown y0
                        have ky1 := cell_regrown y1
                        have kz0 := cell_regrown z0
                        have kz1 := cell_regrown z1
                        by_cases hPs : Pq = sure q
                        · have cA := same_call (c1 := c8) (c2 := rc) true HSM.out.1 rs1.1 HSM.out.2.1 (by simp [hPs])
                          clear hPs x0 x1 y0 y1 z0 z1 rs1 ts1 hor2
                          refine wp_region_quiet_below (by kernel_rfl) (by kernel_rfl) ?_
                          repeat (go_big_quiet_step ((with_reducible exact cA _ _)))
                          refine wpQuiet_nil ?_
                          intro _ hw'
                          obtain ⟨⟨dq, osq⟩, hw''⟩ := hw'
                          subst hw''
                          have b1 := below_regrown X dq osq
                          generalize grow (redrawn X dq) osq = W1 at b1 ⊢
                          obtain ⟨M12, T12, m12, -, k12⟩ := HT11.out.more b1
                          have hBX := k12.blk HXX.out.1 HXX.out.2.1
                          have HSM2 := (HSM.out.keep (k12.mono (fun k hk => hk.1))).mono (DD.mono m12)
                          obtain ⟨va, vm, vc, v0, v1, -, v2, v3⟩ := T12.r1.get hq
                          obtain ⟨va2, vm2, vc2, v4, v5⟩ := T12.r1.get2 hq (.int .i64 Pq.1)
                          have u0 := hBX.cell 0
                          have u1 := hBX.cell 1
                          simp only [List.getElem?_toArray, List.getElem?_cons_zero, List.getElem?_cons_succ] at u0 u1
                          have HT13 := Lib.hid (T12.put1 hq (l := Pq.1) (a := a8) (m := n8) (c := c8) (z := Pq.2) HSM2)
                          rw [HPN.out] at HT13
                          have HS13 := Lib.hid (((HS11.out.keep k12).mono m12).set2 (sto_ne ((HS11.out.keep k12).mono m12) T12.r1) (q * 2) (q * 2 + 1) (.int .i64 Pq.1) (.slice a8 n8 c8))
                          clear hBX HSM2 T12 m12 k12 b1 kx0 kx1 ky0 ky1 kz0 kz1
                          go_wp2
                          go_roundw
                          case rel => exact ⟨q + 1, M12, by omega, by go_num, HT13, HS13⟩
                          case measure => simp [intOf]; omega
                        · have cA := same_call (c1 := c8) (c2 := rc) false HSM.out.1 rs1.1 HSM.out.2.1 (by simp [hPs])
                          have hPn : Pq = nx q := hor2.resolve_left hPs
                          have cB := same_call (c1 := c8) (c2 := tc) true HSM.out.1 ts1.1 HSM.out.2.1 (by simp [hPn])
                          clear hPs hPn x0 x1 y0 y1 z0 z1 rs1 ts1 hor2
                          refine wp_region_quiet_below (by kernel_rfl) (by kernel_rfl) ?_
                          repeat (go_big_quiet_step ((first | with_reducible exact cA _ _ | with_reducible exact cB _ _)))
                          refine wpQuiet_nil ?_
                          intro _ hw'
                          obtain ⟨⟨dq, osq⟩, hw''⟩ := hw'
                          subst hw''
                          have b1 := below_regrown X dq osq
                          generalize grow (redrawn X dq) osq = W1 at b1 ⊢
                          obtain ⟨M12, T12, m12, -, k12⟩ := HT11.out.more b1
                          have hBX := k12.blk HXX.out.1 HXX.out.2.1
                          have HSM2 := (HSM.out.keep (k12.mono (fun k hk => hk.1))).mono (DD.mono m12)
                          obtain ⟨va, vm, vc, v0, v1, -, v2, v3⟩ := T12.r1.get hq
                          obtain ⟨va2, vm2, vc2, v4, v5⟩ := T12.r1.get2 hq (.int .i64 Pq.1)
                          have u0 := hBX.cell 0
                          have u1 := hBX.cell 1
                          simp only [List.getElem?_toArray, List.getElem?_cons_zero, List.getElem?_cons_succ] at u0 u1
                          have HT13 := Lib.hid (T12.put1 hq (l := Pq.1) (a := a8) (m := n8) (c := c8) (z := Pq.2) HSM2)
                          rw [HPN.out] at HT13
                          have HS13 := Lib.hid (((HS11.out.keep k12).mono m12).set2 (sto_ne ((HS11.out.keep k12).mono m12) T12.r1) (q * 2) (q * 2 + 1) (.int .i64 Pq.1) (.slice a8 n8 c8))
                          clear hBX HSM2 T12 m12 k12 b1 kx0 kx1 ky0 ky1 kz0 kz1
                          go_wp2
                          go_roundw
                          case rel => exact ⟨q + 1, M12, by omega, by go_num, HT13, HS13⟩
                          case measure => simp [intOf]; omega
                      · obtain rfl : q = 5 := by omega
                        have HN9 : Hid (PwI w wr p s2 gx M' P T2 (i + 1) #[.slice pa pn pc, .slice qa qn qc]) := Lib.hid ⟨HT.out.pw, HST.out, (HT.out.r1.congr (fun k hk => if_pos hk)).mono (fun k hk => ⟨hk.1, hk.2.1⟩) (fun hk => hk.2 rfl), HT.out.m1, HT.out.b1, by have := HPD.out.inv (fun n hn => (HP5.out n hn).2); rwa [show ((i : Int) + 1) = ((i + 1 : Nat) : Int) by omega] at this, HF2.out, HC2.out, HT.out.box, HT.out.mb⟩
                        clear HT HST
                        go_wp2
                        go_roundw
                        case rel => exact ⟨i + 1, s2, gx, cap, L2, M', P, T2, 0, by omega, by omega, by go_num, rfl, rfl, rfl, rfl, hL2, HN9⟩
                        case measure => simp [intOf]; omega
    · have hor : (i < n ∧ ¬ (i : Int) < 30) ∨ ¬ i < n := by omega
      obtain ⟨bo1, bo2, bo3⟩ := back_on HI.out.inv.cal.N HI.out.inv.cr (by rw [HI.out.inv.cal.q]; exact wait_nil _ _ _ _) []
      have HOF := Lib.hid (pq_off wr p M S HI.out.pw.pq (by have := HI.out.calm.life; omega))
      have hcl : Calm (onS (offS S) []) (900000 - 1000 * i - 1) := ((HI.out.calm.mono (show (900000 - 1000 * i - 1) + 1 ≤ _ by omega)).off).on []
      have hfl := (HI.out.full.off).on []
      have hon := fun W (hp : PQ W p M (offS S)) => pq_on W p M (offS S) none 0 0 [] hp (by have := HI.out.calm.q; show S.q.length ≤ _; omega) (Ints.nil W none) (by decide) (fun b off e => by cases e)
      generalize onS (offS S) [] = S9 at bo1 bo2 bo3 hcl hfl hon
      have ho := open_on bo1 bo3 bo2
      have hop := fun W (hp : PQ W p M S9) => open_any (C := CF) (S := S9) W M hp cf_small (by decide) (by decide) (by show 0 + 3 + 5 ≤ S9.N; rw [bo1.N]; decide) (by rw [bo1.N]; decide) bo1.off hfl (hcl.mono (by show 2 * 5 + 2 ≤ _; omega))
      have hcl2 : Calm (openR CF S9).2 (900000 - 1000 * (i + 1)) := Calm.open' (hcl.mono (by show _ + 5 + 1 ≤ _; omega))
      have hfl2 := hfl.open' (C := CF)
      generalize openR CF S9 = O at ho hop hcl2 hfl2
      obtain ⟨oe, T2⟩ := O
      simp only at ho hcl2 hfl2
      obtain ⟨rfl, hopd⟩ := ho
      have HPS : Hid (∀ q, q < 5 → HasP q (sure q) (T2.sec (3 + q))) := Lib.hid fun q hq => by
        obtain ⟨P, hP, hh⟩ := hopd.look q hq
        rcases hP with rfl | rfl <;> exact hh
      have HON := Lib.hid hon
      have HOP := Lib.hid hop
      have HC2 := Lib.hid hcl2
      have HF2 := Lib.hid hfl2
      have HPD := Lib.hid hopd
      clear hon hop hcl hfl hcl2 hfl2 hopd bo1 bo2 bo3 hgo g_0 g_1
      rcases hor with ⟨hlt, hl3⟩ | hlt
      all_goals
        go_wp2_with fail
        refine HOF.out.mono ?_
        rintro e w9 ⟨rfl, hp9, hk9⟩
        have HON9 := Lib.hid (HON.out w9 hp9)
        go_wp2_with fail
        refine HON9.out.mono ?_
        rintro e w10 ⟨rfl, hp10, hk10⟩
        have HOP10 := Lib.hid (HOP.out w10 hp10)
        have HK10 := Lib.hid (hk9.trans hk10)
        clear hp9 hk9 hp10 hk10 HON9 HOF HON HOP
        go_wp2_with fail
        refine HOP10.out.mono ?_
        rintro e w11 ⟨s2, M11, rfl, hp11, hk11, hm11, hs11⟩
        have HKK := Lib.hid (HK10.out.trans hk11)
        have HN11 : Hid (PwI w w11 p s2 gx M11 sure T2 (i + 1) #[.slice pa pn pc, .slice qa qn qc]) := Lib.hid ⟨⟨hp11, HI.out.pw.bel.trans (HKK.out.below HI.out.pw.mb), fun k hk => hm11 k (HI.out.pw.mb k hk)⟩, by rw [HPD.out.life]; exact hs11, (HI.out.row.keep HKK.out (fun k hk => hk.1) HI.out.mg).mono (fun k hk => ⟨hm11 k hk.1, hk.2⟩) (fun hk => hk.2 rfl), hm11 _ HI.out.mg, HI.out.bg, by have := HPD.out.inv HPS.out; rwa [show ((i : Int) + 1) = ((i + 1 : Nat) : Int) by omega] at this, HF2.out, HC2.out, HKK.out.blk HI.out.box HI.out.mb, hm11 _ HI.out.mb⟩
        clear hp11 hk11 hm11 hs11 HOP10 HK10 HKK
        go_wp2_with fail
        go_loopw [17] (fun nv wr4 => ∃ (q : Nat) (M' : Nat → Prop), q ≤ 5 ∧ nv = .int .i64 (q : Int) ∧ Hid (PwI w wr4 p s2 gx M' sure T2 (i + 1) #[.slice pa pn pc, .slice qa qn qc])) (fun nv _ => 5 - (intOf nv).toNat)
        case atStart => exact ⟨0, M11, Nat.zero_le _, rfl, HN11⟩
        case round =>
          obtain ⟨q, M', hq5, rfl, HX⟩ := hrel
          by_cases hq : q < 5
          · have hlk := look_has HPD.out.cal hq (HPS.out q hq)
            have hrd := readp_any wr M' s2 T2.life q HX.out.sto HX.out.pw.pq cf_small hq (by rw [HPD.out.cal.q]; exact Nat.zero_le _) HF2.out rfl
            rw [hlk] at hrd
            have hln := has_len (HPS.out q hq)
            obtain ⟨Pq, hPq⟩ : ∃ Pq, Pq = sure q := ⟨_, rfl⟩
            rw [← hPq] at hrd hln
            have HRD := Lib.hid hrd
            have HPQ := Lib.hid hPq
            clear hlk hrd hPq
            go_wp2_with fail
            refine HRD.out.mono ?_
            rintro e w12 ⟨a8, n8, c8, rfl, hS8, b8, -⟩
            have b9 := b8.alloc b8.size (.cells #[.int .i64 Pq.1, .slice a8 n8 c8] 41)
            have hX := Blk.new w12 41 #[.int .i64 Pq.1, .slice a8 n8 c8]
            have hS9 := hS8.below (show Below w12.heap.size w12 (w12.alloc (.cells #[.int .i64 Pq.1, .slice a8 n8 c8] 41)) from (Below.refl _ _).alloc (Nat.le_refl _) _)
            obtain ⟨M13, X13, -, -, -⟩ := HX.out.more b9
            have hn8 : n8 ≤ 1000000 := by have := hS9.len; omega
            have HX13 := Lib.hid X13
            have HS9 := Lib.hid hS9
            have HXX := Lib.hid hX
            clear hS8 b8 b9 hX hS9 X13 HRD HX
            go_upto_region 49 with (fail)
            generalize hGen : w12.alloc (.cells #[.int .i64 Pq.1, .slice a8 n8 c8] 41) = X at HX13 HS9 HXX ⊢
            clear hGen
            have x0 := HXX.out.cell 0
            have x1 := HXX.out.cell 1
            simp only [List.getElem?_toArray, List.getElem?_cons_zero, List.getElem?_cons_succ] at x0 x1
            obtain ⟨ra, rm, rc, y0, y1, rs1, -, -⟩ := HX13.out.row.get hq
            have kx0 := cell_regrown x0
            have kx1 := cell_regrown x1
            have ky0 := cell_regrown y0
            have ky1 := cell_regrown y1
            have cA := same_call (c1 := c8) (c2 := rc) true HS9.out rs1.1 hn8 (by simp [HPQ.out])
            clear x0 x1 y0 y1 rs1
            refine wp_region_quiet_below (by kernel_rfl) (by kernel_rfl) ?_
            repeat (go_big_quiet_step ((with_reducible exact cA _ _)))
            refine wpQuiet_nil ?_
            intro _ hw'
            obtain ⟨⟨dq, osq⟩, hw''⟩ := hw'
            subst hw''
            have b1 := below_regrown X dq osq
            generalize grow (redrawn X dq) osq = W1 at b1 ⊢
            obtain ⟨M14, X14, -, -, -⟩ := HX13.out.more b1
            have HX14 := Lib.hid X14
            clear X14 b1 cA kx0 kx1 ky0 ky1
            go_wp2
            go_roundw
            case rel => exact ⟨q + 1, M14, by omega, by go_num, HX14⟩
            case measure => simp [intOf]; omega
          · obtain rfl : q = 5 := by omega
            go_wp2
            go_ret
            exact ⟨rfl, HX.out.pw.bel⟩
end Go.Proofs.YtnnppdjgmjgjhaaDoor.Twin
