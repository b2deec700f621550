/- The walk of the statement RingGoes. -/
import Derived.Test.YtdpaeffhddehaaaRingGoes0
import Derived.Test.YtdpaeffhddehaaaRingRoomWalk
import Derived.Test.YtdpaeffhddehaaaRingIIter
import Derived.Lib.QuietBelow
namespace Go.Proofs.Ytdpaeffhddehaaa.RingI
set_option maxRecDepth 100000
open Go.RowKit Go.Shelf Go.Sort
open Go.Proofs.Ytdpaeffhddehaaa.Mem
open Go.Proofs.Ytdpaeffhddehaaa.Ring
attribute [local go_sem] Oper.semAt_some

theorem run_equalIn_func (d : Nat) (fn : Fn) (x y : Array Value) (w : World) : (Op.equalIn (d + 1) 61 (.func fn x y) .nilFunc).run Try.prog w = .ok false w := by
  have hu := Try.underlying61
  simp [Op.equalIn, run_underlying hu]
theorem run_func_nil (fn : Fn) (x y : Array Value) (w : World) : (binOp .eql 61 (.func fn x y) .nilFunc).run Try.prog w = .ok (.bool false) w := by
  simp only [binOp]
  simp [Op.equal, Op.maxDepth, run_equalIn_func 9999 fn x y w]
/-- what a round of the going knows -/
structure GI (w0 W : World) (p fb : Nat) (ad : Nat → Nat) (gS gR gN B : Nat) (S : RState) (st : Int) (n : Int) : Prop where
  ra : RA W p fb ad (fun k => k < w0.heap.size ∨ k = gS ∨ k = gR ∨ k = gN) S
  bs : Blk W gS 3 #[.int .i64 st]
  br : Blk W gR 54 #[.pointer (some ⟨p, 0, none⟩)]
  bn : Blk W gN 3 #[.int .i64 n]
  bel : Below w0.heap.size w0 W
  pb : p < B
  fbb : fb < B
  adb : ∀ i t, i < S.N → S.f i = some t → ad i < B
section
variable {w0 W W' : World} {p fb gS gR gN B : Nat} {ad : Nat → Nat} {S : RState} {st n : Int}
theorem GI.grows {row : Option Nat} (h : GI w0 W p fb ad gS gR gN B S st n) (hB : w0.heap.size ≤ B) (hg : W.grownBy W' row) (hr : ∀ r, row = some r → B ≤ r ∧ ∃ o : Obj, W.heap[r]? = some o ∧ o.isCells = false) : GI w0 W' p fb ad gS gR gN B S st n :=
  ⟨h.ra.grows2 hg (fun r e => (hr r e).2), blk_grows h.bs hg (fun r e => (hr r e).2), blk_grows h.br hg (fun r e => (hr r e).2), blk_grows h.bn hg (fun r e => (hr r e).2), h.bel.grown hg h.bel.size (fun k e => Nat.le_trans hB (hr k e).1), h.pb, h.fbb, h.adb⟩
end
theorem RA.set_ {w : World} {p fb b : Nat} {ad : Nat → Nat} {M : Nat → Prop} {S : RState} (h : RA w p fb ad M S) (hb : M b) (i : Nat) (v : Value) : RA (w.setCell ⟨b, i, none⟩ v) p fb ad M S :=
  h.step (by simp) (fun k _ hk => Below.heap_setCell w ⟨b, i, none⟩ v k (fun e => hk ((show k = b from e) ▸ hb))) (fun k hk => .inl hk)
/-- a thing taken out, and one counted -/
theorem GI.next {w0 W W1 : World} {p fb gS gR gN B : Nat} {ad : Nat → Nat} {S : RState} {st n m : Int} {k : Int} (h : GI w0 W p fb ad gS gR gN B S st n) (r : RA W1 p fb ad (Others W p fb ad S) (delR (0 : Int) S k).2.2) (kp : Keep (Others W p fb ad S) W W1) (h1 : gS ≠ gN) (h2 : gR ≠ gN) (h3 : w0.heap.size ≤ gN) :
    GI w0 (W1.setCell ⟨gN, 0, none⟩ (.int .i64 m)) p fb ad gS gR gN B (delR (0 : Int) S k).2.2 st m := by
  obtain ⟨e1, e2⟩ := del_N (0 : Int) S k
  refine ⟨(r.less (fun k hk => h.ra.sub hk)).set_ (.inr (.inr (.inr rfl))) 0 _, (kp.blk h.bs (h.ra.sub (.inr (.inl rfl)))).far (p := ⟨gN, 0, none⟩) h1 _, (kp.blk h.br (h.ra.sub (.inr (.inr (.inl rfl))))).far (p := ⟨gN, 0, none⟩) h2 _, ?_, (h.bel.trans (kp.below (fun k hk => h.ra.sub (.inl hk)))).setCell (p := ⟨gN, 0, none⟩) h3 _, h.pb, h.fbb, fun i t hi ht => h.adb i t (by rw [← e1]; exact hi) (e2 i t ht)⟩
  have := (kp.blk h.bn (h.ra.sub (.inr (.inr (.inr rfl))))).set_ 0 (.int .i64 m)
  simpa using this
theorem callsIn_del {p fb : Nat} {ad : Nat → Nat} {M : Nat → Prop} {S : RState} (k : Int) (w : World) (h : RA w p fb ad M S) : Calls Try.prog 29 #[.pointer (some ⟨p, 0, none⟩), .int .i64 k] w fun e w' => (∃ v b, e = .returned (.tuple #[.int .i64 v, .bool b])) ∧ RA w' p fb ad (Others w p fb ad S) (delR (0 : Int) S k).2.2 ∧ Keep (Others w p fb ad S) w w' :=
  (del_ra k w h.most).mono (fun _ _ h => ⟨⟨_, _, h.1⟩, h.2⟩)
set_option maxHeartbeats 8000000 in
theorem goes_walk (a : Option Addr) (n c : Nat) (zs : List Int) (st : Int) (w : World) (hI : Ints w a n zs) (_hn : n ≤ maxLen) (_hs : -9223372036854775808 ≤ st ∧ st ≤ 9223372036854775807) :
    Calls Try.prog 5 #[.slice a n c, .int .i64 st] w fun e w' => e = .returned (.bool true) ∧ Below w.heap.size w w' := by
  have HI := Lib.hid hI
  have hmq := run_func_nil
  unfold maxLen at _hn
  clear hI
  refine (callsIn_wide (n := 6)).1 ?_
  refine callsIn_of_wp_marks Try.func5 rfl trivial ?_ rfl
  refine wpIn_wide.2 ?_
  simp only [Try.ntmps5, List.size_toArray, List.length_cons, List.length_nil, Nat.reduceAdd, Nat.reduceSub, Array.replicate_succ, Array.replicate_zero, List.push_toArray, List.append_toArray, List.nil_append, List.cons_append]
  have hS := Blk.new w 3 #[.int .i64 st]
  have hb0 := (Below.refl w.heap.size w).alloc (Nat.le_refl _) (.cells #[.int .i64 st] 3)
  go_wp2_with fail
  generalize hGen : w.alloc (.cells #[.int .i64 st] 3) = W0 at hS hb0 ⊢
  clear hGen
  refine (RingS.awake_any W0).mono ?_
  rintro e w1 ⟨rfl, b1⟩
  have hS1 := hS.below b1 hS.lt
  have hb1 := hb0.trans (b1.mono hb0.size)
  clear hS hb0 b1
  go_wp2_with fail
  refine (new_any w1 64 (by omega)).mono ?_
  rintro e w2 ⟨p, rfl, r1, b2, hp⟩
  rw [show clampN 64 = 64 from rfl] at r1
  have hS2 := (hS1.below b2 hS1.lt).alloc (.cells #[.pointer (some ⟨p, 0, none⟩)] 54)
  have hb2 := (hb1.trans (b2.mono hb1.size)).alloc (Nat.le_trans hb1.size b2.size) (.cells #[.pointer (some ⟨p, 0, none⟩)] 54)
  have hR2 := Blk.new w2 54 #[.pointer (some ⟨p, 0, none⟩)]
  have r2 := ((r1.mono (fun k (hk : k < w.heap.size ∨ k = w.heap.size) => show k < w1.heap.size by have := hS1.lt; omega)).alloc (.cells #[.pointer (some ⟨p, 0, none⟩)] 54))
  have hgS := hS1.lt
  have hW2w := Nat.lt_of_lt_of_le hS1.lt b2.size
  clear hS1 r1 b2 hb1
  go_wp2
  generalize hGen : w2.alloc (.cells #[.pointer (some ⟨p, 0, none⟩)] 54) = W2 at hS2 hb2 hR2 r2 ⊢
  clear hGen
  have hrw : w2.heap.size ≠ w.heap.size := by have := hW2w; omega
  generalize w2.heap.size = gR at hR2 r2 hrw ⊢
  have HRW := Lib.hid hrw
  clear hrw hW2w
  have K0 : Hid (∃ S, RQ W2 p (fun k => (k < w.heap.size ∨ k = w.heap.size) ∨ k = gR) S ∧ Uniq S ∧ S.N = 64) := ⟨_, r2, fun i j t u _ _ h => (by cases h), rfl⟩
  have HS2 := Lib.hid hS2
  have HR2 := Lib.hid hR2
  have HB2 := Lib.hid hb2
  clear hS2 hR2 hb2 r2
  go_loopw [6] (fun i wr => ∃ k : Nat, k ≤ 64 ∧ k ≤ n ∧ i = .int .i64 (k : Int) ∧ Hid (∃ S, RQ wr p (fun k => (k < w.heap.size ∨ k = w.heap.size) ∨ k = gR) S ∧ Uniq S ∧ S.N = 64) ∧ Hid (Blk wr w.heap.size 3 #[.int .i64 st]) ∧ Hid (Blk wr gR 54 #[.pointer (some ⟨p, 0, none⟩)]) ∧ Hid (Below w.heap.size w wr)) (fun i _ => 64 - (intOf i).toNat)
  case atStart => exact ⟨0, Nat.zero_le _, Nat.zero_le _, rfl, K0, HS2, HR2, HB2⟩
  case round =>
    obtain ⟨m, hm, hmn, rfl, HK, HS, HR, HB⟩ := hrel
    clear K0 HS2 HR2 HB2
    rcases (show (m < n ∧ m < 64) ∨ (m < n ∧ m = 64) ∨ m = n by omega) with ⟨hlt, hlt2⟩ | ⟨hlt, h⟩ | h
    · obtain ⟨S, r, hu, hN⟩ := HK.out
      obtain ⟨b, off, z, rfl, -, hz, hc, z1, z2⟩ := (HI.out.below HB.out).at_ hlt
      have c0 := HR.out.cell 0
      have r0 := r.drewN 1
      have HRQ := Lib.hid r0
      have hU2 := uniq_put (0 : Int) r.wf hu z (m : Int)
      have HU2 := Lib.hid hU2
      have HN := Lib.hid hN
      clear r r0 hu hN hz hU2 HK
      go_upto_region 7 with (fail)
      go_still_tail 6, (by kernel_rfl)
      change wpList _ _ _ _ _ wr.drew
      have c0' : wr.drew.cell? ⟨gR, 0, none⟩ = some (.pointer (some ⟨p, 0, none⟩)) := c0
      have hc' : wr.drew.cell? ⟨b, off + m, none⟩ = some (.int .i64 z) := hc
      have HS' : Hid (Blk wr.drew w.heap.size 3 #[.int .i64 st]) := HS
      have HR' : Hid (Blk wr.drew gR 54 #[.pointer (some ⟨p, 0, none⟩)]) := HR
      have HB' : Hid (Below w.heap.size w wr.drew) := below_draw HB.out 1
      have HRQ' : Hid (RQ wr.drew p (fun k => (k < w.heap.size ∨ k = w.heap.size) ∨ k = gR) S) := HRQ
      clear c0 hc HS HR HB HRQ
      generalize hGen : wr.drew = W3 at c0' hc' HS' HR' HB' HRQ' ⊢
      clear hGen
      go_wp2_with fail
      refine (put_any z (m : Int) W3 HRQ'.out).mono ?_
      rintro e w4 ⟨rfl, r4, k4⟩
      have HK4 : Hid (∃ S, RQ w4 p (fun k => (k < w.heap.size ∨ k = w.heap.size) ∨ k = gR) S ∧ Uniq S ∧ S.N = 64) := ⟨_, r4, HU2.out.1, HU2.out.2.trans HN.out⟩
      have HS4 := Lib.hid (k4.blk HS'.out (.inl (.inr rfl)))
      have HR4 := Lib.hid (k4.blk HR'.out (.inr rfl))
      have HB4 := Lib.hid (HB'.out.trans (k4.below (fun k h => .inl (.inl h))))
      clear r4 k4 HU2 HN HS' HR' HB' HRQ' c0' hc'
      go_wp2
      go_roundw
      case rel => exact ⟨m + 1, by omega, by omega, by go_num, HK4, HS4, HR4, HB4⟩
      case measure => simp [intOf]; omega
    all_goals
      first | (have h9 : ¬ m < n := by omega) | (have h9 : ¬ m < 64 := by omega)
      clear h
      have c0 := HR.out.cell 0
      obtain ⟨S, r, hu, hN⟩ := HK.out
      obtain ⟨fb, ad, ra⟩ := r
      have HU := Lib.hid hu
      have RA0 := Lib.hid ra
      clear HK hu hN
      go_wp2_with fail
      refine (len_any wr ra).mono ?_
      rintro e w5 ⟨rfl, b5⟩
      have RA5 := Lib.hid (RA0.out.below b5)
      have HS5 := Lib.hid (HS.out.below b5 HS.out.lt)
      have HR5 := Lib.hid (HR.out.below b5 HR.out.lt)
      have HB5 := Lib.hid (HB.out.trans (b5.mono HB.out.size))
      have hL64 : (thingsR S).length ≤ 64 := Nat.le_trans (thingsF_len S.f S.N) ra.wf.n2
      clear c0 ra RA0 HS HR HB b5
      have c0 := HR5.out.cell 0
      go_wp2_with fail
      refine (all_any w5 p).mono ?_
      rintro e w6 ⟨Bs, rfl, hBs, -, b6⟩
      have RA6 := Lib.hid ((RA5.out.below b6).box (.cells #[.int .i64 0] 3))
      have HS6 := Lib.hid ((HS5.out.below b6 HS5.out.lt).alloc (.cells #[.int .i64 0] 3))
      have HR6 := Lib.hid ((HR5.out.below b6 HR5.out.lt).alloc (.cells #[.int .i64 0] 3))
      have HN6 := Lib.hid (Blk.new w6 3 #[.int .i64 0])
      have HB6 := Lib.hid ((HB5.out.trans (b6.mono HB5.out.size)).alloc (Nat.le_trans HB5.out.size b6.size) (.cells #[.int .i64 0] 3))
      have HBs := Lib.hid (hBs.alloc (.cells #[.int .i64 0] 3))
      have hgN1 : w.heap.size < w6.heap.size := Nat.lt_of_lt_of_le HS5.out.lt b6.size
      have hgRw : gR ≠ w.heap.size := HRW.out
      have hgN2 : gR < w6.heap.size := Nat.lt_of_lt_of_le HR5.out.lt b6.size
      clear c0 RA5 HS5 HR5 HB5 hBs b6
      go_wp2
      generalize hGen : w6.alloc (.cells #[.int .i64 0] 3) = V at RA6 HS6 HR6 HN6 HB6 HBs ⊢
      clear hGen
      generalize w6.heap.size = gN at *
      have h1 : w.heap.size ≠ gN := by omega
      have h2 : gR ≠ gN := by omega
      have hgB := HN6.out.lt
      obtain ⟨cs, hrow, -, -⟩ := RA6.out.row
      have hG0 : GI w V p fb ad w.heap.size gR gN V.heap.size S st 0 :=
        ⟨RA6.out.less (fun k hk => by omega), HS6.out, HR6.out, HN6.out, HB6.out, RA6.out.blk.lt, hrow.lt, fun i t hi ht => (RA6.out.th i t hi ht).lt⟩
      have hVw : w.heap.size ≤ V.heap.size := HB6.out.size
      clear hrow
      refine (wpIn_wide (n := 6)).1 ?_
      apply wpIn_rangeFunc_ownF (F := Fence.wide) (n := 6) rfl (by omega) (gf := 51) (lb := #[.pointer (some ⟨Bs, 0, none⟩)]) rfl trivial (enters_of Try.func51 (by kernel_rfl) rfl)
        (all_stops 5 (by omega) Bs V.heap.size V hG0.ra (Nat.le_refl _) (HBs.out.cell 0))
        (fun h k => keepC_t h k) (fun W l o o' _ h ho _ => keepC_b W l o o' h ho) (Below.refl _ _) (fun _ => rfl)
        (fun pre W => GI w W p fb ad w.heap.size gR gN V.heap.size (delAll (0 : Int) S pre) st (pre.length : Int) ∧ (st < 1 ∨ (pre.length : Int) < st))
        (fun c pre W => c = .exit 2 ∧ GI w W p fb ad w.heap.size gR gN V.heap.size (delAll (0 : Int) S pre) st (pre.length : Int) ∧ (pre.length : Int) = st ∧ 0 < pre.length)
        (fun pre W W' row h hg hr => ⟨h.1.grows hVw hg hr, h.2⟩)
        (fun c pre W W' row h hg hr => ⟨h.1, h.2.1.grows hVw hg hr, h.2.2⟩)
        ⟨hG0, by simp; omega⟩
      case hassign =>
        intro l x W K hK
        dsimp only [encT]
        gi_wp2
        exact hK
      case hbody =>
        rintro l pre x W ⟨hG, hst⟩ hlt
        have c0 := hG.br.cell 0
        have HD := Lib.hid (callsIn_del x.key W hG.ra)
        have HG := Lib.hid hG
        have hpl : pre.length ≤ 64 := by omega
        have HPL := Lib.hid (show (pre ++ [x]).length = pre.length + 1 by simp)
        have HDA := Lib.hid (delAll_snoc (0 : Int) S pre x)
        clear hG
        gi_wp2_with fail
        refine ⟨trivial, (CallsIn.inRound l (callsIn_wide.2 HD.out)).mono ?_⟩
        rintro e W1 ⟨⟨v, b, rfl⟩, r1, k1⟩
        have hG2 := HG.out.next (m := (pre.length : Int) + 1) r1 k1 h1 h2 (by omega)
        have HKO := Lib.hid ((others_keeps HG.out.ra k1).trans (KeepsOthers.setCell W1 ⟨gN, 0, none⟩ (.int .i64 ((pre.length : Int) + 1))))
        have HKC := Lib.hid (keepC_t (others_keepC k1 HG.out.pb HG.out.fbb HG.out.adb) (keepC_set W1 hgB 0 (.int .i64 ((pre.length : Int) + 1))))
        have bn1 := k1.blk HG.out.bn (HG.out.ra.sub (.inr (.inr (.inr rfl))))
        have bs1 := k1.blk HG.out.bs (HG.out.ra.sub (.inr (.inl rfl)))
        have n0 := bn1.cell 0
        have nf := bn1.frozen 0
        have s0 := bs1.cell 0
        have HG2 := Lib.hid hG2
        clear hG2 r1 k1 bn1 bs1 HD HG c0
        by_cases he : (pre.length : Int) + 1 = st
        · subst he
          gi_wp2
          exact ⟨HKO.out, rfl, by rw [HDA.out, HPL.out]; exact HG2.out, by rw [HPL.out]; omega, by rw [HPL.out]; omega⟩
        · have he2 : (((pre.length : Int) + 1) == st) = false := by rw [beq_eq_false_iff_ne]; exact he
          gi_wp2
          exact ⟨HKO.out, HKC.out, by rw [HDA.out, HPL.out]; exact HG2.out, by rw [HPL.out]; omega⟩
      case hdone =>
        rintro D ys W hD rfl ⟨hG, hst⟩ hK
        have hlen : (thingsR (delAll (0 : Int) S (thingsR S))).length = 0 := by
          have := del_take (0 : Int) HU.out (Nat.le_refl (thingsR S).length)
          rw [List.take_length] at this
          omega
        have hwD : w.heap.size ≤ D := Nat.le_trans hVw hD
        generalize delAll (0 : Int) S (thingsR S) = S3 at hG hlen
        have HLEN := Lib.hid hlen
        have HG := Lib.hid hG
        have HK := Lib.hid hK
        obtain ⟨m, hm9⟩ : ∃ m, m = (thingsR S).length := ⟨_, rfl⟩
        rw [← hm9] at HG hst hL64 ⊢
        have s0 := HG.out.bs.cell 0
        have sf := HG.out.bs.frozen 0
        have heq : (((0 : Nat) : Int) == (m : Int) - (m : Int)) = true := by rw [beq_iff_eq]; omega
        have hgRS : gR ≠ w.heap.size := hgRw
        clear hG hlen hK hG0 hm9 HBs HN6 HB6 HR6 HS6 RA6 HU
        by_cases hs1 : st < 1
        · go_wp2_with fail
          go_upto_region 20 with (fail)
          have RX := Lib.hid (HG.out.ra.set_ (.inr (.inl rfl)) 0 (.int .i64 (m : Int)))
          have SX : Hid (Blk (W.setCell ⟨w.heap.size, 0, none⟩ (.int .i64 (m : Int))) w.heap.size 3 #[.int .i64 (m : Int)]) := by have := HG.out.bs.set_ 0 (.int .i64 (m : Int)); simp only [List.setIfInBounds_toArray, List.set_cons_zero] at this; exact this
          have NX := Lib.hid (HG.out.bn.far (p := ⟨w.heap.size, 0, none⟩) (fun e => h1 e.symm) (.int .i64 (m : Int)))
          have PX := Lib.hid (HG.out.br.far (p := ⟨w.heap.size, 0, none⟩) (show gR ≠ w.heap.size by omega) (.int .i64 (m : Int)))
          have BX := Lib.hid (HG.out.bel.setCell (p := ⟨w.heap.size, 0, none⟩) (Nat.le_refl _) (.int .i64 (m : Int)))
          have HKX := Lib.hid ((KeepsOthers.setCell W ⟨w.heap.size, 0, none⟩ (.int .i64 (m : Int))).same D _ HK.out rfl)
          clear HG HK s0 sf
          generalize hGen : W.setCell ⟨w.heap.size, 0, none⟩ (.int .i64 (m : Int)) = X at RX SX NX PX BX HKX ⊢
          clear hGen
          go_wp2_with fail
          refine (put_nil 1 1 X).mono ?_
          rintro e x1 ⟨rfl, b1⟩
          have b2 := b1.alloc b1.size (.cells #[.int .i64 0, .int .i64 0, .bool false] 57)
          clear b1
          go_wp2_with fail
          generalize hGen : x1.alloc (.cells #[.int .i64 0, .int .i64 0, .bool false] 57) = x2 at b2 ⊢
          clear hGen
          refine (get_nil 1 x2).mono ?_
          rintro e x3 ⟨rfl, b3⟩
          have b4 := b2.trans (b3.mono b2.size)
          clear b2 b3
          have hL := len_to x3 (show RQ x3 p _ S3 from ⟨fb, ad, RX.out.below b4⟩) HLEN.out
          have s0 := cell_regrown ((SX.out.below b4 SX.out.lt).cell 0)
          have n0 := cell_regrown ((NX.out.below b4 NX.out.lt).cell 0)
          have c0 := cell_regrown ((PX.out.below b4 PX.out.lt).cell 0)
          have cL := fun (d : Nat) (os : Array Obj) => Calls.regrown_of (len_to (grow (redrawn x3 d) os) (show RQ (grow (redrawn x3 d) os) p _ S3 from ⟨fb, ad, (RX.out.below b4).below (below_regrown x3 d os)⟩) HLEN.out)
          have cN := fun (d : Nat) (os : Array Obj) => Calls.regrown_of (len_nil (grow (redrawn x3 d) os))
          have cP := fun (d : Nat) (os : Array Obj) => Calls.regrown_of (pin_nil 1 (grow (redrawn x3 d) os))
          have cT := fun (d : Nat) (os : Array Obj) => Calls.regrown_of (let_nil 1 (grow (redrawn x3 d) os))
          have cS := fun (d : Nat) (os : Array Obj) => Calls.regrown_of (pins_nil 1 (grow (redrawn x3 d) os))
          have BX4 := Lib.hid (BX.out.trans (b4.mono BX.out.size))
          have HK4 := Lib.hid ((b4.block D (Array.getElem?_eq_some_iff.1 HKX.out).1).trans HKX.out)
          clear b4 hL RX SX NX PX BX HKX HLEN
          go_upto_region 23 with (fail)
          refine wp_region_quiet_below (by kernel_rfl) (by kernel_rfl) ?_
          repeat (go_big_quiet_step (first | (with_reducible exact cL _ _) | (with_reducible exact cN _ _) | (with_reducible exact cP _ _) | (with_reducible exact cT _ _) | (with_reducible exact cS _ _)))
          refine wpQuiet_nil ?_
          intro _ hw'
          obtain ⟨⟨dq, osq⟩, hw''⟩ := hw'
          subst hw''
          have b5 := below_regrown x3 dq osq
          generalize grow (redrawn x3 dq) osq = x4 at b5 ⊢
          have hK5 := (b5.block D (Array.getElem?_eq_some_iff.1 HK4.out).1).trans HK4.out
          have hb5 := BX4.out.trans (b5.mono BX4.out.size)
          have hbf := hb5.trans (belowK_b (w := w) (Nat.le_refl _) _ D _ (.deferred none) hwD hK5 rfl rfl)
          have HK5 := Lib.hid hK5
          have HBF := Lib.hid hbf
          clear hK5 hb5 hbf b5 HK4 BX4 cL cN cP cT cS s0 n0 c0
          go_wp2
          refine ⟨by simp, .inl ⟨_, _, rfl, run_takeDeferred HK5.out, ?_⟩⟩
          exact ⟨.bool true, by simp [results, Try.results5, go_sem], rfl, HBF.out⟩
        · have hs2 : (m : Int) < st := by omega
          go_wp2_with fail
          go_upto_region 20 with (fail)
          have RX := Lib.hid (HG.out.ra.set_ (.inr (.inl rfl)) 0 (.int .i64 (m : Int)))
          have SX : Hid (Blk (W.setCell ⟨w.heap.size, 0, none⟩ (.int .i64 (m : Int))) w.heap.size 3 #[.int .i64 (m : Int)]) := by have := HG.out.bs.set_ 0 (.int .i64 (m : Int)); simp only [List.setIfInBounds_toArray, List.set_cons_zero] at this; exact this
          have NX := Lib.hid (HG.out.bn.far (p := ⟨w.heap.size, 0, none⟩) (fun e => h1 e.symm) (.int .i64 (m : Int)))
          have PX := Lib.hid (HG.out.br.far (p := ⟨w.heap.size, 0, none⟩) (show gR ≠ w.heap.size by omega) (.int .i64 (m : Int)))
          have BX := Lib.hid (HG.out.bel.setCell (p := ⟨w.heap.size, 0, none⟩) (Nat.le_refl _) (.int .i64 (m : Int)))
          have HKX := Lib.hid ((KeepsOthers.setCell W ⟨w.heap.size, 0, none⟩ (.int .i64 (m : Int))).same D _ HK.out rfl)
          clear HG HK s0 sf
          generalize hGen : W.setCell ⟨w.heap.size, 0, none⟩ (.int .i64 (m : Int)) = X at RX SX NX PX BX HKX ⊢
          clear hGen
          go_wp2_with fail
          refine (put_nil 1 1 X).mono ?_
          rintro e x1 ⟨rfl, b1⟩
          have b2 := b1.alloc b1.size (.cells #[.int .i64 0, .int .i64 0, .bool false] 57)
          clear b1
          go_wp2_with fail
          generalize hGen : x1.alloc (.cells #[.int .i64 0, .int .i64 0, .bool false] 57) = x2 at b2 ⊢
          clear hGen
          refine (get_nil 1 x2).mono ?_
          rintro e x3 ⟨rfl, b3⟩
          have b4 := b2.trans (b3.mono b2.size)
          clear b2 b3
          have hL := len_to x3 (show RQ x3 p _ S3 from ⟨fb, ad, RX.out.below b4⟩) HLEN.out
          have s0 := cell_regrown ((SX.out.below b4 SX.out.lt).cell 0)
          have n0 := cell_regrown ((NX.out.below b4 NX.out.lt).cell 0)
          have c0 := cell_regrown ((PX.out.below b4 PX.out.lt).cell 0)
          have cL := fun (d : Nat) (os : Array Obj) => Calls.regrown_of (len_to (grow (redrawn x3 d) os) (show RQ (grow (redrawn x3 d) os) p _ S3 from ⟨fb, ad, (RX.out.below b4).below (below_regrown x3 d os)⟩) HLEN.out)
          have cN := fun (d : Nat) (os : Array Obj) => Calls.regrown_of (len_nil (grow (redrawn x3 d) os))
          have cP := fun (d : Nat) (os : Array Obj) => Calls.regrown_of (pin_nil 1 (grow (redrawn x3 d) os))
          have cT := fun (d : Nat) (os : Array Obj) => Calls.regrown_of (let_nil 1 (grow (redrawn x3 d) os))
          have cS := fun (d : Nat) (os : Array Obj) => Calls.regrown_of (pins_nil 1 (grow (redrawn x3 d) os))
          have BX4 := Lib.hid (BX.out.trans (b4.mono BX.out.size))
          have HK4 := Lib.hid ((b4.block D (Array.getElem?_eq_some_iff.1 HKX.out).1).trans HKX.out)
          clear b4 hL RX SX NX PX BX HKX HLEN
          go_upto_region 23 with (fail)
          refine wp_region_quiet_below (by kernel_rfl) (by kernel_rfl) ?_
          repeat (go_big_quiet_step (first | (with_reducible exact cL _ _) | (with_reducible exact cN _ _) | (with_reducible exact cP _ _) | (with_reducible exact cT _ _) | (with_reducible exact cS _ _)))
          refine wpQuiet_nil ?_
          intro _ hw'
          obtain ⟨⟨dq, osq⟩, hw''⟩ := hw'
          subst hw''
          have b5 := below_regrown x3 dq osq
          generalize grow (redrawn x3 dq) osq = x4 at b5 ⊢
          have hK5 := (b5.block D (Array.getElem?_eq_some_iff.1 HK4.out).1).trans HK4.out
          have hb5 := BX4.out.trans (b5.mono BX4.out.size)
          have hbf := hb5.trans (belowK_b (w := w) (Nat.le_refl _) _ D _ (.deferred none) hwD hK5 rfl rfl)
          have HK5 := Lib.hid hK5
          have HBF := Lib.hid hbf
          clear hK5 hb5 hbf b5 HK4 BX4 cL cN cP cT cS s0 n0 c0
          go_wp2
          refine ⟨by simp, .inl ⟨_, _, rfl, run_takeDeferred HK5.out, ?_⟩⟩
          exact ⟨.bool true, by simp [results, Try.results5, go_sem], rfl, HBF.out⟩
      case hstop =>
        rintro D c pre W hD ⟨m, hm, rfl⟩ ⟨rfl, hG, hst, hpos⟩ hK
        have hlm : ((thingsR S).take m).length = m := by rw [List.length_take]; omega
        have hlen : (thingsR (delAll (0 : Int) S ((thingsR S).take m))).length = (thingsR S).length - m := by
          have := del_take (0 : Int) HU.out hm
          omega
        have hwD : w.heap.size ≤ D := Nat.le_trans hVw hD
        rw [hlm] at hG hst hpos
        generalize delAll (0 : Int) S ((thingsR S).take m) = S3 at hG hlen
        have HLEN := Lib.hid hlen
        obtain ⟨L, hL9⟩ : ∃ L, L = (thingsR S).length := ⟨_, rfl⟩
        rw [← hL9] at HLEN hm hL64 ⊢
        subst hst
        have s0 := hG.bs.cell 0
        have RX := Lib.hid hG.ra
        have SX := Lib.hid hG.bs
        have NX := Lib.hid hG.bn
        have PX := Lib.hid hG.br
        have BX := Lib.hid hG.bel
        have HKX := Lib.hid hK
        have heq : (((L - m : Nat) : Int) == (L : Int) - (m : Int)) = true := by rw [beq_iff_eq]; omega
        have hs1 : ¬ (m : Int) < 1 := by omega
        have hs2 : ¬ (L : Int) < (m : Int) := by omega
        generalize L - m = r at HLEN heq
        clear hG hlen hK hG0 hlm hL9 HBs HN6 HB6 HR6 HS6 RA6 HU
        refine wpIn_wide.2 ?_
        go_upto_region 20 with (fail)
        clear s0
        generalize hGen : W = X at RX SX NX PX BX HKX ⊢
        clear hGen
        go_wp2_with fail
        refine (put_nil 1 1 X).mono ?_
        rintro e x1 ⟨rfl, b1⟩
        have b2 := b1.alloc b1.size (.cells #[.int .i64 0, .int .i64 0, .bool false] 57)
        clear b1
        go_wp2_with fail
        generalize hGen : x1.alloc (.cells #[.int .i64 0, .int .i64 0, .bool false] 57) = x2 at b2 ⊢
        clear hGen
        refine (get_nil 1 x2).mono ?_
        rintro e x3 ⟨rfl, b3⟩
        have b4 := b2.trans (b3.mono b2.size)
        clear b2 b3
        have hL := len_to x3 (show RQ x3 p _ S3 from ⟨fb, ad, RX.out.below b4⟩) HLEN.out
        have s0 := cell_regrown ((SX.out.below b4 SX.out.lt).cell 0)
        have n0 := cell_regrown ((NX.out.below b4 NX.out.lt).cell 0)
        have c0 := cell_regrown ((PX.out.below b4 PX.out.lt).cell 0)
        have cL := fun (d : Nat) (os : Array Obj) => Calls.regrown_of (len_to (grow (redrawn x3 d) os) (show RQ (grow (redrawn x3 d) os) p _ S3 from ⟨fb, ad, (RX.out.below b4).below (below_regrown x3 d os)⟩) HLEN.out)
        have cN := fun (d : Nat) (os : Array Obj) => Calls.regrown_of (len_nil (grow (redrawn x3 d) os))
        have cP := fun (d : Nat) (os : Array Obj) => Calls.regrown_of (pin_nil 1 (grow (redrawn x3 d) os))
        have cT := fun (d : Nat) (os : Array Obj) => Calls.regrown_of (let_nil 1 (grow (redrawn x3 d) os))
        have cS := fun (d : Nat) (os : Array Obj) => Calls.regrown_of (pins_nil 1 (grow (redrawn x3 d) os))
        have BX4 := Lib.hid (BX.out.trans (b4.mono BX.out.size))
        have HK4 := Lib.hid ((b4.block D (Array.getElem?_eq_some_iff.1 HKX.out).1).trans HKX.out)
        clear b4 hL RX SX NX PX BX HKX HLEN
        go_upto_region 23 with (fail)
        refine wp_region_quiet_below (by kernel_rfl) (by kernel_rfl) ?_
        repeat (go_big_quiet_step (first | (with_reducible exact cL _ _) | (with_reducible exact cN _ _) | (with_reducible exact cP _ _) | (with_reducible exact cT _ _) | (with_reducible exact cS _ _)))
        refine wpQuiet_nil ?_
        intro _ hw'
        obtain ⟨⟨dq, osq⟩, hw''⟩ := hw'
        subst hw''
        have b5 := below_regrown x3 dq osq
        generalize grow (redrawn x3 dq) osq = x4 at b5 ⊢
        have hK5 := (b5.block D (Array.getElem?_eq_some_iff.1 HK4.out).1).trans HK4.out
        have hb5 := BX4.out.trans (b5.mono BX4.out.size)
        have hbf := hb5.trans (belowK_b (w := w) (Nat.le_refl _) _ D _ (.deferred none) hwD hK5 rfl rfl)
        have HK5 := Lib.hid hK5
        have HBF := Lib.hid hbf
        clear hK5 hb5 hbf b5 HK4 BX4 cL cN cP cT cS s0 n0 c0
        go_wp2
        refine ⟨by simp, .inl ⟨_, _, rfl, run_takeDeferred HK5.out, ?_⟩⟩
        exact ⟨.bool true, by simp [results, Try.results5, go_sem], rfl, HBF.out⟩
end Go.Proofs.Ytdpaeffhddehaaa.RingI
