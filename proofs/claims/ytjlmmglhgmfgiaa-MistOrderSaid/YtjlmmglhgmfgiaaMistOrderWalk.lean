/- The walk of the statement MistOrder. -/
import Derived.Test.YtjlmmglhgmfgiaaMistTwo
namespace Go.Proofs.Ytjlmmglhgmfgiaa.Mist
set_option maxRecDepth 100000
open Go.RowKit
open Go.Proofs.Ytjlmmglhgmfgiaa.Mem Go.Proofs.Ytjlmmglhgmfgiaa.CordG
/-- both nets hold what was sent -/
def Ord1 (w0 W : World) (p q : Nat) (ts : Value) (k : Nat) : Prop := ∃ L vn vm, Two 53 53 w0 W p q vn vm ts L L L ∧ L.length ≤ k
/-- .. i of them came -/
def Ord2 (w0 W : World) (p q : Nat) (ts : Value) (L : List Gr) (c : Int) (u : Bool) (i : Nat) : Prop := ∃ vn vm, Two 53 53 w0 W p q vn vm ts (L.drop i) (midL L c u i) L
theorem grs_again {w : World} {b off n k : Nat} {zs : List Gr} {x : Gr} (h : Grs w (some ⟨b, off, none⟩) n zs) (hk : k < n) (hx : zs.getD k noGr = x) : GrAt w b off k x := by
  obtain ⟨b', off', y, e, _, hy, hc, _⟩ := h.at_ hk
  injection e with e
  injection e with e1 e2
  subst e1; subst e2
  rw [← hx, hy]; exact hc
theorem run_nenil (w : World) (p : Nat) : (binOp .eql 24 (.pointer (some ⟨p, 0, none⟩)) (.pointer none)).run Try.prog w = .ok (.bool false) w := by kernel_rfl
set_option maxRecDepth 100000 in
set_option maxHeartbeats 8000000 in
theorem order_walk (a : Option Addr) (n cc : Nat) (zs : List Gr) (c : Int) (u : Bool) (w : World) (hI : Grs w a n zs) (_hc : -9223372036854775808 ≤ c ∧ c ≤ 9223372036854775807) :
    Calls Try.prog 4 #[.slice a n cc, .int .i64 c, .bool u] w fun e w' => e = .returned (.bool true) ∧ Below w.heap.size w w' := by
  have HI := Lib.hid hI
  clear hI
  go_enter Try.func4, Try.ntmps4
  go_wp2_with fail
  refine (awake_any w).mono ?_
  rintro e w1 ⟨rfl, b1⟩
  have HB1 := Lib.hid b1
  clear b1
  go_wp2_with fail
  refine (new_any w1).mono ?_
  rintro e w2 ⟨rfl, ⟨vn, hn⟩, b2⟩
  have HN := Lib.hid hn
  have HB2 := Lib.hid (HB1.out.trans (b2.mono HB1.out.size))
  have hp : w.heap.size ≤ w1.heap.size := HB1.out.size
  clear hn b2 HB1
  generalize w1.heap.size = p at *
  go_wp2_with fail
  refine (new_any w2).mono ?_
  rintro e w3 ⟨rfl, ⟨vm, hm⟩, b3⟩
  have hq : w.heap.size ≤ w2.heap.size := HB2.out.size
  have hpq : p < w2.heap.size := HN.out.blk.lt
  have hs3 : w2.heap.size < w3.heap.size := hm.blk.lt
  have HT0 : Hid (Two 53 53 w (w3.alloc (.cells #[] 31)) p w2.heap.size vn vm (.slice (some ⟨w3.heap.size, 0, none⟩) 0 0) [] [] []) := by
    have hbx := below_box w3 (.cells #[] 31)
    exact Lib.hid (two_mk ((HN.out.new b3).new hbx) (hm.new hbx) hp hpq (fun g hg => own_lt HN.out.own hg) (own_base (own_new w3 _ 6) fun g hg => by rw [own_some] at hg; omega)
      (fun g hg => by
        rw [own_some] at hg
        exact ⟨by omega, by omega, fun e => by have := own_lt HN.out.own e; omega, fun e => by have := own_lt hm.own e; omega⟩)
      ((HB2.out.trans (b3.mono hq)).trans (hbx.mono (Nat.le_trans hq (Nat.le_of_lt hs3)))))
  have ST : Hid (Ord1 w (w3.alloc (.cells #[] 31)) p w2.heap.size (.slice (some ⟨w3.heap.size, 0, none⟩) 0 0) 0) := Lib.hid ⟨[], vn, vm, HT0.out, Nat.le_refl _⟩
  clear hm b3 HT0 HN HB2 hp hq hpq hs3
  generalize w2.heap.size = q at *
  go_wp2_with fail
  go_loopw [9, 10] (fun ts ti wr => ∃ k : Nat, k ≤ 200 ∧ k ≤ n ∧ ti = .int .i64 (k : Int) ∧ (∃ a l c, ts = .slice a l c) ∧ Hid (Ord1 w wr p q ts k)) (fun _ ti _ => 200 - (intOf ti).toNat)
  case atStart => exact ⟨0, Nat.zero_le _, Nat.zero_le _, rfl, ⟨_, _, _, rfl⟩, ST⟩
  case round =>
    obtain ⟨k, hk, hkn, rfl, ⟨sa, sl, sc, rfl⟩, HK⟩ := hrel
    clear ST
    rcases (show (k < n ∧ k < 200) ∨ (k < n ∧ k = 200) ∨ k = n by omega) with ⟨hlt, hlt2⟩ | ⟨hlt, h⟩ | h
    · obtain ⟨L, vn, vm, hT, hL⟩ := HK.out
      obtain ⟨b, off, x, rfl, -, hz, ⟨c0, c1, c2, c3, c4, c5⟩, hg⟩ := (HI.out.below hT.bel).at_ hlt
      have HT := Lib.hid hT
      have hsl : sl = L.length := by
        obtain ⟨a5, c5, e5⟩ := own_shape hT.s
        injection e5
      subst hsl
      have HZ := Lib.hid hz
      clear hT hz hg HK
      by_cases hbd : (4096 : Int) < (x.bd.size : Int)
      · have HBB := Lib.hid HT.out.bel
        clear HT
        go_wp2
        go_ret
        exact ⟨rfl, HBB.out⟩
      · have HP := Lib.hid (put_any p _ L x wr ⟨vn, HT.out.n⟩ (by omega))
        go_wp2_with fail
        refine HP.out.mono ?_
        rintro e w5 ⟨rfl, ⟨vn5, hn5⟩, k5⟩
        have HT5 := Lib.hid (HT.out.call hn5 k5)
        have HP5 := Lib.hid (put_any q _ L x w5 ⟨vm, HT5.out.m⟩ (by omega))
        clear HP hn5 k5 HT c0 c1 c2 c3 c4 c5
        obtain ⟨c0, c1, c2, c3, c4, c5⟩ := grs_again (HI.out.below HT5.out.bel) hlt HZ.out
        go_wp2_with fail
        refine HP5.out.mono ?_
        rintro e w6 ⟨rfl, ⟨vm6, hm6⟩, k6⟩
        have HT6 := Lib.hid (HT5.out.swap.call hm6 k6).swap
        clear HP5 hm6 k6 HT5 c0 c1 c2 c3 c4 c5
        by_cases h0 : putX L x = 0
        · have hpl : putL L x = L ++ [x] := by unfold putL; rw [if_pos h0]
          rw [hpl] at HT6
          rw [h0]
          obtain ⟨c0, c1, c2, c3, c4, c5⟩ := grs_again (HI.out.below HT6.out.bel) hlt HZ.out
          have hbx := below_box w6 (.cells #[.int .i64 x.cl, .bool x.up, .int .i64 x.ep, .int .i64 x.sq, .int .i64 x.ak, .string x.bd] 31)
          have HT7 := Lib.hid (HT6.out.below hbx)
          have HBX := Lib.hid (Blk.new w6 31 (gv x))
          have hL7 : L.length ≤ 30000 := by omega
          have hw7 : w.heap.size ≤ (w6.alloc (.cells #[.int .i64 x.cl, .bool x.up, .int .i64 x.ep, .int .i64 x.sq, .int .i64 x.ak, .string x.bd] 31)).heap.size := HT7.out.bel.size
          clear h0 hpl HT6 hbx
          go_wp2_with (at_builtin; refine wpList_app rfl _ _ rfl w.heap.size _ L rfl HT7.out.s w6.heap.size x rfl HBX.out hL7 hw7 ?_)
          intro v8 w8 ho8 hg8 hv8
          have hv9 : v8.ownBlock = (Value.slice sa L.length sc).ownBlock ∨ v8.ownBlock = some (w6.alloc (.cells #[.int .i64 x.cl, .bool x.up, .int .i64 x.ep, .int .i64 x.sq, .int .i64 x.ak, .string x.bd] 31)).heap.size := by rw [World.size_alloc]; exact hv8
          have hl8 : (L ++ [x]).length = L.length + 1 := by simp
          have HT8 := Lib.hid (Two.app (vs' := v8) (Ls' := L ++ [x]) HT7.out (by rw [hl8]; exact ho8) hg8 hv9)
          obtain ⟨a8, c8, e8⟩ := own_shape ho8
          subst e8
          have ST : Hid (Ord1 w w8 p q (.slice a8 (L.length + 1) c8) (k + 1)) := Lib.hid ⟨L ++ [x], _, _, HT8.out, by rw [hl8]; omega⟩
          clear HT7 HBX ho8 hg8 hv8 hv9 HT8 hl8 hL7 hw7 c0 c1 c2 c3 c4 c5
          go_wp2
          go_roundw
          case rel => exact ⟨k + 1, by omega, by omega, by go_num, ⟨_, _, _, rfl⟩, ST⟩
          case measure => simp [intOf]; omega
        · have hpl : putL L x = L := by unfold putL; rw [if_neg h0]
          rw [hpl] at HT6
          have ST : Hid (Ord1 w w6 p q (.slice sa L.length sc) (k + 1)) := Lib.hid ⟨L, _, _, HT6.out, by omega⟩
          have h0b : (putX L x == 0) = false := by simpa using h0
          clear HT6 hpl h0
          generalize putX L x = e at *
          go_wp2
          go_roundw
          case rel => exact ⟨k + 1, by omega, by omega, by go_num, ⟨_, _, _, rfl⟩, ST⟩
          case measure => simp [intOf]; omega
    all_goals
      first | (have h9 : ¬ k < n := by omega) | (have h9 : ¬ k < 200 := by omega)
      clear h
      obtain ⟨L, vn, vm, hT, hL⟩ := HK.out
      have hsl : sl = L.length := by
        obtain ⟨a5, c5, e5⟩ := own_shape hT.s
        injection e5
      subst hsl
      have hL2 : L.length ≤ 200 := by omega
      have ST : Hid (Ord2 w wr p q (.slice sa L.length sc) L c u 0) := Lib.hid ⟨vn, vm, by rw [mid_zero]; exact hT⟩
      clear HK hT
      go_wp2_with fail
      go_loopw [12] (fun ti W => ∃ i : Nat, i ≤ L.length ∧ ti = .int .i64 (i : Int) ∧ Hid (Ord2 w W p q (.slice sa L.length sc) L c u i)) (fun ti _ => L.length - (intOf ti).toNat)
      case atStart => exact ⟨0, Nat.zero_le _, rfl, ST⟩
      case round =>
        obtain ⟨i, hi, rfl, HK⟩ := hrel
        clear ST
        obtain ⟨vn, vm, hT⟩ := HK.out
        have HT := Lib.hid hT
        clear hT HK
        by_cases hlt : i < L.length
        · have hx : L[i]? = some L[i] := List.getElem?_eq_getElem hlt
          generalize L[i] = x at hx
          have HX := Lib.hid hx
          have HE : Hid (eldO (L.drop i) = some x) := Lib.hid (by unfold eldO; rw [List.getElem?_drop]; simpa using hx)
          have HD : Hid ((L.drop i).tail = L.drop (i + 1)) := Lib.hid (by rw [drop_cons hx]; rfl)
          have HP := Lib.hid (eldest_any p _ (L.drop i) wr ⟨vn, HT.out.n⟩ (by rw [List.length_drop]; omega))
          clear hx
          go_wp2_with fail
          refine HP.out.mono ?_
          intro e w5 h5
          obtain ⟨rfl, ⟨vn5, hn5⟩, k5⟩ := got_some h5 HE.out
          rw [HD.out] at hn5
          have hT5 := HT.out.call hn5 k5
          have hbx := below_box w5 (.cells #[.int .i64 x.cl, .bool x.up, .int .i64 x.ep, .int .i64 x.sq, .int .i64 x.ak, .string x.bd] 31)
          have HT6 := Lib.hid (hT5.below hbx)
          have HBX := Lib.hid (Blk.new w5 31 (gv x))
          clear HP h5 hn5 k5 hT5 hbx HT
          dsimp only [gv] at HBX
          go_upto_region 20 with (fail)
          generalize hGen : w5.alloc (.cells #[.int .i64 x.cl, .bool x.up, .int .i64 x.ep, .int .i64 x.sq, .int .i64 x.ak, .string x.bd] 31) = w6 at HT6 HBX ⊢
          clear hGen
          generalize w5.heap.size = g5 at *
          obtain ⟨z0, z1, z2, z3, z4, z5⟩ := blk_cells (x := x) HBX.out
          obtain ⟨g, c9, hv, _, _, c0, c1, c2, c3, c4, c5⟩ := (src_own HT6.out.s).at_ HX.out
          injection hv with hv1 hv2 hv3
          subst hv1; subst hv3
          have hne := run_neg x
          have hgd := fun (A B : Operand) xs ys W => run_guard_gram .neq A B xs ys W
          go_wp2_with fail
          go_quiet (fail)
          have HT7 : Hid (Two 53 53 w (w6.drewN nq) p q vn5 vm (.slice (some ⟨g, 0, none⟩) L.length sc) (L.drop (i + 1)) (midL L c u i) L) := Lib.hid (HT6.out.below (drewN_below w6 nq))
          generalize w6.drewN nq = w7 at HT7 ⊢
          clear HT6 HBX z0 z1 z2 z3 z4 z5 c0 c1 c2 c3 c4 c5 hne hgd
          obtain ⟨g', c9', hv', _, _, c0, c1, c2, c3, c4, c5⟩ := (src_own HT7.out.s).at_ HX.out
          have hgg : g = g' := by simp at hv'; exact hv'.1
          clear hv'
          subst hgg
          by_cases hon : onW c u x = true
          · have hon2 := hon
            unfold onW at hon
            rw [Bool.and_eq_true] at hon
            obtain ⟨ho1, ho2⟩ := hon
            obtain ⟨hm1, hm2⟩ := mid_on HX.out hon2
            have hml := mid_len L c u i
            have HM1 := Lib.hid hm1
            have HP := Lib.hid (pick_any q _ (midL L c u i) c u 0 w7 ⟨vm, HT7.out.m⟩ (by omega))
            rw [hm2] at HP
            clear hm1 hm2 hon2
            go_wp2_with fail
            refine HP.out.mono ?_
            intro e w8 h8
            obtain ⟨rfl, ⟨vm8, hm8⟩, k8⟩ := got_some h8 HM1.out
            have hT8 := (HT7.out.swap.call hm8 k8).swap
            have hbx := below_box w8 (.cells #[.int .i64 x.cl, .bool x.up, .int .i64 x.ep, .int .i64 x.sq, .int .i64 x.ak, .string x.bd] 31)
            have HT9 := Lib.hid (hT8.below hbx)
            have HBX := Lib.hid (Blk.new w8 31 (gv x))
            clear HP h8 hm8 k8 hT8 hbx HT7 c0 c1 c2 c3 c4 c5 HM1
            dsimp only [gv] at HBX
            go_upto_region 24 with (fail)
            generalize hGen : w8.alloc (.cells #[.int .i64 x.cl, .bool x.up, .int .i64 x.ep, .int .i64 x.sq, .int .i64 x.ak, .string x.bd] 31) = w9 at HT9 HBX ⊢
            clear hGen
            generalize w8.heap.size = g8 at *
            obtain ⟨z0, z1, z2, z3, z4, z5⟩ := blk_cells (x := x) HBX.out
            obtain ⟨g', c9', hv', _, _, c0, c1, c2, c3, c4, c5⟩ := (src_own HT9.out.s).at_ HX.out
            have hgg : g = g' := by simp at hv'; exact hv'.1
            clear hv'
            subst hgg
            have hne := run_neg x
            have hgd := fun (A B : Operand) xs ys W => run_guard_gram .neq A B xs ys W
            go_wp2_with fail
            go_quiet (fail)
            have ST : Hid (Ord2 w (w9.drewN nq) p q (.slice (some ⟨g, 0, none⟩) L.length sc) L c u (i + 1)) := Lib.hid ⟨_, _, HT9.out.below (drewN_below w9 nq)⟩
            generalize w9.drewN nq = w10 at ST ⊢
            clear HT9 HBX z0 z1 z2 z3 z4 z5 c0 c1 c2 c3 c4 c5 hne hgd HX HE HD
            go_wp2
            go_roundw
            case rel => exact ⟨i + 1, by omega, by go_num, ST⟩
            case measure => simp [intOf]; omega
          · have hon2 : onW c u x = false := by simpa using hon
            have ST : Hid (Ord2 w w7 p q (.slice (some ⟨g, 0, none⟩) L.length sc) L c u (i + 1)) := Lib.hid ⟨_, _, by rw [mid_off HX.out hon2]; exact HT7.out⟩
            unfold onW at hon2
            clear hon HT7 HX HE HD
            by_cases ho1 : (x.cl == c) = true
            · have ho2 : (x.up == u) = false := by rw [ho1] at hon2; simpa using hon2
              clear hon2
              go_wp2
              go_roundw
              case rel => exact ⟨i + 1, by omega, by go_num, ST⟩
              case measure => simp [intOf]; omega
            · have ho1 : (x.cl == c) = false := by simpa using ho1
              clear hon2
              go_wp2
              go_roundw
              case rel => exact ⟨i + 1, by omega, by go_num, ST⟩
              case measure => simp [intOf]; omega
        · obtain rfl : i = L.length := by omega
          have HE : Hid (eldO (L.drop L.length) = none) := Lib.hid (by unfold eldO; simp)
          have HP := Lib.hid (eldest_any p _ (L.drop L.length) wr ⟨vn, HT.out.n⟩ (by simp))
          have HM := Lib.hid (mid_end L c u)
          have hml := mid_len L c u L.length
          go_wp2_with fail
          refine HP.out.mono ?_
          intro e w5 h5
          obtain ⟨rfl, ⟨vn5, hn5⟩, k5⟩ := got_none h5 HE.out
          have HT5 := Lib.hid (HT.out.call hn5 k5)
          clear HP h5 hn5 k5 HT HE
          have hbx := below_box w5 (.cells #[.int .i64 0, .bool false, .int .i64 0, .int .i64 0, .int .i64 0, .string ⟨#[]⟩] 31)
          have HT6 := Lib.hid (HT5.out.below hbx)
          have HP := Lib.hid (pick_any q _ (midL L c u L.length) c u 0 _ ⟨vm, HT6.out.m⟩ (by omega))
          clear HT5 hbx
          go_wp2_with fail
          refine HP.out.mono ?_
          intro e w8 h8
          obtain ⟨rfl, ⟨vm8, hm8⟩, k8⟩ := got_none h8 HM.out
          have HB8 := Lib.hid ((HT6.out.swap.call hm8 k8).swap.bel)
          clear HP h8 hm8 k8 HT6 HM
          have hbx := below_box w8 (.cells #[.int .i64 0, .bool false, .int .i64 0, .int .i64 0, .int .i64 0, .string ⟨#[]⟩] 31)
          have HB9 := Lib.hid (HB8.out.trans (hbx.mono HB8.out.size))
          clear hbx HB8
          go_wp2_with fail
          refine (zeldest_any _).mono ?_
          rintro e w10 ⟨rfl, b10⟩
          have hbx := below_box w10 (.cells #[.int .i64 0, .bool false, .int .i64 0, .int .i64 0, .int .i64 0, .string ⟨#[]⟩] 31)
          have HB10 := Lib.hid ((HB9.out.trans (b10.mono HB9.out.size)).trans (hbx.mono (HB9.out.trans (b10.mono HB9.out.size)).size))
          clear b10 hbx HB9
          go_wp2_with fail
          refine (gram_any _ _).mono ?_
          rintro e w11 ⟨rfl, b11⟩
          have HB11 := Lib.hid (HB10.out.trans (b11.mono HB10.out.size))
          clear b11 HB10
          go_wp2_with fail
          refine (zput_any (gm ⟨#[]⟩) w11).mono ?_
          rintro e w12 ⟨rfl, b12⟩
          have HB12 := Lib.hid (HB11.out.trans (b12.mono HB11.out.size))
          clear b12 HB11
          go_wp2_with fail
          refine (zcount_any _ _ w12).mono ?_
          rintro e w13 ⟨rfl, b13⟩
          have HB13 := Lib.hid (HB12.out.trans (b13.mono HB12.out.size))
          clear b13 HB12
          go_wp2_with fail
          refine (zclear_any _ w13).mono ?_
          rintro e w14 ⟨rfl, b14⟩
          have HB14 := Lib.hid (HB13.out.trans (b14.mono HB13.out.size))
          clear b14 HB13
          go_wp2_with fail
          refine (zcopy_any _ _ _ w14).mono ?_
          rintro e w15 ⟨rfl, b15⟩
          have HB15 := Lib.hid (HB14.out.trans (b15.mono HB14.out.size))
          clear b15 HB14
          go_wp2
          go_ret
          exact ⟨rfl, HB15.out⟩
end Go.Proofs.Ytjlmmglhgmfgiaa.Mist
