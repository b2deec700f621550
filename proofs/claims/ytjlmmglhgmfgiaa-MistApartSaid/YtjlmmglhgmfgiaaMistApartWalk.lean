/- The walk of the statement MistApart. -/
import Derived.Test.YtjlmmglhgmfgiaaMistApart0
namespace Go.Proofs.Ytjlmmglhgmfgiaa.Mist
set_option maxRecDepth 100000
open Go.RowKit
open Go.Proofs.Ytjlmmglhgmfgiaa.Mem Go.Proofs.Ytjlmmglhgmfgiaa.CordG
def w2 (L : List Gr) : List Gr := L.filter (onW 2 true)
theorem w2_snoc (L : List Gr) (y : Gr) : (onW 2 true y = true → w2 (L ++ [y]) = w2 L ++ [y]) ∧ (onW 2 true y = false → w2 (L ++ [y]) = w2 L) := by
  unfold w2
  rw [List.filter_append]
  constructor <;> intro h <;> simp [h]
/-- the net holds what was put, the row what is on the way 2 -/
def Ap1 (w0 W : World) (p : Nat) (ts : Value) (k : Nat) : Prop := ∃ L vn, One w0 W p vn ts (fun _ => False) L (w2 L) ∧ L.length ≤ k
/-- .. what is left on the way 2 is the row's rest, nothing on the way 3 -/
def Ap2 (w0 W : World) (p : Nat) (ts : Value) (S : List Gr) (i : Nat) : Prop := ∃ M vn, One w0 W p vn ts (fun _ => False) M S ∧ M.filter (onW 2 true) = S.drop i ∧ M.filter (onW 3 true) = [] ∧ M.length ≤ 100
theorem one_start {w0 W1 W2 : World} {vn : Value} (hn : PA 53 W2 W1.heap.size vn (fun k => k < W1.heap.size) []) (hb1 : Below w0.heap.size w0 W1) (hb2 : Below W1.heap.size W1 W2) :
    One w0 (W2.alloc (.cells #[] 31)) W1.heap.size vn (.slice (some ⟨W2.heap.size, 0, none⟩) 0 0) (fun _ => False) [] [] := by
  have hbx := below_box W2 (.cells #[] 31)
  have h1 := hb1.size
  have h2 := hn.blk.lt
  refine ⟨(hn.new hbx).move rfl (fun _ _ => rfl) ?_ ?_ ?_, own_base (own_new W2 _ 6) fun g hg => by rw [own_some] at hg; omega, (hb1.trans (hb2.mono h1)).trans (hbx.mono (by omega))⟩
  · rintro (h | h | h)
    · omega
    · rw [own_some] at h; omega
    · exact h
  · rintro g hg (h | h | h)
    · exact hn.m1 g hg (show g < W1.heap.size by omega)
    · rw [own_some] at h; have := own_lt hn.own hg; omega
    · exact h
  · rintro k (h | h | h)
    · simp; omega
    · rw [own_some] at h; simp; omega
    · exact h.elim
theorem put_ok {L : List Gr} {x : Gr} (h1 : 1 ≤ x.cl) (h2 : x.cl ≤ 8) (hl : L.length < 64) : putX L x = 0 ∧ putL L x = L ++ [x] := by
  have hx : putX L x = 0 := by
    unfold putX
    rw [if_neg (by omega), if_neg (by have := count_le L x.cl x.up; omega)]
  exact ⟨hx, by unfold putL; rw [if_pos hx]⟩
theorem grs_again {w : World} {b off n k : Nat} {zs : List Gr} {x : Gr} (h : Grs w (some ⟨b, off, none⟩) n zs) (hk : k < n) (hx : zs.getD k noGr = x) : GrAt w b off k x := by
  obtain ⟨b', off', y, e, _, hy, hc, _⟩ := h.at_ hk
  injection e with e
  injection e with e1 e2
  subst e1; subst e2
  rw [← hx, hy]; exact hc
/-- the four calls on other ways -/
def other4 (L : List Gr) (i : Int) : List Gr := (pickL (copyL (pickL L 1 true i) 1 false i) 2 false i).filter (notC 3)
theorem other4_two (L : List Gr) (i : Int) : (other4 L i).filter (onW 2 true) = w2 L := by
  unfold other4 w2
  rw [clear_keeps _ _ _ _ (by decide), pick_other _ _ _ _ _ (on_off (.inr (by decide))), copy_other _ _ _ _ _ (on_off (.inl (by decide))), pick_other _ _ _ _ _ (on_off (.inl (by decide)))]
theorem other4_three (L : List Gr) (i : Int) : (other4 L i).filter (onW 3 true) = [] := clear_none _ _ _
theorem other4_len (L : List Gr) (i : Int) : (other4 L i).length ≤ L.length + 1 := by
  have h1 := pick_len L 1 true i
  have h2 := copy_len (pickL L 1 true i) 1 false i
  have h3 := pick_len (copyL (pickL L 1 true i) 1 false i) 2 false i
  have h4 := List.length_filter_le (notC 3) (pickL (copyL (pickL L 1 true i) 1 false i) 2 false i)
  unfold other4
  omega
set_option maxRecDepth 100000 in
set_option maxHeartbeats 8000000 in
theorem apart_walk (a : Option Addr) (n cc : Nat) (zs : List Gr) (at_ tw : Int) (w : World) (hI : Grs w a n zs) (_h1 : -9223372036854775808 ≤ at_ ∧ at_ ≤ 9223372036854775807) (_h2 : -9223372036854775808 ≤ tw ∧ tw ≤ 9223372036854775807) :
    Calls Try.prog 5 #[.slice a n cc, .int .i64 at_, .int .i64 tw] w fun e w' => e = .returned (.bool true) ∧ Below w.heap.size w w' := by
  have HI := Lib.hid hI
  clear hI
  go_enter Try.func5, Try.ntmps5
  go_wp2_with fail
  refine (awake_any w).mono ?_
  rintro e w1 ⟨rfl, b1⟩
  have HB1 := Lib.hid b1
  clear b1
  go_wp2_with fail
  refine (new_any w1).mono ?_
  rintro e w3 ⟨rfl, ⟨vn, hn⟩, b3⟩
  have ST : Hid (Ap1 w (w3.alloc (.cells #[] 31)) w1.heap.size (.slice (some ⟨w3.heap.size, 0, none⟩) 0 0) 0) := Lib.hid ⟨[], vn, one_start hn HB1.out b3, Nat.le_refl _⟩
  clear hn b3 HB1
  generalize w1.heap.size = p at *
  go_wp2_with fail
  go_loopw [8, 9] (fun ts ti wr => ∃ k : Nat, k ≤ 60 ∧ k ≤ n ∧ ti = .int .i64 (k : Int) ∧ (∃ a l c, ts = .slice a l c) ∧ Hid (Ap1 w wr p ts k)) (fun _ ti _ => 60 - (intOf ti).toNat)
  case atStart => exact ⟨0, Nat.zero_le _, Nat.zero_le _, rfl, ⟨_, _, _, rfl⟩, ST⟩
  case round =>
    obtain ⟨k, hk, hkn, rfl, ⟨sa, sl, sc, rfl⟩, HK⟩ := hrel
    clear ST
    rcases (show (k < n ∧ k < 60) ∨ (k < n ∧ k = 60) ∨ k = n by omega) with ⟨hlt, hlt2⟩ | ⟨hlt, h⟩ | h
    · obtain ⟨L, vn, hT, hL⟩ := HK.out
      obtain ⟨b, off, x, rfl, -, hz, ⟨c0, c1, c2, c3, c4, c5⟩, hg⟩ := (HI.out.below hT.bel).at_ hlt
      have HT := Lib.hid hT
      have hsl : sl = (w2 L).length := by
        obtain ⟨a5, c5, e5⟩ := own_shape hT.s
        injection e5
      subst hsl
      have hw2 : (w2 L).length ≤ L.length := List.length_filter_le _ _
      have HZ := Lib.hid hz
      clear hT hz hg HK
      by_cases hbd : (4096 : Int) < (x.bd.size : Int)
      · have HBB := Lib.hid HT.out.bel
        clear HT
        go_wp2
        go_ret
        exact ⟨rfl, HBB.out⟩
      · obtain ⟨K, hKe, hK1, hK2⟩ := add_of x.cl 1 3 (by omega) (by omega) (by omega)
        have hbx := below_box wr (.cells #[.int .i64 (K : Int), .bool x.up, .int .i64 x.ep, .int .i64 x.sq, .int .i64 x.ak, .string x.bd] 31)
        have HKE := Lib.hid hKe
        have HX : Hid (Blk (wr.alloc (.cells #[.int .i64 (K : Int), .bool x.up, .int .i64 x.ep, .int .i64 x.sq, .int .i64 x.ak, .string x.bd] 31)) wr.heap.size 31 (gv ⟨(K : Int), x.up, x.ep, x.sq, x.ak, x.bd⟩)) := Lib.hid (Blk.new wr _ _)
        have HO := Lib.hid (HT.out.box hbx (g := wr.heap.size) ⟨Nat.le_refl _, by simp⟩)
        clear hbx hKe HT
        have z0 := (Blk.new wr 31 #[.int .i64 x.cl, .bool x.up, .int .i64 x.ep, .int .i64 x.sq, .int .i64 x.ak, .string x.bd]).cell 0
        have zf := (Blk.new wr 31 #[.int .i64 x.cl, .bool x.up, .int .i64 x.ep, .int .i64 x.sq, .int .i64 x.ak, .string x.bd]).frozen 0
        go_upto_region 12 with (fail)
        try rw [HKE.out]
        generalize hGen : wr.alloc (.cells #[.int .i64 (K : Int), .bool x.up, .int .i64 x.ep, .int .i64 x.sq, .int .i64 x.ak, .string x.bd] 31) = W1 at HX HO ⊢
        clear hGen
        generalize wr.heap.size = g1 at *
        clear HKE z0 zf c0 c1 c2 c3 c4 c5
        obtain ⟨hpx, hpl⟩ := put_ok (L := L) (x := ⟨(K : Int), x.up, x.ep, x.sq, x.ak, x.bd⟩) (by show 1 ≤ (K : Int); omega) (by show (K : Int) ≤ 8; omega) (by omega)
        have HP := Lib.hid (put_any p _ L ⟨(K : Int), x.up, x.ep, x.sq, x.ak, x.bd⟩ W1 ⟨vn, HO.out.n⟩ (by omega))
        rw [hpx, hpl] at HP
        obtain ⟨c0, c1, c2, c3, c4, c5⟩ := blk_cells HX.out
        clear hpx hpl
        go_wp2_with fail
        refine HP.out.mono ?_
        rintro e W2 ⟨rfl, ⟨vn5, hn5⟩, k5⟩
        have HX5 := Lib.hid (k5.blk HX.out (.inr (.inr (.inr rfl))))
        have HO5 := Lib.hid (One.less (X' := fun _ => False) (HO.out.call hn5 k5) (fun _ h => h.elim))
        clear HP hn5 k5 HX HO c0 c1 c2 c3 c4 c5
        obtain ⟨c0, c1, c2, c3, c4, c5⟩ := blk_cells HX5.out
        dsimp only at c0 c1 c2 c3 c4 c5
        have HWA := Lib.hid (w2_snoc L ⟨(K : Int), x.up, x.ep, x.sq, x.ak, x.bd⟩)
        by_cases hk2 : K = 2
        · subst hk2
          cases hup : x.up with
          | true =>
            have HO6 : Hid (One w W2 p vn5 (.slice sa (w2 L).length sc) (fun _ => False) (L ++ [(⟨2, true, x.ep, x.sq, x.ak, x.bd⟩ : Gr)]) (w2 L)) := Lib.hid (by have := HO5.out; rw [hup] at this; exact this)
            have HX6 : Hid (Blk W2 g1 31 (gv ⟨2, true, x.ep, x.sq, x.ak, x.bd⟩)) := Lib.hid (by have := HX5.out; rw [hup] at this; exact this)
            have HW6 : Hid (w2 (L ++ [(⟨2, true, x.ep, x.sq, x.ak, x.bd⟩ : Gr)]) = w2 L ++ [(⟨2, true, x.ep, x.sq, x.ak, x.bd⟩ : Gr)]) := Lib.hid (by have := HWA.out.1; rw [hup] at this; exact this (by rfl))
            clear c0 c1 c2 c3 c4 c5 HO5 HX5 HWA hup
            obtain ⟨c0, c1, c2, c3, c4, c5⟩ := blk_cells HX6.out
            dsimp only at c0 c1 c2 c3 c4 c5
            have hbx := below_box W2 (.cells #[.int .i64 2, .bool true, .int .i64 x.ep, .int .i64 x.sq, .int .i64 x.ak, .string x.bd] 31)
            have HT7 := Lib.hid (HO6.out.below hbx)
            have HBX := Lib.hid (Blk.new W2 31 (gv ⟨2, true, x.ep, x.sq, x.ak, x.bd⟩))
            have hL7 : (w2 L).length ≤ 30000 := by omega
            have hw7 : w.heap.size ≤ (W2.alloc (.cells #[.int .i64 2, .bool true, .int .i64 x.ep, .int .i64 x.sq, .int .i64 x.ak, .string x.bd] 31)).heap.size := HT7.out.bel.size
            clear HO6 HX6 hbx
            go_wp2_with (at_builtin; refine wpList_app rfl _ _ rfl w.heap.size _ (w2 L) rfl HT7.out.s W2.heap.size ⟨2, true, x.ep, x.sq, x.ak, x.bd⟩ rfl HBX.out hL7 hw7 ?_)
            intro v8 w8 ho8 hg8 hv8
            have hv9 : v8.ownBlock = (Value.slice sa (w2 L).length sc).ownBlock ∨ v8.ownBlock = some (W2.alloc (.cells #[.int .i64 2, .bool true, .int .i64 x.ep, .int .i64 x.sq, .int .i64 x.ak, .string x.bd] 31)).heap.size := by rw [World.size_alloc]; exact hv8
            have hl8 : (w2 L ++ [(⟨2, true, x.ep, x.sq, x.ak, x.bd⟩ : Gr)]).length = (w2 L).length + 1 := by simp
            have HT8 := Lib.hid (One.app (vs' := v8) (Ls' := w2 L ++ [(⟨2, true, x.ep, x.sq, x.ak, x.bd⟩ : Gr)]) HT7.out (by rw [hl8]; exact ho8) hg8 hv9)
            obtain ⟨a8, n8, c8, e8⟩ : ∃ a n c, v8 = .slice a n c := by obtain ⟨a8, c8, e8⟩ := own_shape ho8; exact ⟨_, _, _, e8⟩
            subst e8
            have ST : Hid (Ap1 w w8 p (.slice a8 n8 c8) (k + 1)) := Lib.hid ⟨L ++ [(⟨2, true, x.ep, x.sq, x.ak, x.bd⟩ : Gr)], _, by rw [HW6.out]; exact HT8.out, by simp; omega⟩
            clear HT7 HBX ho8 hg8 hv8 hv9 HT8 hl8 hL7 hw7 c0 c1 c2 c3 c4 c5 HW6
            go_wp2
            go_roundw
            case rel => exact ⟨k + 1, by omega, by omega, by go_num, ⟨_, _, _, rfl⟩, ST⟩
            case measure => simp [intOf]; omega
          | false =>
            have hno : onW 2 true (⟨((2 : Nat) : Int), x.up, x.ep, x.sq, x.ak, x.bd⟩ : Gr) = false := by unfold onW; rw [hup]; rfl
            have ST : Hid (Ap1 w W2 p (.slice sa (w2 L).length sc) (k + 1)) := Lib.hid ⟨_, _, by rw [HWA.out.2 hno]; exact HO5.out, by simp; omega⟩
            rw [hup] at c1
            clear HO5 HX5 HWA hno hup c2 c3 c4 c5
            have c0' : W2.cell? ⟨g1, 0, none⟩ = some (.int .i64 2) := c0
            clear c0
            go_wp2
            go_roundw
            case rel => exact ⟨k + 1, by omega, by omega, by go_num, ⟨_, _, _, rfl⟩, ST⟩
            case measure => simp [intOf]; omega
        · have hk2i : ¬ ((K : Int) = 2) := by omega
          have hk2b : ((K : Int) == 2) = false := by simpa using hk2i
          have hno : onW 2 true (⟨(K : Int), x.up, x.ep, x.sq, x.ak, x.bd⟩ : Gr) = false := by unfold onW; dsimp only; rw [hk2b]; rfl
          have ST : Hid (Ap1 w W2 p (.slice sa (w2 L).length sc) (k + 1)) := Lib.hid ⟨_, _, by rw [HWA.out.2 hno]; exact HO5.out, by simp; omega⟩
          clear HO5 HX5 HWA hno hk2 hk2i c2 c3 c4 c5
          go_wp2
          go_roundw
          case rel => exact ⟨k + 1, by omega, by omega, by go_num, ⟨_, _, _, rfl⟩, ST⟩
          case measure => simp [intOf]; omega
    all_goals
      first | (have h9 : ¬ k < n := by omega) | (have h9 : ¬ k < 60 := by omega)
      clear h
      obtain ⟨L, vn, hT, hL⟩ := HK.out
      have hsl : sl = (w2 L).length := by
        obtain ⟨a5, c5, e5⟩ := own_shape hT.s
        injection e5
      subst hsl
      have hL2 : L.length ≤ 60 := by omega
      have hw2 : (w2 L).length ≤ L.length := List.length_filter_le _ _
      have l1 := pick_len L 1 true at_
      have l2 := copy_len (pickL L 1 true at_) 1 false at_
      have l3 := pick_len (copyL (pickL L 1 true at_) 1 false at_) 2 false at_
      have HT := Lib.hid hT
      have HP := Lib.hid (pick_any p _ L 1 true at_ wr ⟨vn, hT.n⟩ (by omega))
      clear HK hT
      go_wp2_with fail
      refine HP.out.mono ?_
      rintro e W2 ⟨y, bb, rfl, -, ⟨vn2, hn2⟩, k2⟩
      have HT2 := Lib.hid (HT.out.call hn2 k2)
      have HP2 := Lib.hid (copy_any p _ (pickL L 1 true at_) 1 false at_ W2 ⟨vn2, hn2⟩ (by omega))
      clear HP hn2 k2 HT
      go_wp2_with fail
      refine HP2.out.mono ?_
      rintro e W3 ⟨rfl, ⟨vn3, hn3⟩, k3⟩
      have HT3 := Lib.hid (HT2.out.call hn3 k3)
      have HP3 := Lib.hid (pick_any p _ (copyL (pickL L 1 true at_) 1 false at_) 2 false at_ W3 ⟨vn3, hn3⟩ (by omega))
      clear HP2 hn3 k3 HT2
      go_wp2_with fail
      refine HP3.out.mono ?_
      rintro e W4 ⟨y, bb, rfl, -, ⟨vn4, hn4⟩, k4⟩
      have HT4 := Lib.hid (HT3.out.call hn4 k4)
      have HP4 := Lib.hid (clear_any p _ (pickL (copyL (pickL L 1 true at_) 1 false at_) 2 false at_) 3 W4 ⟨vn4, hn4⟩ (by omega))
      clear HP3 hn4 k4 HT3
      go_wp2_with fail
      refine HP4.out.mono ?_
      rintro e W5 ⟨rfl, ⟨vn5, hn5⟩, k5⟩
      have hM2 := other4_two L at_
      have hM3 := other4_three L at_
      have hM4 := other4_len L at_
      have HT5 : Hid (One w W5 p vn5 (.slice sa (w2 L).length sc) (fun _ => False) (other4 L at_) (w2 L)) := Lib.hid (HT4.out.call hn5 k5)
      clear HP4 hn5 k5 HT4 l1 l2 l3
      generalize other4 L at_ = M at *
      generalize w2 L = S at *
      have HM2 := Lib.hid hM2
      have HM3 := Lib.hid hM3
      clear hM2 hM3
      rcases (show S.length = 0 ∨ 0 < S.length by omega) with h0 | hp0
      have hS0 := List.eq_nil_of_length_eq_zero h0
      have ST : Hid (Ap2 w W5 p (.slice sa S.length sc) S 0) := Lib.hid ⟨M, vn5, HT5.out, by rw [HM2.out]; rfl, HM3.out, by omega⟩
      have hsl : S.length ≤ 61 := by omega
      have hn0 : ¬ 0 < S.length := by omega
      clear HT5 HM2 HM3 hS0 hw2 h0
      go_wp2_with fail
      generalize S = T at *
      generalize sa = sb at *
      generalize sc = cb at *
      generalize W5 = WX at *
      clear hn0
      rotate_left
      obtain ⟨K, hKe, hKl⟩ := cut_of tw (S.length : Int) (by omega) (by omega)
      have hKS : K < S.length := by omega
      have hy : S[K]? = some S[K] := List.getElem?_eq_getElem hKS
      generalize S[K] = y at hy
      obtain ⟨hcb, hcl⟩ := copy_same (L := M) (c := 2) (u := true) (k := K) (y := y) (by rw [HM2.out]; exact hy) (by decide) (by omega)
      have HP := Lib.hid (copy_any p _ M 2 true (K : Int) W5 ⟨vn5, HT5.out.n⟩ (by omega))
      rw [hcb, hcl] at HP
      have HY := Lib.hid hy
      have hwl : IntKind.u64.wrap (S.length : Int) = (S.length : Int) := by rw [IntKind.wrap_u64]; omega
      have hn0 : ¬ ((S.length : Int) = 0) := by omega
      have HKE := Lib.hid hKe
      clear hcb hcl hy hKe
      go_upto_region 22 with (fail)
      try rw [HKE.out]
      clear HKE
      go_wp2_with fail
      refine HP.out.mono ?_
      rintro e W6 ⟨rfl, ⟨vn6, hn6⟩, k6⟩
      have HT6 := Lib.hid (HT5.out.call hn6 k6)
      clear HP hn6 k6 HT5
      obtain ⟨g, c9, hv, _, _, c0, c1, c2, c3, c4, c5⟩ := (src_own HT6.out.s).at_ HY.out
      have hcap : ∃ c', Value.slice sa S.length sc = .slice (some ⟨g, 0, none⟩) S.length c' ∧ S.length ≤ c' := by
        rcases HT6.out.s.2 with ⟨e, _⟩ | ⟨g', c', cur, e, _, _, hn, _⟩
        · rw [hv] at e; cases e
        · rw [hv] at e; injection e with e1 e2 e3; exact ⟨c', by rw [hv, e3], hn⟩
      obtain ⟨c', hv', hcap⟩ := hcap
      injection hv' with e1 _ e3
      subst e1; subst e3
      clear hv
      have hbx := below_box W6 (.cells #[.int .i64 y.cl, .bool y.up, .int .i64 y.ep, .int .i64 y.sq, .int .i64 y.ak, .string y.bd] 31)
      have HT7 := Lib.hid (HT6.out.below hbx)
      have HBX := Lib.hid (Blk.new W6 31 (gv y))
      have hL7 : S.length ≤ 30000 := by omega
      have hw7 : w.heap.size ≤ (W6.alloc (.cells #[.int .i64 y.cl, .bool y.up, .int .i64 y.ep, .int .i64 y.sq, .int .i64 y.ak, .string y.bd] 31)).heap.size := HT7.out.bel.size
      clear hbx HT6
      go_wp2_with (at_builtin; refine wpList_app rfl _ _ rfl w.heap.size _ S rfl HT7.out.s W6.heap.size y rfl HBX.out hL7 hw7 ?_)
      intro v8 w8 ho8 hg8 hv8
      have hl8 : (S ++ [y]).length = S.length + 1 := by simp
      have hv9 : v8.ownBlock = (Value.slice (some ⟨g, 0, none⟩) S.length sc).ownBlock ∨ v8.ownBlock = some (W6.alloc (.cells #[.int .i64 y.cl, .bool y.up, .int .i64 y.ep, .int .i64 y.sq, .int .i64 y.ak, .string y.bd] 31)).heap.size := by rw [World.size_alloc]; exact hv8
      have hT8 := One.app (vs' := v8) (Ls' := S ++ [y]) HT7.out (by rw [hl8]; exact ho8) hg8 hv9
      have hyo : onW 2 true y = true := by
        have hm : y ∈ M.filter (onW 2 true) := by rw [HM2.out]; exact List.mem_of_getElem? HY.out
        exact (List.mem_filter.1 hm).2
      have hq2 : (M ++ [y]).filter (onW 2 true) = S ++ [y] := by rw [List.filter_append, HM2.out]; simp [hyo]
      have hq3 : (M ++ [y]).filter (onW 3 true) = [] := by rw [List.filter_append, HM3.out]; simp [on_off (c' := 3) (u' := true) (.inl (by decide)) y hyo]
      obtain ⟨T, hTd⟩ : ∃ T, S ++ [y] = T := ⟨_, rfl⟩
      rw [hTd] at hT8 hq2 hl8
      obtain ⟨sb, cb, e8⟩ := own_shape hT8.s
      subst e8
      have ST : Hid (Ap2 w w8 p (.slice sb T.length cb) T 0) := Lib.hid ⟨M ++ [y], vn6, hT8, by rw [hq2]; rfl, hq3, by simp; omega⟩
      have hsl : T.length ≤ 61 := by omega
      clear HT7 HBX ho8 hg8 hv8 hv9 hl8 hT8 hyo hq2 hq3 hTd HM2 HM3 HY hL7 hw7 hw2 c0 c1 c2 c3 c4 c5
      go_wp2_with fail
      generalize w8 = WX at *
      all_goals
        go_loopw [12] (fun ti W => ∃ i : Nat, i ≤ T.length ∧ ti = .int .i64 (i : Int) ∧ Hid (Ap2 w W p (.slice sb T.length cb) T i)) (fun ti _ => T.length - (intOf ti).toNat)
        case atStart => exact ⟨0, Nat.zero_le _, rfl, ST⟩
        case round =>
          obtain ⟨i, hi, rfl, HK⟩ := hrel
          clear ST
          obtain ⟨M, vn, hT, hm2, hm3, hml⟩ := HK.out
          have HT := Lib.hid hT
          have HM3 := Lib.hid hm3
          clear hT HK
          by_cases hlt : i < T.length
          · have hx : T[i]? = some T[i] := List.getElem?_eq_getElem hlt
            generalize T[i] = x at hx
            have HX := Lib.hid hx
            rw [drop_cons hx] at hm2
            obtain ⟨hpo, hpl⟩ := pick_first hm2
            have hpl3 := (pick_other M 2 true 0 (onW 3 true) (on_off (.inl (by decide)))).trans hm3
            have hlen := pick_len M 2 true 0
            have HPO := Lib.hid hpo
            have HPL := Lib.hid hpl
            have HP3 := Lib.hid hpl3
            have HP := Lib.hid (pick_any p _ M 2 true 0 wr ⟨vn, HT.out.n⟩ (by omega))
            have hll : (pickL M 2 true 0).length ≤ 100 := by omega
            clear hx hm2 hm3 hpo hpl hpl3 HM3 hlen
            go_wp2_with fail
            refine HP.out.mono ?_
            intro e w5 h5
            obtain ⟨rfl, ⟨vn5, hn5⟩, k5⟩ := got_some h5 HPO.out
            have hT5 := HT.out.call hn5 k5
            have hbx := below_box w5 (.cells #[.int .i64 x.cl, .bool x.up, .int .i64 x.ep, .int .i64 x.sq, .int .i64 x.ak, .string x.bd] 31)
            have HT6 := Lib.hid (hT5.below hbx)
            have HBX := Lib.hid (Blk.new w5 31 (gv x))
            clear HP h5 hn5 k5 hT5 hbx HT HPO
            generalize pickL M 2 true 0 = M5 at *
            dsimp only [gv] at HBX
            go_upto_region 29 with (fail)
            generalize hGen : w5.alloc (.cells #[.int .i64 x.cl, .bool x.up, .int .i64 x.ep, .int .i64 x.sq, .int .i64 x.ak, .string x.bd] 31) = w6 at HT6 HBX ⊢
            clear hGen
            generalize w5.heap.size = g5 at *
            obtain ⟨z0, z1, z2, z3, z4, z5⟩ := blk_cells (x := x) HBX.out
            obtain ⟨g, c9, hv, _, _, c0, c1, c2, c3, c4, c5⟩ := (src_own HT6.out.s).at_ HX.out
            have hgg : sb = some ⟨g, 0, none⟩ := by simp at hv; exact hv.1
            clear hv
            subst hgg
            have hne := run_neg x
            have hgd := fun (A B : Operand) xs ys W => run_guard_gram .neq A B xs ys W
            have hcap : T.length ≤ cb := by
              rcases HT6.out.s.2 with ⟨e, _⟩ | ⟨g', c', cur, e, _, _, hn, _⟩
              · cases e
              · injection e with e1 e2 e3; omega
            go_wp2_with fail
            go_quiet (fail)
            have ST : Hid (Ap2 w (w6.drewN nq) p (.slice (some ⟨g, 0, none⟩) T.length cb) T (i + 1)) := Lib.hid ⟨M5, vn5, HT6.out.below (drewN_below w6 nq), HPL.out, HP3.out, hll⟩
            generalize w6.drewN nq = w7 at ST ⊢
            clear HT6 HBX z0 z1 z2 z3 z4 z5 c0 c1 c2 c3 c4 c5 hne hgd HX HPL HP3 hcap hll
            go_wp2
            go_roundw
            case rel => exact ⟨i + 1, by omega, by go_num, ST⟩
            case measure => simp [intOf]; omega
          · obtain rfl : i = T.length := by omega
            have hc2 : (countL M 2 true : Int) = 0 := by unfold countL; rw [hm2]; simp
            have hc3 : (countL M 3 true : Int) = 0 := by unfold countL; rw [HM3.out]; rfl
            have HP := Lib.hid (count_to (n := 0) (c := 2) (u := true) ⟨vn, HT.out.n⟩ (by omega) hc2)
            clear hc2 hm2 hm3 HM3
            go_wp2_with fail
            refine HP.out.mono ?_
            rintro e w5 ⟨rfl, b5⟩
            have HT5 := Lib.hid (HT.out.below b5)
            have HP5 := Lib.hid (count_to (n := 0) (c := 3) (u := true) ⟨vn, HT5.out.n⟩ (by omega) hc3)
            clear HP b5 HT hc3
            go_wp2_with fail
            refine HP5.out.mono ?_
            rintro e w6 ⟨rfl, b6⟩
            have HB := Lib.hid (HT5.out.below b6).bel
            clear HP5 b6 HT5
            go_wp2
            go_ret
            exact ⟨rfl, HB.out⟩
end Go.Proofs.Ytjlmmglhgmfgiaa.Mist
