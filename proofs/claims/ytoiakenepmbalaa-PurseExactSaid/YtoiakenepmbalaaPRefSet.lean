/- The document's own purse in memory: set, Ask, Take. -/
import Derived.Test.YtoiakenepmbalaaPRefMem
namespace Go.Proofs.Ytoiakenepmbalaa.PRef
set_option maxRecDepth 100000
open Go.RowKit
open Go.Proofs.Ytoiakenepmbalaa.Mem
open Go.Proofs.Ytoiakenepmbalaa.Purse
/-- what a call that may lay the row anew leaves -/
def Laid (u : Nat) (w w' : World) (v : Value) (L : List Due) : Prop :=
  ∃ v', UA w' u v' L ∧ (v' = v ∨ ∀ g, v'.ownBlock = some g → w.heap.size ≤ g) ∧ Keep (fun j => j < w.heap.size ∧ j ≠ u) w w'
/-- the rounds' end -/
structure Mid (W wr : World) (vo : Value) (s : List Due × Bool) : Prop where
  own : wr.ownsRow W.heap.size 40 2 vo s.1.length (cellsP s.1)
  bel : Below W.heap.size W wr
theorem Mid.app {W wr w2 : World} {vo v2 : Value} {s : List Due × Bool} {L : List Due} {m : Nat} {cs : Array Value} {t : TypeId} (h : Mid W wr vo s) (ho : w2.ownsRow W.heap.size 40 2 v2 m (cellsP L)) (hb : Below W.heap.size (wr.alloc (.cells cs t)) w2) (d : Bool) (hm : m = L.length) : Mid W w2 v2 (L, d) :=
  ⟨by rw [← hm]; exact ho, (h.bel.alloc h.bel.size _).trans hb⟩
theorem stp_1 {k v : Int} {out : List Due} {xn : Int} : stp k v (out, true) (k, xn) = (out, true) := by simp [stp]
theorem stp_2 {k v : Int} {out : List Due} {xn : Int} : stp k v (out, false) (k, xn) = (out ++ [(k, v)], true) := by simp [stp]
theorem stp_3 {k v : Int} {out : List Due} {x : Due} (h : k < x.1) : stp k v (out, false) x = (out ++ [(k, v)] ++ [x], true) := by
  have : x.1 ≠ k := by omega
  simp [stp, this, h]
theorem stp_4 {k v : Int} {out : List Due} {x : Due} (h : x.1 ≠ k) : stp k v (out, true) x = (out ++ [x], true) := by simp [stp, h]
theorem stp_5 {k v : Int} {out : List Due} {x : Due} (h : x.1 ≠ k) (h2 : ¬ k < x.1) : stp k v (out, false) x = (out ++ [x], false) := by simp [stp, h, h2]
theorem own_zero {w : World} {base n size : Nat} {t : TypeId} {v : Value} {xs : List Value} (h : w.ownsRow base t size v n xs) : w.ownsRow 0 t size v n xs := by
  obtain ⟨hl, h0 | ⟨g, c, cur, e, _, h1⟩⟩ := h
  · exact ⟨hl, .inl h0⟩
  · exact ⟨hl, .inr ⟨g, c, cur, e, Nat.zero_le _, h1⟩⟩
theorem own_ge {w : World} {base n size : Nat} {t : TypeId} {v : Value} {xs : List Value} (h : w.ownsRow base t size v n xs) : ∀ g, v.ownBlock = some g → base ≤ g := by
  intro g hg
  obtain ⟨_, ⟨rfl, _⟩ | ⟨g', c, cur, rfl, hb, _⟩⟩ := h
  · cases hg
  · cases hg; exact hb
theorem Mid.done {W wr : World} {u : Nat} {v vo : Value} {L : List Due} {d : Bool} {L2 : List Due} (h : Mid W wr vo (L2, d)) (hu : UA W u v L) : Laid u W (wr.setCell ⟨u, 0, none⟩ vo) v L2 := by
  have hlt := hu.blk.lt
  have hne : vo.ownBlock ≠ some u := fun e => by have := own_ge h.own u e; omega
  refine ⟨vo, ⟨?_, own_set (own_zero h.own) hne 0 vo, hne⟩, .inr (own_ge h.own), ?_⟩
  · have := (hu.blk.below h.bel hlt).set_ 0 vo
    simpa using this
  · exact (Keep.of_below h.bel (fun k hk => hk.1)).set_ (fun hk => hk.2 rfl) 0 vo
set_option maxRecDepth 100000 in
set_option maxHeartbeats 4000000 in
theorem set_any (u : Nat) (v : Value) (L : List Due) (k n : Int) (w : World) (h : UA w u v L) (hn : L.length ≤ 1000000) :
    Calls Try.prog 20 #[.pointer (some ⟨u, 0, none⟩), .int .i64 k, .int .i64 n] w fun e w' => (∃ v0, e = .returned v0) ∧ Laid u w w' v (setL L k n) := by
  obtain ⟨av, cv, rfl⟩ := own_shape h.own
  have H := Lib.hid h
  have HM0 : Hid (Mid w (w.alloc (.cells #[] 40)) (.slice (some ⟨w.heap.size, 0, none⟩) 0 0) ([], decide (n = 0))) := Lib.hid ⟨own_new w _ 2, (Below.refl _ _).alloc (Nat.le_refl _) _⟩
  have HL : Hid (∀ j, (runS k n (L.take j) ([], decide (n = 0))).1.length ≤ 2000000) := Lib.hid (fun j => by
    have := run_len k n (L.take j) ([], decide (n = 0))
    simp only [List.length_nil, List.length_take] at this
    omega)
  clear h
  go_enter Try.func20, Try.ntmps20
  go_wp2
  go_loopw [6, 7, 8] (fun vo vd i wr => ∃ (j : Nat) (a2 : Option Addr) (n2 c2 : Nat), j ≤ L.length ∧ i = .int .i64 (j : Int) ∧ vo = .slice a2 n2 c2 ∧ vd = .bool (runS k n (L.take j) ([], decide (n = 0))).2 ∧ Hid (Mid w wr vo (runS k n (L.take j) ([], decide (n = 0))))) (fun _ _ i _ => L.length - (intOf i).toNat)
  case atStart => exact ⟨0, _, _, _, Nat.zero_le _, rfl, rfl, rfl, HM0⟩
  case round =>
    obtain ⟨j, a2, n2, c2, hj, rfl, rfl, rfl, HM⟩ := hrel
    clear HM0
    have c0 := (HM.out.bel.cell (p := ⟨u, 0, none⟩) H.out.blk.lt).trans (H.out.blk.cell 0)
    by_cases hlt : j < L.length
    · have hx : L[j]? = some L[j] := List.getElem?_eq_getElem hlt
      generalize L[j] = x at hx
      obtain ⟨g, c, e, hc, _, hgl, d0, d1⟩ := (H.out.below HM.out.bel).row hx
      injection e with e1 e2 e3
      subst e1; subst e3
      have HN := Lib.hid (run_take k n L ([], decide (n = 0)) j x hx)
      have HLE := Lib.hid (HL.out j)
      generalize runS k n (L.take j) ([], decide (n = 0)) = s at HM HN HLE ⊢
      obtain ⟨out, d⟩ := s
      have HLX : Hid (out.length ≤ 2000000) := HLE
      clear HLE
      obtain ⟨xk, xn⟩ := x
      simp only at d0 d1
      have HX := Lib.hid hx
      have HGL := Lib.hid (show g < w.heap.size from own_lt H.out.own rfl)
      clear hx HL hgl
      by_cases hk : xk = k
      · subst hk
        have hkk : ¬ xk < xk := by omega
        cases d with
        | true =>
          rw [stp_1] at HN
          have HM2 := HM
          clear HM
          go_wp2
          go_roundw
          case rel => exact ⟨j + 1, _, _, _, by omega, by go_num, rfl, by rw [HN.out], by rw [HN.out]; exact HM2⟩
          case measure => simp [intOf]; omega
        | false =>
          rw [stp_2] at HN
          have OW := Lib.hid (own_below HM.out.own ((Below.refl _ _).alloc (Nat.le_refl _) (.cells #[.int .i64 xk, .int .i64 n] 40)))
          have BW := Lib.hid (show w.heap.size ≤ (wr.alloc (.cells #[.int .i64 xk, .int .i64 n] 40)).heap.size by have := HM.out.bel.size; simp; omega)
          go_wp2_with (at_builtin; refine wpList_app rfl _ _ rfl w.heap.size _ out rfl OW.out wr.heap.size (xk, n) rfl (Blk.new wr _ _) (by have h7 := HLX.out; first | omega | (rw [List.length_append]; simp only [List.length_cons, List.length_nil]; omega)) BW.out ?_)
          intro v2 w2 ho1 hb1
          have HMw2 := Lib.hid (HM.out.app ho1 hb1 true (by simp))
          obtain ⟨aw2, cw2, rfl⟩ := own_shape ho1
          clear ho1 hb1 OW BW
          have HM2 := HMw2
          clear HM HMw2
          go_wp2
          go_roundw
          case rel => exact ⟨j + 1, _, _, _, by omega, by go_num, rfl, by rw [HN.out], by rw [HN.out]; exact HM2⟩
          case measure => simp [intOf]; omega
      · have hk2 : (xk == k) = false := by rw [beq_eq_false_iff_ne]; exact hk
        cases d with
        | true =>
          rw [stp_4 (by exact hk)] at HN
          clear hk
          have OW := Lib.hid (own_below HM.out.own ((Below.refl _ _).alloc (Nat.le_refl _) (.cells #[.int .i64 xk, .int .i64 xn] 40)))
          have BW := Lib.hid (show w.heap.size ≤ (wr.alloc (.cells #[.int .i64 xk, .int .i64 xn] 40)).heap.size by have := HM.out.bel.size; simp; omega)
          go_wp2_with (at_builtin; refine wpList_app rfl _ _ rfl w.heap.size _ out rfl OW.out wr.heap.size (xk, xn) rfl (Blk.new wr _ _) (by have h7 := HLX.out; first | omega | (rw [List.length_append]; simp only [List.length_cons, List.length_nil]; omega)) BW.out ?_)
          intro v2 w2 ho1 hb1
          have HMw2 := Lib.hid (HM.out.app ho1 hb1 true (by simp))
          obtain ⟨aw2, cw2, rfl⟩ := own_shape ho1
          clear ho1 hb1 OW BW
          have HM2 := HMw2
          clear HM HMw2
          go_wp2
          go_roundw
          case rel => exact ⟨j + 1, _, _, _, by omega, by go_num, rfl, by rw [HN.out], by rw [HN.out]; exact HM2⟩
          case measure => simp [intOf]; omega
        | false =>
          by_cases hlk : k < xk
          · rw [stp_3 (by exact hlk), List.append_assoc] at HN
            clear hk
            have OW := Lib.hid (own_below HM.out.own ((Below.refl _ _).alloc (Nat.le_refl _) (.cells #[.int .i64 k, .int .i64 n] 40)))
            have BW := Lib.hid (show w.heap.size ≤ (wr.alloc (.cells #[.int .i64 k, .int .i64 n] 40)).heap.size by have := HM.out.bel.size; simp; omega)
            go_wp2_with (at_builtin; refine wpList_app rfl _ _ rfl w.heap.size _ out rfl OW.out wr.heap.size (k, n) rfl (Blk.new wr _ _) (by have h7 := HLX.out; first | omega | (rw [List.length_append]; simp only [List.length_cons, List.length_nil]; omega)) BW.out ?_)
            intro v2 w2 ho1 hb1
            have HMw2 := Lib.hid (HM.out.app ho1 hb1 true (by simp))
            obtain ⟨aw2, cw2, rfl⟩ := own_shape ho1
            clear ho1 hb1 OW BW
            have c0' := (HMw2.out.bel.cell (p := ⟨u, 0, none⟩) H.out.blk.lt).trans (H.out.blk.cell 0)
            obtain ⟨g', c', e', _, _, _, d0', d1'⟩ := (H.out.below HMw2.out.bel).row HX.out
            injection e' with e1 e2 e3
            injection e1 with e1
            injection e1 with e1
            subst e1; subst e3
            simp only at d0' d1'
            clear d0 d1 c0 HM
            have OW := Lib.hid (own_below HMw2.out.own ((Below.refl _ _).alloc (Nat.le_refl _) (.cells #[.int .i64 xk, .int .i64 xn] 40)))
            have BW := Lib.hid (show w.heap.size ≤ (w2.alloc (.cells #[.int .i64 xk, .int .i64 xn] 40)).heap.size by have := HMw2.out.bel.size; simp; omega)
            go_wp2_with (at_builtin; refine wpList_app rfl _ _ rfl w.heap.size _ (out ++ [(k, n)]) rfl OW.out w2.heap.size (xk, xn) rfl (Blk.new w2 _ _) (by have h7 := HLX.out; first | omega | (rw [List.length_append]; simp only [List.length_cons, List.length_nil]; omega)) BW.out ?_)
            intro v3 w3 ho1 hb1
            have HMw3 := Lib.hid (HMw2.out.app ho1 hb1 true (by simp))
            obtain ⟨aw3, cw3, rfl⟩ := own_shape ho1
            clear ho1 hb1 OW BW
            have HM2 := HMw3
            clear HMw2 HMw3
            go_wp2
            go_roundw
            case rel => exact ⟨j + 1, _, _, _, by omega, by go_num, rfl, by rw [HN.out], by rw [HN.out]; exact HM2⟩
            case measure => simp [intOf]; omega
          · rw [stp_5 (by exact hk) (by exact hlk)] at HN
            clear hk
            have OW := Lib.hid (own_below HM.out.own ((Below.refl _ _).alloc (Nat.le_refl _) (.cells #[.int .i64 xk, .int .i64 xn] 40)))
            have BW := Lib.hid (show w.heap.size ≤ (wr.alloc (.cells #[.int .i64 xk, .int .i64 xn] 40)).heap.size by have := HM.out.bel.size; simp; omega)
            go_wp2_with (at_builtin; refine wpList_app rfl _ _ rfl w.heap.size _ out rfl OW.out wr.heap.size (xk, xn) rfl (Blk.new wr _ _) (by have h7 := HLX.out; first | omega | (rw [List.length_append]; simp only [List.length_cons, List.length_nil]; omega)) BW.out ?_)
            intro v2 w2 ho1 hb1
            have HMw2 := Lib.hid (HM.out.app ho1 hb1 false (by simp))
            obtain ⟨aw2, cw2, rfl⟩ := own_shape ho1
            clear ho1 hb1 OW BW
            have HM2 := HMw2
            clear HM HMw2
            go_wp2
            go_roundw
            case rel => exact ⟨j + 1, _, _, _, by omega, by go_num, rfl, by rw [HN.out], by rw [HN.out]; exact HM2⟩
            case measure => simp [intOf]; omega
    · obtain rfl : j = L.length := by omega
      rw [List.take_length] at HM ⊢
      have HLE := Lib.hid (HL.out L.length)
      rw [List.take_length] at HLE
      have HE : Hid (setL L k n = endS k n (runS k n L ([], decide (n = 0)))) := rfl
      have f0 := (HM.out.bel.frozen (p := ⟨u, 0, none⟩) H.out.blk.lt).trans (H.out.blk.frozen 0)
      generalize runS k n L ([], decide (n = 0)) = s at HM HE HLE ⊢
      obtain ⟨out, d⟩ := s
      have HLX : Hid (out.length ≤ 2000000) := HLE
      clear HLE
      cases d with
      | true =>
        have HD := Lib.hid (HM.out.done H.out)
        rw [show out = setL L k n from HE.out.symm] at HD
        clear HM
        go_wp2
        go_end0
        exact ⟨⟨_, rfl⟩, HD.out⟩
      | false =>
        have OW := Lib.hid (own_below HM.out.own ((Below.refl _ _).alloc (Nat.le_refl _) (.cells #[.int .i64 k, .int .i64 n] 40)))
        have BW := Lib.hid (show w.heap.size ≤ (wr.alloc (.cells #[.int .i64 k, .int .i64 n] 40)).heap.size by have := HM.out.bel.size; simp; omega)
        go_wp2_with (at_builtin; refine wpList_app rfl _ _ rfl w.heap.size _ out rfl OW.out wr.heap.size (k, n) rfl (Blk.new wr _ _) (by have := HLX.out; omega) BW.out ?_)
        intro v2 w2 ho1 hb1
        have HM2 := Lib.hid (HM.out.app ho1 hb1 true (by simp))
        obtain ⟨a9, c9, rfl⟩ := own_shape ho1
        have f2 := (HM2.out.bel.frozen (p := ⟨u, 0, none⟩) H.out.blk.lt).trans (H.out.blk.frozen 0)
        have c2' := (HM2.out.bel.cell (p := ⟨u, 0, none⟩) H.out.blk.lt).trans (H.out.blk.cell 0)
        have HD := Lib.hid (HM2.out.done H.out)
        rw [show out ++ [(k, n)] = setL L k n from HE.out.symm] at HD
        clear ho1 hb1 OW BW HM HM2 c0 f0
        go_wp2
        go_end0
        exact ⟨⟨_, rfl⟩, HD.out⟩
end Go.Proofs.Ytoiakenepmbalaa.PRef
