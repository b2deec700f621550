/- The document's own net: Put, Copy. -/
import Derived.Test.YtjlmmglhgmfgiaaMistRef1
namespace Go.Proofs.Ytjlmmglhgmfgiaa.Mist
set_option maxRecDepth 100000
open Go.RowKit
open Go.Proofs.Ytjlmmglhgmfgiaa.Mem Go.Proofs.Ytjlmmglhgmfgiaa.CordG
theorem ucount_below (p : Nat) (M : Nat → Prop) (L : List Gr) (c : Int) (u : Bool) (w : World) (h : PQ 29 w p M L) (hlen : L.length ≤ 1000000) :
    Calls Try.prog 20 #[.pointer (some ⟨p, 0, none⟩), .int .i64 c, .bool u] w fun e w' => e = .returned (.int .i64 (countL L c u : Int)) ∧ Below w.heap.size w w' :=
  (ucount_any p M L c u w h hlen).mono fun _ _ ⟨he, hw⟩ => ⟨he, hw ▸ Below.refl _ _⟩
theorem uplace_below (p : Nat) (M : Nat → Prop) (L : List Gr) (c : Int) (u : Bool) (at_ : Int) (w : World) (h : PQ 29 w p M L) (hlen : L.length ≤ 1000000) :
    Calls Try.prog 25 #[.pointer (some ⟨p, 0, none⟩), .int .i64 c, .bool u, .int .i64 at_] w fun e w' => e = .returned (.int .i64 (findI L c u at_)) ∧ Below w.heap.size w w' :=
  (uplace_any p M L c u at_ w h hlen).mono fun _ _ ⟨he, hw⟩ => ⟨he, hw ▸ Below.refl _ _⟩
set_option maxRecDepth 100000 in
set_option maxHeartbeats 4000000 in
theorem uput_any (p : Nat) (M : Nat → Prop) (L : List Gr) (x : Gr) (w : World) (h : PQ 29 w p M L) (hlen : L.length ≤ 30000) :
    Calls Try.prog 10 #[.pointer (some ⟨p, 0, none⟩), .agg #[.int .i64 x.cl, .bool x.up, .int .i64 x.ep, .int .i64 x.sq, .int .i64 x.ak, .string x.bd]] w fun e w' => e = .returned (.int .i64 (putX L x)) ∧ PQ 29 w' p M (putL L x) ∧ Keep M w w' := by
  have hb := below_box w (.cells (gv x) 31)
  have h1 := h.below hb
  have hB := Blk.new w 31 (gv x)
  have HK1 := Lib.hid (Keep.of_below hb h.lt)
  have HX1 := Lib.hid h1
  have x0 := hB.cell 0
  have x1 := hB.cell 1
  have HBX := Lib.hid hB
  have HC := Lib.hid (ucount_below p M L x.cl x.up _ h1 (by omega))
  obtain ⟨cl, up, ep, sq, ak, bd⟩ := x
  dsimp only [gv] at x0 x1 HK1 HX1 HBX HC ⊢
  rcases put_is L ⟨cl, up, ep, sq, ak, bd⟩ with ⟨hc, hx, he⟩ | ⟨hc, hd, hf, hx, he⟩ | ⟨hc, hd, hf, hx, he⟩
  · rw [hx, he]
    clear h hb h1 hB HC hx he HBX
    dsimp only at hc
    by_cases hc1 : cl < 1
    · clear hc
      go_enter Try.func10, Try.ntmps10
      go_wp2
      go_ret
      exact ⟨rfl, HX1.out, HK1.out⟩
    · have hc2 : 8 < cl := by omega
      clear hc
      go_enter Try.func10, Try.ntmps10
      go_wp2
      go_ret
      exact ⟨rfl, HX1.out, HK1.out⟩
  · rw [hx, he]
    dsimp only at hc hd hf
    generalize countL L cl up = k at hf HC
    have hfi : (64 : Int) ≤ (k : Int) := by omega
    clear h hb h1 hB hx he HBX
    go_enter Try.func10, Try.ntmps10
    go_wp2_with fail
    refine HC.out.mono ?_
    rintro e w2 ⟨rfl, b2⟩
    have HX2 := Lib.hid (HX1.out.below b2)
    have HK2 := Lib.hid (HK1.out.trans (Keep.of_below b2 HX1.out.lt))
    clear b2 HC x0 x1
    go_wp2
    go_ret
    exact ⟨rfl, HX2.out, HK2.out⟩
  · rw [hx, he]
    dsimp only at hc hd hf
    generalize countL L cl up = k at hf HC
    have hfi : ¬ (64 : Int) ≤ (k : Int) := by omega
    have hwb := hb
    clear h hb h1 hB hx he
    go_enter Try.func10, Try.ntmps10
    go_wp2_with fail
    refine HC.out.mono ?_
    rintro e w2 ⟨rfl, b2⟩
    obtain ⟨v, hA⟩ := HX1.out.below b2
    have HB2 := Lib.hid (HBX.out.below b2 HBX.out.lt)
    have HK2 := Lib.hid (HK1.out.trans (Keep.of_below b2 HX1.out.lt))
    clear b2 HC x0 x1 HK1 HBX HX1 hwb
    have x0 := HB2.out.cell 0
    have x1 := HB2.out.cell 1
    have x2 := HB2.out.cell 2
    have x3 := HB2.out.cell 3
    have x4 := HB2.out.cell 4
    have x5 := HB2.out.cell 5
    obtain ⟨a, cv, rfl⟩ := own_shape hA.own
    have FIN : Hid (∀ W2 v5 w5, Below w2.heap.size w2 W2 → w5.ownsRow 0 31 6 v5 (L ++ [(⟨cl, up, ep, sq, ak, bd⟩ : Gr)]).length (gramsV (L ++ [(⟨cl, up, ep, sq, ak, bd⟩ : Gr)])) → W2.grownBy w5 (Value.slice a L.length cv).ownBlock → (v5.ownBlock = (Value.slice a L.length cv).ownBlock ∨ v5.ownBlock = some W2.heap.size) →
        (∃ a n c, v5 = .slice a n c) ∧ w5.cell? ⟨p, 0, none⟩ = some (.slice a L.length cv) ∧ w5.frozen? ⟨p, 0, none⟩ = false ∧ PQ 29 (w5.setCell ⟨p, 0, none⟩ v5) p M (L ++ [(⟨cl, up, ep, sq, ak, bd⟩ : Gr)]) ∧ Keep M w (w5.setCell ⟨p, 0, none⟩ v5)) := Lib.hid fun W2 v5 w5 hb ho hg hv => by
      obtain ⟨a5, c5, e5⟩ := own_shape ho
      obtain ⟨h1, h2, h3, h4⟩ := hA.laid hb ho hg (fun g hg5 => by
        rcases hv with e1 | e1
        · exact .inl (e1.symm.trans hg5)
        · rw [e1] at hg5; injection hg5 with hg5; exact .inr (by omega))
      exact ⟨⟨a5, _, c5, e5⟩, h1, h2, ⟨v5, h3⟩, HK2.out.trans h4⟩
    have d1 : w2.cell? ⟨p, 0, none⟩ = some (.slice a L.length cv) := hA.blk.cell 0
    have d6 : (w2.alloc (.cells #[.int .i64 cl, .bool up, .int .i64 ep, .int .i64 sq, .int .i64 ak, .string bd] 31)).cell? ⟨p, 0, none⟩ = some (.slice a L.length cv) := ((below_box w2 _).cell (p := ⟨p, 0, none⟩) hA.blk.lt).trans d1
    have d7 : (w2.alloc (.cells #[.int .i64 cl, .bool up, .int .i64 ep, .int .i64 sq, .int .i64 ak, .string bd] 31)).drew.cell? ⟨p, 0, none⟩ = some (.slice a L.length cv) := d6
    have HO := Lib.hid hA.own
    clear hA
    go_wp2_with fail
    go_region_law (refine step_put (wr := w2) rfl (.tmp 24) (.tmp 26) rfl (.slice a L.length cv) L (by simp [Act.eval]) w2.heap.size ⟨cl, up, ep, sq, ak, bd⟩ (by simp [Act.eval]) ?hp HO.out hlen ?_; (case hp => first | exact ⟨(below_box w2 _).drew, Blk.new w2 _ _⟩ | exact ⟨below_box w2 _, Blk.new w2 _ _⟩); intro v5 w5 hb5 ho5 hg5 hv5; have HE := Lib.hid (FIN.out _ v5 w5 hb5 ho5 hg5 hv5); obtain ⟨a5, n5, c5, e5⟩ := HE.out.1; subst e5; have k5 := HE.out.2.1; have f5 := HE.out.2.2.1; clear hb5 ho5 hg5 hv5)
    all_goals
      clear FIN HO HK2 HB2 d6 d7
      go_wp2_with fail
      go_ret
      exact ⟨rfl, HE.out.2.2.2⟩
def UCopyRes (p : Nat) (M : Nat → Prop) (b : Bool) (L : List Gr) (w : World) (e : Ending) (w' : World) : Prop := e = .returned (.bool b) ∧ PQ 29 w' p M L ∧ Keep M w w'
set_option maxRecDepth 100000 in
set_option maxHeartbeats 1000000 in
theorem ucopy_any (p : Nat) (M : Nat → Prop) (L : List Gr) (c : Int) (u : Bool) (i : Int) (w : World) (h : PQ 29 w p M L) (hlen : L.length ≤ 30000) :
    Calls Try.prog 14 #[.pointer (some ⟨p, 0, none⟩), .int .i64 c, .bool u, .int .i64 i] w (UCopyRes p M (copyB L c u i) (copyL L c u i) w) := by
  have HF := Lib.hid (uplace_below p M L c u i w h (by omega))
  have H := Lib.hid h
  clear h
  rcases findN_or L c u i with ⟨hn, _⟩ | ⟨x, hx, hg, hi⟩
  · have hb : copyB L c u i = false := by unfold copyB; rw [hn]
    have hl : copyL L c u i = L := by unfold copyL; rw [hn]
    have hi : findI L c u i = -1 := by unfold findI; rw [hn]
    rw [hb, hl]
    rw [hi] at HF
    clear hb hl hi hn
    go_enter Try.func14, Try.ntmps14
    go_wp2_with fail
    refine HF.out.mono ?_
    rintro e W1 ⟨rfl, b1⟩
    have H1 := Lib.hid (H.out.below b1)
    have HK1 := Lib.hid (Keep.of_below b1 H.out.lt)
    clear b1 HF H
    go_wp2
    go_ret
    exact ⟨rfl, H1.out, HK1.out⟩
  · have hb : copyB L c u i = (putX L x.1 == 0) := by unfold copyB; rw [hx]
    have hl : copyL L c u i = putL L x.1 := by unfold copyL; rw [hx]
    rw [hb, hl]
    rw [hi] at HF
    obtain ⟨x, k⟩ := x
    dsimp only at hg HF ⊢
    clear hb hl hi hx
    have hkl : k < L.length := (List.getElem?_eq_some_iff.1 hg).1
    have HGX := Lib.hid hg
    clear hg
    go_enter Try.func14, Try.ntmps14
    go_wp2_with fail
    refine HF.out.mono ?_
    rintro e W1 ⟨rfl, b1⟩
    have h1 := H.out.below b1
    have HP := Lib.hid (uput_any p M L x W1 h1 hlen)
    have HK1 := Lib.hid (Keep.of_below b1 H.out.lt)
    obtain ⟨v, h1⟩ := h1
    have p0 := h1.blk.cell 0
    obtain ⟨g, cc, hv, _, hgl, c0, c1, c2, c3, c4, c5⟩ := (src_own h1.own).at_ HGX.out
    have hcap : ∃ c', v = .slice (some ⟨g, 0, none⟩) L.length c' ∧ L.length ≤ c' := by
      rcases h1.own.2 with ⟨e, _⟩ | ⟨g', c', cur, e, _, _, hn, _⟩
      · rw [hv] at e; cases e
      · rw [hv] at e; injection e with e1 e2 e3; exact ⟨c', by rw [hv, e3], hn⟩
    obtain ⟨c', hv', hcap⟩ := hcap
    rw [hv] at hv'
    injection hv' with _ _ hv'
    subst hv'
    subst hv
    clear b1 HF H h1 HGX
    go_wp2_with fail
    refine HP.out.mono ?_
    rintro e W2 ⟨rfl, h2, k2⟩
    have H2 := Lib.hid h2
    have HK2 := Lib.hid (HK1.out.trans k2)
    clear h2 k2 HP HK1 c0 c1 c2 c3 c4 c5 p0
    generalize putX L x = e at *
    cases hbe : (e == 0) with
    | false =>
      go_wp2
      go_ret
      exact ⟨by rw [hbe]; rfl, H2.out, HK2.out⟩
    | true =>
      go_wp2
      go_ret
      exact ⟨by rw [hbe]; rfl, H2.out, HK2.out⟩
end Go.Proofs.Ytjlmmglhgmfgiaa.Mist
