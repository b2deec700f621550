/- Copy; calls of no net. -/
import Derived.Test.YthkgmfgchgoafaaMistDel
namespace Go.Proofs.Ythkgmfgchgoafaa.Mist
set_option maxRecDepth 100000
open Go.RowKit
open Go.Proofs.Ythkgmfgchgoafaa.Mem Go.Proofs.Ythkgmfgchgoafaa.CordG
def copyB (L : List Gr) (c : Int) (u : Bool) (i : Int) : Bool := match findN L c u i with | some x => putX L x.1 == 0 | none => false
def copyL (L : List Gr) (c : Int) (u : Bool) (i : Int) : List Gr := match findN L c u i with | some x => putL L x.1 | none => L
theorem copy_len (L : List Gr) (c : Int) (u : Bool) (i : Int) : (copyL L c u i).length ≤ L.length + 1 := by
  unfold copyL
  split
  · exact put_len _ _
  · omega
def CopyRes (p : Nat) (M : Nat → Prop) (b : Bool) (L : List Gr) (w : World) (e : Ending) (w' : World) : Prop := e = .returned (.bool b) ∧ PQ 69 w' p M L ∧ Keep M w w'
set_option maxRecDepth 100000 in
set_option maxHeartbeats 1000000 in
theorem copy_any (p : Nat) (M : Nat → Prop) (L : List Gr) (c : Int) (u : Bool) (i : Int) (w : World) (h : PQ 69 w p M L) (hlen : L.length ≤ 30000) :
    Calls Try.prog 12 #[.pointer (some ⟨p, 0, none⟩), .int .i64 c, .bool u, .int .i64 i] w (CopyRes p M (copyB L c u i) (copyL L c u i) w) := by
  have HF := Lib.hid (nfind_any p M L c u i w h (by omega))
  have H := Lib.hid h
  clear h
  rcases findN_or L c u i with ⟨hn, _⟩ | ⟨x, hx, hg, hi⟩
  · have hb : copyB L c u i = false := by unfold copyB; rw [hn]
    have hl : copyL L c u i = L := by unfold copyL; rw [hn]
    have hi : findI L c u i = -1 := by unfold findI; rw [hn]
    rw [hb, hl]
    rw [hi] at HF
    clear hb hl hi hn
    go_enter Try.func12, Try.ntmps12
    go_wp2_with fail
    refine HF.out.mono ?_
    rintro e W1 ⟨rfl, b1⟩
    have H1 := Lib.hid (H.out.below b1)
    have HK1 := Lib.hid (Keep.of_below b1 H.out.lt)
    clear b1 HF H
    go_wp2
    go_ret
    exact ⟨rfl, H1.out, HK1.out⟩
  · have hb : copyB L c u i = (putX L x.1 == 0) := by unfold copyB; rw [hx]
    have hl : copyL L c u i = putL L x.1 := by unfold copyL; rw [hx]
    rw [hb, hl]
    rw [hi] at HF
    obtain ⟨x, k⟩ := x
    dsimp only at hg HF ⊢
    clear hb hl hi hx
    have hkl : k < L.length := (List.getElem?_eq_some_iff.1 hg).1
    have HGX := Lib.hid hg
    clear hg
    go_enter Try.func12, Try.ntmps12
    go_wp2_with fail
    refine HF.out.mono ?_
    rintro e W1 ⟨rfl, b1⟩
    have h1 := H.out.below b1
    have HP := Lib.hid (put_any p M L x W1 h1 hlen)
    have HK1 := Lib.hid (Keep.of_below b1 H.out.lt)
    obtain ⟨v, h1⟩ := h1
    have p0 := h1.blk.cell 0
    obtain ⟨g, cc, hv, _, hgl, c0, c1, c2, c3, c4, c5⟩ := (src_own h1.own).at_ HGX.out
    have hcap : ∃ c', v = .slice (some ⟨g, 0, none⟩) L.length c' ∧ L.length ≤ c' := by
      rcases h1.own.2 with ⟨e, _⟩ | ⟨g', c', cur, e, _, _, hn, _⟩
      · rw [hv] at e; cases e
      · rw [hv] at e; injection e with e1 e2 e3; exact ⟨c', by rw [hv, e3], hn⟩
    obtain ⟨c', hv', hcap⟩ := hcap
    rw [hv] at hv'
    injection hv' with _ _ hv'
    subst hv'
    subst hv
    clear b1 HF H h1 HGX
    go_wp2_with fail
    refine HP.out.mono ?_
    rintro e W2 ⟨rfl, h2, k2⟩
    have H2 := Lib.hid h2
    have HK2 := Lib.hid (HK1.out.trans k2)
    clear h2 k2 HP HK1 c0 c1 c2 c3 c4 c5 p0
    generalize putX L x = e at *
    cases hbe : (e == 0) with
    | false =>
      go_wp2
      go_ret
      exact ⟨by rw [hbe]; rfl, H2.out, HK2.out⟩
    | true =>
      go_wp2
      go_ret
      exact ⟨by rw [hbe]; rfl, H2.out, HK2.out⟩
set_option maxRecDepth 100000 in
theorem zcopy_any (c : Int) (u : Bool) (i : Int) (w : World) :
    Calls Try.prog 12 #[.pointer none, .int .i64 c, .bool u, .int .i64 i] w fun e w' => e = .returned (.bool false) ∧ Below w.heap.size w w' := by
  have hf := find_any none _ [] c u i w (np_none w) (Nat.zero_le _)
  have hi : findI [] c u i = -1 := by unfold findI findN; simp [wayL]
  rw [hi] at hf
  have HF := Lib.hid hf
  clear hf hi
  go_enter Try.func12, Try.ntmps12
  go_wp2_with fail
  refine HF.out.mono ?_
  rintro e W1 ⟨rfl, b1⟩
  have HB := Lib.hid b1
  clear b1 HF
  go_wp2
  go_ret
  exact ⟨rfl, HB.out⟩
set_option maxRecDepth 100000 in
set_option maxHeartbeats 1000000 in
theorem zeldest_any (w : World) : Calls Try.prog 13 #[.pointer none] w fun e w' => e = .returned (.tuple #[.agg #[.int .i64 0, .bool false, .int .i64 0, .int .i64 0, .int .i64 0, .string ⟨#[]⟩], .bool false]) ∧ Below w.heap.size w w' := by
  have hb := below_box w (.cells #[.int .i64 0, .bool false, .int .i64 0, .int .i64 0, .int .i64 0, .string ⟨#[]⟩] 29)
  have hX := Blk.new w 29 #[.int .i64 0, .bool false, .int .i64 0, .int .i64 0, .int .i64 0, .string ⟨#[]⟩]
  obtain ⟨W0, hW0⟩ : ∃ W0, w.alloc (.cells #[.int .i64 0, .bool false, .int .i64 0, .int .i64 0, .int .i64 0, .string ⟨#[]⟩] 29) = W0 := ⟨_, rfl⟩
  rw [hW0] at hX hb
  have HT := Lib.hid (take_no_np none _ [] 0 W0 (np_none W0) (.inr (by simp)))
  have HB := Lib.hid hb
  have HX := Lib.hid hX
  have HW0 := Lib.hid hW0
  clear hb hX hW0
  go_enter Try.func13, Try.ntmps13
  go_wp2_with fail
  rw [HW0.out]
  refine HT.out.mono ?_
  rintro e W2 ⟨rfl, b2⟩
  have hX2 := HX.out.below b2 HX.out.lt
  have hb2 := HB.out.trans (b2.mono HB.out.size)
  have hX3 := six_blk hX2 gz
  have hG := six_below hb2 (Nat.le_refl _) gz
  have z0 := hX2.cell 0
  have z1 := hX2.cell 1
  have z2 := hX2.cell 2
  have z3 := hX2.cell 3
  have z4 := hX2.cell 4
  have z5 := hX2.cell 5
  obtain ⟨f0, f1, f2, f3, f4, f5⟩ := blk_fr hX2
  obtain ⟨W3, hW3⟩ : ∃ W3, six W2 w.heap.size gz = W3 := ⟨_, rfl⟩
  rw [hW3] at hX3 hG
  have HW3 : Hid ((((((W2.setCell ⟨w.heap.size, 0, none⟩ (.int .i64 0)).setCell ⟨w.heap.size, 1, none⟩ (.bool false)).setCell ⟨w.heap.size, 2, none⟩ (.int .i64 0)).setCell ⟨w.heap.size, 3, none⟩ (.int .i64 0)).setCell ⟨w.heap.size, 4, none⟩ (.int .i64 0)).setCell ⟨w.heap.size, 5, none⟩ (.string ⟨#[]⟩) = W3) := Lib.hid hW3
  have HX3 := Lib.hid hX3
  have HG := Lib.hid hG
  clear hX2 hX3 hG hW3 hb2 b2 HT HB HX HW0
  go_wp2
  rw [HW3.out]
  obtain ⟨d0, d1, d2, d3, d4, d5⟩ := blk_cells HX3.out
  refine bodyPost_ret (v := .tuple #[.agg #[.int .i64 0, .bool false, .int .i64 0, .int .i64 0, .int .i64 0, .string ⟨#[]⟩], .bool false]) (by simp [results, Try.results13, go_sem, d0, d1, d2, d3, d4, d5, gz]) rfl ?_
  exact ⟨rfl, HG.out⟩
set_option maxRecDepth 100000 in
theorem zclear_any (c : Int) (w : World) : Calls Try.prog 27 #[.pointer none, .int .i64 c] w fun e w' => e = .returned (.int .i64 0) ∧ Below w.heap.size w w' := by
  have hn := run_nilp
  have hb := Lib.hid (below_box w (.cells #[.int .i64 c] 3))
  go_enter Try.func27, Try.ntmps27
  go_wp2
  go_ret
  exact ⟨rfl, hb.out⟩
end Go.Proofs.Ythkgmfgchgoafaa.Mist
