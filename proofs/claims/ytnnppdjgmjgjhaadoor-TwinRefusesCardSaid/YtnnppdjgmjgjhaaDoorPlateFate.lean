/- The walks of a write's fate. -/
import Derived.Test.YtnnppdjgmjgjhaaDoorPlateAct
import Derived.Deep.RegionWith
namespace Go.Proofs.YtnnppdjgmjgjhaaDoor.Plate
open Go.RowKit
open Go.Proofs.YtnnppdjgmjgjhaaDoor.Mem

theorem SecRow.get {w : World} {sb N n : Nat} {f : Nat → Sec} (h : SecRow w sb N f) (hn : n < N) :
    w.cell? ⟨sb, n * 2, none⟩ = some (.string (f n).d) ∧ w.cell? ⟨sb, n * 2 + 1, none⟩ = some (.bool (f n).t) ∧ w.frozen? ⟨sb, n * 2, none⟩ = false ∧ w.frozen? ⟨sb, n * 2 + 1, none⟩ = false := by
  obtain ⟨cs, h1, h2, h3⟩ := h
  exact ⟨(h1.cell _).trans (h3 n hn).1, (h1.cell _).trans (h3 n hn).2, h1.frozen _, h1.frozen _⟩
theorem SecRow.put {w : World} {sb N n : Nat} {f : Nat → Sec} (h : SecRow w sb N f) (hn : n < N) (d : ByteArray) (t : Bool) :
    SecRow ((w.setCell ⟨sb, n * 2, none⟩ (.string d)).setCell ⟨sb, n * 2 + 1, none⟩ (.bool t)) sb N (upd f n ⟨d, t⟩) := by
  obtain ⟨cs, h1, h2, h3⟩ := h
  refine ⟨_, (h1.set_ (n * 2) (.string d)).set_ (n * 2 + 1) (.bool t), by simpa using h2, fun k hk => ?_⟩
  have := h3 k hk
  unfold upd
  by_cases hkn : k = n
  · subst hkn
    rw [if_pos rfl]
    simp only [Array.getElem?_setIfInBounds, Array.size_setIfInBounds, h2]
    refine ⟨?_, ?_⟩
    · rw [if_neg (by omega)]; simp; omega
    · simp; omega
  · rw [if_neg hkn]
    simp only [Array.getElem?_setIfInBounds]
    rw [if_neg (by omega), if_neg (by omega), if_neg (by omega), if_neg (by omega)]
    exact this
theorem PA.putSec {w : World} {p sb : Nat} {qv : Value} {M : Nat → Prop} {S : PS} (h : PA w p sb qv M S) {n : Nat} (hn : n < S.N) (d : ByteArray) (t : Bool) :
    PA ((w.setCell ⟨sb, n * 2, none⟩ (.string d)).setCell ⟨sb, n * 2 + 1, none⟩ (.bool t)) p sb qv M { S with sec := upd S.sec n ⟨d, t⟩ } :=
  ⟨(h.blk.far (show p ≠ sb from h.n0) _).far (show p ≠ sb from h.n0) _, h.sec.put hn d t, own_set (own_set h.own h.n2 _ _) h.n2 _ _, h.wf, h.n0, h.n1, h.n2, h.m0, h.m1, h.m2, fun k hk => by simpa using h.lt k hk⟩

theorem PA.drew {w : World} {p sb : Nat} {qv : Value} {M : Nat → Prop} {S : PS} (h : PA w p sb qv M S) : PA w.drew p sb qv M S := ⟨h.blk, h.sec, h.own, h.wf, h.n0, h.n1, h.n2, h.m0, h.m1, h.m2, h.lt⟩
theorem _root_.Go.Proofs.YtnnppdjgmjgjhaaDoor.Mem.Keep.drew {M : Nat → Prop} {w w' : World} (h : Keep M w w') : Keep M w w'.drew := ⟨h.os, h.tape, h.output, h.size, h.block⟩
theorem fate_not {f : Nat → Sec} {x : Wr} {z : Int} (h1 : z ≠ 1) (h2 : z ≠ 2) : fateS f x z = f := by unfold fateS; rw [if_neg h1, if_neg h2]

set_option maxRecDepth 100000 in
theorem settle_any (w : World) (p sb : Nat) (qv : Value) (M : Nat → Prop) (S : PS) (x : Wr) (z : Int) (h : PA w p sb qv M S) (hx : x.n < S.N) :
    Calls Tryd.prog 30 #[.pointer (some ⟨p, 0, none⟩), .agg #[.int .i64 (x.n : Int), .string x.d], .int .i64 z] w fun e w' => e = .returned (.tuple #[]) ∧ PA w' p sb qv M { S with sec := fateS S.sec x z } ∧ Keep M w w' := by
  have hbel : Below w.heap.size w (w.alloc (.cells #[.int .i64 (x.n : Int), .string x.d] 76)) := (Below.refl _ _).alloc (Nat.le_refl _) _
  have h1 := h.below hbel
  have HK := Lib.hid (Keep.of_below hbel h.lt)
  have hb := Blk.new w 76 #[.int .i64 (x.n : Int), .string x.d]
  have b0 := hb.cell 0
  have b1 := hb.cell 1
  obtain ⟨c0, -⟩ := h1.get
  obtain ⟨s0, s1, s2, s3⟩ := h1.sec.get hx
  have H := Lib.hid h1
  obtain ⟨N, hN⟩ : ∃ N, N = S.N := ⟨_, rfl⟩
  have HX := Lib.hid hx
  rw [← hN] at c0
  have hx' : x.n < N := by rw [hN]; exact hx
  obtain ⟨n, d⟩ := x
  clear h h1 hb hN hx
  simp only at *
  by_cases z1 : z = 1
  · subst z1
    go_enter Tryd.func30, Tryd.ntmps30
    go_wp2_with fail
    go_region
    go_wp2
    go_end0
    exact ⟨rfl, (H.out.putSec HX.out d false).drew, ((HK.out.set_ H.out.m1 _ _).set_ H.out.m1 _ _).drew⟩
  · by_cases z2 : z = 2
    · subst z2
      go_enter Tryd.func30, Tryd.ntmps30
      go_wp2_with fail
      go_region
      go_wp2
      go_end0
      exact ⟨rfl, (H.out.putSec HX.out _ true).drew, ((HK.out.set_ H.out.m1 _ _).set_ H.out.m1 _ _).drew⟩
    · have HZ := Lib.hid (fate_not (f := S.sec) (x := ⟨n, d⟩) z1 z2)
      go_enter Tryd.func30, Tryd.ntmps30
      go_wp2
      go_end0
      rw [HZ.out]
      exact ⟨rfl, H.out, HK.out⟩
end Go.Proofs.YtnnppdjgmjgjhaaDoor.Plate
