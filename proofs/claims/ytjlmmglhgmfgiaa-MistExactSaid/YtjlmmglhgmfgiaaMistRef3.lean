/- The document's own net: Pick, Eldest. -/
import Derived.Test.YtjlmmglhgmfgiaaMistRef1
namespace Go.Proofs.Ytjlmmglhgmfgiaa.Mist
set_option maxRecDepth 100000
open Go.RowKit
open Go.Proofs.Ytjlmmglhgmfgiaa.Mem Go.Proofs.Ytjlmmglhgmfgiaa.CordG
def UGot (p : Nat) (M : Nat → Prop) (o : Option Gr) (L : List Gr) (w : World) (e : Ending) (w' : World) : Prop :=
  ∃ x b, e = .returned (.tuple #[.agg #[.int .i64 x.cl, .bool x.up, .int .i64 x.ep, .int .i64 x.sq, .int .i64 x.ak, .string x.bd], .bool b]) ∧ (o = none ∧ b = false ∧ x = gz ∨ o = some x ∧ b = true) ∧ PQ 29 w' p M L ∧ Keep M w w'
/-- the end: the box's second life -/
theorem ugot_box {p q : Nat} {M : Nat → Prop} {o : Option Gr} {L : List Gr} {w W2 : World} {x : Gr} {b : Bool} {c0 c1 c2 c3 c4 c5 : Value} (hM : ∀ k, M k → k < q) (hX2 : Blk W2 q 31 #[c0, c1, c2, c3, c4, c5])
    (h1 : o = none ∧ b = false ∧ x = gz ∨ o = some x ∧ b = true) (h2 : PQ 29 W2 p (fun k => M k ∨ k = q) L) (h3 : Keep M w W2) :
    Blk (six W2 q x) q 31 (gv x) ∧ UGot p M o L w (.returned (.tuple #[.agg #[.int .i64 x.cl, .bool x.up, .int .i64 x.ep, .int .i64 x.sq, .int .i64 x.ak, .string x.bd], .bool b])) (six W2 q x) :=
  ⟨six_blk hX2 x, x, b, rfl, h1, (six_pq h2 (.inr rfl) x).mono fun _ h => .inl h, six_keep h3 (fun hm => Nat.lt_irrefl _ (hM _ hm)) x⟩
set_option maxRecDepth 100000 in
set_option maxHeartbeats 1000000 in
theorem upick_any (p : Nat) (M : Nat → Prop) (L : List Gr) (c : Int) (u : Bool) (i : Int) (w : World) (h : PQ 29 w p M L) (hlen : L.length ≤ 1000000) :
    Calls Try.prog 12 #[.pointer (some ⟨p, 0, none⟩), .int .i64 c, .bool u, .int .i64 i] w (UGot p M (pickO L c u i) (pickL L c u i) w) := by
  have hl := h.lt
  have hb := below_box w (.cells #[.int .i64 0, .bool false, .int .i64 0, .int .i64 0, .int .i64 0, .string ⟨#[]⟩] 31)
  have hX := Blk.new w 31 #[.int .i64 0, .bool false, .int .i64 0, .int .i64 0, .int .i64 0, .string ⟨#[]⟩]
  have h1 := h.alloc (.cells #[.int .i64 0, .bool false, .int .i64 0, .int .i64 0, .int .i64 0, .string ⟨#[]⟩] 31)
  have hk := Keep.of_below hb hl
  have hs : w.heap.size < (w.alloc (.cells #[.int .i64 0, .bool false, .int .i64 0, .int .i64 0, .int .i64 0, .string ⟨#[]⟩] 31)).heap.size := by simp
  obtain ⟨W0, hW0⟩ : ∃ W0, w.alloc (.cells #[.int .i64 0, .bool false, .int .i64 0, .int .i64 0, .int .i64 0, .string ⟨#[]⟩] 31) = W0 := ⟨_, rfl⟩
  rw [hW0] at hX h1 hk hs
  have HF := Lib.hid (uplace_any p _ L c u i W0 h1 hlen)
  have H1 := Lib.hid h1
  have HK := Lib.hid hk
  have HX := Lib.hid hX
  have HW0 := Lib.hid hW0
  have HL := Lib.hid hl
  have HS := Lib.hid hs
  clear h hb h1 hk hW0 hl hs
  rcases findN_or L c u i with ⟨hn, _⟩ | ⟨y, hx, hg, hi⟩
  · have hi : findI L c u i = -1 := by unfold findI; rw [hn]
    have ho : pickO L c u i = none := by unfold pickO; rw [hn]; rfl
    have hlx : pickL L c u i = L := by unfold pickL; rw [hn]; rfl
    rw [ho, hlx]
    rw [hi] at HF
    clear hi ho hlx hn
    obtain ⟨hX3, hG⟩ := ugot_box (w := w) (o := none) (x := gz) (b := false) HL.out hX (.inl ⟨rfl, rfl, rfl⟩) H1.out HK.out
    obtain ⟨W3, hW3⟩ : ∃ W3, six W0 w.heap.size gz = W3 := ⟨_, rfl⟩
    rw [hW3] at hX3 hG
    have HW3 : Hid ((((((W0.setCell ⟨w.heap.size, 0, none⟩ (.int .i64 0)).setCell ⟨w.heap.size, 1, none⟩ (.bool false)).setCell ⟨w.heap.size, 2, none⟩ (.int .i64 0)).setCell ⟨w.heap.size, 3, none⟩ (.int .i64 0)).setCell ⟨w.heap.size, 4, none⟩ (.int .i64 0)).setCell ⟨w.heap.size, 5, none⟩ (.string ⟨#[]⟩) = W3) := Lib.hid hW3
    have HX3 := Lib.hid hX3
    have HG := Lib.hid hG
    clear hW3 hX3 hG
    have z0 := hX.cell 0
    have z1 := hX.cell 1
    have z2 := hX.cell 2
    have z3 := hX.cell 3
    have z4 := hX.cell 4
    have z5 := hX.cell 5
    obtain ⟨f0, f1, f2, f3, f4, f5⟩ := blk_fr hX
    clear hX
    go_enter Try.func12, Try.ntmps12
    go_wp2_with fail
    rw [HW0.out]
    refine HF.out.mono ?_
    rintro e W1 ⟨rfl, rfl⟩
    go_wp2
    rw [HW3.out]
    obtain ⟨d0, d1, d2, d3, d4, d5⟩ := blk_cells HX3.out
    refine bodyPost_ret (v := .tuple #[.agg #[.int .i64 0, .bool false, .int .i64 0, .int .i64 0, .int .i64 0, .string ⟨#[]⟩], .bool false]) (by simp [results, Try.results12, go_sem, d0, d1, d2, d3, d4, d5, gz]) rfl ?_
    exact HG.out
  · obtain ⟨x, k⟩ := y
    have ho : pickO L c u i = some x := by unfold pickO; rw [hx]; rfl
    have hlx : pickL L c u i = cutL L k := by unfold pickL; rw [hx]; rfl
    rw [ho, hlx]
    dsimp only at hg hi
    rw [hi] at HF
    clear hi ho hlx hx
    have hkl : k < L.length := (List.getElem?_eq_some_iff.1 hg).1
    obtain ⟨v, hA⟩ := H1.out
    have p0 := hA.blk.cell 0
    obtain ⟨g, c9, rfl, hc9, _, hgl, c0, c1, c2, c3, c4, c5⟩ := hA.rowat hg
    clear hA hg
    clear hX
    go_enter Try.func12, Try.ntmps12
    go_wp2_with fail
    rw [HW0.out]
    refine HF.out.mono ?_
    rintro e W1 ⟨rfl, rfl⟩
    clear HF
    have hB2 := below_box W0 (.cells (gv x) 31)
    have HD := Lib.hid (udrop_any p _ L k _ (H1.out.alloc (.cells (gv x) 31)) hkl hlen)
    have HR1 := Lib.hid (Blk.new W0 31 (gv x))
    have HX1 := Lib.hid (HX.out.below hB2 HX.out.lt)
    have HK1 := Lib.hid (HK.out.alloc (fun k hk => Nat.lt_trans (HL.out k hk) HS.out) (.cells (gv x) 31))
    clear hB2 HX HK H1 HS
    dsimp only [gv] at HD HR1 HX1 HK1
    go_wp2_with fail
    refine HD.out.mono ?_
    rintro e W2 ⟨rfl, h3, k3⟩
    have hX2 := k3.blk HX1.out (.inl (.inr rfl))
    have hR2 := k3.blk HR1.out (.inr rfl)
    obtain ⟨hX3, hG⟩ := ugot_box (w := w) (o := some x) (x := x) (b := true) HL.out hX2 (.inr ⟨rfl, rfl⟩) (h3.mono fun _ h => .inl h) (HK1.out.trans (k3.mono fun _ h => .inl (.inl h)))
    obtain ⟨W3, hW3⟩ : ∃ W3, six W2 w.heap.size x = W3 := ⟨_, rfl⟩
    rw [hW3] at hX3 hG
    have HW3 : Hid ((((((W2.setCell ⟨w.heap.size, 0, none⟩ (.int .i64 x.cl)).setCell ⟨w.heap.size, 1, none⟩ (.bool x.up)).setCell ⟨w.heap.size, 2, none⟩ (.int .i64 x.ep)).setCell ⟨w.heap.size, 3, none⟩ (.int .i64 x.sq)).setCell ⟨w.heap.size, 4, none⟩ (.int .i64 x.ak)).setCell ⟨w.heap.size, 5, none⟩ (.string x.bd) = W3) := Lib.hid hW3
    have HX3 := Lib.hid hX3
    have HG := Lib.hid hG
    have z0 := hX2.cell 0
    have z1 := hX2.cell 1
    have z2 := hX2.cell 2
    have z3 := hX2.cell 3
    have z4 := hX2.cell 4
    have z5 := hX2.cell 5
    obtain ⟨f0, f1, f2, f3, f4, f5⟩ := blk_fr hX2
    obtain ⟨r0, r1, r2, r3, r4, r5⟩ := blk_cells (x := x) hR2
    clear hX2 hX3 hG hW3 h3 k3 hR2 HD HR1 HX1 HK1 c0 c1 c2 c3 c4 c5 p0
    go_wp2
    rw [HW3.out]
    obtain ⟨d0, d1, d2, d3, d4, d5⟩ := blk_cells HX3.out
    refine bodyPost_ret (v := .tuple #[.agg #[.int .i64 x.cl, .bool x.up, .int .i64 x.ep, .int .i64 x.sq, .int .i64 x.ak, .string x.bd], .bool true]) (by simp [results, Try.results12, go_sem, d0, d1, d2, d3, d4, d5]) rfl ?_
    exact HG.out
set_option maxRecDepth 100000 in
set_option maxHeartbeats 1000000 in
theorem ueldest_any (p : Nat) (M : Nat → Prop) (L : List Gr) (w : World) (h : PQ 29 w p M L) (hlen : L.length ≤ 1000000) :
    Calls Try.prog 16 #[.pointer (some ⟨p, 0, none⟩)] w (UGot p M (eldO L) L.tail w) := by
  have hl := h.lt
  have hb := below_box w (.cells #[.int .i64 0, .bool false, .int .i64 0, .int .i64 0, .int .i64 0, .string ⟨#[]⟩] 31)
  have hX := Blk.new w 31 #[.int .i64 0, .bool false, .int .i64 0, .int .i64 0, .int .i64 0, .string ⟨#[]⟩]
  have h1 := h.alloc (.cells #[.int .i64 0, .bool false, .int .i64 0, .int .i64 0, .int .i64 0, .string ⟨#[]⟩] 31)
  have hk := Keep.of_below hb hl
  have hs : w.heap.size < (w.alloc (.cells #[.int .i64 0, .bool false, .int .i64 0, .int .i64 0, .int .i64 0, .string ⟨#[]⟩] 31)).heap.size := by simp
  obtain ⟨W0, hW0⟩ : ∃ W0, w.alloc (.cells #[.int .i64 0, .bool false, .int .i64 0, .int .i64 0, .int .i64 0, .string ⟨#[]⟩] 31) = W0 := ⟨_, rfl⟩
  rw [hW0] at hX h1 hk hs
  have H1 := Lib.hid h1
  have HK := Lib.hid hk
  have HX := Lib.hid hX
  have HW0 := Lib.hid hW0
  have HL := Lib.hid hl
  have HS := Lib.hid hs
  clear h hb h1 hk hW0 hl hs
  cases L with
  | nil =>
    obtain ⟨v, hA⟩ := H1.out
    have p0 := hA.blk.cell 0
    obtain ⟨a, c9, rfl⟩ := own_shape hA.own
    clear hA
    obtain ⟨hX3, hG⟩ := ugot_box (w := w) (o := none) (x := gz) (b := false) HL.out hX (.inl ⟨rfl, rfl, rfl⟩) H1.out HK.out
    obtain ⟨W3, hW3⟩ : ∃ W3, six W0 w.heap.size gz = W3 := ⟨_, rfl⟩
    rw [hW3] at hX3 hG
    have HW3 : Hid ((((((W0.setCell ⟨w.heap.size, 0, none⟩ (.int .i64 0)).setCell ⟨w.heap.size, 1, none⟩ (.bool false)).setCell ⟨w.heap.size, 2, none⟩ (.int .i64 0)).setCell ⟨w.heap.size, 3, none⟩ (.int .i64 0)).setCell ⟨w.heap.size, 4, none⟩ (.int .i64 0)).setCell ⟨w.heap.size, 5, none⟩ (.string ⟨#[]⟩) = W3) := Lib.hid hW3
    have HX3 := Lib.hid hX3
    have HG := Lib.hid hG
    clear hW3 hX3 hG
    have z0 := hX.cell 0
    have z1 := hX.cell 1
    have z2 := hX.cell 2
    have z3 := hX.cell 3
    have z4 := hX.cell 4
    have z5 := hX.cell 5
    obtain ⟨f0, f1, f2, f3, f4, f5⟩ := blk_fr hX
    clear hX
    go_enter Try.func16, Try.ntmps16
    go_upto_region 1 with (fail)
    rw [HW0.out]
    go_wp2
    rw [HW3.out]
    obtain ⟨d0, d1, d2, d3, d4, d5⟩ := blk_cells HX3.out
    refine bodyPost_ret (v := .tuple #[.agg #[.int .i64 0, .bool false, .int .i64 0, .int .i64 0, .int .i64 0, .string ⟨#[]⟩], .bool false]) (by simp [results, Try.results16, go_sem, d0, d1, d2, d3, d4, d5, gz]) rfl ?_
    exact HG.out
  | cons x r =>
    have hg : (x :: r)[0]? = some x := rfl
    have hkl : 0 < (x :: r).length := Nat.zero_lt_succ _
    have hcut : cutL (x :: r) 0 = r := by simp [cutL]
    have htl : (x :: r).tail = r := rfl
    have hel : eldO (x :: r) = some x := rfl
    rw [htl, hel]
    clear htl hel
    generalize hLL : x :: r = L at *
    obtain ⟨v, hA⟩ := H1.out
    have p0 := hA.blk.cell 0
    obtain ⟨g, c9, rfl, hc9, _, hgl, c0, c1, c2, c3, c4, c5⟩ := hA.rowat hg
    simp only [Nat.zero_mul, Nat.zero_add] at c0 c1 c2 c3 c4 c5
    have hne : ((L.length : Int) == 0) = false := by rw [beq_eq_false_iff_ne]; omega
    clear hA hg
    clear hX
    go_enter Try.func16, Try.ntmps16
    go_upto_region 1 with (fail)
    rw [HW0.out]
    have hB2 := below_box W0 (.cells (gv x) 31)
    have HD := Lib.hid (udrop_any p _ L 0 _ (H1.out.alloc (.cells (gv x) 31)) hkl hlen)
    have HR1 := Lib.hid (Blk.new W0 31 (gv x))
    have HX1 := Lib.hid (HX.out.below hB2 HX.out.lt)
    have HK1 := Lib.hid (HK.out.alloc (fun k hk => Nat.lt_trans (HL.out k hk) HS.out) (.cells (gv x) 31))
    clear hB2 HX HK H1 HS
    dsimp only [gv] at HD HR1 HX1 HK1
    go_wp2_with fail
    refine HD.out.mono ?_
    rintro e W2 ⟨rfl, h3, k3⟩
    rw [hcut] at h3
    have hX2 := k3.blk HX1.out (.inl (.inr rfl))
    have hR2 := k3.blk HR1.out (.inr rfl)
    obtain ⟨hX3, hG⟩ := ugot_box (w := w) (o := some x) (x := x) (b := true) HL.out hX2 (.inr ⟨rfl, rfl⟩) (h3.mono fun _ h => .inl h) (HK1.out.trans (k3.mono fun _ h => .inl (.inl h)))
    obtain ⟨W3, hW3⟩ : ∃ W3, six W2 w.heap.size x = W3 := ⟨_, rfl⟩
    rw [hW3] at hX3 hG
    have HW3 : Hid ((((((W2.setCell ⟨w.heap.size, 0, none⟩ (.int .i64 x.cl)).setCell ⟨w.heap.size, 1, none⟩ (.bool x.up)).setCell ⟨w.heap.size, 2, none⟩ (.int .i64 x.ep)).setCell ⟨w.heap.size, 3, none⟩ (.int .i64 x.sq)).setCell ⟨w.heap.size, 4, none⟩ (.int .i64 x.ak)).setCell ⟨w.heap.size, 5, none⟩ (.string x.bd) = W3) := Lib.hid hW3
    have HX3 := Lib.hid hX3
    have HG := Lib.hid hG
    have z0 := hX2.cell 0
    have z1 := hX2.cell 1
    have z2 := hX2.cell 2
    have z3 := hX2.cell 3
    have z4 := hX2.cell 4
    have z5 := hX2.cell 5
    obtain ⟨f0, f1, f2, f3, f4, f5⟩ := blk_fr hX2
    obtain ⟨r0, r1, r2, r3, r4, r5⟩ := blk_cells (x := x) hR2
    clear hX2 hX3 hG hW3 h3 k3 hR2 HD HR1 HX1 HK1 c0 c1 c2 c3 c4 c5 p0
    go_wp2
    rw [HW3.out]
    obtain ⟨d0, d1, d2, d3, d4, d5⟩ := blk_cells HX3.out
    refine bodyPost_ret (v := .tuple #[.agg #[.int .i64 x.cl, .bool x.up, .int .i64 x.ep, .int .i64 x.sq, .int .i64 x.ak, .string x.bd], .bool true]) (by simp [results, Try.results16, go_sem, d0, d1, d2, d3, d4, d5]) rfl ?_
    exact HG.out
end Go.Proofs.Ytjlmmglhgmfgiaa.Mist
