/- A list is gone over. -/
import Derived.Test.YtcpkngkeechjeaaPastTake
import Derived.Test.YtcpkngkeechjeaaEntGood
namespace Go.Proofs.Ytcpkngkeechjeaa.Past
set_option maxRecDepth 100000
open Go.RowKit
open Go.Proofs.Ytcpkngkeechjeaa.Mem
open Go.Maps
open Go.Proofs.Ytcpkngkeechjeaa.Ent (Ent goodB Ents EntAt SmallE noE entA cellsE)
section
variable {w w' : World} {B g m1 m2 n : Nat} {dv : Value} {T : Tl}
theorem TA.base (h : TA w B g m1 m2 dv n T) {B2 : Nat} (hB : B2 ≤ B) : TA w B2 g m1 m2 dv n T :=
  { blk := h.blk, mt := h.mt, mp := h.mp, row := own_base h.row hB, hg := Nat.le_trans hB h.hg, h1 := Nat.le_trans hB h.h1, h2 := Nat.le_trans hB h.h2, ne := h.ne }
theorem TA.not_row {r : Nat} {cs : Array Value} {t : TypeId} (h : TA w B g m1 m2 dv n T) (hr : Blk w r t cs) (ht : t ≠ 24) : dv.ownBlock ≠ some r := fun e => by
  obtain ⟨_, ⟨rfl, _⟩ | ⟨gg, cap, cur, rfl, _, hb, _⟩⟩ := h.row
  · cases e
  · simp [Value.ownBlock] at e
    subst e
    unfold Blk at hr
    rw [hb] at hr
    cases hr
    exact ht rfl
/-- a store into a variable of another -/
theorem TA.far {r : Nat} {cs : Array Value} {t : TypeId} (h : TA w B g m1 m2 dv n T) (hr : Blk w r t cs) (ht : t ≠ 24) (hne : r ≠ g) (i : Nat) (v : Value) : TA (w.setCell ⟨r, i, none⟩ v) B g m1 m2 dv n T := by
  have hk : ∀ k, k ≠ r → (w.setCell ⟨r, i, none⟩ v).heap[k]? = w.heap[k]? := fun k hk => Below.heap_setCell w _ _ k hk
  exact { blk := (hk g (fun e => hne e.symm)).trans h.blk, mt := h.mt.same (hk m1 (h.mt.not_cells hr)), mp := h.mp.same (hk m2 (h.mp.not_cells hr)), row := own_set h.row (h.not_row hr ht) _ _, hg := h.hg, h1 := h.h1, h2 := h.h2, ne := h.ne }
/-- .. the tale in another variable -/
theorem TA.rebox (h : TA w B g m1 m2 dv n T) {g2 : Nat} (hg : Blk w g2 56 #[.map (some m1), .map (some m2), dv]) (hB : B ≤ g2) : TA w B g2 m1 m2 dv n T :=
  { blk := hg, mt := h.mt, mp := h.mp, row := h.row, hg := hB, h1 := h.h1, h2 := h.h2, ne := h.ne }
end
def TellRes (L : List Ent) (w : World) (e : Ending) (w' : World) : Prop :=
  ∃ g m1 m2 dv T, e = .returned (.agg #[.map (some m1), .map (some m2), dv]) ∧ TA w' w.heap.size g m1 m2 dv (2 * L.length) T ∧ Tells L T ∧ Below w.heap.size w w'
theorem tell_start (W0 : World) (B : Nat) (hB : B = W0.heap.size) :
    TA (((W0.alloc (.map #[] 0)).alloc (.map #[] 0)).alloc (.cells #[.map (some W0.heap.size), .map (some (W0.heap.size + 1)), .slice none 0 0] 56)) B (W0.heap.size + 2) W0.heap.size (W0.heap.size + 1) (.slice none 0 0) 0 tl0 ∧
      Below B W0 (((W0.alloc (.map #[] 0)).alloc (.map #[] 0)).alloc (.cells #[.map (some W0.heap.size), .map (some (W0.heap.size + 1)), .slice none 0 0] 56)) := by
  subst hB
  have hs1 : (W0.alloc (.map #[] 0)).heap.size = W0.heap.size + 1 := by simp
  have hs2 : ((W0.alloc (.map #[] 0)).alloc (.map #[] 0)).heap.size = W0.heap.size + 2 := by simp
  have hb1 := Ent.below_box W0 (.map #[] 0)
  have hb2 := Ent.below_box (W0.alloc (.map #[] 0)) (.map #[] 0)
  have hb3 := Ent.below_box ((W0.alloc (.map #[] 0)).alloc (.map #[] 0)) (.cells #[.map (some W0.heap.size), .map (some (W0.heap.size + 1)), .slice none 0 0] 56)
  have hm1 := mapT_made W0
  have hm2 := Latch.map_made (W0.alloc (.map #[] 0))
  rw [hs1] at hm2
  have hg := Blk.new ((W0.alloc (.map #[] 0)).alloc (.map #[] 0)) 56 #[.map (some W0.heap.size), .map (some (W0.heap.size + 1)), .slice none 0 0]
  rw [hs2] at hg
  refine ⟨{ blk := hg, mt := (hm1.same ((hb2.block _ (by omega)))).same (hb3.block _ (by omega)), mp := hm2.same (hb3.block _ (by omega)), row := own_nil _ _ _ _, hg := by omega, h1 := by omega, h2 := by omega, ne := by omega }, ?_⟩
  exact (hb1.trans (hb2.mono (by omega))).trans (hb3.mono (by omega))
set_option maxRecDepth 100000 in
set_option maxHeartbeats 4000000 in
theorem tell_any (a : Option Addr) (n c : Nat) (L : List Ent) (w : World) (h : Ents w a n L) (hn : n ≤ 100000) :
    Calls Try.prog 22 #[.slice a n c] w (TellRes L w) := by
  have hL : L.length = n := h.1
  have HE := Lib.hid h
  clear h
  have hb0 := Ent.below_box w (.cells #[.map none, .map none, .slice none 0 0] 56)
  have hr0 := Blk.new w 56 #[.map none, .map none, .slice none 0 0]
  have hs0 : (w.alloc (.cells #[.map none, .map none, .slice none 0 0] 56)).heap.size = w.heap.size + 1 := by simp
  go_enter Try.func22, Try.ntmps22
  go_upto_region 1 with (fail)
  generalize hGen : w.alloc (.cells #[.map none, .map none, .slice none 0 0] 56) = W0 at hb0 hr0 hs0 ⊢
  clear hGen
  have HST := Lib.hid (tell_start W0 W0.heap.size rfl)
  have HR0 := Lib.hid hr0
  have HS0 := Lib.hid hs0
  have HB0 := Lib.hid hb0
  clear hb0 hr0 hs0
  have hmm := @run_makeMap Try.prog
  go_wp2_with fail
  go_loopw [11] (fun i wr => ∃ (k : Nat) (dv : Value) (T : Tl), k ≤ n ∧ i = .int .i64 (k : Int) ∧ Hid (TA wr W0.heap.size (W0.heap.size + 2) W0.heap.size (W0.heap.size + 1) dv (2 * k) T ∧ Tells (L.take k) T ∧ Below W0.heap.size W0 wr)) (fun i _ => n - intN i)
  case atStart => exact ⟨0, _, tl0, Nat.zero_le _, rfl, Lib.hid ⟨HST.out.1, by rw [List.take_zero]; exact tells_nil, HST.out.2⟩⟩
  case round =>
    obtain ⟨k, dv, T, hk, rfl, HR⟩ := hrel
    clear HST
    by_cases hlt : k < n
    · have hx : L[k]? = some (L[k]'(by omega)) := List.getElem?_eq_getElem _
      generalize L[k]'(by omega) = x at hx
      obtain ⟨b, off, rfl, hbw, hat, hsm, -⟩ := ents_mem HE.out hx
      have HSM := Lib.hid (show Ent.Small x from hsm)
      have HBw := Lib.hid (HB0.out.trans ((HR.out.2.2).mono (by have := HS0.out; omega)))
      have HN := Lib.hid (take_next hx)
      have HLT := Lib.hid (show (L.take k).length = k by rw [List.length_take]; omega)
      obtain ⟨c0, c1, c2, c3, c4, c5, c6, c7, c8, c9, c10, c11, c12⟩ := (hat.next HBw.out hbw).cells
      have HX1 := Lib.hid (Blk.new wr 31 #[.int .i64 x.kind, .int .i64 x.cl, .int .i64 x.ep, .int .i64 x.n, .int .i64 x.lsn, .int .i64 x.prev, .int .i64 x.page, .int .i64 x.slot, .bool x.wu, .string x.wd, .bool x.iu, .string x.id, .int .i64 x.next])
      have HA1 := Lib.hid (HR.out.1.below (Ent.below_box wr (.cells #[.int .i64 x.kind, .int .i64 x.cl, .int .i64 x.ep, .int .i64 x.n, .int .i64 x.lsn, .int .i64 x.prev, .int .i64 x.page, .int .i64 x.slot, .bool x.wu, .string x.wd, .bool x.iu, .string x.id, .int .i64 x.next] 31)))
      have HB1 := Lib.hid (HR.out.2.2.trans ((Ent.below_box wr (.cells #[.int .i64 x.kind, .int .i64 x.cl, .int .i64 x.ep, .int .i64 x.n, .int .i64 x.lsn, .int .i64 x.prev, .int .i64 x.page, .int .i64 x.slot, .bool x.wu, .string x.wd, .bool x.iu, .string x.id, .int .i64 x.next] 31)).mono HR.out.1.size))
      have HTE := Lib.hid HR.out.2.1
      clear hx hat hsm HR HBw
      have hd1 : decide ((k : Int) < (n : Int)) = true := decide_eq_true (by omega)
      go_upto_region 5 with (fail)
      have hs1 : wr.heap.size < (wr.alloc (.cells #[.int .i64 x.kind, .int .i64 x.cl, .int .i64 x.ep, .int .i64 x.n, .int .i64 x.lsn, .int .i64 x.prev, .int .i64 x.page, .int .i64 x.slot, .bool x.wu, .string x.wd, .bool x.iu, .string x.id, .int .i64 x.next] 31)).heap.size := by simp
      generalize wr.alloc (.cells #[.int .i64 x.kind, .int .i64 x.cl, .int .i64 x.ep, .int .i64 x.n, .int .i64 x.lsn, .int .i64 x.prev, .int .i64 x.page, .int .i64 x.slot, .bool x.wu, .string x.wd, .bool x.iu, .string x.id, .int .i64 x.next] 31) = W1 at HX1 HA1 HB1 hs1 ⊢
      clear c0 c1 c2 c3 c4 c5 c6 c7 c8 c9 c10 c11 c12
      obtain ⟨c0, c1, c2, c3, c4, c5, c6, c7, c8, c9, c10, c11, c12⟩ := Ent.ent_cells HX1.out
      have HG := Lib.hid (Ent.good_any x W1 HSM.out)
      cases hgb : goodB x with
      | false =>
        have HT2 := Lib.hid (tells_bad HTE.out hgb)
        rw [hgb] at HG
        clear hgb
        go_wp2_with fail
        refine HG.out.mono ?_
        rintro e w2 ⟨rfl, b2⟩
        have H2 := Lib.hid (show TA w2 W0.heap.size (W0.heap.size + 2) W0.heap.size (W0.heap.size + 1) dv (2 * (k + 1)) T ∧ Tells (L.take (k + 1)) T ∧ Below W0.heap.size W0 w2 from ⟨(HA1.out.below b2).mono (by omega), by rw [HN.out]; exact HT2.out, HB1.out.trans (b2.mono HA1.out.size)⟩)
        clear c0 c1 c2 c3 c4 c5 c6 c7 c8 c9 c10 c11 c12 b2
        go_wp2
        go_roundw
        case rel => exact ⟨k + 1, dv, T, by omega, by go_num, H2⟩
        case measure => simp [intN]; omega
      | true =>
        have HT2 := Lib.hid (tells_good HTE.out hgb)
        rw [HLT.out] at HT2
        have HGB := Lib.hid hgb
        rw [hgb] at HG
        clear hgb
        go_wp2_with fail
        refine HG.out.mono ?_
        rintro e w2 ⟨rfl, b2⟩
        have HA2 := Lib.hid (HA1.out.below b2)
        have HB2 := Lib.hid (HB1.out.trans (b2.mono HA1.out.size))
        have HX2 := Lib.hid (HX1.out.below b2 HX1.out.lt)
        clear c0 c1 c2 c3 c4 c5 c6 c7 c8 c9 c10 c11 c12 b2 HG
        obtain ⟨c0, c1, c2, c3, c4, c5, c6, c7, c8, c9, c10, c11, c12⟩ := Ent.ent_cells HX2.out
        have hdl : T.dn.length ≤ 900000 := by have h1 := HTE.out.len; have h2 := HLT.out; omega
        have HC := Lib.hid (take_any W0.heap.size (W0.heap.size + 2) W0.heap.size (W0.heap.size + 1) (2 * k) dv T x k w2 HA2.out (by omega) hdl HGB.out)
        go_wp2_with fail
        refine HC.out.mono ?_
        rintro e w3 ⟨rfl, dv3, a3, b3⟩
        have H2 := Lib.hid (show TA w3 W0.heap.size (W0.heap.size + 2) W0.heap.size (W0.heap.size + 1) dv3 (2 * (k + 1)) (takeT T (k : Int) x) ∧ Tells (L.take (k + 1)) (takeT T (k : Int) x) ∧ Below W0.heap.size W0 w3 from ⟨a3.mono (by omega), by rw [HN.out]; exact HT2.out, HB2.out.trans b3⟩)
        clear c0 c1 c2 c3 c4 c5 c6 c7 c8 c9 c10 c11 c12 a3 b3 HC hdl
        go_wp2
        go_roundw
        case rel => exact ⟨k + 1, dv3, _, by omega, by go_num, H2⟩
        case measure => simp [intN]; omega
    · obtain rfl : k = n := by omega
      have hF : L.take k = L := List.take_of_length_le (by omega)
      have hd1 : decide ((k : Int) < (k : Int)) = false := decide_eq_false (by omega)
      rw [hF] at HR
      have hR := HR.out.1
      have hrr : Blk wr w.heap.size 56 #[.map none, .map none, .slice none 0 0] := HR0.out.below HR.out.2.2 HR0.out.lt
      obtain ⟨t0, t1, t2, f0, f1, f2⟩ := hR.cells
      have r0 := hrr.cell 0
      have r1 := hrr.cell 1
      have r2 := hrr.cell 2
      have g0 := hrr.frozen 0
      have g1 := hrr.frozen 1
      have g2 := hrr.frozen 2
      obtain ⟨da, dc, rfl⟩ := own_shape hR.row
      have hs0 := HS0.out
      have hne : w.heap.size ≠ W0.heap.size + 2 := by omega
      have hk1 := (((hrr.set_ 0 (.map (some W0.heap.size))).set_ 1 (.map (some (W0.heap.size + 1)))).set_ 2 (.slice da T.dn.length dc))
      have HF := Lib.hid (show TA (((wr.setCell ⟨w.heap.size, 0, none⟩ (.map (some W0.heap.size))).setCell ⟨w.heap.size, 1, none⟩ (.map (some (W0.heap.size + 1)))).setCell ⟨w.heap.size, 2, none⟩ (.slice da T.dn.length dc)) w.heap.size (W0.heap.size + 2) W0.heap.size (W0.heap.size + 1) (.slice da T.dn.length dc) (2 * k) T ∧ Tells L T ∧
          Below w.heap.size w (((wr.setCell ⟨w.heap.size, 0, none⟩ (.map (some W0.heap.size))).setCell ⟨w.heap.size, 1, none⟩ (.map (some (W0.heap.size + 1)))).setCell ⟨w.heap.size, 2, none⟩ (.slice da T.dn.length dc)) from
        ⟨(((hR.far hrr (by decide) hne 0 _).far (hrr.set_ 0 _) (by decide) hne 1 _).far ((hrr.set_ 0 _).set_ 1 _) (by decide) hne 2 _).base (by omega), HR.out.2.1,
          (((HB0.out.trans (HR.out.2.2.mono (by omega))).setCell (p := ⟨w.heap.size, 0, none⟩) (Nat.le_refl _) _).setCell (p := ⟨w.heap.size, 1, none⟩) (Nat.le_refl _) _).setCell (p := ⟨w.heap.size, 2, none⟩) (Nat.le_refl _) _⟩)
      have k0 := hk1.cell 0
      have k1 := hk1.cell 1
      have k2 := hk1.cell 2
      have HL := Lib.hid hL
      clear hR hrr HR hF hk1 HR0 HE hL hs0
      go_wp2
      refine bodyPost_ret (v := .agg #[.map (some W0.heap.size), .map (some (W0.heap.size + 1)), .slice da T.dn.length dc]) ?_ rfl ?_
      · simp [results, Try.results22, go_sem, k0, k1, k2]
      · exact ⟨_, _, _, _, T, rfl, by rw [HL.out]; exact HF.out.1, HF.out.2.1, HF.out.2.2⟩
end Go.Proofs.Ytcpkngkeechjeaa.Past
