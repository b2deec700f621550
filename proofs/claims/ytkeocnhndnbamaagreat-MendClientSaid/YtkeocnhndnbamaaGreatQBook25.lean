/- A log behind acts: the statements' own lived, walked. A list is gone over. A view handed back. The program's Read: what stands in memory on its way. How a row that rises is laid anew, one after the other, as the document's own answer does it. -/
import Derived.Test.YtkeocnhndnbamaaGreatQMendDoes
import Derived.Test.YtkeocnhndnbamaaGreatQPastTake
import Derived.Test.YtkeocnhndnbamaaGreatQBook6
import Derived.Test.YtkeocnhndnbamaaGreatQBook11
import Derived.Test.YtkeocnhndnbamaaGreatQBook9
namespace Go.Proofs.YtkeocnhndnbamaaGreat.Mend
set_option maxRecDepth 100000
open Go.RowKit Go.Sort
open Go.Proofs.YtkeocnhndnbamaaGreat.Mem
open Go.Proofs.YtkeocnhndnbamaaGreat.Slab (Slot Slots)
open Go.Proofs.YtkeocnhndnbamaaGreat.Ent (Ent goodB)
open Go.Proofs.YtkeocnhndnbamaaGreat.MLog
/-- the acts that count: 40 at most -/
def actsL (zs : List AR) (j : Nat) : List ActP := (zs.take j).map AR.p
theorem acts_fine (zs : List AR) (j : Nat) : ∀ a ∈ actsL zs j, a.fine := fun a ha => by
  obtain ⟨z, -, rfl⟩ := List.mem_map.1 ha
  exact z.fine
theorem acts_len (zs : List AR) (j : Nat) : (actsL zs j).length ≤ j := by unfold actsL; rw [List.length_map, List.length_take]; omega
theorem acts_next {zs : List AR} {j : Nat} {z : AR} (h : zs[j]? = some z) : livedP (actsL zs (j + 1)) = actP (livedP (actsL zs j)) z.kd ((cutN z.cl 4 + 1 : Nat) : Int) (cutN z.pg 4 : Int) (cutN z.sl 5 : Int) z.d := by
  unfold actsL
  rw [List.take_add_one, h, Option.toList_some, List.map_append, livedP, List.foldl_append]
  rfl
/-- what is handed back: a log, and whether it counts -/
def LivedRes (zs : List AR) (w : World) (e : Ending) (w' : World) : Prop :=
  ∃ (u : Nat) (b : Bool), e = .returned (.tuple #[.pointer (some ⟨u, 0, none⟩), .bool b]) ∧ Below w.heap.size w w' ∧ (b = true → PQ w' w.heap.size u (livedP (actsL zs 40)))
theorem livA (zs : List AR) {j : Nat} (hj : j ≤ 40) : ∃ s, Liv (livedP (actsL zs j)) s 80 40 := by
  obtain ⟨s, h⟩ := liv_lived (actsL zs j) (acts_fine zs j) (by have := acts_len zs j; omega)
  have := acts_len zs j
  exact ⟨s, h.mono (by omega) (by omega)⟩
set_option maxRecDepth 100000 in
set_option maxHeartbeats 16000000 in
theorem lived_any (a : Option Addr) (n c : Nat) (zs : List AR) (w : World) (h : ARs w a n zs) :
    Calls Tryz.prog 10 #[.slice a n c] w (LivedRes zs w) := by
  have HH := Lib.hid h
  have hlen := h.1
  have HBO := Lib.hid (born_any w)
  clear h
  go_enter Tryz.func10, Tryz.ntmps10
  go_wp2_with ((with_reducible refine (HBO.out).mono ?_); rintro e w1 ⟨u, M, lv, nv, av, rfl, h1, hu, b1⟩; have H1 := Lib.hid (show PQ w1 w.heap.size u (livedP (actsL zs 0)) ∧ Below w.heap.size w w1 from ⟨⟨M, lv, nv, av, h1, hu⟩, b1⟩); clear h1 hu b1)
  go_loopw [5] (fun iv wr => ∃ j : Nat, j ≤ 40 ∧ j ≤ n ∧ iv = .int .i64 (j : Int) ∧ Hid (PQ wr w.heap.size u (livedP (actsL zs j)) ∧ Below w.heap.size w wr)) (fun iv _ => 40 - intN iv)
  case atStart => exact ⟨0, by omega, by omega, rfl, H1⟩
  case round =>
    clear H1 HBO
    obtain ⟨j, hj40, hjn, rfl, HJ⟩ := hrel
    by_cases hjl : j < n
    · have hd : decide ((j : Int) < (n : Int)) = true := decide_eq_true (by omega)
      by_cases hj4 : j < 40
      · have hd2 : decide ((j : Int) < 40) = true := decide_eq_true (by omega)
        obtain ⟨b, off, z, rfl, hbl, hz, ⟨c0, c1, c2, c3, c4⟩, hgd⟩ := (HH.out.below HJ.out.2).at_ hjl
        have hzj : zs[j]? = some z := by
          have hl : j < zs.length := by omega
          rw [← hz]; simp [List.getD, hl]
        have HN := Lib.hid (acts_next hzj)
        have c1' : wr.cell? ⟨b, off + j * 5 + 1, none⟩ = some (.int .i64 z.cl) := c1
        have c2' : wr.cell? ⟨b, off + j * 5 + 2, none⟩ = some (.int .i64 z.pg) := c2
        have c3' : wr.cell? ⟨b, off + j * 5 + 3, none⟩ = some (.int .i64 z.sl) := c3
        have c4' : wr.cell? ⟨b, off + j * 5 + 4, none⟩ = some (.string z.d) := c4
        have hdz : ((z.d.size : Nat) : Int) ≤ 140737488351232 := by have := hgd.2.2.2.2; omega
        clear c1 c2 c3 c4 hzj hz hgd
        by_cases h100 : z.d.size ≤ 100
        · have hd3 : decide (((z.d.size : Nat) : Int) > 100) = false := decide_eq_false (by omega)
          have hd4 : decide ((100 : Int) < ((z.d.size : Nat) : Int)) = false := decide_eq_false (by omega)
          have hd5 : decide (100 < z.d.size) = false := decide_eq_false (by omega)
          obtain ⟨s, hliv⟩ := livA zs hj40
          obtain ⟨⟨M, lv, nv, av, h2, hu⟩, hb2⟩ := HJ.out
          have HDO := Lib.hid (pdoes_any h2 hu hliv (by omega) (by omega) z.kd z.cl z.pg z.sl z.d h100)
          rw [← HN.out] at HDO
          have HB := Lib.hid hb2
          clear h2 hliv hb2 hu
          go_wp2_with ((with_reducible refine (HDO.out).mono ?_); rintro e w3 ⟨rfl, h3, b3⟩; have H3 := Lib.hid (And.intro h3 (HB.out.trans b3)); clear h3 b3)
          go_roundw
          case rel => exact ⟨j + 1, by omega, by omega, by go_num, H3⟩
          case measure => simp [intN]; omega
        · have hd3 : decide (((z.d.size : Nat) : Int) > 100) = true := decide_eq_true (by omega)
          have hd4 : decide ((100 : Int) < ((z.d.size : Nat) : Int)) = true := decide_eq_true (by omega)
          have hd5 : decide (100 < z.d.size) = true := decide_eq_true (by omega)
          have HF := Lib.hid (show LivedRes zs w (.returned (.tuple #[.pointer (some ⟨u, 0, none⟩), .bool false])) wr from ⟨u, false, rfl, HJ.out.2, fun h => by cases h⟩)
          go_wp2
          exact bodyPost_ret (v := .tuple #[.pointer (some ⟨u, 0, none⟩), .bool false]) (by simp [results, Tryz.results10, go_sem]) rfl HF.out
      · obtain rfl : j = 40 := by omega
        have hd2 : decide ((40 : Int) < 40) = false := by decide
        have HF := Lib.hid (show LivedRes zs w (.returned (.tuple #[.pointer (some ⟨u, 0, none⟩), .bool true])) wr from ⟨u, true, rfl, HJ.out.2, fun _ => HJ.out.1⟩)
        go_wp2
        exact bodyPost_ret (v := .tuple #[.pointer (some ⟨u, 0, none⟩), .bool true]) (by simp [results, Tryz.results10, go_sem]) rfl HF.out
    · obtain rfl : j = n := by omega
      have hd : decide ((j : Int) < (j : Int)) = false := decide_eq_false (by omega)
      have HF := Lib.hid (show LivedRes zs w (.returned (.tuple #[.pointer (some ⟨u, 0, none⟩), .bool true])) wr from ⟨u, true, rfl, HJ.out.2, fun _ => by
        have h1 := HJ.out.1
        have e : actsL zs j = actsL zs 40 := by unfold actsL; rw [List.take_of_length_le (by omega), List.take_of_length_le (by omega)]
        rw [e] at h1; exact h1⟩)
      go_wp2
      exact bodyPost_ret (v := .tuple #[.pointer (some ⟨u, 0, none⟩), .bool true]) (by simp [results, Tryz.results10, go_sem]) rfl HF.out
end Go.Proofs.YtkeocnhndnbamaaGreat.Mend
namespace Go.Proofs.YtkeocnhndnbamaaGreat.Past
set_option maxRecDepth 100000
open Go.RowKit
open Go.Proofs.YtkeocnhndnbamaaGreat.Mem
open Go.Maps
open Go.Proofs.YtkeocnhndnbamaaGreat.Ent (Ent goodB Ents EntAt SmallE noE entA cellsE)
section
variable {w w' : World} {B g m1 m2 n : Nat} {dv : Value} {T : Tl}
theorem TA.base (h : TA w B g m1 m2 dv n T) {B2 : Nat} (hB : B2 ≤ B) : TA w B2 g m1 m2 dv n T :=
  { blk := h.blk, mt := h.mt, mp := h.mp, row := own_base h.row hB, hg := Nat.le_trans hB h.hg, h1 := Nat.le_trans hB h.h1, h2 := Nat.le_trans hB h.h2, ne := h.ne }
theorem TA.not_row {r : Nat} {cs : Array Value} {t : TypeId} (h : TA w B g m1 m2 dv n T) (hr : Blk w r t cs) (ht : t ≠ 56) : dv.ownBlock ≠ some r := fun e => by
  obtain ⟨_, ⟨rfl, _⟩ | ⟨gg, cap, cur, rfl, _, hb, _⟩⟩ := h.row
  · cases e
  · simp [Value.ownBlock] at e
    subst e
    unfold Blk at hr
    rw [hb] at hr
    cases hr
    exact ht rfl
/-- a store into a variable of another -/
theorem TA.far {r : Nat} {cs : Array Value} {t : TypeId} (h : TA w B g m1 m2 dv n T) (hr : Blk w r t cs) (ht : t ≠ 56) (hne : r ≠ g) (i : Nat) (v : Value) : TA (w.setCell ⟨r, i, none⟩ v) B g m1 m2 dv n T := by
  have hk : ∀ k, k ≠ r → (w.setCell ⟨r, i, none⟩ v).heap[k]? = w.heap[k]? := fun k hk => Below.heap_setCell w _ _ k hk
  exact { blk := (hk g (fun e => hne e.symm)).trans h.blk, mt := h.mt.same (hk m1 (h.mt.not_cells hr)), mp := h.mp.same (hk m2 (h.mp.not_cells hr)), row := own_set h.row (h.not_row hr ht) _ _, hg := h.hg, h1 := h.h1, h2 := h.h2, ne := h.ne }
/-- .. the tale in another variable -/
theorem TA.rebox (h : TA w B g m1 m2 dv n T) {g2 : Nat} (hg : Blk w g2 146 #[.map (some m1), .map (some m2), dv]) (hB : B ≤ g2) : TA w B g2 m1 m2 dv n T :=
  { blk := hg, mt := h.mt, mp := h.mp, row := h.row, hg := hB, h1 := h.h1, h2 := h.h2, ne := h.ne }
end
def TellRes (L : List Ent) (w : World) (e : Ending) (w' : World) : Prop :=
  ∃ g m1 m2 dv T, e = .returned (.agg #[.map (some m1), .map (some m2), dv]) ∧ TA w' w.heap.size g m1 m2 dv (2 * L.length) T ∧ Tells L T ∧ Below w.heap.size w w'
theorem tell_start (W0 : World) (B : Nat) (hB : B = W0.heap.size) :
    TA (((W0.alloc (.map #[] 0)).alloc (.map #[] 0)).alloc (.cells #[.map (some W0.heap.size), .map (some (W0.heap.size + 1)), .slice none 0 0] 146)) B (W0.heap.size + 2) W0.heap.size (W0.heap.size + 1) (.slice none 0 0) 0 tl0 ∧
      Below B W0 (((W0.alloc (.map #[] 0)).alloc (.map #[] 0)).alloc (.cells #[.map (some W0.heap.size), .map (some (W0.heap.size + 1)), .slice none 0 0] 146)) := by
  subst hB
  have hs1 : (W0.alloc (.map #[] 0)).heap.size = W0.heap.size + 1 := by simp
  have hs2 : ((W0.alloc (.map #[] 0)).alloc (.map #[] 0)).heap.size = W0.heap.size + 2 := by simp
  have hb1 := Ent.below_box W0 (.map #[] 0)
  have hb2 := Ent.below_box (W0.alloc (.map #[] 0)) (.map #[] 0)
  have hb3 := Ent.below_box ((W0.alloc (.map #[] 0)).alloc (.map #[] 0)) (.cells #[.map (some W0.heap.size), .map (some (W0.heap.size + 1)), .slice none 0 0] 146)
  have hm1 := mapT_made W0
  have hm2 := Latch.map_made (W0.alloc (.map #[] 0))
  rw [hs1] at hm2
  have hg := Blk.new ((W0.alloc (.map #[] 0)).alloc (.map #[] 0)) 146 #[.map (some W0.heap.size), .map (some (W0.heap.size + 1)), .slice none 0 0]
  rw [hs2] at hg
  refine ⟨{ blk := hg, mt := (hm1.same ((hb2.block _ (by omega)))).same (hb3.block _ (by omega)), mp := hm2.same (hb3.block _ (by omega)), row := own_nil _ _ _ _, hg := by omega, h1 := by omega, h2 := by omega, ne := by omega }, ?_⟩
  exact (hb1.trans (hb2.mono (by omega))).trans (hb3.mono (by omega))
set_option maxRecDepth 100000 in
set_option maxHeartbeats 4000000 in
theorem tell_any (a : Option Addr) (n c : Nat) (L : List Ent) (w : World) (h : Ents w a n L) (hn : n ≤ 100000) :
    Calls Tryz.prog 70 #[.slice a n c] w (TellRes L w) := by
  have hL : L.length = n := h.1
  have HE := Lib.hid h
  clear h
  have hb0 := Ent.below_box w (.cells #[.map none, .map none, .slice none 0 0] 146)
  have hr0 := Blk.new w 146 #[.map none, .map none, .slice none 0 0]
  have hs0 : (w.alloc (.cells #[.map none, .map none, .slice none 0 0] 146)).heap.size = w.heap.size + 1 := by simp
  go_enter Tryz.func70, Tryz.ntmps70
  go_upto_region 1 with (fail)
  generalize hGen : w.alloc (.cells #[.map none, .map none, .slice none 0 0] 146) = W0 at hb0 hr0 hs0 ⊢
  clear hGen
  have HST := Lib.hid (tell_start W0 W0.heap.size rfl)
  have HR0 := Lib.hid hr0
  have HS0 := Lib.hid hs0
  have HB0 := Lib.hid hb0
  clear hb0 hr0 hs0
  have hmm := @run_makeMap Tryz.prog
  go_wp2_with fail
  go_loopw [11] (fun i wr => ∃ (k : Nat) (dv : Value) (T : Tl), k ≤ n ∧ i = .int .i64 (k : Int) ∧ Hid (TA wr W0.heap.size (W0.heap.size + 2) W0.heap.size (W0.heap.size + 1) dv (2 * k) T ∧ Tells (L.take k) T ∧ Below W0.heap.size W0 wr)) (fun i _ => n - intN i)
  case atStart => exact ⟨0, _, tl0, Nat.zero_le _, rfl, Lib.hid ⟨HST.out.1, by rw [List.take_zero]; exact tells_nil, HST.out.2⟩⟩
  case round =>
    obtain ⟨k, dv, T, hk, rfl, HR⟩ := hrel
    clear HST
    by_cases hlt : k < n
    · have hx : L[k]? = some (L[k]'(by omega)) := List.getElem?_eq_getElem _
      generalize L[k]'(by omega) = x at hx
      obtain ⟨b, off, rfl, hbw, hat, hsm, -⟩ := ents_mem HE.out hx
      have HSM := Lib.hid (show Ent.Small x from hsm)
      have HBw := Lib.hid (HB0.out.trans ((HR.out.2.2).mono (by have := HS0.out; omega)))
      have HN := Lib.hid (take_next hx)
      have HLT := Lib.hid (show (L.take k).length = k by rw [List.length_take]; omega)
      obtain ⟨c0, c1, c2, c3, c4, c5, c6, c7, c8, c9, c10, c11, c12⟩ := (hat.next HBw.out hbw).cells
      have HX1 := Lib.hid (Blk.new wr 58 #[.int .i64 x.kind, .int .i64 x.cl, .int .i64 x.ep, .int .i64 x.n, .int .i64 x.lsn, .int .i64 x.prev, .int .i64 x.page, .int .i64 x.slot, .bool x.wu, .string x.wd, .bool x.iu, .string x.id, .int .i64 x.next])
      have HA1 := Lib.hid (HR.out.1.below (Ent.below_box wr (.cells #[.int .i64 x.kind, .int .i64 x.cl, .int .i64 x.ep, .int .i64 x.n, .int .i64 x.lsn, .int .i64 x.prev, .int .i64 x.page, .int .i64 x.slot, .bool x.wu, .string x.wd, .bool x.iu, .string x.id, .int .i64 x.next] 58)))
      have HB1 := Lib.hid (HR.out.2.2.trans ((Ent.below_box wr (.cells #[.int .i64 x.kind, .int .i64 x.cl, .int .i64 x.ep, .int .i64 x.n, .int .i64 x.lsn, .int .i64 x.prev, .int .i64 x.page, .int .i64 x.slot, .bool x.wu, .string x.wd, .bool x.iu, .string x.id, .int .i64 x.next] 58)).mono HR.out.1.size))
      have HTE := Lib.hid HR.out.2.1
      clear hx hat hsm HR HBw
      have hd1 : decide ((k : Int) < (n : Int)) = true := decide_eq_true (by omega)
      go_upto_region 5 with (fail)
      have hs1 : wr.heap.size < (wr.alloc (.cells #[.int .i64 x.kind, .int .i64 x.cl, .int .i64 x.ep, .int .i64 x.n, .int .i64 x.lsn, .int .i64 x.prev, .int .i64 x.page, .int .i64 x.slot, .bool x.wu, .string x.wd, .bool x.iu, .string x.id, .int .i64 x.next] 58)).heap.size := by simp
      generalize wr.alloc (.cells #[.int .i64 x.kind, .int .i64 x.cl, .int .i64 x.ep, .int .i64 x.n, .int .i64 x.lsn, .int .i64 x.prev, .int .i64 x.page, .int .i64 x.slot, .bool x.wu, .string x.wd, .bool x.iu, .string x.id, .int .i64 x.next] 58) = W1 at HX1 HA1 HB1 hs1 ⊢
      clear c0 c1 c2 c3 c4 c5 c6 c7 c8 c9 c10 c11 c12
      obtain ⟨c0, c1, c2, c3, c4, c5, c6, c7, c8, c9, c10, c11, c12⟩ := Ent.ent_cells HX1.out
      have HG := Lib.hid (Ent.good_any x W1 HSM.out)
      cases hgb : goodB x with
      | false =>
        have HT2 := Lib.hid (tells_bad HTE.out hgb)
        rw [hgb] at HG
        clear hgb
        go_wp2_with fail
        refine HG.out.mono ?_
        rintro e w2 ⟨rfl, b2⟩
        have H2 := Lib.hid (show TA w2 W0.heap.size (W0.heap.size + 2) W0.heap.size (W0.heap.size + 1) dv (2 * (k + 1)) T ∧ Tells (L.take (k + 1)) T ∧ Below W0.heap.size W0 w2 from ⟨(HA1.out.below b2).mono (by omega), by rw [HN.out]; exact HT2.out, HB1.out.trans (b2.mono HA1.out.size)⟩)
        clear c0 c1 c2 c3 c4 c5 c6 c7 c8 c9 c10 c11 c12 b2
        go_wp2
        go_roundw
        case rel => exact ⟨k + 1, dv, T, by omega, by go_num, H2⟩
        case measure => simp [intN]; omega
      | true =>
        have HT2 := Lib.hid (tells_good HTE.out hgb)
        rw [HLT.out] at HT2
        have HGB := Lib.hid hgb
        rw [hgb] at HG
        clear hgb
        go_wp2_with fail
        refine HG.out.mono ?_
        rintro e w2 ⟨rfl, b2⟩
        have HA2 := Lib.hid (HA1.out.below b2)
        have HB2 := Lib.hid (HB1.out.trans (b2.mono HA1.out.size))
        have HX2 := Lib.hid (HX1.out.below b2 HX1.out.lt)
        clear c0 c1 c2 c3 c4 c5 c6 c7 c8 c9 c10 c11 c12 b2 HG
        obtain ⟨c0, c1, c2, c3, c4, c5, c6, c7, c8, c9, c10, c11, c12⟩ := Ent.ent_cells HX2.out
        have hdl : T.dn.length ≤ 900000 := by have h1 := HTE.out.len; have h2 := HLT.out; omega
        have HC := Lib.hid (take_any W0.heap.size (W0.heap.size + 2) W0.heap.size (W0.heap.size + 1) (2 * k) dv T x k w2 HA2.out (by omega) hdl HGB.out)
        go_wp2_with fail
        refine HC.out.mono ?_
        rintro e w3 ⟨rfl, dv3, a3, b3⟩
        have H2 := Lib.hid (show TA w3 W0.heap.size (W0.heap.size + 2) W0.heap.size (W0.heap.size + 1) dv3 (2 * (k + 1)) (takeT T (k : Int) x) ∧ Tells (L.take (k + 1)) (takeT T (k : Int) x) ∧ Below W0.heap.size W0 w3 from ⟨a3.mono (by omega), by rw [HN.out]; exact HT2.out, HB2.out.trans b3⟩)
        clear c0 c1 c2 c3 c4 c5 c6 c7 c8 c9 c10 c11 c12 a3 b3 HC hdl
        go_wp2
        go_roundw
        case rel => exact ⟨k + 1, dv3, _, by omega, by go_num, H2⟩
        case measure => simp [intN]; omega
    · obtain rfl : k = n := by omega
      have hF : L.take k = L := List.take_of_length_le (by omega)
      have hd1 : decide ((k : Int) < (k : Int)) = false := decide_eq_false (by omega)
      rw [hF] at HR
      have hR := HR.out.1
      have hrr : Blk wr w.heap.size 146 #[.map none, .map none, .slice none 0 0] := HR0.out.below HR.out.2.2 HR0.out.lt
      obtain ⟨t0, t1, t2, f0, f1, f2⟩ := hR.cells
      have r0 := hrr.cell 0
      have r1 := hrr.cell 1
      have r2 := hrr.cell 2
      have g0 := hrr.frozen 0
      have g1 := hrr.frozen 1
      have g2 := hrr.frozen 2
      obtain ⟨da, dc, rfl⟩ := own_shape hR.row
      have hs0 := HS0.out
      have hne : w.heap.size ≠ W0.heap.size + 2 := by omega
      have hk1 := (((hrr.set_ 0 (.map (some W0.heap.size))).set_ 1 (.map (some (W0.heap.size + 1)))).set_ 2 (.slice da T.dn.length dc))
      have HF := Lib.hid (show TA (((wr.setCell ⟨w.heap.size, 0, none⟩ (.map (some W0.heap.size))).setCell ⟨w.heap.size, 1, none⟩ (.map (some (W0.heap.size + 1)))).setCell ⟨w.heap.size, 2, none⟩ (.slice da T.dn.length dc)) w.heap.size (W0.heap.size + 2) W0.heap.size (W0.heap.size + 1) (.slice da T.dn.length dc) (2 * k) T ∧ Tells L T ∧
          Below w.heap.size w (((wr.setCell ⟨w.heap.size, 0, none⟩ (.map (some W0.heap.size))).setCell ⟨w.heap.size, 1, none⟩ (.map (some (W0.heap.size + 1)))).setCell ⟨w.heap.size, 2, none⟩ (.slice da T.dn.length dc)) from
        ⟨(((hR.far hrr (by decide) hne 0 _).far (hrr.set_ 0 _) (by decide) hne 1 _).far ((hrr.set_ 0 _).set_ 1 _) (by decide) hne 2 _).base (by omega), HR.out.2.1,
          (((HB0.out.trans (HR.out.2.2.mono (by omega))).setCell (p := ⟨w.heap.size, 0, none⟩) (Nat.le_refl _) _).setCell (p := ⟨w.heap.size, 1, none⟩) (Nat.le_refl _) _).setCell (p := ⟨w.heap.size, 2, none⟩) (Nat.le_refl _) _⟩)
      have k0 := hk1.cell 0
      have k1 := hk1.cell 1
      have k2 := hk1.cell 2
      have HL := Lib.hid hL
      clear hR hrr HR hF hk1 HR0 HE hL hs0
      go_wp2
      refine bodyPost_ret (v := .agg #[.map (some W0.heap.size), .map (some (W0.heap.size + 1)), .slice da T.dn.length dc]) ?_ rfl ?_
      · simp [results, Tryz.results70, go_sem, k0, k1, k2]
      · exact ⟨_, _, _, _, T, rfl, by rw [HL.out]; exact HF.out.1, HF.out.2.1, HF.out.2.2⟩
end Go.Proofs.YtkeocnhndnbamaaGreat.Past
namespace Go.Proofs.YtkeocnhndnbamaaGreat.Past
set_option maxRecDepth 100000
open Go.RowKit
/-- a view handed back, its rows in new memory -/
def ViewRes (V : Vw) (w : World) (e : Ending) (w' : World) : Prop :=
  ∃ sl dn pg, e = .returned (.agg #[sl, dn, pg]) ∧ Rows3 w' w.heap.size sl dn pg V ∧ Below w.heap.size w w'
section
variable {wr : World} {B : Nat} {sl dn pg : Value} {V : Vw}
/-- a thing of each row -/
theorem Rows3.loser (h : Rows3 wr B sl dn pg V) {i : Nat} {y : T3 × Int} (hi : V.los[i]? = some y) :
    ∃ g c, sl = .slice (some ⟨g, 0, none⟩) V.los.length c ∧ g < wr.heap.size ∧ i < V.los.length ∧ wr.cell? ⟨g, i * 4, none⟩ = some (.int .i64 y.1.cl) ∧ wr.cell? ⟨g, i * 4 + 1, none⟩ = some (.int .i64 y.1.ep) ∧ wr.cell? ⟨g, i * 4 + 2, none⟩ = some (.int .i64 y.1.n) ∧ wr.cell? ⟨g, i * 4 + 3, none⟩ = some (.int .i64 y.2) := by
  obtain ⟨g, c, e, -, hg, hl, hc⟩ := own_at (f := loV) (m := 4) (fun _ => rfl) h.lo hi
  exact ⟨g, c, e, hg, hl, hc 0 _ (by decide) rfl, hc 1 _ (by decide) rfl, hc 2 _ (by decide) rfl, hc 3 _ (by decide) rfl⟩
theorem Rows3.page (h : Rows3 wr B sl dn pg V) {i : Nat} {y : Int × Int} (hi : V.pg[i]? = some y) :
    ∃ g c, pg = .slice (some ⟨g, 0, none⟩) V.pg.length c ∧ g < wr.heap.size ∧ i < V.pg.length ∧ wr.cell? ⟨g, i * 2, none⟩ = some (.int .i64 y.1) ∧ wr.cell? ⟨g, i * 2 + 1, none⟩ = some (.int .i64 y.2) := by
  obtain ⟨g, c, e, -, hg, hl, hc⟩ := own_at (f := fiV) (m := 2) (fun _ => rfl) h.fi hi
  exact ⟨g, c, e, hg, hl, hc 0 _ (by decide) rfl, hc 1 _ (by decide) rfl⟩
end
end Go.Proofs.YtkeocnhndnbamaaGreat.Past
namespace Go.Proofs.YtkeocnhndnbamaaGreat.Past
set_option maxRecDepth 100000
open Go.RowKit
open Go.Proofs.YtkeocnhndnbamaaGreat.Mem
open Go.Maps
open Go.Proofs.YtkeocnhndnbamaaGreat.Ent (Ent goodB Ents EntAt SmallE noE entA cellsE)
theorem own_ty {w : World} {B size n k : Nat} {t t' : TypeId} {v : Value} {xs : List Value} {cs : Array Value} (h : w.ownsRow B t size v n xs) (hk : Blk w k t' cs) (hne : t' ≠ t) : v.ownBlock ≠ some k := fun e => by
  obtain ⟨_, ⟨rfl, _⟩ | ⟨gg, cap, cur, rfl, _, hb, _⟩⟩ := h
  · cases e
  · simp [Value.ownBlock] at e
    subst e
    unfold Blk at hk
    rw [hb] at hk
    cases hk
    exact hne rfl
theorem own_own {w : World} {B B' size size' n n' : Nat} {t t' : TypeId} {v v' : Value} {xs xs' : List Value} (h : w.ownsRow B t size v n xs) (h' : w.ownsRow B' t' size' v' n' xs') (hne : t' ≠ t) : ∀ g, v.ownBlock = some g → v'.ownBlock ≠ some g := fun g e e' => by
  obtain ⟨_, ⟨rfl, _⟩ | ⟨gg, cap, cur, rfl, _, hb, _⟩⟩ := h
  · cases e
  · obtain ⟨_, ⟨rfl, _⟩ | ⟨gg', cap', cur', rfl, _, hb', _⟩⟩ := h'
    · cases e'
    · simp [Value.ownBlock] at e e'
      subst e
      rw [e', hb] at hb'
      cases hb'
      exact hne rfl
theorem own_map {w : World} {B size n k : Nat} {t : TypeId} {v : Value} {xs : List Value} {es : Array MapEntry} {c : Nat} (h : w.ownsRow B t size v n xs) (hk : w.heap[k]? = some (.map es c)) : v.ownBlock ≠ some k := fun e => by
  obtain ⟨_, ⟨rfl, _⟩ | ⟨gg, cap, cur, rfl, _, hb, _⟩⟩ := h
  · cases e
  · simp [Value.ownBlock] at e
    subst e
    rw [hb] at hk
    cases hk
structure RP (w0 w : World) (B r g u m1 m2 n : Nat) (dv sl pg : Value) (T : Tl) (los : List (T3 × Int)) (pgs : List (Int × Int)) : Prop where
  ta : TA w B g m1 m2 dv n T
  ub : Blk w u 120 #[sl, dv, pg]
  rb : Blk w r 120 #[.slice none 0 0, .slice none 0 0, .slice none 0 0]
  lo : w.ownsRow B 123 4 sl los.length (cellsG loV los)
  fi : w.ownsRow B 157 2 pg pgs.length (cellsG fiV pgs)
  bel : Below w0.heap.size w0 w
  old : w0.heap.size ≤ r ∧ r < B ∧ B ≤ u
section
variable {w0 w w' : World} {B r g u m1 m2 n : Nat} {dv sl pg : Value} {T : Tl} {los : List (T3 × Int)} {pgs : List (Int × Int)}
theorem RP.same (h : RP w0 w B r g u m1 m2 n dv sl pg T los pgs) (hb : ∀ k, k < w.heap.size → w'.heap[k]? = w.heap[k]?) (hbb : Below w0.heap.size w0 w') : RP w0 w' B r g u m1 m2 n dv sl pg T los pgs :=
  { ta := h.ta.same hb, ub := (hb u h.ub.lt).trans h.ub, rb := (hb r h.rb.lt).trans h.rb, lo := own_same h.lo fun k e => hb k (own_lt h.lo e), fi := own_same h.fi fun k e => hb k (own_lt h.fi e), bel := hbb, old := h.old }
theorem RP.below (h : RP w0 w B r g u m1 m2 n dv sl pg T los pgs) (hb : Below w.heap.size w w') : RP w0 w' B r g u m1 m2 n dv sl pg T los pgs := h.same hb.block (h.bel.trans (hb.mono h.bel.size))
theorem RP.size (h : RP w0 w B r g u m1 m2 n dv sl pg T los pgs) : B ≤ w.heap.size := h.ta.size
/-- what a growing row of another kind leaves -/
theorem TA.grownO {t : TypeId} {size k : Nat} {v : Value} {xs : List Value} (h : TA w B g m1 m2 dv n T) (hr : w.ownsRow B t size v k xs) (h1 : 146 ≠ t) (h2 : 56 ≠ t) (hg : w.grownBy w' v.ownBlock) : TA w' B g m1 m2 dv n T := by
  have k1 : v.ownBlock ≠ some m1 := by
    obtain ⟨D, ⟨es, clock, hb, r⟩, h2⟩ := h.mt
    exact own_map hr hb
  have k2 : v.ownBlock ≠ some m2 := by
    obtain ⟨D, ⟨es, clock, hb, r⟩, h2⟩ := h.mp
    exact own_map hr hb
  exact { blk := h.blk.grown hg (fun e => own_ty hr h.blk h1 e.symm), mt := h.mt.same (hg.block _ h.mt.lt (fun e => k1 e.symm)), mp := h.mp.same (hg.block _ h.mp.lt (fun e => k2 e.symm)), row := own_same h.row fun k e => hg.block k (own_lt h.row e) (fun e2 => own_own hr h.row h2 k e2.symm e), hg := h.hg, h1 := h.h1, h2 := h.h2, ne := h.ne }
theorem RP.addLo (h : RP w0 w B r g u m1 m2 n dv sl pg T los pgs) {sl' : Value} {los' : List (T3 × Int)} (hne : u ≠ g) (ha : AppRes w w' B 123 4 sl sl' los'.length (cellsG loV los')) :
    RP w0 (w'.setCell ⟨u, 0, none⟩ sl') B r g u m1 m2 n dv sl' pg T los' pgs := by
  obtain ⟨ho, hg, hu⟩ := ha
  have hT := h.ta.grownO h.lo (by decide) (by decide) hg
  have hub : Blk w' u 120 #[sl, dv, pg] := h.ub.grown hg (fun e => own_ty h.lo h.ub (by decide) e.symm)
  have hrb : Blk w' r 120 #[.slice none 0 0, .slice none 0 0, .slice none 0 0] := h.rb.grown hg (fun e => own_ty h.lo h.rb (by decide) e.symm)
  have hfi : w'.ownsRow B 157 2 pg pgs.length (cellsG fiV pgs) := own_same h.fi fun k e => hg.block k (own_lt h.fi e) (fun e2 => own_own h.lo h.fi (by decide) k e2.symm e)
  have hb : Below w0.heap.size w0 w' := below_grown h.bel h.bel.size hg fun k e => by have := own_ge h.lo e; have := h.old; omega
  have hset := hub.set_ 0 sl'
  exact { ta := hT.far hub (by decide) hne 0 _, ub := by simpa using hset, rb := hrb.far (by have := h.old; simp only; omega) _, lo := own_set ho (own_ty ho hub (by decide)) _ _, fi := own_set hfi (own_ty hfi hub (by decide)) _ _, bel := hb.setCell (p := ⟨u, 0, none⟩) (by have := h.old; simp only; omega) _, old := h.old }
theorem RP.addPg (h : RP w0 w B r g u m1 m2 n dv sl pg T los pgs) {pg' : Value} {pgs' : List (Int × Int)} (hne : u ≠ g) (ha : AppRes w w' B 157 2 pg pg' pgs'.length (cellsG fiV pgs')) :
    RP w0 (w'.setCell ⟨u, 2, none⟩ pg') B r g u m1 m2 n dv sl pg' T los pgs' := by
  obtain ⟨ho, hg, hu⟩ := ha
  have hT := h.ta.grownO h.fi (by decide) (by decide) hg
  have hub : Blk w' u 120 #[sl, dv, pg] := h.ub.grown hg (fun e => own_ty h.fi h.ub (by decide) e.symm)
  have hrb : Blk w' r 120 #[.slice none 0 0, .slice none 0 0, .slice none 0 0] := h.rb.grown hg (fun e => own_ty h.fi h.rb (by decide) e.symm)
  have hlo : w'.ownsRow B 123 4 sl los.length (cellsG loV los) := own_same h.lo fun k e => hg.block k (own_lt h.lo e) (fun e2 => own_own h.fi h.lo (by decide) k e2.symm e)
  have hb : Below w0.heap.size w0 w' := below_grown h.bel h.bel.size hg fun k e => by have := own_ge h.fi e; have := h.old; omega
  have hset := hub.set_ 2 pg'
  exact { ta := hT.far hub (by decide) hne 2 _, ub := by simpa using hset, rb := hrb.far (by have := h.old; simp only; omega) _, fi := own_set ho (own_ty ho hub (by decide)) _ _, lo := own_set hlo (own_ty hlo hub (by decide)) _ _, bel := hb.setCell (p := ⟨u, 2, none⟩) (by have := h.old; simp only; omega) _, old := h.old }
/-- a row of another kind stays -/
theorem row_stays {B1 size n1 k1 i : Nat} {t t1 t2 : TypeId} {size1 : Nat} {v v1 v1' sl : Value} {xs xs1 : List Value} {cs : Array Value} {m : Nat} {ys : List Value} (h : w.ownsRow B1 t size v n1 xs) (h1 : w.ownsRow B t1 size1 v1 k1 xs1) (hne : t ≠ t1) (ha : AppRes w w' B t1 size1 v1 v1' m ys) (hu : Blk w u t2 cs) (hne2 : t2 ≠ t) (hne3 : t2 ≠ t1) :
    (w'.setCell ⟨u, i, none⟩ sl).ownsRow B1 t size v n1 xs := by
  have h2 : w'.ownsRow B1 t size v n1 xs := own_same h fun k e => ha.2.1.block k (own_lt h e) (fun e2 => own_own h1 h hne k e2.symm e)
  have hu2 : Blk w' u t2 cs := hu.grown ha.2.1 (fun e => own_ty h1 hu hne3 e.symm)
  exact own_set h2 (own_ty h2 hu2 hne2) _ _
theorem pg_bound {L : List Ent} (h : Tells L T) {p k : Int} (hk : T.pg p = some k) : 0 ≤ k ∧ k < L.length := by
  rw [h.pg p] at hk
  cases e : L.findIdx? (pgP p) with
  | none => rw [e] at hk; cases hk
  | some i =>
    rw [e] at hk
    injection hk with hk
    rw [List.findIdx?_eq_some_iff_getElem] at e
    obtain ⟨hl, _⟩ := e
    rw [← hk]
    exact ⟨Int.natCast_nonneg i, by simp; exact hl⟩
end
end Go.Proofs.YtkeocnhndnbamaaGreat.Past
namespace Go.Proofs.YtkeocnhndnbamaaGreat.Past
set_option maxRecDepth 100000
open Go.Proofs.YtkeocnhndnbamaaGreat.Ent
section
variable {K V : Type} [DecidableEq K] {lt : K → K → Bool}
section
variable {over : Bool} {x : K} {v : V} {A N : List (K × V)} {y : K × V}
end
theorem put_len (over : Bool) (x : K) (v : V) : ∀ L : List (K × V), (putK lt over x v L).length ≤ L.length + 1
  | [] => by simp [putK]
  | y :: r => by
    have := put_len over x v r
    unfold putK
    split
    · simp
    · split <;> simp <;> omega
end
theorem read_len (L : List Ent) (first : Int) (i : Nat) : (readN L first i).los.length ≤ i ∧ (readN L first i).dn.length ≤ i ∧ (readN L first i).pg.length ≤ i := by
  induction i with
  | zero => simp [readN, v0]
  | succ i ih =>
    unfold readN
    cases L[i]? with
    | none => dsimp only; omega
    | some x =>
      dsimp only
      unfold stepV
      split
      · omega
      · dsimp only
        refine ⟨?_, ?_, ?_⟩
        · split
          · omega
          · have := put_len (lt := lessT) true (txE x) x.lsn (readN L first i).los; omega
        · split
          · rw [List.length_append, List.length_singleton]; omega
          · omega
        · split
          · have := put_len (lt := ltI) false x.page (first + i) (readN L first i).pg; omega
          · omega
end Go.Proofs.YtkeocnhndnbamaaGreat.Past
