/- mend.Redo: pages behind entries. -/
import Derived.Test.YtkeocnhndnbamaaGreatQBook15
import Derived.Test.YtkeocnhndnbamaaGreatQBook16
import Derived.Test.YtkeocnhndnbamaaGreatQBook19
import Derived.Deep.RegionHeld3
namespace Go.Proofs.YtkeocnhndnbamaaGreat.Mend
set_option maxRecDepth 100000
open Go.RowKit Go.Shelf Go.Sort Go.Maps
open Go.Proofs.YtkeocnhndnbamaaGreat.Mem
open Go.Proofs.YtkeocnhndnbamaaGreat.Slab (Slot Slots)
open Go.Proofs.YtkeocnhndnbamaaGreat.Ent (Ent goodB Ents EntAt SmallE longB entA cellsE)
open Go.Proofs.YtkeocnhndnbamaaGreat.Past (ents_mem AppRes run_appW wpList_runG cellsG cellsG_len cellsG_snoc cellsG_at)
open Go.Proofs.YtkeocnhndnbamaaGreat.Patch
open Go.Proofs.YtkeocnhndnbamaaGreat.Latch (MapN Sm sm_of)
def lrV (y : Ro) : List Value := [.int .i64 y.x.n, .int .i64 y.x.l, .slice y.a y.n y.c]
theorem info_lf : (Tryz.prog.info? 54).map (fun i => (i.zero, i.size, i.bytes)) = some (some (.agg #[.int .i64 0, .int .i64 0, .slice none 0 0]), 3, 40) := by kernel_rfl
theorem wpList_appLf {w : World} {ops : Array Oper} {rest : List Oper} {o : Oper} {a : Act} {Q : Exit → Act → World → Prop} (hgd : o.guard = none) (s x : Operand)
    (ho : o.op = .call { callee := .builtin .append, args := #[s, x], argTypes := #[30, 30] }) (B : Nat) (v : Value) (R : List Ro) (hs : a.eval s = v) (y : Ro) (hown : w.ownsRow B 54 3 v R.length (cellsG lrV R)) (vb : Nat) (hx : a.eval x = .slice (some ⟨vb, 0, none⟩) 1 1)
    (hb : Blk w vb 54 #[.int .i64 y.x.n, .int .i64 y.x.l, .slice y.a y.n y.c]) (hn : R.length + 1 ≤ 1000000) (hB : B ≤ w.heap.size)
    (hK : ∀ v' w', AppRes w w' B 54 3 v v' (R.length + 1) (cellsG lrV (R ++ [y])) → wpList Tryz.prog ops Q rest (a.put o.dst v') w') : wpList Tryz.prog ops Q (o :: rest) a w := by
  obtain ⟨v', w', hr, h2⟩ := run_appW (ty := o.type) Tryz.underlying30 info_lf rfl (by decide) (by decide) hown (some ⟨vb, 0, none⟩) 1 1 (lrV y) (by rfl) (fun _ => ⟨_, rfl, fun j u hj => by
      have h2 : (Addr.mk vb 0 none).add j = ⟨vb, j, none⟩ := by unfold Addr.add; split <;> simp_all
      rw [h2, hb.cell, ← Array.getElem?_toList]; exact hj⟩) (fun u hu => by simp [lrV] at hu; rcases hu with rfl | rfl | rfl <;> rfl) hn hB
  rw [cellsG_snoc] at h2
  exact wpList_runG hgd s x ho hs hx hr (hK v' w' h2)
/-- a row of leaves of a call's own can be read -/
theorem leaves_own {w : World} {B : Nat} {v : Value} {R : List Ro} (h : w.ownsRow B 54 3 v R.length (cellsG lrV R)) (hs : ∀ y ∈ R, Slots w y.a y.n y.x.z ∧ y.n ≤ maxLen ∧ -9223372036854775808 ≤ y.x.n ∧ y.x.n ≤ 9223372036854775807) :
    ∃ a c, v = .slice a R.length c ∧ LeavesI w a R.length (R.map (·.x)) := by
  obtain ⟨a, c, rfl⟩ := own_shape h
  refine ⟨a, c, rfl, by simp, fun x hx => ?_, fun hn => ?_⟩
  · obtain ⟨y, hy, rfl⟩ := List.mem_map.1 hx
    exact (hs y hy).2.2
  · obtain ⟨g, cap, e, -, hg, hc⟩ := own_pos h hn
    injection e with e1 e2 e3
    refine ⟨g, 0, e1, hg, fun i hi => ?_⟩
    have hx : R[i]? = some R[i] := List.getElem?_eq_getElem hi
    have hat := cellsG_at (f := lrV) (m := 3) (fun _ => rfl) R i _ hx
    have hm := hs R[i] (List.getElem_mem hi)
    have hgd : (R.map (·.x)).getD i lf0 = R[i].x := by simp [List.getD, hi]
    rw [hgd, Nat.zero_add]
    exact ⟨R[i].a, R[i].n, R[i].c, (hc _ (by omega)).trans ((hat 0 (by omega)).trans rfl), (hc _ (by omega)).trans ((hat 1 (by omega)).trans rfl), (hc _ (by omega)).trans ((hat 2 (by omega)).trans rfl), hm.1, hm.2.1⟩
/-- a page as it is behind a list -/
def redoLf (L : List Ent) (x : Lf) : Lf := ⟨x.n, (allR x.n x.l x.z L).2.1, (allR x.n x.l x.z L).2.2⟩
def RedoP (L : List Ent) (ls : List Lf) (w : World) (e : Ending) (w' : World) : Prop :=
  ∃ a c, e = .returned (.tuple #[.slice a ls.length c, .int .i64 0]) ∧ LeavesI w' a ls.length (ls.map (redoLf L)) ∧ Below w.heap.size w w'
/-- the pages that are redone so far -/
structure RD (w W : World) (v : Value) (R : List Ro) : Prop where
  row : W.ownsRow w.heap.size 54 3 v R.length (cellsG lrV R)
  sl : ∀ y ∈ R, Slots W y.a y.n y.x.z ∧ y.n ≤ maxLen ∧ (-9223372036854775808 ≤ y.x.n ∧ y.x.n ≤ 9223372036854775807) ∧ ∀ b off e, y.a = some ⟨b, off, e⟩ → 0 < y.n → v.ownBlock ≠ some b
section
variable {w W W' : World} {v : Value} {R : List Ro}
theorem RD.below (h : RD w W v R) (hb : Below W.heap.size W W') : RD w W' v R := ⟨own_below h.row hb, fun y hy => ⟨(h.sl y hy).1.below hb, (h.sl y hy).2⟩⟩
theorem slots_same {a : Option Addr} {n : Nat} {z : List Slot} (h : Slots W a n z) (hs : W.heap.size ≤ W'.heap.size) (hb : ∀ b off e, a = some ⟨b, off, e⟩ → 0 < n → W'.heap[b]? = W.heap[b]?) : Slots W' a n z := by
  obtain ⟨h1, h2, h3⟩ := h
  refine ⟨h1, h2, fun hn => ?_⟩
  obtain ⟨b, off, ha, hlt, hc⟩ := h3 hn
  have hbb := hb b off none ha hn
  exact ⟨b, off, ha, Nat.lt_of_lt_of_le hlt hs, fun i hi => by
    obtain ⟨c1, c2⟩ := hc i hi
    exact ⟨(World.cell?_of_block (w := W) hbb).trans c1, (World.cell?_of_block (w := W) hbb).trans c2⟩⟩
theorem RD.add (h : RD w W v R) {y : Ro} {v' : Value} (ha : AppRes W W' w.heap.size 54 3 v v' (R.length + 1) (cellsG lrV (R ++ [y]))) (hs : Slots W y.a y.n y.x.z) (hl : y.n ≤ maxLen) (hn : -9223372036854775808 ≤ y.x.n ∧ y.x.n ≤ 9223372036854775807)
    (hy : ∀ b off e, y.a = some ⟨b, off, e⟩ → 0 < y.n → v.ownBlock ≠ some b ∧ b < W.heap.size) (hold : ∀ z ∈ R, ∀ b off e, z.a = some ⟨b, off, e⟩ → 0 < z.n → b < W.heap.size) : RD w W' v' (R ++ [y]) := by
  obtain ⟨ho, hg, hu⟩ := ha
  have hne : ∀ b, v.ownBlock ≠ some b → b < W.heap.size → v'.ownBlock ≠ some b := fun b h1 h2 e => by
    rcases hu with h3 | h3
    · rw [h3] at e; exact h1 e
    · rw [h3] at e; injection e with e; omega
  refine ⟨by rw [List.length_append]; exact ho, fun z hz => ?_⟩
  rcases List.mem_append.1 hz with hz | hz
  · obtain ⟨z1, z2, z3, z4⟩ := h.sl z hz
    exact ⟨slots_same z1 hg.size fun b off e hb h0 => hg.block b (hold z hz b off e hb h0) fun e2 => z4 b off e hb h0 e2.symm, z2, z3, fun b off e hb h0 => hne b (z4 b off e hb h0) (hold z hz b off e hb h0)⟩
  · have : z = y := by simpa using hz
    subst this
    exact ⟨slots_same hs hg.size fun b off e hb h0 => hg.block b (hy b off e hb h0).2 fun e2 => (hy b off e hb h0).1 e2.symm, hl, hn, fun b off e hb h0 => hne b (hy b off e hb h0).1 (hy b off e hb h0).2⟩
end
/-- the changes stay where a row of leaves grows -/
theorem CHG.grownL {w W W' : World} {mb k nn : Nat} {C : List Ent} {f : Int → Option Value} {v : Value} {xs : List Value} (h : CHG w W mb k C f) (ho : W.ownsRow w.heap.size 54 3 v nn xs) (hg : W.grownBy W' v.ownBlock) : CHG w W' mb k C f := by
  refine ⟨h.mp.same (hg.block _ h.mp.lt fun e => ?_), fun n => own_same (h.rows n) fun q e => hg.block q (own_lt (h.rows n) e) fun e2 => own_own ho (h.rows n) (by decide) q e2.symm e, h.dj, h.mb, Past.below_grown h.bel h.bel.size hg fun q e => Past.own_ge ho e⟩
  obtain ⟨cs, fr, hc⟩ := own_cells ho e.symm
  obtain ⟨D, ⟨es, cl, hm, _⟩, _⟩ := h.mp
  rw [hm] at hc; cases hc
set_option maxRecDepth 100000 in
set_option maxHeartbeats 16000000 in
theorem redo_pages (la : Option Addr) (n lc : Nat) (L : List Ent) (a : Option Addr) (m c : Nat) (ls : List Lf) (w : World) (hL : Ents w la n L) (h : LeavesI w a m ls) (hn : n ≤ 100000) (hm : m ≤ 100) (hok : PagesOK ls) (hf : Fits L ls)
    (hall : ∀ x ∈ ls, (allR x.n x.l x.z L).1 = 0) :
    Calls Tryz.prog 24 #[.slice la n lc, .slice a m c] w (RedoP L ls w) := by
  have HL := Lib.hid h
  have HE := Lib.hid hL
  have hll := hL.1
  have hlen := h.1
  have HFI := Lib.hid hf
  have HOK := Lib.hid hok
  have HALL := Lib.hid hall
  have HFT := Lib.hid (fit_any la n lc L a m c ls w hL h (by omega) hm hok hf)
  have hmm := @run_makeMap Tryz.prog
  clear h hL hf hok hall
  go_enter Tryz.func24, Tryz.ntmps24
  go_wp2_with fail
  refine HFT.out.mono ?_
  rintro e w1 ⟨rfl, b1⟩
  have H0 := Lib.hid (show CHG w (w1.alloc (.map #[] 0)) w1.heap.size 0 [] (fun _ => none) from ⟨Latch.map_made w1, fun q => own_nil _ _ _ _, fun p q g _ e => (by cases e), b1.size, below_go b1 (Ent.below_box _ _)⟩)
  obtain ⟨mb, hmb⟩ : ∃ mb, w1.heap.size = mb := ⟨_, rfl⟩
  clear HFT b1
  go_upto_region 4 with (fail)
  rw [hmb] at H0
  try rw [hmb]
  clear hmb
  generalize w1.alloc (.map #[] 0) = w2 at H0 ⊢
  go_wp2_with fail
  go_loopw [21] (fun iv wr => ∃ (k : Nat) (f : Int → Option Value), k ≤ n ∧ iv = .int .i64 (k : Int) ∧ Hid (CHG w wr mb k (L.take k) f)) (fun iv _ => n - intN iv)
  case atStart => exact ⟨0, _, Nat.zero_le _, rfl, H0⟩
  case round =>
    obtain ⟨k, f, hk, rfl, HR⟩ := hrel
    clear H0
    by_cases hlt : k < n
    · have hx : L[k]? = some (L[k]'(by omega)) := List.getElem?_eq_getElem _
      generalize L[k]'(by omega) = x at hx
      obtain ⟨b, off, rfl, hbw, hat, hsm, -⟩ := ents_mem HE.out hx
      obtain ⟨hgx, hpx⟩ := HFI.out x (List.mem_of_getElem? hx)
      have HTK := Lib.hid (show L.take (k + 1) = L.take k ++ [x] by rw [List.take_add_one, hx]; rfl)
      have HTL := Lib.hid (show (L.take k).length = k by rw [List.length_take]; omega)
      have HGX := Lib.hid hgx
      obtain ⟨c0, c1, c2, c3, c4, c5, c6, c7, c8, c9, c10, c11, c12⟩ := (hat.next HR.out.bel hbw).cells
      have hbx := Ent.below_box wr (.cells #[.int .i64 x.kind, .int .i64 x.cl, .int .i64 x.ep, .int .i64 x.n, .int .i64 x.lsn, .int .i64 x.prev, .int .i64 x.page, .int .i64 x.slot, .bool x.wu, .string x.wd, .bool x.iu, .string x.id, .int .i64 x.next] 58)
      have HX1 := Lib.hid (Blk.new wr 58 #[.int .i64 x.kind, .int .i64 x.cl, .int .i64 x.ep, .int .i64 x.n, .int .i64 x.lsn, .int .i64 x.prev, .int .i64 x.page, .int .i64 x.slot, .bool x.wu, .string x.wd, .bool x.iu, .string x.id, .int .i64 x.next])
      have H1 := Lib.hid (HR.out.below hbx)
      have hd1 : decide ((k : Int) < (n : Int)) = true := decide_eq_true (by omega)
      have hgn := fun q e => own_lt (HR.out.rows q) (g := wr.heap.size) e
      have HNG := Lib.hid (show ∀ q, (gV f q).ownBlock ≠ some wr.heap.size from fun q e => by have := hgn q e; omega)
      clear hx hat hsm HR hbx hgx hpx hgn
      go_upto_region 7 with (fail)
      obtain ⟨gx, hgx⟩ : ∃ gx, wr.heap.size = gx := ⟨_, rfl⟩
      rw [hgx] at HX1 HNG
      try rw [hgx]
      clear hgx
      generalize hGen : wr.alloc (.cells #[.int .i64 x.kind, .int .i64 x.cl, .int .i64 x.ep, .int .i64 x.n, .int .i64 x.lsn, .int .i64 x.prev, .int .i64 x.page, .int .i64 x.slot, .bool x.wu, .string x.wd, .bool x.iu, .string x.id, .int .i64 x.next] 58) = W1 at HX1 H1 ⊢
      clear hGen
      clear c0 c1 c2 c3 c4 c5 c6 c7 c8 c9 c10 c11 c12
      obtain ⟨c0, c1, c2, c3, c4, c5, c6, c7, c8, c9, c10, c11, c12⟩ := Ent.ent_cells HX1.out
      have HC := Lib.hid (changing_any x W1)
      cases hlb : longB x.kind with
      | false =>
        rw [hlb] at HC
        go_wp2_with fail
        refine HC.out.mono ?_
        rintro e w3 ⟨rfl, b3⟩
        have H3 := Lib.hid ((H1.out.below b3).skip hlb)
        clear c0 c1 c2 c3 c4 c5 c6 c7 c8 c9 c10 c11 c12 b3 HC hlb
        go_wp2
        go_roundw
        case rel => exact ⟨k + 1, f, by omega, by go_num, by rw [HTK.out]; exact H3⟩
        case measure => simp [intN]; omega
      | true =>
        rw [hlb] at HC
        have hpg := (Ent.ch_parts (Ent.good_long HGX.out hlb).2.1).1
        have hpi : Sm x.page := sm_of (by omega)
        have HLB := Lib.hid hlb
        have HPI := Lib.hid hpi
        go_wp2_with fail
        refine HC.out.mono ?_
        rintro e w3 ⟨rfl, b3⟩
        have H3 := Lib.hid (H1.out.below b3)
        have HX3 := Lib.hid (HX1.out.below b3 HX1.out.lt)
        clear c0 c1 c2 c3 c4 c5 c6 c7 c8 c9 c10 c11 c12 b3 HC hlb H1 HX1 hpg hpi
        obtain ⟨gv, hgv⟩ : ∃ gv, gV f x.page = gv := ⟨_, rfl⟩
        obtain ⟨CP, hCP⟩ : ∃ CP, chg (L.take k) x.page = CP := ⟨_, rfl⟩
        have hrow := H3.out.rows x.page
        rw [hgv, hCP] at hrow
        have hcl : CP.length ≤ 100000 := by rw [← hCP]; have := chg_len (L.take k) x.page; have := HTL.out; omega
        obtain ⟨ga, gc, egv⟩ := own_shape hrow
        subst egv
        have HROW := Lib.hid hrow
        have hbx := Ent.below_box w3 (.cells #[.int .i64 x.kind, .int .i64 x.cl, .int .i64 x.ep, .int .i64 x.n, .int .i64 x.lsn, .int .i64 x.prev, .int .i64 x.page, .int .i64 x.slot, .bool x.wu, .string x.wd, .bool x.iu, .string x.id, .int .i64 x.next] 58)
        have FIN := Lib.hid (show ∀ (X w5 : World) (v' : Value), Below w3.heap.size w3 X → AppRes X w5 w.heap.size 58 13 (.slice ga CP.length gc) v' (CP ++ [x]).length (cellsE (CP ++ [x])) →
            ∃ w6, (Instr.mapUpdate 109 (.map (some mb)) (.int .i64 x.page) v').run Tryz.prog w5 = .ok () w6 ∧ Hid (CHG w w6 mb (k + 1) (L.take (k + 1)) (fun y => if y = x.page then some v' else f y)) ∧ (w6.cell? ⟨gx, 0, none⟩ = some (.int .i64 x.kind) ∧ w6.cell? ⟨gx, 1, none⟩ = some (.int .i64 x.cl) ∧ w6.cell? ⟨gx, 2, none⟩ = some (.int .i64 x.ep) ∧ w6.cell? ⟨gx, 3, none⟩ = some (.int .i64 x.n) ∧ w6.cell? ⟨gx, 4, none⟩ = some (.int .i64 x.lsn) ∧ w6.cell? ⟨gx, 5, none⟩ = some (.int .i64 x.prev) ∧ w6.cell? ⟨gx, 6, none⟩ = some (.int .i64 x.page) ∧ w6.cell? ⟨gx, 7, none⟩ = some (.int .i64 x.slot) ∧ w6.cell? ⟨gx, 8, none⟩ = some (.bool x.wu) ∧ w6.cell? ⟨gx, 9, none⟩ = some (.string x.wd) ∧ w6.cell? ⟨gx, 10, none⟩ = some (.bool x.iu) ∧ w6.cell? ⟨gx, 11, none⟩ = some (.string x.id) ∧ w6.cell? ⟨gx, 12, none⟩ = some (.int .i64 x.next)) ∧ w5.cell? ⟨gx, 0, none⟩ = some (.int .i64 x.kind) ∧ w5.cell? ⟨gx, 1, none⟩ = some (.int .i64 x.cl) ∧ w5.cell? ⟨gx, 2, none⟩ = some (.int .i64 x.ep) ∧ w5.cell? ⟨gx, 3, none⟩ = some (.int .i64 x.n) ∧ w5.cell? ⟨gx, 4, none⟩ = some (.int .i64 x.lsn) ∧ w5.cell? ⟨gx, 5, none⟩ = some (.int .i64 x.prev) ∧ w5.cell? ⟨gx, 6, none⟩ = some (.int .i64 x.page) ∧ w5.cell? ⟨gx, 7, none⟩ = some (.int .i64 x.slot) ∧ w5.cell? ⟨gx, 8, none⟩ = some (.bool x.wu) ∧ w5.cell? ⟨gx, 9, none⟩ = some (.string x.wd) ∧ w5.cell? ⟨gx, 10, none⟩ = some (.bool x.iu) ∧ w5.cell? ⟨gx, 11, none⟩ = some (.string x.id) ∧ w5.cell? ⟨gx, 12, none⟩ = some (.int .i64 x.next) from fun X w5 v' hb ha => by
          obtain ⟨w6, hr, h6, -, h7⟩ := H3.out.add hb HLB.out HPI.out (by omega) (by rw [hgv, hCP]; exact ha)
          exact ⟨w6, hr, by rw [HTK.out]; exact Lib.hid h6, Ent.ent_cells (h7 gx _ _ HNG.out HX3.out), Ent.ent_cells ((HX3.out.below hb HX3.out.lt).grown ha.2.1 (fun e => HNG.out x.page (by rw [hgv]; exact e.symm)))⟩)
        have HZ := Lib.hid (show ∀ W', Below w3.heap.size w3 W' → (Instr.lookup 109 (.map (some mb)) (.int .i64 x.page) false).run Tryz.prog W' = .ok (.slice ga CP.length gc) W' ∧ W'.cell? ⟨gx, 0, none⟩ = some (.int .i64 x.kind) ∧ W'.cell? ⟨gx, 1, none⟩ = some (.int .i64 x.cl) ∧ W'.cell? ⟨gx, 2, none⟩ = some (.int .i64 x.ep) ∧ W'.cell? ⟨gx, 3, none⟩ = some (.int .i64 x.n) ∧ W'.cell? ⟨gx, 4, none⟩ = some (.int .i64 x.lsn) ∧ W'.cell? ⟨gx, 5, none⟩ = some (.int .i64 x.prev) ∧ W'.cell? ⟨gx, 6, none⟩ = some (.int .i64 x.page) ∧ W'.cell? ⟨gx, 7, none⟩ = some (.int .i64 x.slot) ∧ W'.cell? ⟨gx, 8, none⟩ = some (.bool x.wu) ∧ W'.cell? ⟨gx, 9, none⟩ = some (.string x.wd) ∧ W'.cell? ⟨gx, 10, none⟩ = some (.bool x.iu) ∧ W'.cell? ⟨gx, 11, none⟩ = some (.string x.id) ∧ W'.cell? ⟨gx, 12, none⟩ = some (.int .i64 x.next) from fun W' hb => ⟨by rw [← hgv]; exact (H3.out.below hb).look HPI.out, Ent.ent_cells (HX3.out.below hb HX3.out.lt)⟩)
        have y0 := (HZ.out w3 (Below.refl _ _)).1
        have y1 := (HZ.out w3.drew (bx_d w3)).1
        have y2 := (HZ.out _ hbx).1
        have y3 := (HZ.out _ (bx_ad w3 (.cells #[.int .i64 x.kind, .int .i64 x.cl, .int .i64 x.ep, .int .i64 x.n, .int .i64 x.lsn, .int .i64 x.prev, .int .i64 x.page, .int .i64 x.slot, .bool x.wu, .string x.wd, .bool x.iu, .string x.id, .int .i64 x.next] 58))).1
        have z0 := (HZ.out w3 (Below.refl _ _)).2
        have z1 := (HZ.out w3.drew (bx_d w3)).2
        have z2 := (HZ.out _ hbx).2
        have z3 := (HZ.out _ (bx_ad w3 (.cells #[.int .i64 x.kind, .int .i64 x.cl, .int .i64 x.ep, .int .i64 x.n, .int .i64 x.lsn, .int .i64 x.prev, .int .i64 x.page, .int .i64 x.slot, .bool x.wu, .string x.wd, .bool x.iu, .string x.id, .int .i64 x.next] 58))).2
        have HBW := Lib.hid H3.out.bel.size
        have hln1 := Lib.hid (show (CP ++ [x]).length = CP.length + 1 by simp)
        clear hgv hCP hrow hbx
        obtain ⟨c0, c1, c2, c3, c4, c5, c6, c7, c8, c9, c10, c11, c12⟩ := z0
        have z0 := (HZ.out w3 (Below.refl _ _)).2
        go_upto_region 8 with (fail)
        go_region_held3 (fun W' => W'.cell? ⟨gx, 0, none⟩ = some (.int .i64 x.kind) ∧ W'.cell? ⟨gx, 1, none⟩ = some (.int .i64 x.cl) ∧ W'.cell? ⟨gx, 2, none⟩ = some (.int .i64 x.ep) ∧ W'.cell? ⟨gx, 3, none⟩ = some (.int .i64 x.n) ∧ W'.cell? ⟨gx, 4, none⟩ = some (.int .i64 x.lsn) ∧ W'.cell? ⟨gx, 5, none⟩ = some (.int .i64 x.prev) ∧ W'.cell? ⟨gx, 6, none⟩ = some (.int .i64 x.page) ∧ W'.cell? ⟨gx, 7, none⟩ = some (.int .i64 x.slot) ∧ W'.cell? ⟨gx, 8, none⟩ = some (.bool x.wu) ∧ W'.cell? ⟨gx, 9, none⟩ = some (.string x.wd) ∧ W'.cell? ⟨gx, 10, none⟩ = some (.bool x.iu) ∧ W'.cell? ⟨gx, 11, none⟩ = some (.string x.id) ∧ W'.cell? ⟨gx, 12, none⟩ = some (.int .i64 x.next)) (first | (with_unfolding_none assumption) | (with_unfolding_none exact z0) | (with_unfolding_none exact z1) | (with_unfolding_none exact z2) | (with_unfolding_none exact z3)) (first | (refine step_ent (wr := w3) rfl (.tmp 33) (.tmp 35) rfl w.heap.size (.slice ga CP.length gc) CP (by simp [Act.eval]) w3.heap.size x (by simp [Act.eval]) ?hp HROW.out HBW.out (by omega) ?_; (case hp => first | (with_reducible exact ⟨bx_d_a _ _, Blk.new w3.drew _ _⟩) | (with_reducible exact ⟨Ent.below_box _ _, Blk.new w3 _ _⟩) | exact ⟨bx_ad _ _, Blk.new w3 _ _⟩); intro v5 w5 hb5 hA5; obtain ⟨w6, hmu6, H6, z6, z5⟩ := FIN.out _ w5 v5 hb5 hA5; obtain ⟨a5, n5, e5⟩ := own_shape hA5.1; rw [hln1.out] at e5; subst e5; clear hb5 hA5))
        all_goals
          clear c0 c1 c2 c3 c4 c5 c6 c7 c8 c9 c10 c11 c12 y0 y1 y2 y3 z0 z1 z2 z3 z5 z6 hmu6 FIN HZ HROW HX3 H3
          go_wp2
          go_roundw
          case rel => exact ⟨k + 1, _, by omega, by go_num, H6⟩
          case measure => simp [intN]; omega
    · obtain rfl : k = n := by omega
      have hd1 : decide ((k : Int) < (k : Int)) = false := decide_eq_false (by omega)
      have hR := HR.out
      rw [List.take_of_length_le (by omega)] at hR
      have HC := Lib.hid hR
      clear HR hR hmm
      go_upto_region 12 with (fail)
      go_loopw [9, 40] (fun vv iv W => ∃ (j : Nat) (R : List Ro), j ≤ m ∧ iv = .int .i64 (j : Int) ∧ R.map (·.x) = (ls.take j).map (redoLf L) ∧ Hid (CHG w W mb k L f ∧ RD w W vv R) ∧ Hid (∀ z ∈ R, ∀ b off e, z.a = some ⟨b, off, e⟩ → 0 < z.n → b < W.heap.size)) (fun _ iv _ => m - intN iv)
      case atStart => exact ⟨0, [], Nat.zero_le _, rfl, rfl, Lib.hid ⟨HC.out, ⟨own_nil _ _ _ _, fun y h => nomatch h⟩⟩, Lib.hid fun z h => nomatch h⟩
      case round =>
        obtain ⟨j, R, hj, rfl, hR, H, HOLD⟩ := hrel
        clear HC
        have hRl : R.length = j := by
          have := congrArg List.length hR
          rw [List.length_map, List.length_map, List.length_take] at this
          omega
        obtain ⟨va, vc, rfl⟩ := own_shape H.out.2.row
        have HRl := Lib.hid hRl
        have HRM := Lib.hid hR
        clear hRl hR
        by_cases hjl : j < m
        · obtain ⟨b, off, a', n', c', x, rfl, hbl, hx, c1, c2, c3, hsl, hml⟩ := (HL.out.below H.out.1.bel).at_ hjl
          have hd2 : decide ((j : Int) < (m : Int)) = true := decide_eq_true (by omega)
          have hxm := List.mem_of_getElem? hx
          have hgood := HOK.out.good x hxm
          have hz32 : n' ≤ 1000000 := by have := hsl.len; have := (Slab.good_parts hgood).2.2.1; omega
          have hxb := HL.out.2.1 x hxm
          have hsm := sm_of hxb
          have hall := HALL.out x hxm
          have HXT := Lib.hid (show (ls.take (j + 1)).map (redoLf L) = (ls.take j).map (redoLf L) ++ [redoLf L x] by rw [List.take_add_one, hx]; simp)
          have hbx := Ent.below_box wr (.cells #[.int .i64 x.n, .int .i64 x.l, .slice a' n' c'] 54)
          have H1 := Lib.hid (And.intro (H.out.1.below hbx) (H.out.2.below hbx))
          have hSL := Lib.hid (hsl.below hbx)
          have hB := Lib.hid (Blk.new wr 54 #[.int .i64 x.n, .int .i64 x.l, .slice a' n' c'])
          have HO1 := Lib.hid (show ∀ z ∈ R, ∀ b off e, z.a = some ⟨b, off, e⟩ → 0 < z.n → b < (wr.alloc (.cells #[.int .i64 x.n, .int .i64 x.l, .slice a' n' c'] 54)).heap.size from fun z hz b off e he h0 => by have := HOLD.out z hz b off e he h0; simp; omega)
          clear hsl hml H HOLD hbx hgood hx hxm
          go_upto_region 14 with (fail)
          obtain ⟨gl, hgl⟩ : ∃ gl, wr.heap.size = gl := ⟨_, rfl⟩
          rw [hgl] at hB
          try rw [hgl]
          clear hgl c1 c2 c3
          generalize hGen : wr.alloc (.cells #[.int .i64 x.n, .int .i64 x.l, .slice a' n' c'] 54) = W1 at H1 hB hSL HO1 ⊢
          clear hGen
          have q0 := hB.out.cell 0
          have q1 := hB.out.cell 1
          have q2 := hB.out.cell 2
          have l1 := H1.out.1.look hsm
          have hrow := H1.out.1.rows x.n
          obtain ⟨gv, hgv⟩ : ∃ gv, gV f x.n = gv := ⟨_, rfl⟩
          rw [hgv] at l1 hrow
          obtain ⟨ga, gc, rfl, hen, -⟩ := Past.ents_own hrow (fun y hy => good_small (HFI.out y (List.mem_filter.1 hy).1).1)
          have hcl : (chg L x.n).length ≤ 1000000 := by have := chg_len L x.n; omega
          have HAL := Lib.hid (all_any x.l a' n' c' x.z x.n ga (chg L x.n).length gc (chg L x.n) W1 hSL.out hz32 hen hcl)
          rw [allR_chg, hall] at HAL
          have HRL := Lib.hid (show redoLf L x = ⟨x.n, (allR x.n x.l x.z L).2.1, (allR x.n x.l x.z L).2.2⟩ from rfl)
          have hlen2 := allR_len x.n x.l x.z L
          obtain ⟨NN, hNN⟩ : ∃ NN, (allR x.n x.l x.z L).2.1 = NN := ⟨_, rfl⟩
          obtain ⟨ZZ, hZZ⟩ : ∃ ZZ, (allR x.n x.l x.z L).2.2 = ZZ := ⟨_, rfl⟩
          rw [hNN, hZZ] at HAL HRL
          rw [hZZ] at hlen2
          have hne0 : ((0 : Int) != 0) = false := by simp
          clear hgv hrow hen hcl hall hNN hZZ hsm
          go_wp2_with fail
          refine HAL.out.mono ?_
          rintro e w5 ⟨a5, n5, c5, rfl, s5, b5, f5⟩
          have hbP := Ent.below_box w5 (.cells #[.int .i64 NN, .slice a5 n5 c5] 52)
          have H6 := Lib.hid (And.intro ((H1.out.1.below b5).below hbP) ((H1.out.2.below b5).below hbP))
          have hB6 := Lib.hid ((hB.out.below b5 hB.out.lt).alloc (.cells #[.int .i64 NN, .slice a5 n5 c5] 52))
          have hP6 := Lib.hid (Blk.new w5 52 #[.int .i64 NN, .slice a5 n5 c5])
          have hS6 := Lib.hid (s5.below hbP)
          have HSB := Lib.hid (show ∀ b off e, a5 = some ⟨b, off, e⟩ → W1.heap.size ≤ b from f5)
          have HW15 := Lib.hid b5.size
          have hn5 : n5 ≤ 32 := by have := s5.len; omega
          have HSB2 := Lib.hid (show ∀ b off e, a5 = some ⟨b, off, e⟩ → 0 < n5 → b < w5.heap.size from fun b off e he h0 => by
            obtain ⟨b', off', e', hlt, _⟩ := s5.2.2 h0
            rw [he] at e'
            cases e'
            exact hlt)
          clear q0 q1 q2 s5 b5 f5 hbP HAL l1
          go_upto_region 15 with (fail)
          obtain ⟨gp, hgp⟩ : ∃ gp, w5.heap.size = gp := ⟨_, rfl⟩
          have hs6 : (w5.alloc (.cells #[.int .i64 NN, .slice a5 n5 c5] 52)).heap.size = gp + 1 := by simp [hgp]
          rw [hgp] at hP6 HSB2 HW15
          try rw [hgp]
          generalize hGen : w5.alloc (.cells #[.int .i64 NN, .slice a5 n5 c5] 52) = W6 at H6 hB6 hP6 hS6 hs6 ⊢
          clear hGen
          have HS6 := Lib.hid hs6
          clear hgp hs6
          have hRl9 : R.length + 1 ≤ 1000000 := by have := HRl.out; omega
          have q0 := hB6.out.cell 0
          have p0 := hP6.out.cell 0
          have p1 := hP6.out.cell 1
          have hbz := Ent.below_box W6 (.cells #[.int .i64 x.n, .int .i64 NN, .slice a5 n5 c5] 54)
          have H7 := Lib.hid (And.intro (H6.out.1.below hbz) (H6.out.2.below hbz))
          have hS7 := Lib.hid (hS6.out.below hbz)
          have hW7 := Lib.hid (show (W6.alloc (.cells #[.int .i64 x.n, .int .i64 NN, .slice a5 n5 c5] 54)).heap.size = gp + 2 by simp [HS6.out])
          have hWb := Lib.hid (H6.out.1.bel.size)
          clear hbz
          go_wp2_with (at_builtin; refine wpList_appLf rfl _ _ rfl w.heap.size _ R rfl ⟨⟨x.n, NN, ZZ⟩, a5, n5, c5⟩ H7.out.2.row W6.heap.size rfl (Blk.new W6 _ _) hRl9 (by have := hWb.out; simp; omega) ?_; intro v8 w8 hA; obtain ⟨va8, vc8, rfl⟩ := own_shape hA.1; have HA := Lib.hid hA; clear hA)
          have HOW := Lib.hid (fun g (e : (Value.slice va R.length vc).ownBlock = some g) => own_lt H1.out.2.row e)
          have HN := Lib.hid (show CHG w w8 mb k L f ∧ RD w w8 (.slice va8 (R.length + 1) vc8) (R ++ [⟨⟨x.n, NN, ZZ⟩, a5, n5, c5⟩]) from ⟨H7.out.1.grownL H7.out.2.row HA.out.2.1, H7.out.2.add HA.out hS7.out (show n5 ≤ maxLen by unfold maxLen; omega) hxb (fun b2 off2 e2 he h0 => ⟨fun e3 => (by have h1 := HOW.out b2 e3; have h2 := HSB.out b2 off2 e2 he; omega), (by have h1 := HSB2.out b2 off2 e2 he h0; have h2 := hW7.out; omega)⟩) (fun z hz b2 off2 e2 he h0 => by have := HO1.out z hz b2 off2 e2 he h0; have := hW7.out; have := HW15.out; omega)⟩)
          have HN2 := Lib.hid (show ∀ z ∈ (R ++ [(⟨⟨x.n, NN, ZZ⟩, a5, n5, c5⟩ : Ro)]), ∀ b off e, z.a = some ⟨b, off, e⟩ → 0 < z.n → b < w8.heap.size from fun z hz b2 off2 e2 he h0 => by
            have hsz := HA.out.2.1.size
            have h2 := hW7.out
            rcases List.mem_append.1 hz with hz | hz
            · have := HO1.out z hz b2 off2 e2 he h0
              have := HW15.out
              omega
            · have e : z = ⟨⟨x.n, NN, ZZ⟩, a5, n5, c5⟩ := by simpa using hz
              subst e
              have := HSB2.out b2 off2 e2 he h0
              omega)
          have HM2 := Lib.hid (show (R ++ [(⟨⟨x.n, NN, ZZ⟩, a5, n5, c5⟩ : Ro)]).map (·.x) = (ls.take (j + 1)).map (redoLf L) by rw [List.map_append, HXT.out, HRM.out, HRL.out]; rfl)
          refine ⟨⟨j + 1, _, by omega, by go_num, HM2.out, HN, HN2⟩, ?_⟩
          simp [intN]; omega
        · obtain rfl : j = m := by omega
          have hd2 : decide ((j : Int) < (j : Int)) = false := decide_eq_false (by omega)
          have hRl := HRl.out
          obtain ⟨a9, c9, e9, hlv⟩ := leaves_own H.out.2.row (fun y hy => ⟨(H.out.2.sl y hy).1, (H.out.2.sl y hy).2.1, (H.out.2.sl y hy).2.2.1⟩)
          have hRM := HRM.out
          rw [List.take_of_length_le (by omega)] at hRM
          rw [hRM] at hlv
          injection e9 with e91 e92 e93
          subst e91 e93
          have hll2 : R.length = ls.length := by omega
          have HFIN := Lib.hid (show RedoP L ls w (.returned (.tuple #[.slice va R.length vc, .int .i64 0])) wr from ⟨va, vc, by rw [hll2], by rw [← hll2]; exact hlv, H.out.1.bel⟩)
          clear hRl hlv hRM hll2 e92 H HRM HRl
          go_wp2
          exact bodyPost_ret (v := .tuple #[.slice va R.length vc, .int .i64 0]) (by simp [results, Tryz.results24, go_sem]) rfl HFIN.out
end Go.Proofs.YtkeocnhndnbamaaGreat.Mend
