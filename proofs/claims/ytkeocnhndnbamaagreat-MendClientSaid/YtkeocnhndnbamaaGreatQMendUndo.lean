/- A loser's next one is undone. -/
import Derived.Test.YtkeocnhndnbamaaGreatQBook22
import Derived.Deep.RegionHeld3
namespace Go.Proofs.YtkeocnhndnbamaaGreat.Mend
set_option maxRecDepth 100000
open Go.RowKit Go.Sort
open Go.Proofs.YtkeocnhndnbamaaGreat.Mem
open Go.Proofs.YtkeocnhndnbamaaGreat.Slab (Slot Slots)
open Go.Proofs.YtkeocnhndnbamaaGreat.Ent (Ent goodB Ents EntAt SmallE entA cellsE noE)
open Go.Proofs.YtkeocnhndnbamaaGreat.Past (T3 txE AppRes cellsG cellsG_at)
open Go.Proofs.YtkeocnhndnbamaaGreat.Patch
open Go.Proofs.YtkeocnhndnbamaaGreat.Latch (MapN Sm sm_of)
section
variable {w w' : World} {B u : Nat} {M : Nat → Prop} {D : WD} {L : List Ent} {ls : List Lf} {P : List Ro} {Z : List LZ} {Q : List Nat} {A : List Ent}
/-- a page of the work -/
theorem WM.page (h : WM w B u M D L ls P Z Q A) {k : Nat} {y : Ro} (hk : P[k]? = some y) :
    ∃ g cap, D.pv = .slice (some ⟨g, 0, none⟩) P.length cap ∧ w.cell? ⟨g, k * 3, none⟩ = some (.int .i64 y.x.n) ∧ w.cell? ⟨g, k * 3 + 1, none⟩ = some (.int .i64 y.x.l) ∧ w.cell? ⟨g, k * 3 + 2, none⟩ = some (.slice y.a y.n y.c) ∧ (∀ j, w.frozen? ⟨g, j, none⟩ = false) ∧ g ≠ u ∧ ∀ z ∈ Z, z.b ≠ g := by
  have hl := (List.getElem?_eq_some_iff.1 hk).1
  obtain ⟨g, cap, e, eo, -, hc⟩ := own_pos h.pg (by omega)
  have hat : ∀ (j : Nat) (v : Value), (lrV y)[j]? = some v → w.cell? ⟨g, k * 3 + j, none⟩ = some v := fun j v hv => by
    have hj : j < 3 := by
      have := (List.getElem?_eq_some_iff.1 hv).1
      simpa [lrV] using this
    rw [hc _ (by omega), cellsG_at (m := 3) (fun _ => rfl) P k y hk j hj]
    exact hv
  refine ⟨g, cap, e, hat 0 _ rfl, hat 1 _ rfl, hat 2 _ rfl, fun j => ?_, fun e2 => own_ty h.pg h.blk (by decide) (by rw [eo, e2]), fun z hz e2 => own_ty h.pg (h.lz z hz).1 (by decide) (by rw [eo, e2])⟩
  obtain ⟨_, ⟨e3, _⟩ | ⟨gg, cap2, cur, e3, _, hb, _⟩⟩ := h.pg
  · rw [e3] at eo; cases eo
  · rw [e3] at e
    injection e with e
    injection e with e
    injection e with e
    subst e
    simp [World.frozen?, hb]
theorem loser_all {w : World} {z : LZ} (h : Blk w z.b 126 (loserA z)) : w.cell? ⟨z.b, 3, none⟩ = some (.int .i64 z.last) ∧ w.cell? ⟨z.b, 10, none⟩ = some (.int .i64 z.nx.page) := ⟨h.cell 3, h.cell 10⟩
theorem work_all {w : World} (h : Blk w u 92 (workA D)) : w.cell? ⟨u, 3, none⟩ = some D.pv ∧ w.cell? ⟨u, 4, none⟩ = some (.map (some D.mp)) ∧ w.cell? ⟨u, 0, none⟩ = some (.slice D.a D.n D.c) ∧ w.cell? ⟨u, 1, none⟩ = some (.map (some D.ml)) ∧ w.cell? ⟨u, 2, none⟩ = some (.map (some D.mf)) := ⟨h.cell 3, h.cell 4, h.cell 0, h.cell 1, h.cell 2⟩
theorem lf_set : ∀ (P : List Ro) (k : Nat) (y y' : Ro), P[k]? = some y → y'.x.n = y.x.n → ((cellsG lrV P).set (k * 3 + 1) (.int .i64 y'.x.l)).set (k * 3 + 2) (.slice y'.a y'.n y'.c) = cellsG lrV (P.set k y')
  | [], k, y, y', h, _ => by simp at h
  | a :: l, 0, y, y', h, hn => by
    simp at h; subst h
    simp [cellsG, lrV, hn]
  | a :: l, k + 1, y, y', h, hn => by
    have ih := lf_set l k y y' (by simpa using h) hn
    rw [show (k + 1) * 3 + 1 = (k * 3 + 1) + 1 + 1 + 1 by omega, show (k + 1) * 3 + 2 = (k * 3 + 2) + 1 + 1 + 1 by omega]
    simp only [cellsG, List.flatMap_cons, lrV, List.cons_append, List.nil_append, List.set_cons_succ] at ih ⊢
    rw [← ih]
/-- new blocks are nobody's -/
theorem WM.more (h : WM w B u M D L ls P Z Q A) (hb : Below w.heap.size w w') : WM w' B u (fun j => M j ∨ (w.heap.size ≤ j ∧ j < w'.heap.size)) D L ls P Z Q A := by
  have h2 := h.below hb
  have r := h2.rest
  have hnew : ∀ {j : Nat}, j < w.heap.size → ¬ M j → ¬ (M j ∨ (w.heap.size ≤ j ∧ j < w'.heap.size)) := fun hj hm e => e.elim hm fun e => by omega
  refine ⟨⟨r.tr, r.en, ⟨.inl r.me.1, .inl r.me.2.1, .inl r.me.2.2.1, fun b off e ha hn => .inl (r.me.2.2.2 b off e ha hn)⟩, r.pl, r.lo, fun g hg => .inl (r.mlo g hg), fun j hj => hj.elim (r.mlt j) fun e => e.2⟩, h2.blk, h2.bu, hnew h.blk.lt h.mu, h2.pg, fun y hy => (h2.sl y hy).mono fun _ => .inl, fun g hg => hnew (own_lt h.pg hg) (h.mpg g hg), fun z hz => ⟨(h2.lz z hz).1, (h2.lz z hz).2.1, hnew (h.lz z hz).1.lt (h.lz z hz).2.2⟩, h2.zn, h2.qu, fun g hg => hnew (own_lt h.qu hg) (h.mq g hg), h2.ql, h2.ad, fun g hg => hnew (own_lt h.ad hg) (h.mad g hg)⟩
theorem WM.newSlots (_h2 : WM w' B u (fun j => M j ∨ (w.heap.size ≤ j ∧ j < w'.heap.size)) D L ls P Z Q A) (_h : WM w B u M D L ls P Z Q A) (_hb : Below w.heap.size w w') {aa : Option Addr} {nn : Nat} {zs : List Slab.Slot} (hs : Slots w' aa nn zs) (hn : zs.length ≤ 1000000) (hf : ∀ b off e, aa = some ⟨b, off, e⟩ → w.heap.size ≤ b) :
    SlotsM (fun j => M j ∨ (w.heap.size ≤ j ∧ j < w'.heap.size)) w' aa nn zs := by
  refine ⟨hs, by have := hs.len; omega, fun b off e ha h0 => ?_⟩
  obtain ⟨b', off', ha', hlt, -⟩ := hs.2.2 h0
  rw [ha] at ha'
  injection ha' with ha'
  injection ha' with h1 h2 h3
  subst h1
  exact .inr ⟨hf b off e ha, hlt⟩
theorem slots_two {g : Nat} {aa : Option Addr} {nn : Nat} {zs : List Slab.Slot} (h : Slots w aa nn zs) (hne : ∀ b off e, aa = some ⟨b, off, e⟩ → b ≠ g) (v0 v1 : Value) : Slots ((w.setCell ⟨g, 0, none⟩ v0).setCell ⟨g, 1, none⟩ v1) aa nn zs :=
  slots_same h (by simp) fun b off e ha _ => (Below.heap_setCell _ ⟨g, 1, none⟩ _ b (hne b off e ha)).trans (Below.heap_setCell _ ⟨g, 0, none⟩ _ b (hne b off e ha))
/-- a page's image is another one now -/
theorem WM.setPage (h : WM w B u M D L ls P Z Q A) {k : Nat} {y y' : Ro} (hk : P[k]? = some y) (hn : y'.x.n = y.x.n) (hs : SlotsM M w y'.a y'.n y'.x.z) {g cap : Nat} (hpv : D.pv = .slice (some ⟨g, 0, none⟩) P.length cap) :
    WM ((w.setCell ⟨g, k * 3 + 1, none⟩ (.int .i64 y'.x.l)).setCell ⟨g, k * 3 + 2, none⟩ (.slice y'.a y'.n y'.c)) B u M D L ls (P.set k y') Z Q A ∧ Below B w ((w.setCell ⟨g, k * 3 + 1, none⟩ (.int .i64 y'.x.l)).setCell ⟨g, k * 3 + 2, none⟩ (.slice y'.a y'.n y'.c)) := by
  have ho : Onl g w ((w.setCell ⟨g, k * 3 + 1, none⟩ (.int .i64 y'.x.l)).setCell ⟨g, k * 3 + 2, none⟩ (.slice y'.a y'.n y'.c)) := ((Onl.refl g w).set_ _ _).set_ _ _
  have hgo : D.pv.ownBlock = some g := by rw [hpv]; rfl
  have hgM := h.mpg g hgo
  have hgB : B ≤ g := Past.own_ge h.pg hgo
  have hkeep : Keep M w ((w.setCell ⟨g, k * 3 + 1, none⟩ (.int .i64 y'.x.l)).setCell ⟨g, k * 3 + 2, none⟩ (.slice y'.a y'.n y'.c)) := ⟨ho.os, ho.tape, ho.output, Nat.le_of_eq ho.size.symm, fun j hj => ho.block j fun e => hgM (e ▸ hj)⟩
  have hown : ∀ {t : TypeId} {size n : Nat} {v : Value} {xs : List Value}, w.ownsRow B t size v n xs → t ≠ 54 → ((w.setCell ⟨g, k * 3 + 1, none⟩ (.int .i64 y'.x.l)).setCell ⟨g, k * 3 + 2, none⟩ (.slice y'.a y'.n y'.c)).ownsRow B t size v n xs := fun {t size n v xs} h1 hne =>
    own_same h1 fun b hb => ho.block b fun e => own_own h.pg h1 hne g hgo (by rw [← e]; exact hb)
  refine ⟨⟨h.rest.keep hkeep, (ho.block u fun e => own_ty h.pg h.blk (by decide) (by rw [hgo, e])).trans h.blk, h.bu, h.mu, ?_, fun q hq => ?_, h.mpg, fun q hq => ⟨(ho.block q.b fun e => own_ty h.pg (h.lz q hq).1 (by decide) (by rw [hgo, e])).trans (h.lz q hq).1, (h.lz q hq).2⟩, h.zn, hown h.qu (by decide), h.mq, h.ql, hown h.ad (by decide), h.mad⟩, onl_below ho hgB⟩
  · have hrow := h.pg
    rw [List.length_set]
    obtain ⟨hl, ⟨e, _⟩ | ⟨g', cap', cur, e, hg, hb, hn2, hc, hcs, ht⟩⟩ := hrow
    · rw [e] at hpv; cases hpv
    · rw [e] at hpv
      injection hpv with e1 e2 e3
      injection e1 with e1
      injection e1 with e1
      subst e1 e3
      refine ⟨by rw [Past.cellsG_len (m := 3) (fun _ => rfl), List.length_set], .inr ⟨g', cap', (cur.setIfInBounds (k * 3 + 1) (.int .i64 y'.x.l)).setIfInBounds (k * 3 + 2) (.slice y'.a y'.n y'.c), e, hg, ?_, hn2, hc, by simp only [Array.size_setIfInBounds]; exact hcs, ?_⟩⟩
      · have h1 : Blk w g' 54 cur := hb
        exact (h1.set_ _ _).set_ _ _
      · rw [Array.toList_setIfInBounds, Array.toList_setIfInBounds, List.take_set, List.take_set, ht]
        exact lf_set P k y y' hk hn
  · obtain ⟨j, hj⟩ := List.mem_iff_getElem?.1 hq
    rw [List.getElem?_set] at hj
    by_cases e : k = j
    · rw [if_pos e] at hj
      split at hj
      · injection hj with hj
        rw [← hj]; exact hs.keep hkeep
      · cases hj
    · rw [if_neg e] at hj
      exact (h.sl q (List.mem_of_getElem? hj)).keep hkeep
/-- a page's box, over a call -/
theorem pbox {X w' : World} (hb : Below (X.alloc (.cells #[.int .i64 0, .slice none 0 0] 52)).heap.size (X.alloc (.cells #[.int .i64 0, .slice none 0 0] 52)) w') : Blk w' X.heap.size 52 #[.int .i64 0, .slice none 0 0] := (Blk.new X _ _).below hb (Blk.new X _ _).lt
theorem pbox_d {X w' : World} (hb : Below (X.alloc (.cells #[.int .i64 0, .slice none 0 0] 52)).drew.heap.size (X.alloc (.cells #[.int .i64 0, .slice none 0 0] 52)).drew w') : Blk w' X.heap.size 52 #[.int .i64 0, .slice none 0 0] := (Blk.new X _ _).below (show Below (X.alloc (.cells #[.int .i64 0, .slice none 0 0] 52)).heap.size (X.alloc (.cells #[.int .i64 0, .slice none 0 0] 52)) w' from ⟨hb.os, hb.tape, hb.output, hb.size, hb.block⟩) (Blk.new X _ _).lt
/-- the new image's block is a new one -/
theorem fresh_a {X : World} {o : Obj} {aa : Option Addr} (h : aa = none ∨ ∀ b off e, aa = some ⟨b, off, e⟩ → (X.alloc o).heap.size ≤ b) : ∀ b off e, aa = some ⟨b, off, e⟩ → X.heap.size < b := fun b off e ha => by
  rcases h with h | h
  · rw [h] at ha; cases ha
  · have := h b off e ha; simp at this; omega
theorem fresh_ad {X : World} {o : Obj} {aa : Option Addr} (h : aa = none ∨ ∀ b off e, aa = some ⟨b, off, e⟩ → (X.alloc o).drew.heap.size ≤ b) : ∀ b off e, aa = some ⟨b, off, e⟩ → X.heap.size < b := fresh_a (o := o) h
theorem fresh_n {X : World} {aa : Option Addr} (h : aa = none ∨ ∀ b off e, aa = some ⟨b, off, e⟩ → X.heap.size ≤ b) : ∀ b off e, aa = some ⟨b, off, e⟩ → X.heap.size ≤ b := fun b off e ha => by
  rcases h with h | h
  · rw [h] at ha; cases ha
  · exact h b off e ha
theorem fresh_d {X : World} {aa : Option Addr} (h : aa = none ∨ ∀ b off e, aa = some ⟨b, off, e⟩ → X.drew.heap.size ≤ b) : ∀ b off e, aa = some ⟨b, off, e⟩ → X.heap.size ≤ b := fresh_n (X := X) h
theorem cell_lt {w : World} {g j : Nat} {v : Value} (h : w.cell? ⟨g, j, none⟩ = some v) : g < w.heap.size := by
  unfold World.cell? at h
  cases hb : w.heap[g]? with
  | none => simp [hb] at h
  | some o => exact (Array.getElem?_eq_some_iff.1 hb).1
set_option maxRecDepth 100000 in
set_option maxHeartbeats 8000000 in
theorem wundo_any (h : WM w B u M D L ls P Z Q A) {i : Nat} {z : LZ} (hz : Z[i]? = some z) {k : Nat} {y : Ro} (hk : P[k]? = some y) (hidx : idxL ls z.nx.page = some k) (hsm : Sm z.nx.page)
    {lsn : Int} (hlsn : 1 + max y.x.l z.last = lsn) (hy : 0 ≤ y.x.l ∧ y.x.l ≤ 1099511627776) (hzl : 0 ≤ z.last ∧ z.last ≤ 1099511627776) (hl2 : lsn ≤ 1099511627776) (hsx : SmallE z.nx)
    {x : Ent} (hx : turnY z.nx lsn z.last = x) (ht : turnB z.nx lsn z.last = true) (hr : redoCode y.x.l y.x.z x = 0) (hzn : (redoZ y.x.l y.x.z x).length ≤ 1000000) (hA : A.length ≤ 800000) :
    Calls Tryz.prog 50 #[.pointer (some ⟨u, 0, none⟩), .pointer (some ⟨z.b, 0, none⟩)] w fun e w' => e = .returned (.int .i64 0) ∧ ∃ (M' : Nat → Prop) (v' : Value) (y' : Ro), (∀ k, M k → M' k) ∧ y'.x = ⟨y.x.n, redoN y.x.l y.x.z x, redoZ y.x.l y.x.z x⟩ ∧
      WM w' B u M' { D with av := v' } L ls (P.set k y') (Z.set i { z with last := lsn }) Q (A ++ [x]) ∧ Below B w w' := by
  obtain ⟨g, cap, hpv, p0, p1, p2, pf, hgu, hgz⟩ := h.page hk
  have hzb := (h.lz z (List.mem_of_getElem? hz)).1
  obtain ⟨z3, z10⟩ := loser_all hzb
  obtain ⟨u3, u4, -⟩ := work_all h.blk
  rw [hpv] at u3
  obtain ⟨kk, hmap⟩ := h.rest.pl
  have lk := hmap.look Tryz.underlying88 (zero_i _) hsm
  rw [pl_look.1, hidx, show numI (some k) = (k : Int) from rfl] at lk
  have lk2 := (hmap.same (w' := w.drew) rfl).look Tryz.underlying88 (zero_i _) hsm
  rw [pl_look.1, hidx, show numI (some k) = (k : Int) from rfl] at lk2
  have hkl := (List.getElem?_eq_some_iff.1 hk).1
  have hd0 : decide ((k : Int) < (P.length : Int)) = true := decide_eq_true (by omega)
  have H0 := Lib.hid h
  have HZ := Lib.hid hz
  have HK := Lib.hid hk
  have hgw : g < w.heap.size := cell_lt p0
  have HXL := Lib.hid (show x.lsn = lsn by rw [← hx]; rfl)
  have hBw : B ≤ w.heap.size := by have := h.bu; have := h.blk.lt; omega
  clear h hz hk hzb hmap hidx hsm
  go_enter Tryz.func50, Tryz.ntmps50
  go_upto_region 1 with (fail)
  go_cut [5] (fun t5 wx => t5 = .pointer (some ⟨g, k * 3 + 1, none⟩) ∧ Hid (WM wx B u M D L ls P Z Q A ∧ Below w.heap.size w wx))
  case first =>
    go_region
    all_goals
      go_wp2_with fail
      go_meet
      case rel => exact ⟨by first | rfl | go_num, Lib.hid ⟨H0.out.below (Below.refl _ _).drew, (Below.refl _ _).drew⟩⟩
  case rest =>
    obtain ⟨rfl, HC⟩ := hcut
    clear u3 u4 z3 z10 lk lk2 p0 p1 p2 pf H0
    obtain ⟨g', cap', hpv', p0, p1, p2, pf, -, -⟩ := HC.out.1.page HK.out
    have hgg := hpv.symm.trans hpv'
    injection hgg with e1 e2 e3
    injection e1 with e1
    injection e1 with e1
    subst e1 e3
    obtain ⟨z3, z10⟩ := loser_all (HC.out.1.lz z (List.mem_of_getElem? HZ.out)).1
    go_upto_region 2 with (fail)
    go_cut [6] (fun t6 wy => t6 = .int .i64 lsn ∧ Hid (WM wy B u M D L ls P Z Q A ∧ Below w.heap.size w wy))
    case first =>
      go_region
      all_goals
        go_wp2_with fail
        go_meet
        case rel => exact ⟨rfl, Lib.hid ⟨HC.out.1.below (Below.refl _ _).drew, HC.out.2.trans ((Below.refl _ _).drew)⟩⟩
    case rest =>
      obtain ⟨rfl, H1⟩ := hcut
      clear z3 z10 p0 p1 p2 pf HC hlsn
      have hd3 : decide (lsn > 1099511627776) = false := decide_eq_false (by omega)
      have HSX := Lib.hid (show SmallE x from by rw [← hx]; exact ⟨hsx.2, hsx.1⟩)
      have HRC := Lib.hid hr
      have HTX := Lib.hid (And.intro ((Patch.turn_ok ht).1.trans hx) (Patch.turn_ok ht).2)
      have HS := Lib.hid (show ∀ W', Below wc.heap.size wc W' → W'.cell? ⟨z.b, 3, none⟩ = some (.int .i64 z.last) ∧ W'.cell? ⟨z.b, 4, none⟩ = some (.int .i64 z.nx.kind) ∧ W'.cell? ⟨z.b, 5, none⟩ = some (.int .i64 z.nx.cl) ∧ W'.cell? ⟨z.b, 6, none⟩ = some (.int .i64 z.nx.ep) ∧ W'.cell? ⟨z.b, 7, none⟩ = some (.int .i64 z.nx.n) ∧ W'.cell? ⟨z.b, 8, none⟩ = some (.int .i64 z.nx.lsn) ∧ W'.cell? ⟨z.b, 9, none⟩ = some (.int .i64 z.nx.prev) ∧ W'.cell? ⟨z.b, 10, none⟩ = some (.int .i64 z.nx.page) ∧ W'.cell? ⟨z.b, 11, none⟩ = some (.int .i64 z.nx.slot) ∧ W'.cell? ⟨z.b, 12, none⟩ = some (.bool z.nx.wu) ∧ W'.cell? ⟨z.b, 13, none⟩ = some (.string z.nx.wd) ∧ W'.cell? ⟨z.b, 14, none⟩ = some (.bool z.nx.iu) ∧ W'.cell? ⟨z.b, 15, none⟩ = some (.string z.nx.id) ∧ W'.cell? ⟨z.b, 16, none⟩ = some (.int .i64 z.nx.next) from fun W' hb => by
        have hb := ((H1.out.1.lz z (List.mem_of_getElem? HZ.out)).1).below hb ((H1.out.1.lz z (List.mem_of_getElem? HZ.out)).1).lt
        exact ⟨hb.cell 3, hb.cell 4, hb.cell 5, hb.cell 6, hb.cell 7, hb.cell 8, hb.cell 9, hb.cell 10, hb.cell 11, hb.cell 12, hb.cell 13, hb.cell 14, hb.cell 15, hb.cell 16⟩)
      have z0 := HS.out wc (Below.refl _ _)
      have z1 := HS.out wc.drew (Below.refl _ _).drew
      go_upto_region 5 with (fail)
      go_cut [7, 8] (fun t7 t8 wy => ∃ g7 : Nat, t7 = .pointer (some ⟨g7, 0, none⟩) ∧ t8 = .int .i64 0 ∧ Hid (Blk wy g7 58 #[.int .i64 x.kind, .int .i64 x.cl, .int .i64 x.ep, .int .i64 x.n, .int .i64 x.lsn, .int .i64 x.prev, .int .i64 x.page, .int .i64 x.slot, .bool x.wu, .string x.wd, .bool x.iu, .string x.id, .int .i64 x.next] ∧ Below wc.heap.size wc wy ∧ wc.heap.size ≤ g7))
      case first =>
        go_region_held3 (fun W' => W'.cell? ⟨z.b, 3, none⟩ = some (.int .i64 z.last) ∧ W'.cell? ⟨z.b, 4, none⟩ = some (.int .i64 z.nx.kind) ∧ W'.cell? ⟨z.b, 5, none⟩ = some (.int .i64 z.nx.cl) ∧ W'.cell? ⟨z.b, 6, none⟩ = some (.int .i64 z.nx.ep) ∧ W'.cell? ⟨z.b, 7, none⟩ = some (.int .i64 z.nx.n) ∧ W'.cell? ⟨z.b, 8, none⟩ = some (.int .i64 z.nx.lsn) ∧ W'.cell? ⟨z.b, 9, none⟩ = some (.int .i64 z.nx.prev) ∧ W'.cell? ⟨z.b, 10, none⟩ = some (.int .i64 z.nx.page) ∧ W'.cell? ⟨z.b, 11, none⟩ = some (.int .i64 z.nx.slot) ∧ W'.cell? ⟨z.b, 12, none⟩ = some (.bool z.nx.wu) ∧ W'.cell? ⟨z.b, 13, none⟩ = some (.string z.nx.wd) ∧ W'.cell? ⟨z.b, 14, none⟩ = some (.bool z.nx.iu) ∧ W'.cell? ⟨z.b, 15, none⟩ = some (.string z.nx.id) ∧ W'.cell? ⟨z.b, 16, none⟩ = some (.int .i64 z.nx.next))
          (first | (with_unfolding_none exact K1.out _ _ _ _ _ _ _ _ _ _ _ _ _) | (with_unfolding_none assumption) | (with_unfolding_none exact z0) | (with_unfolding_none exact z1) | (with_unfolding_none exact HS.out _ (Ent.below_box _ _)) | (with_unfolding_none exact HS.out _ (Ent.below_box _ _).drew) | (with_unfolding_none exact HS.out _ (below_go B2.out (Ent.below_box _ _))) | (with_unfolding_none exact HS.out _ (below_go B2.out (Ent.below_box _ _)).drew))
          (first | (go_at_call 19; refine (turn_any z.nx lsn z.last _ hsx).mono ?_; rintro e w2 ⟨rfl, b2⟩; have B2 := Lib.hid (show Below wc.heap.size wc w2 from (by first | (with_reducible exact b2) | (with_reducible exact bn_d b2) | (with_reducible exact bn_a b2) | (with_reducible exact bn_ad b2))); (first | ((with_reducible have hq := ebox b2); have HBX := Lib.hid hq; clear hq; obtain ⟨e0, e1, e2, e3, e4, e5, e6, e7, e8, e9, e10, e11, e12⟩ := Ent.ent_cells (x := noE) HBX.out; simp only [noE] at e0 e1 e2 e3 e4 e5 e6 e7 e8 e9 e10 e11 e12; obtain ⟨f0, f1, f2, f3, f4, f5, f6, f7, f8, f9, f10, f11, f12⟩ := Ent.ent_frozen HBX.out) | ((with_reducible have hq := ebox_d b2); have HBX := Lib.hid hq; clear hq; obtain ⟨e0, e1, e2, e3, e4, e5, e6, e7, e8, e9, e10, e11, e12⟩ := Ent.ent_cells (x := noE) HBX.out; simp only [noE] at e0 e1 e2 e3 e4 e5 e6 e7 e8 e9 e10 e11 e12; obtain ⟨f0, f1, f2, f3, f4, f5, f6, f7, f8, f9, f10, f11, f12⟩ := Ent.ent_frozen HBX.out) | skip); clear b2; have z2 := HS.out w2 B2.out; rw [HTX.out.1, HTX.out.2]; have K1 := Lib.hid (show ∀ (q0 q1 q2 q3 q4 q5 q6 q7 q8 q9 q10 q11 q12 : Value), (((((((((((((w2.setCell ⟨wc.heap.size, 0, none⟩ q0).setCell ⟨wc.heap.size, 1, none⟩ q1).setCell ⟨wc.heap.size, 2, none⟩ q2).setCell ⟨wc.heap.size, 3, none⟩ q3).setCell ⟨wc.heap.size, 4, none⟩ q4).setCell ⟨wc.heap.size, 5, none⟩ q5).setCell ⟨wc.heap.size, 6, none⟩ q6).setCell ⟨wc.heap.size, 7, none⟩ q7).setCell ⟨wc.heap.size, 8, none⟩ q8).setCell ⟨wc.heap.size, 9, none⟩ q9).setCell ⟨wc.heap.size, 10, none⟩ q10).setCell ⟨wc.heap.size, 11, none⟩ q11).setCell ⟨wc.heap.size, 12, none⟩ q12).cell? ⟨z.b, 3, none⟩ = some (.int .i64 z.last) ∧ (((((((((((((w2.setCell ⟨wc.heap.size, 0, none⟩ q0).setCell ⟨wc.heap.size, 1, none⟩ q1).setCell ⟨wc.heap.size, 2, none⟩ q2).setCell ⟨wc.heap.size, 3, none⟩ q3).setCell ⟨wc.heap.size, 4, none⟩ q4).setCell ⟨wc.heap.size, 5, none⟩ q5).setCell ⟨wc.heap.size, 6, none⟩ q6).setCell ⟨wc.heap.size, 7, none⟩ q7).setCell ⟨wc.heap.size, 8, none⟩ q8).setCell ⟨wc.heap.size, 9, none⟩ q9).setCell ⟨wc.heap.size, 10, none⟩ q10).setCell ⟨wc.heap.size, 11, none⟩ q11).setCell ⟨wc.heap.size, 12, none⟩ q12).cell? ⟨z.b, 4, none⟩ = some (.int .i64 z.nx.kind) ∧ (((((((((((((w2.setCell ⟨wc.heap.size, 0, none⟩ q0).setCell ⟨wc.heap.size, 1, none⟩ q1).setCell ⟨wc.heap.size, 2, none⟩ q2).setCell ⟨wc.heap.size, 3, none⟩ q3).setCell ⟨wc.heap.size, 4, none⟩ q4).setCell ⟨wc.heap.size, 5, none⟩ q5).setCell ⟨wc.heap.size, 6, none⟩ q6).setCell ⟨wc.heap.size, 7, none⟩ q7).setCell ⟨wc.heap.size, 8, none⟩ q8).setCell ⟨wc.heap.size, 9, none⟩ q9).setCell ⟨wc.heap.size, 10, none⟩ q10).setCell ⟨wc.heap.size, 11, none⟩ q11).setCell ⟨wc.heap.size, 12, none⟩ q12).cell? ⟨z.b, 5, none⟩ = some (.int .i64 z.nx.cl) ∧ (((((((((((((w2.setCell ⟨wc.heap.size, 0, none⟩ q0).setCell ⟨wc.heap.size, 1, none⟩ q1).setCell ⟨wc.heap.size, 2, none⟩ q2).setCell ⟨wc.heap.size, 3, none⟩ q3).setCell ⟨wc.heap.size, 4, none⟩ q4).setCell ⟨wc.heap.size, 5, none⟩ q5).setCell ⟨wc.heap.size, 6, none⟩ q6).setCell ⟨wc.heap.size, 7, none⟩ q7).setCell ⟨wc.heap.size, 8, none⟩ q8).setCell ⟨wc.heap.size, 9, none⟩ q9).setCell ⟨wc.heap.size, 10, none⟩ q10).setCell ⟨wc.heap.size, 11, none⟩ q11).setCell ⟨wc.heap.size, 12, none⟩ q12).cell? ⟨z.b, 6, none⟩ = some (.int .i64 z.nx.ep) ∧ (((((((((((((w2.setCell ⟨wc.heap.size, 0, none⟩ q0).setCell ⟨wc.heap.size, 1, none⟩ q1).setCell ⟨wc.heap.size, 2, none⟩ q2).setCell ⟨wc.heap.size, 3, none⟩ q3).setCell ⟨wc.heap.size, 4, none⟩ q4).setCell ⟨wc.heap.size, 5, none⟩ q5).setCell ⟨wc.heap.size, 6, none⟩ q6).setCell ⟨wc.heap.size, 7, none⟩ q7).setCell ⟨wc.heap.size, 8, none⟩ q8).setCell ⟨wc.heap.size, 9, none⟩ q9).setCell ⟨wc.heap.size, 10, none⟩ q10).setCell ⟨wc.heap.size, 11, none⟩ q11).setCell ⟨wc.heap.size, 12, none⟩ q12).cell? ⟨z.b, 7, none⟩ = some (.int .i64 z.nx.n) ∧ (((((((((((((w2.setCell ⟨wc.heap.size, 0, none⟩ q0).setCell ⟨wc.heap.size, 1, none⟩ q1).setCell ⟨wc.heap.size, 2, none⟩ q2).setCell ⟨wc.heap.size, 3, none⟩ q3).setCell ⟨wc.heap.size, 4, none⟩ q4).setCell ⟨wc.heap.size, 5, none⟩ q5).setCell ⟨wc.heap.size, 6, none⟩ q6).setCell ⟨wc.heap.size, 7, none⟩ q7).setCell ⟨wc.heap.size, 8, none⟩ q8).setCell ⟨wc.heap.size, 9, none⟩ q9).setCell ⟨wc.heap.size, 10, none⟩ q10).setCell ⟨wc.heap.size, 11, none⟩ q11).setCell ⟨wc.heap.size, 12, none⟩ q12).cell? ⟨z.b, 8, none⟩ = some (.int .i64 z.nx.lsn) ∧ (((((((((((((w2.setCell ⟨wc.heap.size, 0, none⟩ q0).setCell ⟨wc.heap.size, 1, none⟩ q1).setCell ⟨wc.heap.size, 2, none⟩ q2).setCell ⟨wc.heap.size, 3, none⟩ q3).setCell ⟨wc.heap.size, 4, none⟩ q4).setCell ⟨wc.heap.size, 5, none⟩ q5).setCell ⟨wc.heap.size, 6, none⟩ q6).setCell ⟨wc.heap.size, 7, none⟩ q7).setCell ⟨wc.heap.size, 8, none⟩ q8).setCell ⟨wc.heap.size, 9, none⟩ q9).setCell ⟨wc.heap.size, 10, none⟩ q10).setCell ⟨wc.heap.size, 11, none⟩ q11).setCell ⟨wc.heap.size, 12, none⟩ q12).cell? ⟨z.b, 9, none⟩ = some (.int .i64 z.nx.prev) ∧ (((((((((((((w2.setCell ⟨wc.heap.size, 0, none⟩ q0).setCell ⟨wc.heap.size, 1, none⟩ q1).setCell ⟨wc.heap.size, 2, none⟩ q2).setCell ⟨wc.heap.size, 3, none⟩ q3).setCell ⟨wc.heap.size, 4, none⟩ q4).setCell ⟨wc.heap.size, 5, none⟩ q5).setCell ⟨wc.heap.size, 6, none⟩ q6).setCell ⟨wc.heap.size, 7, none⟩ q7).setCell ⟨wc.heap.size, 8, none⟩ q8).setCell ⟨wc.heap.size, 9, none⟩ q9).setCell ⟨wc.heap.size, 10, none⟩ q10).setCell ⟨wc.heap.size, 11, none⟩ q11).setCell ⟨wc.heap.size, 12, none⟩ q12).cell? ⟨z.b, 10, none⟩ = some (.int .i64 z.nx.page) ∧ (((((((((((((w2.setCell ⟨wc.heap.size, 0, none⟩ q0).setCell ⟨wc.heap.size, 1, none⟩ q1).setCell ⟨wc.heap.size, 2, none⟩ q2).setCell ⟨wc.heap.size, 3, none⟩ q3).setCell ⟨wc.heap.size, 4, none⟩ q4).setCell ⟨wc.heap.size, 5, none⟩ q5).setCell ⟨wc.heap.size, 6, none⟩ q6).setCell ⟨wc.heap.size, 7, none⟩ q7).setCell ⟨wc.heap.size, 8, none⟩ q8).setCell ⟨wc.heap.size, 9, none⟩ q9).setCell ⟨wc.heap.size, 10, none⟩ q10).setCell ⟨wc.heap.size, 11, none⟩ q11).setCell ⟨wc.heap.size, 12, none⟩ q12).cell? ⟨z.b, 11, none⟩ = some (.int .i64 z.nx.slot) ∧ (((((((((((((w2.setCell ⟨wc.heap.size, 0, none⟩ q0).setCell ⟨wc.heap.size, 1, none⟩ q1).setCell ⟨wc.heap.size, 2, none⟩ q2).setCell ⟨wc.heap.size, 3, none⟩ q3).setCell ⟨wc.heap.size, 4, none⟩ q4).setCell ⟨wc.heap.size, 5, none⟩ q5).setCell ⟨wc.heap.size, 6, none⟩ q6).setCell ⟨wc.heap.size, 7, none⟩ q7).setCell ⟨wc.heap.size, 8, none⟩ q8).setCell ⟨wc.heap.size, 9, none⟩ q9).setCell ⟨wc.heap.size, 10, none⟩ q10).setCell ⟨wc.heap.size, 11, none⟩ q11).setCell ⟨wc.heap.size, 12, none⟩ q12).cell? ⟨z.b, 12, none⟩ = some (.bool z.nx.wu) ∧ (((((((((((((w2.setCell ⟨wc.heap.size, 0, none⟩ q0).setCell ⟨wc.heap.size, 1, none⟩ q1).setCell ⟨wc.heap.size, 2, none⟩ q2).setCell ⟨wc.heap.size, 3, none⟩ q3).setCell ⟨wc.heap.size, 4, none⟩ q4).setCell ⟨wc.heap.size, 5, none⟩ q5).setCell ⟨wc.heap.size, 6, none⟩ q6).setCell ⟨wc.heap.size, 7, none⟩ q7).setCell ⟨wc.heap.size, 8, none⟩ q8).setCell ⟨wc.heap.size, 9, none⟩ q9).setCell ⟨wc.heap.size, 10, none⟩ q10).setCell ⟨wc.heap.size, 11, none⟩ q11).setCell ⟨wc.heap.size, 12, none⟩ q12).cell? ⟨z.b, 13, none⟩ = some (.string z.nx.wd) ∧ (((((((((((((w2.setCell ⟨wc.heap.size, 0, none⟩ q0).setCell ⟨wc.heap.size, 1, none⟩ q1).setCell ⟨wc.heap.size, 2, none⟩ q2).setCell ⟨wc.heap.size, 3, none⟩ q3).setCell ⟨wc.heap.size, 4, none⟩ q4).setCell ⟨wc.heap.size, 5, none⟩ q5).setCell ⟨wc.heap.size, 6, none⟩ q6).setCell ⟨wc.heap.size, 7, none⟩ q7).setCell ⟨wc.heap.size, 8, none⟩ q8).setCell ⟨wc.heap.size, 9, none⟩ q9).setCell ⟨wc.heap.size, 10, none⟩ q10).setCell ⟨wc.heap.size, 11, none⟩ q11).setCell ⟨wc.heap.size, 12, none⟩ q12).cell? ⟨z.b, 14, none⟩ = some (.bool z.nx.iu) ∧ (((((((((((((w2.setCell ⟨wc.heap.size, 0, none⟩ q0).setCell ⟨wc.heap.size, 1, none⟩ q1).setCell ⟨wc.heap.size, 2, none⟩ q2).setCell ⟨wc.heap.size, 3, none⟩ q3).setCell ⟨wc.heap.size, 4, none⟩ q4).setCell ⟨wc.heap.size, 5, none⟩ q5).setCell ⟨wc.heap.size, 6, none⟩ q6).setCell ⟨wc.heap.size, 7, none⟩ q7).setCell ⟨wc.heap.size, 8, none⟩ q8).setCell ⟨wc.heap.size, 9, none⟩ q9).setCell ⟨wc.heap.size, 10, none⟩ q10).setCell ⟨wc.heap.size, 11, none⟩ q11).setCell ⟨wc.heap.size, 12, none⟩ q12).cell? ⟨z.b, 15, none⟩ = some (.string z.nx.id) ∧ (((((((((((((w2.setCell ⟨wc.heap.size, 0, none⟩ q0).setCell ⟨wc.heap.size, 1, none⟩ q1).setCell ⟨wc.heap.size, 2, none⟩ q2).setCell ⟨wc.heap.size, 3, none⟩ q3).setCell ⟨wc.heap.size, 4, none⟩ q4).setCell ⟨wc.heap.size, 5, none⟩ q5).setCell ⟨wc.heap.size, 6, none⟩ q6).setCell ⟨wc.heap.size, 7, none⟩ q7).setCell ⟨wc.heap.size, 8, none⟩ q8).setCell ⟨wc.heap.size, 9, none⟩ q9).setCell ⟨wc.heap.size, 10, none⟩ q10).setCell ⟨wc.heap.size, 11, none⟩ q11).setCell ⟨wc.heap.size, 12, none⟩ q12).cell? ⟨z.b, 16, none⟩ = some (.int .i64 z.nx.next) from fun q0 q1 q2 q3 q4 q5 q6 q7 q8 q9 q10 q11 q12 => HS.out _ (Ent.below13 B2.out (Nat.le_refl _) _ _ _ _ _ _ _ _ _ _ _ _ _))))
        all_goals
          go_wp2_with fail
          go_meet
          case rel =>
            first
            | (with_unfolding_none exact ⟨_, rfl, rfl, Lib.hid ⟨Blk.new w2 _ _, below_go B2.out (Ent.below_box _ _), B2.out.size⟩⟩)
            | (refine ⟨_, rfl, rfl, Lib.hid ⟨?_, ?_, Nat.le_refl _⟩⟩
               · exact blk13 HBX.out _ _ _ _ _ _ _ _ _ _ _ _ _
               · exact Ent.below13 B2.out (Nat.le_refl _) _ _ _ _ _ _ _ _ _ _ _ _ _)
      case rest =>
        obtain ⟨g7, rfl, rfl, H5⟩ := hcut
        clear z0 z1 HS hd3
        have HW := Lib.hid (And.intro (H1.out.1.below H5.out.2.1) (below_go H1.out.2 H5.out.2.1))
        obtain ⟨g', cap', hpv', p0, p1, p2, pf, -, -⟩ := HW.out.1.page HK.out
        have hgg := hpv.symm.trans hpv'
        injection hgg with e1 e2 e3
        injection e1 with e1
        injection e1 with e1
        subst e1 e3
        have HX := Lib.hid H5.out.1
        have HG7 := Lib.hid (Nat.le_trans H1.out.2.size H5.out.2.2)
        have hgl : g < wc.heap.size := cell_lt p1
        have HSL := Lib.hid (HW.out.1.sl y (List.mem_of_getElem? HK.out))
        have HS := Lib.hid (show ∀ W', Below wc.heap.size wc W' → W'.cell? ⟨g, k * 3 + 1, none⟩ = some (.int .i64 y.x.l) ∧ W'.cell? ⟨g, k * 3 + 2, none⟩ = some (.slice y.a y.n y.c) ∧ W'.cell? ⟨g7, 0, none⟩ = some (.int .i64 x.kind) ∧ W'.cell? ⟨g7, 1, none⟩ = some (.int .i64 x.cl) ∧ W'.cell? ⟨g7, 2, none⟩ = some (.int .i64 x.ep) ∧ W'.cell? ⟨g7, 3, none⟩ = some (.int .i64 x.n) ∧ W'.cell? ⟨g7, 4, none⟩ = some (.int .i64 x.lsn) ∧ W'.cell? ⟨g7, 5, none⟩ = some (.int .i64 x.prev) ∧ W'.cell? ⟨g7, 6, none⟩ = some (.int .i64 x.page) ∧ W'.cell? ⟨g7, 7, none⟩ = some (.int .i64 x.slot) ∧ W'.cell? ⟨g7, 8, none⟩ = some (.bool x.wu) ∧ W'.cell? ⟨g7, 9, none⟩ = some (.string x.wd) ∧ W'.cell? ⟨g7, 10, none⟩ = some (.bool x.iu) ∧ W'.cell? ⟨g7, 11, none⟩ = some (.string x.id) ∧ W'.cell? ⟨g7, 12, none⟩ = some (.int .i64 x.next) from fun W' hb => by
          have hq := HX.out.below hb HX.out.lt
          exact ⟨(hb.cell (p := ⟨g, k * 3 + 1, none⟩) hgl).trans p1, (hb.cell (p := ⟨g, k * 3 + 2, none⟩) hgl).trans p2, hq.cell 0, hq.cell 1, hq.cell 2, hq.cell 3, hq.cell 4, hq.cell 5, hq.cell 6, hq.cell 7, hq.cell 8, hq.cell 9, hq.cell 10, hq.cell 11, hq.cell 12⟩)
        have z0 := HS.out wc (Below.refl _ _)
        have z1 := HS.out wc.drew (Below.refl _ _).drew
        clear p0 p1 p2 pf hgl H5
        go_upto_region 8 with (fail)
        go_cut [9, 10, 8] (fun t9 t10 t8 wy => ∃ (g9 : Nat) (d : Bool) (aa : Option Addr) (nn cc : Nat), t9 = .pointer (some ⟨g9, 0, none⟩) ∧ t10 = .bool d ∧ t8 = .int .i64 0 ∧ Hid (Blk wy g9 52 #[.int .i64 (redoN y.x.l y.x.z x), .slice aa nn cc] ∧ Below wc.heap.size wc wy ∧ wc.heap.size ≤ g9 ∧ Slots wy aa nn (redoZ y.x.l y.x.z x) ∧ ∀ b off e, aa = some ⟨b, off, e⟩ → wc.heap.size ≤ b))
        case first =>
          go_region_held3 (fun W' => W'.cell? ⟨g, k * 3 + 1, none⟩ = some (.int .i64 y.x.l) ∧ W'.cell? ⟨g, k * 3 + 2, none⟩ = some (.slice y.a y.n y.c) ∧ W'.cell? ⟨g7, 0, none⟩ = some (.int .i64 x.kind) ∧ W'.cell? ⟨g7, 1, none⟩ = some (.int .i64 x.cl) ∧ W'.cell? ⟨g7, 2, none⟩ = some (.int .i64 x.ep) ∧ W'.cell? ⟨g7, 3, none⟩ = some (.int .i64 x.n) ∧ W'.cell? ⟨g7, 4, none⟩ = some (.int .i64 x.lsn) ∧ W'.cell? ⟨g7, 5, none⟩ = some (.int .i64 x.prev) ∧ W'.cell? ⟨g7, 6, none⟩ = some (.int .i64 x.page) ∧ W'.cell? ⟨g7, 7, none⟩ = some (.int .i64 x.slot) ∧ W'.cell? ⟨g7, 8, none⟩ = some (.bool x.wu) ∧ W'.cell? ⟨g7, 9, none⟩ = some (.string x.wd) ∧ W'.cell? ⟨g7, 10, none⟩ = some (.bool x.iu) ∧ W'.cell? ⟨g7, 11, none⟩ = some (.string x.id) ∧ W'.cell? ⟨g7, 12, none⟩ = some (.int .i64 x.next))
            (first | (with_unfolding_none exact K1.out _ _) | (with_unfolding_none assumption) | (with_unfolding_none exact z0) | (with_unfolding_none exact z1) | (with_unfolding_none exact HS.out _ (Ent.below_box _ _)) | (with_unfolding_none exact HS.out _ (Ent.below_box _ _).drew) | (with_unfolding_none exact HS.out _ (below_go B2.out (Ent.below_box _ _))) | (with_unfolding_none exact HS.out _ (below_go B2.out (Ent.below_box _ _)).drew))
            (first | (go_at_call 36; refine (redo_any y.x.l y.a y.n y.c y.x.z x _ (HSL.out.1.below (by first | (with_reducible exact Below.refl _ _) | (with_reducible exact bx_d _) | (with_reducible exact Ent.below_box _ _) | (with_reducible exact bx_ad _ _))) HSL.out.2.1 HSX.out).mono ?_; rintro e w2 ⟨aa, nn, cc, rfl, hsl, b2, hfr⟩; have B2 := Lib.hid (show Below wc.heap.size wc w2 from (by first | (with_reducible exact b2) | (with_reducible exact bn_d b2) | (with_reducible exact bn_a b2) | (with_reducible exact bn_ad b2))); (first | ((with_reducible have hq := pbox b2); have HBX := Lib.hid hq; clear hq; have e0 := HBX.out.cell 0; have e1 := HBX.out.cell 1; have f0 := HBX.out.frozen 0; have f1 := HBX.out.frozen 1; have HFR := Lib.hid (fresh_a hfr)) | ((with_reducible have hq := pbox_d b2); have HBX := Lib.hid hq; clear hq; have e0 := HBX.out.cell 0; have e1 := HBX.out.cell 1; have f0 := HBX.out.frozen 0; have f1 := HBX.out.frozen 1; have HFR := Lib.hid (fresh_ad hfr)) | (with_reducible have HFR := Lib.hid (fresh_d hfr)) | (with_reducible have HFR := Lib.hid (fresh_n hfr))); have HSN := Lib.hid hsl; clear b2 hfr hsl; have z2 := HS.out w2 B2.out; rw [HRC.out]; have K1 := Lib.hid (show ∀ (q0 q1 : Value), ((w2.setCell ⟨wc.heap.size, 0, none⟩ q0).setCell ⟨wc.heap.size, 1, none⟩ q1).cell? ⟨g, k * 3 + 1, none⟩ = some (.int .i64 y.x.l) ∧ ((w2.setCell ⟨wc.heap.size, 0, none⟩ q0).setCell ⟨wc.heap.size, 1, none⟩ q1).cell? ⟨g, k * 3 + 2, none⟩ = some (.slice y.a y.n y.c) ∧ ((w2.setCell ⟨wc.heap.size, 0, none⟩ q0).setCell ⟨wc.heap.size, 1, none⟩ q1).cell? ⟨g7, 0, none⟩ = some (.int .i64 x.kind) ∧ ((w2.setCell ⟨wc.heap.size, 0, none⟩ q0).setCell ⟨wc.heap.size, 1, none⟩ q1).cell? ⟨g7, 1, none⟩ = some (.int .i64 x.cl) ∧ ((w2.setCell ⟨wc.heap.size, 0, none⟩ q0).setCell ⟨wc.heap.size, 1, none⟩ q1).cell? ⟨g7, 2, none⟩ = some (.int .i64 x.ep) ∧ ((w2.setCell ⟨wc.heap.size, 0, none⟩ q0).setCell ⟨wc.heap.size, 1, none⟩ q1).cell? ⟨g7, 3, none⟩ = some (.int .i64 x.n) ∧ ((w2.setCell ⟨wc.heap.size, 0, none⟩ q0).setCell ⟨wc.heap.size, 1, none⟩ q1).cell? ⟨g7, 4, none⟩ = some (.int .i64 x.lsn) ∧ ((w2.setCell ⟨wc.heap.size, 0, none⟩ q0).setCell ⟨wc.heap.size, 1, none⟩ q1).cell? ⟨g7, 5, none⟩ = some (.int .i64 x.prev) ∧ ((w2.setCell ⟨wc.heap.size, 0, none⟩ q0).setCell ⟨wc.heap.size, 1, none⟩ q1).cell? ⟨g7, 6, none⟩ = some (.int .i64 x.page) ∧ ((w2.setCell ⟨wc.heap.size, 0, none⟩ q0).setCell ⟨wc.heap.size, 1, none⟩ q1).cell? ⟨g7, 7, none⟩ = some (.int .i64 x.slot) ∧ ((w2.setCell ⟨wc.heap.size, 0, none⟩ q0).setCell ⟨wc.heap.size, 1, none⟩ q1).cell? ⟨g7, 8, none⟩ = some (.bool x.wu) ∧ ((w2.setCell ⟨wc.heap.size, 0, none⟩ q0).setCell ⟨wc.heap.size, 1, none⟩ q1).cell? ⟨g7, 9, none⟩ = some (.string x.wd) ∧ ((w2.setCell ⟨wc.heap.size, 0, none⟩ q0).setCell ⟨wc.heap.size, 1, none⟩ q1).cell? ⟨g7, 10, none⟩ = some (.bool x.iu) ∧ ((w2.setCell ⟨wc.heap.size, 0, none⟩ q0).setCell ⟨wc.heap.size, 1, none⟩ q1).cell? ⟨g7, 11, none⟩ = some (.string x.id) ∧ ((w2.setCell ⟨wc.heap.size, 0, none⟩ q0).setCell ⟨wc.heap.size, 1, none⟩ q1).cell? ⟨g7, 12, none⟩ = some (.int .i64 x.next) from fun q0 q1 => HS.out _ ((B2.out.setCell (p := ⟨wc.heap.size, 0, none⟩) (Nat.le_refl _) q0).setCell (p := ⟨wc.heap.size, 1, none⟩) (Nat.le_refl _) q1))))
          all_goals
            go_wp2_with fail
            go_meet
            case rel =>
              first
              | (with_unfolding_none exact ⟨_, _, aa, nn, cc, rfl, rfl, rfl, Lib.hid ⟨Blk.new w2 _ _, below_go B2.out (Ent.below_box _ _), B2.out.size, HSN.out.below (Ent.below_box _ _), fun b off e ha => HFR.out b off e ha⟩⟩)
              | exact ⟨_, _, aa, nn, cc, rfl, rfl, rfl, Lib.hid ⟨(HBX.out.set_ 0 _).set_ 1 _, (B2.out.setCell (p := ⟨wc.heap.size, 0, none⟩) (Nat.le_refl _) _).setCell (p := ⟨wc.heap.size, 1, none⟩) (Nat.le_refl _) _, Nat.le_refl _, slots_two HSN.out (fun b off e ha => Nat.ne_of_gt (HFR.out b off e ha)) _ _, fun b off e ha => Nat.le_of_lt (HFR.out b off e ha)⟩⟩
        case rest =>
          obtain ⟨g9, d, aa, nn, cc, rfl, rfl, rfl, H9⟩ := hcut
          clear z0 z1 HS
          have HM := Lib.hid (HW.out.1.more H9.out.2.1)
          have hsM := HM.out.newSlots HW.out.1 H9.out.2.1 H9.out.2.2.2.1 hzn H9.out.2.2.2.2
          have HPG := Lib.hid (HM.out.setPage HK.out (y' := ⟨⟨y.x.n, redoN y.x.l y.x.z x, redoZ y.x.l y.x.z x⟩, aa, nn, cc⟩) rfl hsM hpv)
          obtain ⟨g', cap', hpv', p0, p1, p2, pf, -, -⟩ := HM.out.page HK.out
          have hgg := hpv.symm.trans hpv'
          injection hgg with e1 e2 e3
          injection e1 with e1
          injection e1 with e1
          subst e1 e3
          have f1 := pf (k * 3 + 1)
          have f2 := pf (k * 3 + 2)
          have q0 : wc.cell? ⟨g9, 0, none⟩ = some (.int .i64 (redoN y.x.l y.x.z x)) := H9.out.1.cell 0
          have q1 : wc.cell? ⟨g9, 1, none⟩ = some (.slice aa nn cc) := H9.out.1.cell 1
          have hx7 := HX.out.below H9.out.2.1 HX.out.lt
          have hne7 : g7 ≠ g := by have := HG7.out; omega
          have hX7 := (hx7.far (p := ⟨g, k * 3 + 1, none⟩) hne7 (.int .i64 (redoN y.x.l y.x.z x))).far (p := ⟨g, k * 3 + 2, none⟩) hne7 (.slice aa nn cc)
          obtain ⟨c0, c1, c2, c3, c4, c5, c6, c7, c8, c9, c10, c11, c12⟩ := Ent.ent_cells hX7
          have HAD := Lib.hid (wadd_any HPG.out.1 HZ.out x (by omega) (by have := HPG.out.1.bu; have := HPG.out.1.blk.lt; omega))
          have HBB := Lib.hid (show Below B w wc from (HW.out.2.trans (H9.out.2.1.mono HW.out.2.size)).mono (by omega))
          clear hsM hx7 hX7 pf H9 p0
          go_wp2_with (with_reducible refine (HAD.out).mono ?_; rintro e w4 ⟨rfl, v', h4, b4⟩; have H4 := Lib.hid (And.intro h4 b4); clear h4 b4)
          go_ret
          have h4 := H4.out.1
          rw [HXL.out] at h4
          refine ⟨rfl, _, v', _, ?_, ?_, h4, (HBB.out.trans HPG.out.2).trans H4.out.2⟩
          · exact fun k hk => Or.inl hk
          · rfl
end
end Go.Proofs.YtkeocnhndnbamaaGreat.Mend
