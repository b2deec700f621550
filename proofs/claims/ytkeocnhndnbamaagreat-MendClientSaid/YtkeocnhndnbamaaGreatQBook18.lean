/- A log whose entries are found by their transactions, in memory: made, and followed. What a Next leads to; the next one to be undone; Back. -/
import Derived.Test.YtkeocnhndnbamaaGreatQBook17
import Derived.Test.YtkeocnhndnbamaaGreatQBook11
import Derived.Test.YtkeocnhndnbamaaGreatQPastTake
import Derived.Deep.RegionHeld3
import Derived.Test.YtkeocnhndnbamaaGreatQBook15
namespace Go.Proofs.YtkeocnhndnbamaaGreat.Mend
set_option maxRecDepth 100000
open Go.RowKit Go.Maps
open Go.Proofs.YtkeocnhndnbamaaGreat.Mem
open Go.Proofs.YtkeocnhndnbamaaGreat.Ent (Ent goodB Ents EntAt SmallE noE entA cellsE)
open Go.Proofs.YtkeocnhndnbamaaGreat.Past (T3 txE ofL MapT SmT SmI smI_of ents_mem)
open Go.Proofs.YtkeocnhndnbamaaGreat.MLog
set_option maxRecDepth 100000 in
theorem point_any (x : Ent) (w : World) : Calls Tryz.prog 57 #[.agg #[.int .i64 x.kind, .int .i64 x.cl, .int .i64 x.ep, .int .i64 x.n, .int .i64 x.lsn, .int .i64 x.prev, .int .i64 x.page, .int .i64 x.slot, .bool x.wu, .string x.wd, .bool x.iu, .string x.id, .int .i64 x.next]] w fun e w' => e = .returned (.agg #[.int .i64 x.cl, .int .i64 x.ep, .int .i64 x.n, .int .i64 x.lsn]) ∧ Below w.heap.size w w' := by
  have hX := Blk.new w 58 #[.int .i64 x.kind, .int .i64 x.cl, .int .i64 x.ep, .int .i64 x.n, .int .i64 x.lsn, .int .i64 x.prev, .int .i64 x.page, .int .i64 x.slot, .bool x.wu, .string x.wd, .bool x.iu, .string x.id, .int .i64 x.next]
  have hb := (Below.refl w.heap.size w).alloc (Nat.le_refl _) (.cells #[.int .i64 x.kind, .int .i64 x.cl, .int .i64 x.ep, .int .i64 x.n, .int .i64 x.lsn, .int .i64 x.prev, .int .i64 x.page, .int .i64 x.slot, .bool x.wu, .string x.wd, .bool x.iu, .string x.id, .int .i64 x.next] 58)
  have hs : (w.alloc (.cells #[.int .i64 x.kind, .int .i64 x.cl, .int .i64 x.ep, .int .i64 x.n, .int .i64 x.lsn, .int .i64 x.prev, .int .i64 x.page, .int .i64 x.slot, .bool x.wu, .string x.wd, .bool x.iu, .string x.id, .int .i64 x.next] 58)).heap.size = w.heap.size + 1 := by simp
  have hP := Blk.new (w.alloc (.cells #[.int .i64 x.kind, .int .i64 x.cl, .int .i64 x.ep, .int .i64 x.n, .int .i64 x.lsn, .int .i64 x.prev, .int .i64 x.page, .int .i64 x.slot, .bool x.wu, .string x.wd, .bool x.iu, .string x.id, .int .i64 x.next] 58)) 136 #[.int .i64 0, .int .i64 0, .int .i64 0, .int .i64 0]
  have hb2 := hb.alloc (by omega) (.cells #[.int .i64 0, .int .i64 0, .int .i64 0, .int .i64 0] 136)
  have hX2 := hX.alloc (.cells #[.int .i64 0, .int .i64 0, .int .i64 0, .int .i64 0] 136)
  rw [hs] at hP
  go_enter Tryz.func57, Tryz.ntmps57
  go_upto_region 1 with (fail)
  generalize hGen : (w.alloc (.cells #[.int .i64 x.kind, .int .i64 x.cl, .int .i64 x.ep, .int .i64 x.n, .int .i64 x.lsn, .int .i64 x.prev, .int .i64 x.page, .int .i64 x.slot, .bool x.wu, .string x.wd, .bool x.iu, .string x.id, .int .i64 x.next] 58)).alloc (.cells #[.int .i64 0, .int .i64 0, .int .i64 0, .int .i64 0] 136) = W at hP hb2 hX2 ⊢
  clear hGen
  obtain ⟨c0, c1, c2, c3, c4, c5, c6, c7, c8, c9, c10, c11, c12⟩ := Ent.ent_cells hX2
  have p0 := hP.cell 0
  have p1 := hP.cell 1
  have p2 := hP.cell 2
  have p3 := hP.cell 3
  have f0 := hP.frozen 0
  have f1 := hP.frozen 1
  have f2 := hP.frozen 2
  have f3 := hP.frozen 3
  have hP3 := (((hP.set_ 0 (.int .i64 x.cl)).set_ 1 (.int .i64 x.ep)).set_ 2 (.int .i64 x.n)).set_ 3 (.int .i64 x.lsn)
  have hb3 := (((hb2.setCell (p := ⟨w.heap.size + 1, 0, none⟩) (by simp) (.int .i64 x.cl)).setCell (p := ⟨w.heap.size + 1, 1, none⟩) (by simp) (.int .i64 x.ep)).setCell (p := ⟨w.heap.size + 1, 2, none⟩) (by simp) (.int .i64 x.n)).setCell (p := ⟨w.heap.size + 1, 3, none⟩) (by simp) (.int .i64 x.lsn)
  have HP := Lib.hid hP3
  have HB := Lib.hid hb3
  clear hP3 hb3 hb2 hX2 hX hb hP
  go_wp2
  have r0 := HP.out.cell 0
  have r1 := HP.out.cell 1
  have r2 := HP.out.cell 2
  have r3 := HP.out.cell 3
  refine bodyPost_ret (v := .agg #[.int .i64 x.cl, .int .i64 x.ep, .int .i64 x.n, .int .i64 x.lsn]) ?_ rfl ⟨rfl, HB.out⟩
  simp [results, Tryz.results57, go_sem, r0, r1, r2, r3]
def iV (i : Nat) : Value := .int .i64 (i : Int)
def pOf (x : Ent) : P4 := ⟨txE x, x.lsn⟩
theorem smP_of {x : Ent} (h : goodB x = true) : SmP (pOf x) := ⟨Past.good_tx h, smI_of (by have := Patch.ent_lsn h; show -9223372036854775808 ≤ x.lsn ∧ x.lsn ≤ 9223372036854775807; omega)⟩
/-- the maps of a log's first k entries -/
structure TR (w : World) (B ml mf k : Nat) (L : List Ent) : Prop where
  mt : MapT w ml k fun t => (lastI (L.take k) t).map iV
  mp : MapP w mf k fun p => (firstI (L.take k) p).map iV
  ne : ml ≠ mf
  bl : B ≤ ml
  bf : B ≤ mf
section
variable {w w' : World} {B ml mf k : Nat} {L : List Ent}
theorem TR.same (h : TR w B ml mf k L) (h1 : w'.heap[ml]? = w.heap[ml]?) (h2 : w'.heap[mf]? = w.heap[mf]?) : TR w' B ml mf k L := ⟨h.mt.same h1, h.mp.same h2, h.ne, h.bl, h.bf⟩
theorem TR.below (h : TR w B ml mf k L) (hb : Below w.heap.size w w') : TR w' B ml mf k L := h.same (hb.block _ h.mt.lt) (hb.block _ h.mp.lt)
theorem zero_int (w : World) : (zeroValue 3).run Tryz.prog w = .ok (.int .i64 0) w := by kernel_rfl
def numO : Option Nat → Int
  | some i => (i : Int)
  | none => 0
theorem getD_iV (o : Option Nat) : (o.map iV).getD (.int .i64 0) = .int .i64 (numO o) := by cases o <;> rfl
theorem TR.lookL (h : TR w B ml mf k L) {t : T3} (ht : SmT t) : (Instr.lookup 84 (.map (some ml)) (.agg #[.int .i64 t.cl, .int .i64 t.ep, .int .i64 t.n]) true).run Tryz.prog w = .ok (.tuple #[.int .i64 (numO (lastI (L.take k) t)), .bool (lastI (L.take k) t).isSome]) w := by
  rw [h.mt.look_ok Tryz.underlying84 (zero_int w) ht, getD_iV, Option.isSome_map]
theorem TR.lookF (h : TR w B ml mf k L) {p : P4} (hp : SmP p) : (Instr.lookup 85 (.map (some mf)) (.agg #[.int .i64 p.t.cl, .int .i64 p.t.ep, .int .i64 p.t.n, .int .i64 p.l]) true).run Tryz.prog w = .ok (.tuple #[.int .i64 (numO (firstI (L.take k) p)), .bool (firstI (L.take k) p).isSome]) w := by
  rw [h.mp.look_ok Tryz.underlying85 (zero_int w) hp, getD_iV, Option.isSome_map]
theorem TR.lookF1 (h : TR w B ml mf k L) {p : P4} (hp : SmP p) : (Instr.lookup 85 (.map (some mf)) (.agg #[.int .i64 p.t.cl, .int .i64 p.t.ep, .int .i64 p.t.n, .int .i64 p.l]) false).run Tryz.prog w = .ok (.int .i64 (numO (firstI (L.take k) p))) w := by
  rw [h.mp.look Tryz.underlying85 (zero_int w) hp, getD_iV]
/-- half a step: the last one is laid -/
structure TH (w : World) (B ml mf k : Nat) (L : List Ent) : Prop where
  mt : MapT w ml (k + 1) fun t => (lastI (L.take (k + 1)) t).map iV
  mp : MapP w mf k fun p => (firstI (L.take k) p).map iV
  ne : ml ≠ mf
  bl : B ≤ ml
  bf : B ≤ mf
theorem TH.below (h : TH w B ml mf k L) (hb : Below w.heap.size w w') : TH w' B ml mf k L := ⟨h.mt.same (hb.block _ h.mt.lt), h.mp.same (hb.block _ h.mp.lt), h.ne, h.bl, h.bf⟩
theorem TH.lookF (h : TH w B ml mf k L) {p : P4} (hp : SmP p) : (Instr.lookup 85 (.map (some mf)) (.agg #[.int .i64 p.t.cl, .int .i64 p.t.ep, .int .i64 p.t.n, .int .i64 p.l]) true).run Tryz.prog w = .ok (.tuple #[.int .i64 (numO (firstI (L.take k) p)), .bool (firstI (L.take k) p).isSome]) w := by
  rw [h.mp.look_ok Tryz.underlying85 (zero_int w) hp, getD_iV, Option.isSome_map]
theorem TR.putL (h : TR w B ml mf k L) {x : Ent} (hx : L[k]? = some x) (hg : goodB x = true) (hk : k ≤ 1000000) :
    ∃ w', (Instr.mapUpdate 84 (.map (some ml)) (.agg #[.int .i64 x.cl, .int .i64 x.ep, .int .i64 x.n]) (.int .i64 (k : Int))).run Tryz.prog w = .ok () w' ∧ TH w' B ml mf k L ∧ w.grownBy w' (some ml) := by
  obtain ⟨w', hr, hm, ht⟩ := h.mt.put Tryz.underlying84 (x := txE x) (Past.good_tx hg) (by unfold maxLen; omega) (.int .i64 (k : Int))
  have hkl : (L.take k).length = k := by rw [List.length_take]; have := (List.getElem?_eq_some_iff.1 hx).1; omega
  refine ⟨w', hr, ⟨hm.ext fun t => ?_, h.mp.same (ht.grown.block _ h.mp.lt fun e => h.ne (by injection e with e; exact e.symm)), h.ne, h.bl, h.bf⟩, ht.grown⟩
  rw [List.take_add_one, hx, Option.toList_some, lastI_snoc, hkl]
  by_cases e : t = txE x
  · subst e; rw [if_pos rfl, if_pos rfl]; rfl
  · rw [if_neg e, if_neg fun e2 => e e2.symm]
theorem TH.skip (h : TH w B ml mf k L) {x : Ent} (hx : L[k]? = some x) (hk : (firstI (L.take k) (pOf x)).isSome = true) : TR w B ml mf (k + 1) L := by
  refine ⟨h.mt, (h.mp.mono (Nat.le_succ _)).ext fun p => ?_, h.ne, h.bl, h.bf⟩
  rw [List.take_add_one, hx, Option.toList_some, firstI_snoc]
  cases hf : firstI (L.take k) p with
  | some i => rfl
  | none =>
    dsimp only
    rw [if_neg]
    rintro ⟨h1, h2⟩
    have : p = pOf x := p4_eq.2 ⟨h1.symm, h2.symm⟩
    rw [this] at hf
    rw [hf] at hk; cases hk
theorem TH.putF (h : TH w B ml mf k L) {x : Ent} (hx : L[k]? = some x) (hg : goodB x = true) (hk : k ≤ 1000000) (hn : firstI (L.take k) (pOf x) = none) :
    ∃ w', (Instr.mapUpdate 85 (.map (some mf)) (.agg #[.int .i64 x.cl, .int .i64 x.ep, .int .i64 x.n, .int .i64 x.lsn]) (.int .i64 (k : Int))).run Tryz.prog w = .ok () w' ∧ TR w' B ml mf (k + 1) L ∧ w.grownBy w' (some mf) := by
  obtain ⟨w', hr, hm, ht⟩ := h.mp.put Tryz.underlying85 (x := pOf x) (smP_of hg) (by unfold maxLen; omega) (.int .i64 (k : Int))
  have hkl : (L.take k).length = k := by rw [List.length_take]; have := (List.getElem?_eq_some_iff.1 hx).1; omega
  refine ⟨w', hr, ⟨h.mt.same (ht.grown.block _ h.mt.lt fun e => h.ne (by injection e with e)), hm.ext fun p => ?_, h.ne, h.bl, h.bf⟩, ht.grown⟩
  rw [List.take_add_one, hx, Option.toList_some, firstI_snoc, hkl]
  by_cases e : p = pOf x
  · subst e
    rw [if_pos rfl, hn]
    dsimp only
    rw [if_pos ⟨rfl, rfl⟩]; rfl
  · rw [if_neg e]
    cases hf : firstI (L.take k) p with
    | some i => rfl
    | none =>
      dsimp only
      rw [if_neg fun h2 => e (p4_eq.2 ⟨h2.1.symm, h2.2.symm⟩)]
end
/-- a log that has been read -/
def ReadRes (a : Option Addr) (n c : Nat) (L : List Ent) (w : World) (e : Ending) (w' : World) : Prop :=
  ∃ ml mf, e = .returned (.agg #[.slice a n c, .map (some ml), .map (some mf)]) ∧ TR w' w.heap.size ml mf n L ∧ Below w.heap.size w w'
theorem tr_start (W0 : World) (B : Nat) (hB : B ≤ W0.heap.size) (L : List Ent) : TR ((W0.alloc (.map #[] 0)).alloc (.map #[] 0)) B W0.heap.size (W0.heap.size + 1) 0 L := by
  have hs1 : (W0.alloc (.map #[] 0)).heap.size = W0.heap.size + 1 := by simp
  have hb2 := Ent.below_box (W0.alloc (.map #[] 0)) (.map #[] 0)
  have hm1 := Past.mapT_made W0
  have hm2 := mapP_made (W0.alloc (.map #[] 0))
  rw [hs1] at hm2
  exact ⟨(hm1.same ((hb2.block _ (by omega)))).ext fun t => by simp [lastI], hm2.ext fun p => by simp [firstI], by omega, hB, by omega⟩
set_option maxRecDepth 100000 in
set_option maxHeartbeats 8000000 in
theorem mread_any (a : Option Addr) (n c : Nat) (L : List Ent) (w : World) (h : Ents w a n L) (hg : ∀ x ∈ L, goodB x = true) (hn : n ≤ 100000) :
    Calls Tryz.prog 32 #[.slice a n c] w (ReadRes a n c L w) := by
  have hL : L.length = n := h.1
  have HE := Lib.hid h
  have HGD := Lib.hid hg
  clear h hg
  have hb0 := Ent.below_box w (.cells #[.slice none 0 0, .map none, .map none] 87)
  have hr0 := Blk.new w 87 #[.slice none 0 0, .map none, .map none]
  have hs0 : (w.alloc (.cells #[.slice none 0 0, .map none, .map none] 87)).heap.size = w.heap.size + 1 := by simp
  have hmm := @run_makeMap Tryz.prog
  go_enter Tryz.func32, Tryz.ntmps32
  go_upto_region 1 with (fail)
  generalize hGen : w.alloc (.cells #[.slice none 0 0, .map none, .map none] 87) = W0 at hb0 hr0 hs0 ⊢
  clear hGen
  have hst := tr_start W0 w.heap.size (by omega) L
  have hb1 := (hb0.alloc (by omega) (.map #[] 0)).alloc (by simp; omega) (.map #[] 0)
  have hs2 : ((W0.alloc (.map #[] 0)).alloc (.map #[] 0)).heap.size = W0.heap.size + 2 := by simp
  have hb2 := hb1.alloc (by omega) (.cells #[.slice a n c, .map (some W0.heap.size), .map (some (W0.heap.size + 1))] 87)
  have hst2 := hst.below (Ent.below_box _ (.cells #[.slice a n c, .map (some W0.heap.size), .map (some (W0.heap.size + 1))] 87))
  have hg0 := Blk.new ((W0.alloc (.map #[] 0)).alloc (.map #[] 0)) 87 #[.slice a n c, .map (some W0.heap.size), .map (some (W0.heap.size + 1))]
  rw [hs2] at hg0
  have hr2 := ((hr0.alloc (.map #[] 0)).alloc (.map #[] 0)).alloc (.cells #[.slice a n c, .map (some W0.heap.size), .map (some (W0.heap.size + 1))] 87)
  have H0 := Lib.hid (And.intro hst2 (And.intro hb2 (And.intro hg0 hr2)))
  have HS0 := Lib.hid hs0
  clear hst hb1 hb2 hst2 hg0 hr2 hb0 hr0 hs0 hs2
  go_wp2_with fail
  go_loopw [14] (fun i wr => ∃ k : Nat, k ≤ n ∧ i = .int .i64 (k : Int) ∧ Hid (TR wr w.heap.size W0.heap.size (W0.heap.size + 1) k L ∧ Below w.heap.size w wr ∧ Blk wr (W0.heap.size + 2) 87 #[.slice a n c, .map (some W0.heap.size), .map (some (W0.heap.size + 1))] ∧ Blk wr w.heap.size 87 #[.slice none 0 0, .map none, .map none])) (fun i _ => n - intN i)
  case atStart => exact ⟨0, Nat.zero_le _, rfl, H0⟩
  case round =>
    obtain ⟨k, hk, rfl, HR⟩ := hrel
    clear H0
    by_cases hlt : k < n
    · have hx : L[k]? = some (L[k]'(by omega)) := List.getElem?_eq_getElem _
      generalize L[k]'(by omega) = x at hx
      obtain ⟨b, off, rfl, hbw, hat, hsm, -⟩ := ents_mem HE.out hx
      have HXL := Lib.hid hx
      have hgx := HGD.out x (List.mem_of_getElem? hx)
      have HGX := Lib.hid hgx
      obtain ⟨c0, c1, c2, c3, c4, c5, c6, c7, c8, c9, c10, c11, c12⟩ := (hat.next HR.out.2.1 hbw).cells
      have hbx := Ent.below_box wr (.cells #[.int .i64 x.kind, .int .i64 x.cl, .int .i64 x.ep, .int .i64 x.n, .int .i64 x.lsn, .int .i64 x.prev, .int .i64 x.page, .int .i64 x.slot, .bool x.wu, .string x.wd, .bool x.iu, .string x.id, .int .i64 x.next] 58)
      have HX1 := Lib.hid (Blk.new wr 58 #[.int .i64 x.kind, .int .i64 x.cl, .int .i64 x.ep, .int .i64 x.n, .int .i64 x.lsn, .int .i64 x.prev, .int .i64 x.page, .int .i64 x.slot, .bool x.wu, .string x.wd, .bool x.iu, .string x.id, .int .i64 x.next])
      have HA1 := Lib.hid (HR.out.1.below hbx)
      have HB1 := Lib.hid (HR.out.2.1.trans (hbx.mono HR.out.2.1.size))
      have HG1 := Lib.hid (HR.out.2.2.1.below hbx HR.out.2.2.1.lt)
      have HO1 := Lib.hid (HR.out.2.2.2.below hbx HR.out.2.2.2.lt)
      clear hx hat hsm HR hbx hgx
      have hd1 : decide ((k : Int) < (n : Int)) = true := decide_eq_true (by omega)
      go_upto_region 5 with (fail)
      obtain ⟨gx, hgx⟩ : ∃ gx, wr.heap.size = gx := ⟨_, rfl⟩
      rw [hgx] at HX1
      try rw [hgx]
      clear hgx
      generalize hGen : wr.alloc (.cells #[.int .i64 x.kind, .int .i64 x.cl, .int .i64 x.ep, .int .i64 x.n, .int .i64 x.lsn, .int .i64 x.prev, .int .i64 x.page, .int .i64 x.slot, .bool x.wu, .string x.wd, .bool x.iu, .string x.id, .int .i64 x.next] 58) = W1 at HX1 HA1 HB1 HG1 HO1 ⊢
      clear hGen
      clear c0 c1 c2 c3 c4 c5 c6 c7 c8 c9 c10 c11 c12
      obtain ⟨c0, c1, c2, c3, c4, c5, c6, c7, c8, c9, c10, c11, c12⟩ := Ent.ent_cells HX1.out
      obtain ⟨w2, hr2, T2, g2⟩ := HA1.out.putL HXL.out HGX.out (by omega)
      have g0 := HG1.out.cell 1
      go_upto_region 6 with (fail)
      have hng : ∀ (g : Nat) (t : TypeId) (cs : Array Value), Blk W1 g t cs → Blk w2 g t cs := fun g t cs hb => hb.grown g2 fun e => HA1.out.mt.not_cells hb (by injection e with e; exact e.symm)
      have HX2 := Lib.hid (hng _ _ _ HX1.out)
      have HG2 := Lib.hid (hng _ _ _ HG1.out)
      have HO2 := Lib.hid (hng _ _ _ HO1.out)
      have HB2 := Lib.hid (Past.below_grown HB1.out HB1.out.size g2 (fun q e => by injection e with e; have := HS0.out; omega))
      have HT2 := Lib.hid T2
      obtain ⟨o, ho⟩ : ∃ o, firstI (L.take k) (pOf x) = o := ⟨_, rfl⟩
      have HZ := Lib.hid (show ∀ W', Below w2.heap.size w2 W' → W'.cell? ⟨W0.heap.size + 2, 2, none⟩ = some (.map (some (W0.heap.size + 1))) ∧ (Instr.lookup 85 (.map (some (W0.heap.size + 1))) (.agg #[.int .i64 x.cl, .int .i64 x.ep, .int .i64 x.n, .int .i64 x.lsn]) true).run Tryz.prog W' = .ok (.tuple #[.int .i64 (numO o), .bool o.isSome]) W' ∧ W'.cell? ⟨gx, 0, none⟩ = some (.int .i64 x.kind) ∧ W'.cell? ⟨gx, 1, none⟩ = some (.int .i64 x.cl) ∧ W'.cell? ⟨gx, 2, none⟩ = some (.int .i64 x.ep) ∧ W'.cell? ⟨gx, 3, none⟩ = some (.int .i64 x.n) ∧ W'.cell? ⟨gx, 4, none⟩ = some (.int .i64 x.lsn) ∧ W'.cell? ⟨gx, 5, none⟩ = some (.int .i64 x.prev) ∧ W'.cell? ⟨gx, 6, none⟩ = some (.int .i64 x.page) ∧ W'.cell? ⟨gx, 7, none⟩ = some (.int .i64 x.slot) ∧ W'.cell? ⟨gx, 8, none⟩ = some (.bool x.wu) ∧ W'.cell? ⟨gx, 9, none⟩ = some (.string x.wd) ∧ W'.cell? ⟨gx, 10, none⟩ = some (.bool x.iu) ∧ W'.cell? ⟨gx, 11, none⟩ = some (.string x.id) ∧ W'.cell? ⟨gx, 12, none⟩ = some (.int .i64 x.next) from fun W' hb => by
        have h1 := (HT2.out.below hb).lookF (smP_of HGX.out)
        rw [ho] at h1
        exact ⟨(HG2.out.below hb HG2.out.lt).cell 2, h1, Ent.ent_cells (HX2.out.below hb HX2.out.lt)⟩)
      have HOO := Lib.hid ho
      have z0 := HZ.out w2 (Below.refl _ _)
      have z1 := HZ.out w2.drew (Below.refl _ _).drew
      have z00 := z0.1
      have z01 := z0.2.1
      clear c0 c1 c2 c3 c4 c5 c6 c7 c8 c9 c10 c11 c12 hr2 T2 g2 g0 hng HX1 HG1 HO1 HB1 HA1 ho
      obtain ⟨c0, c1, c2, c3, c4, c5, c6, c7, c8, c9, c10, c11, c12⟩ := Ent.ent_cells HX2.out
      go_region_held3 (fun W' => W'.cell? ⟨W0.heap.size + 2, 2, none⟩ = some (.map (some (W0.heap.size + 1))) ∧ (Instr.lookup 85 (.map (some (W0.heap.size + 1))) (.agg #[.int .i64 x.cl, .int .i64 x.ep, .int .i64 x.n, .int .i64 x.lsn]) true).run Tryz.prog W' = .ok (.tuple #[.int .i64 (numO o), .bool o.isSome]) W' ∧ W'.cell? ⟨gx, 0, none⟩ = some (.int .i64 x.kind) ∧ W'.cell? ⟨gx, 1, none⟩ = some (.int .i64 x.cl) ∧ W'.cell? ⟨gx, 2, none⟩ = some (.int .i64 x.ep) ∧ W'.cell? ⟨gx, 3, none⟩ = some (.int .i64 x.n) ∧ W'.cell? ⟨gx, 4, none⟩ = some (.int .i64 x.lsn) ∧ W'.cell? ⟨gx, 5, none⟩ = some (.int .i64 x.prev) ∧ W'.cell? ⟨gx, 6, none⟩ = some (.int .i64 x.page) ∧ W'.cell? ⟨gx, 7, none⟩ = some (.int .i64 x.slot) ∧ W'.cell? ⟨gx, 8, none⟩ = some (.bool x.wu) ∧ W'.cell? ⟨gx, 9, none⟩ = some (.string x.wd) ∧ W'.cell? ⟨gx, 10, none⟩ = some (.bool x.iu) ∧ W'.cell? ⟨gx, 11, none⟩ = some (.string x.id) ∧ W'.cell? ⟨gx, 12, none⟩ = some (.int .i64 x.next))
        (first | (with_reducible assumption) | (with_reducible exact z0) | (with_reducible exact z1)) (first | (go_at_call 57; refine (point_any x _).mono ?_; rintro e w3 ⟨rfl, b3⟩; have B3 := Lib.hid (show Below w2.heap.size w2 w3 from (by first | exact b3 | exact (Below.refl _ _).drew.trans b3)); clear b3; have z3 := HZ.out w3 B3.out))
      have HT3 := Lib.hid (HT2.out.below B3.out)
      have HX3 := Lib.hid (HX2.out.below B3.out HX2.out.lt)
      have HG3 := Lib.hid (HG2.out.below B3.out HG2.out.lt)
      have HO3 := Lib.hid (HO2.out.below B3.out HO2.out.lt)
      have HB3 := Lib.hid (HB2.out.trans (B3.out.mono HB2.out.size))
      clear c0 c1 c2 c3 c4 c5 c6 c7 c8 c9 c10 c11 c12 z0 z1 z00 z01 z3 HZ HX2 HG2 HO2 HB2 HT2 B3
      obtain ⟨ob, hob⟩ : ∃ ob, o.isSome = ob := ⟨_, rfl⟩
      rw [hob]
      cases ob with
      | true =>
        have HN := Lib.hid (HT3.out.skip HXL.out (by rw [HOO.out]; exact hob))
        clear hob
        go_wp2
        go_roundw
        case rel => exact ⟨k + 1, by omega, by go_num, Lib.hid ⟨HN.out, HB3.out, HG3.out, HO3.out⟩⟩
        case measure => simp [intN]; omega
      | false =>
        have hon : o = none := by cases o with
          | none => rfl
          | some i => cases hob
        have HON := Lib.hid (HOO.out.trans hon)
        clear hob hon
        obtain ⟨c0, c1, c2, c3, c4, c5, c6, c7, c8, c9, c10, c11, c12⟩ := Ent.ent_cells HX3.out
        have g0 := HG3.out.cell 2
        have HZ := Lib.hid (show ∀ W', Below w3.heap.size w3 W' → W'.cell? ⟨W0.heap.size + 2, 2, none⟩ = some (.map (some (W0.heap.size + 1))) ∧ W'.cell? ⟨gx, 0, none⟩ = some (.int .i64 x.kind) ∧ W'.cell? ⟨gx, 1, none⟩ = some (.int .i64 x.cl) ∧ W'.cell? ⟨gx, 2, none⟩ = some (.int .i64 x.ep) ∧ W'.cell? ⟨gx, 3, none⟩ = some (.int .i64 x.n) ∧ W'.cell? ⟨gx, 4, none⟩ = some (.int .i64 x.lsn) ∧ W'.cell? ⟨gx, 5, none⟩ = some (.int .i64 x.prev) ∧ W'.cell? ⟨gx, 6, none⟩ = some (.int .i64 x.page) ∧ W'.cell? ⟨gx, 7, none⟩ = some (.int .i64 x.slot) ∧ W'.cell? ⟨gx, 8, none⟩ = some (.bool x.wu) ∧ W'.cell? ⟨gx, 9, none⟩ = some (.string x.wd) ∧ W'.cell? ⟨gx, 10, none⟩ = some (.bool x.iu) ∧ W'.cell? ⟨gx, 11, none⟩ = some (.string x.id) ∧ W'.cell? ⟨gx, 12, none⟩ = some (.int .i64 x.next) from fun W' hb => ⟨(HG3.out.below hb HG3.out.lt).cell 2, Ent.ent_cells (HX3.out.below hb HX3.out.lt)⟩)
        have z0 := HZ.out w3 (Below.refl _ _)
        have z1 := HZ.out w3.drew (Below.refl _ _).drew
        go_upto_region 8 with (fail)
        go_region_held3 (fun W' => W'.cell? ⟨W0.heap.size + 2, 2, none⟩ = some (.map (some (W0.heap.size + 1))) ∧ W'.cell? ⟨gx, 0, none⟩ = some (.int .i64 x.kind) ∧ W'.cell? ⟨gx, 1, none⟩ = some (.int .i64 x.cl) ∧ W'.cell? ⟨gx, 2, none⟩ = some (.int .i64 x.ep) ∧ W'.cell? ⟨gx, 3, none⟩ = some (.int .i64 x.n) ∧ W'.cell? ⟨gx, 4, none⟩ = some (.int .i64 x.lsn) ∧ W'.cell? ⟨gx, 5, none⟩ = some (.int .i64 x.prev) ∧ W'.cell? ⟨gx, 6, none⟩ = some (.int .i64 x.page) ∧ W'.cell? ⟨gx, 7, none⟩ = some (.int .i64 x.slot) ∧ W'.cell? ⟨gx, 8, none⟩ = some (.bool x.wu) ∧ W'.cell? ⟨gx, 9, none⟩ = some (.string x.wd) ∧ W'.cell? ⟨gx, 10, none⟩ = some (.bool x.iu) ∧ W'.cell? ⟨gx, 11, none⟩ = some (.string x.id) ∧ W'.cell? ⟨gx, 12, none⟩ = some (.int .i64 x.next)) (first | (with_reducible assumption) | (with_reducible exact z0) | (with_reducible exact z1)) (first | (go_at_call 57; refine (point_any x _).mono ?_; rintro e w4 ⟨rfl, b4⟩; have B4 := Lib.hid (show Below w3.heap.size w3 w4 from (by first | exact b4 | exact (Below.refl _ _).drew.trans b4)); clear b4; have z4 := HZ.out w4 B4.out; obtain ⟨w5, hr5, T5, g5⟩ := (HT3.out.below B4.out).putF HXL.out HGX.out (by omega) HON.out; have hng : ∀ (g : Nat) (t : TypeId) (cs : Array Value), Blk w3 g t cs → Blk w5 g t cs := fun g t cs hb => (hb.below B4.out hb.lt).grown g5 fun e => (HT3.out.below B4.out).mp.not_cells (hb.below B4.out hb.lt) (by injection e with e; exact e.symm); have HG5 := Lib.hid (hng _ _ _ HG3.out); have HX5 := Lib.hid (hng _ _ _ HX3.out); have HO5 := Lib.hid (hng _ _ _ HO3.out); have HB5 := Lib.hid (Past.below_grown (HB3.out.trans (B4.out.mono HB3.out.size)) (Nat.le_trans HB3.out.size B4.out.size) g5 (fun q e => by injection e with e; have := HS0.out; omega)); have z5 := (show w5.cell? ⟨W0.heap.size + 2, 2, none⟩ = some (.map (some (W0.heap.size + 1))) ∧ w5.cell? ⟨gx, 0, none⟩ = some (.int .i64 x.kind) ∧ w5.cell? ⟨gx, 1, none⟩ = some (.int .i64 x.cl) ∧ w5.cell? ⟨gx, 2, none⟩ = some (.int .i64 x.ep) ∧ w5.cell? ⟨gx, 3, none⟩ = some (.int .i64 x.n) ∧ w5.cell? ⟨gx, 4, none⟩ = some (.int .i64 x.lsn) ∧ w5.cell? ⟨gx, 5, none⟩ = some (.int .i64 x.prev) ∧ w5.cell? ⟨gx, 6, none⟩ = some (.int .i64 x.page) ∧ w5.cell? ⟨gx, 7, none⟩ = some (.int .i64 x.slot) ∧ w5.cell? ⟨gx, 8, none⟩ = some (.bool x.wu) ∧ w5.cell? ⟨gx, 9, none⟩ = some (.string x.wd) ∧ w5.cell? ⟨gx, 10, none⟩ = some (.bool x.iu) ∧ w5.cell? ⟨gx, 11, none⟩ = some (.string x.id) ∧ w5.cell? ⟨gx, 12, none⟩ = some (.int .i64 x.next) from ⟨HG5.out.cell 2, Ent.ent_cells HX5.out⟩); have HT5 := Lib.hid T5; clear T5 g5 hng))
        clear c0 c1 c2 c3 c4 c5 c6 c7 c8 c9 c10 c11 c12 z0 z1 z4 z5 hr5 g0
        go_wp2
        go_roundw
        case rel => exact ⟨k + 1, by omega, by go_num, Lib.hid ⟨HT5.out, HB5.out, HG5.out, HO5.out⟩⟩
        case measure => simp [intN]; omega
    · obtain rfl : k = n := by omega
      have hd1 : decide ((k : Int) < (k : Int)) = false := decide_eq_false (by omega)
      have g0 := HR.out.2.2.1.cell 0
      have g1 := HR.out.2.2.1.cell 1
      have g2 := HR.out.2.2.1.cell 2
      have o0 := HR.out.2.2.2.cell 0
      have o1 := HR.out.2.2.2.cell 1
      have o2 := HR.out.2.2.2.cell 2
      have f0 := HR.out.2.2.2.frozen 0
      have f1 := HR.out.2.2.2.frozen 1
      have f2 := HR.out.2.2.2.frozen 2
      have HO := Lib.hid (((HR.out.2.2.2.set_ 0 (.slice a k c)).set_ 1 (.map (some W0.heap.size))).set_ 2 (.map (some (W0.heap.size + 1))))
      have HB := Lib.hid (((HR.out.2.1.setCell (p := ⟨w.heap.size, 0, none⟩) (Nat.le_refl _) (.slice a k c)).setCell (p := ⟨w.heap.size, 1, none⟩) (Nat.le_refl _) (.map (some W0.heap.size))).setCell (p := ⟨w.heap.size, 2, none⟩) (Nat.le_refl _) (.map (some (W0.heap.size + 1))))
      have hk : ∀ (X : World) (i : Nat) (v : Value) (q : Nat), q ≠ w.heap.size → (X.setCell ⟨w.heap.size, i, none⟩ v).heap[q]? = X.heap[q]? := fun X i v q hq => Below.heap_setCell X _ _ q hq
      have HT := Lib.hid (HR.out.1.same (w' := ((wr.setCell ⟨w.heap.size, 0, none⟩ (.slice a k c)).setCell ⟨w.heap.size, 1, none⟩ (.map (some W0.heap.size))).setCell ⟨w.heap.size, 2, none⟩ (.map (some (W0.heap.size + 1)))) (by rw [hk _ _ _ _ (by have := HS0.out; omega), hk _ _ _ _ (by have := HS0.out; omega), hk _ _ _ _ (by have := HS0.out; omega)]) (by rw [hk _ _ _ _ (by have := HS0.out; omega), hk _ _ _ _ (by have := HS0.out; omega), hk _ _ _ _ (by have := HS0.out; omega)]))
      clear hk HR
      go_wp2
      have r0 := HO.out.cell 0
      have r1 := HO.out.cell 1
      have r2 := HO.out.cell 2
      refine bodyPost_ret (v := .agg #[.slice a k c, .map (some W0.heap.size), .map (some (W0.heap.size + 1))]) ?_ rfl ⟨_, _, rfl, HT.out, HB.out⟩
      simp [results, Tryz.results32, go_sem, r0, r1, r2]
end Go.Proofs.YtkeocnhndnbamaaGreat.Mend
namespace Go.Proofs.YtkeocnhndnbamaaGreat.Mend
set_option maxRecDepth 100000
open Go.RowKit Go.Maps
open Go.Proofs.YtkeocnhndnbamaaGreat.Mem
open Go.Proofs.YtkeocnhndnbamaaGreat.Ent (Ent goodB Ents EntAt SmallE noE entA cellsE)
open Go.Proofs.YtkeocnhndnbamaaGreat.Past (T3 txE ofL MapT SmT SmI smI_of ents_mem)
open Go.Proofs.YtkeocnhndnbamaaGreat.MLog
structure LA (w wr : World) (B ml mf n c : Nat) (a : Option Addr) (L : List Ent) (t : T3) : Prop where
  tr : TR wr B ml mf n L
  en : Ents wr a n L
  g1 : Blk wr w.heap.size 87 #[.slice a n c, .map (some ml), .map (some mf)]
  g2 : Blk wr (w.heap.size + 1) 56 #[.int .i64 t.cl, .int .i64 t.ep, .int .i64 t.n]
  g3 : Blk wr (w.heap.size + 2) 58 #[.int .i64 0, .int .i64 0, .int .i64 0, .int .i64 0, .int .i64 0, .int .i64 0, .int .i64 0, .int .i64 0, .bool false, .string ⟨#[]⟩, .bool false, .string ⟨#[]⟩, .int .i64 0]
  bel : Below w.heap.size w wr
theorem LA.below {w wr wr' : World} {B ml mf n c : Nat} {a : Option Addr} {L : List Ent} {t : T3} (h : LA w wr B ml mf n c a L t) (hb : Below wr.heap.size wr wr') : LA w wr' B ml mf n c a L t :=
  ⟨h.tr.below hb, h.en.next hb, h.g1.below hb h.g1.lt, h.g2.below hb h.g2.lt, h.g3.below hb h.g3.lt, below_go h.bel hb⟩
theorem la_start (w : World) {B ml mf n c : Nat} {a : Option Addr} {L : List Ent} {t : T3} (h : TR w B ml mf n L) (he : Ents w a n L) :
    LA w (((w.alloc (.cells #[.slice a n c, .map (some ml), .map (some mf)] 87)).alloc (.cells #[.int .i64 t.cl, .int .i64 t.ep, .int .i64 t.n] 56)).alloc (.cells #[.int .i64 0, .int .i64 0, .int .i64 0, .int .i64 0, .int .i64 0, .int .i64 0, .int .i64 0, .int .i64 0, .bool false, .string ⟨#[]⟩, .bool false, .string ⟨#[]⟩, .int .i64 0] 58)) B ml mf n c a L t := by
  have hb1 := Ent.below_box w (.cells #[.slice a n c, .map (some ml), .map (some mf)] 87)
  have hb2 := below_go hb1 (Ent.below_box _ (.cells #[.int .i64 t.cl, .int .i64 t.ep, .int .i64 t.n] 56))
  have hb3 := below_go hb2 (Ent.below_box _ (.cells #[.int .i64 0, .int .i64 0, .int .i64 0, .int .i64 0, .int .i64 0, .int .i64 0, .int .i64 0, .int .i64 0, .bool false, .string ⟨#[]⟩, .bool false, .string ⟨#[]⟩, .int .i64 0] 58))
  have h1 := Blk.new w 87 #[.slice a n c, .map (some ml), .map (some mf)]
  have h2 := Blk.new (w.alloc (.cells #[.slice a n c, .map (some ml), .map (some mf)] 87)) 56 #[.int .i64 t.cl, .int .i64 t.ep, .int .i64 t.n]
  have h3 := Blk.new ((w.alloc (.cells #[.slice a n c, .map (some ml), .map (some mf)] 87)).alloc (.cells #[.int .i64 t.cl, .int .i64 t.ep, .int .i64 t.n] 56)) 58 #[.int .i64 0, .int .i64 0, .int .i64 0, .int .i64 0, .int .i64 0, .int .i64 0, .int .i64 0, .int .i64 0, .bool false, .string ⟨#[]⟩, .bool false, .string ⟨#[]⟩, .int .i64 0]
  rw [World.size_alloc] at h2
  rw [World.size_alloc, World.size_alloc] at h3
  exact ⟨h.below hb3, he.next hb3, (h1.alloc _).alloc _, h2.alloc _, h3, hb3⟩
/-- an entry and an error's number -/
def AnsRes (r : Option (Option Ent)) (w : World) (e : Ending) (w' : World) : Prop := e = .returned (.tuple #[.agg #[.int .i64 (ansL r).1.kind, .int .i64 (ansL r).1.cl, .int .i64 (ansL r).1.ep, .int .i64 (ansL r).1.n, .int .i64 (ansL r).1.lsn, .int .i64 (ansL r).1.prev, .int .i64 (ansL r).1.page, .int .i64 (ansL r).1.slot, .bool (ansL r).1.wu, .string (ansL r).1.wd, .bool (ansL r).1.iu, .string (ansL r).1.id, .int .i64 (ansL r).1.next], .int .i64 (ansL r).2]) ∧ Below w.heap.size w w'
set_option maxRecDepth 100000 in
set_option maxHeartbeats 8000000 in
theorem lead_any (a : Option Addr) (n c B ml mf : Nat) (L : List Ent) (t : T3) (l : Int) (w : World) (h : TR w B ml mf n L) (he : Ents w a n L) (hg : ∀ x ∈ L, goodB x = true) (ht : SmT t) (hl : 0 ≤ l ∧ l ≤ 1099511627776) :
    Calls Tryz.prog 51 #[.agg #[.slice a n c, .map (some ml), .map (some mf)], .agg #[.int .i64 t.cl, .int .i64 t.ep, .int .i64 t.n], .int .i64 l] w (AnsRes (leadL L t l) w) := by
  have hL : L.length = n := he.1
  have H0 := Lib.hid (la_start w (c := c) (t := t) h he)
  have HGD := Lib.hid hg
  have HT := Lib.hid ht
  clear h he hg ht
  obtain ⟨R, hR⟩ : ∃ R, leadL L t l = R := ⟨_, rfl⟩
  rw [hR]
  have HF0 := Lib.hid (show followL (ofL L t) (l.toNat + 1) l = R from hR)
  clear hR
  go_enter Tryz.func51, Tryz.ntmps51
  go_wp2_with fail
  generalize hGen : (((w.alloc (.cells #[.slice a n c, .map (some ml), .map (some mf)] 87)).alloc (.cells #[.int .i64 t.cl, .int .i64 t.ep, .int .i64 t.n] 56)).alloc (.cells #[.int .i64 0, .int .i64 0, .int .i64 0, .int .i64 0, .int .i64 0, .int .i64 0, .int .i64 0, .int .i64 0, .bool false, .string ⟨#[]⟩, .bool false, .string ⟨#[]⟩, .int .i64 0] 58)) = W0 at H0 ⊢
  clear hGen
  go_loopw [2] (fun iv wr => ∃ l' : Int, iv = .int .i64 l' ∧ (0 ≤ l' ∧ l' ≤ 1099511627776) ∧ Hid (LA w wr B ml mf n c a L t ∧ followL (ofL L t) (l'.toNat + 1) l' = R)) (fun iv _ => intN iv)
  case atStart => exact ⟨l, rfl, hl, Lib.hid ⟨H0.out, HF0.out⟩⟩
  case round =>
    obtain ⟨l', rfl, hl', HR⟩ := hrel
    clear H0 HF0
    have g10 := HR.out.1.g1.cell 0
    have g11 := HR.out.1.g1.cell 1
    have g12 := HR.out.1.g1.cell 2
    have g20 := HR.out.1.g2.cell 0
    have g21 := HR.out.1.g2.cell 1
    have g22 := HR.out.1.g2.cell 2
    obtain ⟨z0, z1, z2, z3, z4, z5, z6, z7, z8, z9, z10, z11, z12⟩ := Ent.ent_cells (x := noE) HR.out.1.g3
    obtain ⟨f0, f1, f2, f3, f4, f5, f6, f7, f8, f9, f10, f11, f12⟩ := Ent.ent_frozen HR.out.1.g3
    simp only [noE] at z0 z1 z2 z3 z4 z5 z6 z7 z8 z9 z10 z11 z12
    by_cases h0 : l' = 0
    · have t1 : (l' != 0) = false := by simp [h0]
      have HE := Lib.hid (show R = some none by rw [← HR.out.2, followL, if_pos h0])
      have HB := Lib.hid HR.out.1.bel
      clear HR h0
      go_wp2
      refine bodyPost_ret (v := .tuple #[.agg #[.int .i64 0, .int .i64 0, .int .i64 0, .int .i64 0, .int .i64 0, .int .i64 0, .int .i64 0, .int .i64 0, .bool false, .string ⟨#[]⟩, .bool false, .string ⟨#[]⟩, .int .i64 0], .int .i64 0]) (by simp [results, Tryz.results51, go_sem, z0, z1, z2, z3, z4, z5, z6, z7, z8, z9, z10, z11, z12]) rfl ?_
      exact ⟨by rw [HE.out]; rfl, Ent.below13 HB.out (by omega) _ _ _ _ _ _ _ _ _ _ _ _ _⟩
    · have t1 : (l' != 0) = true := by simp [h0]
      have hsp : SmP ⟨t, l'⟩ := ⟨HT.out, smI_of (x := l') (by omega)⟩
      have k1 := HR.out.1.tr.lookF hsp
      rw [List.take_of_length_le (by omega)] at k1
      dsimp only at k1
      have hst := HR.out.2
      rw [follow_step HGD.out t _ _ h0] at hst
      cases ho : firstI L ⟨t, l'⟩ with
      | none =>
        rw [ho] at k1 hst
        have HE := Lib.hid (show R = none from hst.symm)
        have HB := Lib.hid HR.out.1.bel
        simp only [numO, Option.isSome_none] at k1
        clear HR h0 hst ho hsp
        go_wp2
        refine bodyPost_ret (v := .tuple #[.agg #[.int .i64 0, .int .i64 0, .int .i64 0, .int .i64 0, .int .i64 0, .int .i64 0, .int .i64 0, .int .i64 0, .bool false, .string ⟨#[]⟩, .bool false, .string ⟨#[]⟩, .int .i64 0], .int .i64 4]) (by simp [results, Tryz.results51, go_sem, z0, z1, z2, z3, z4, z5, z6, z7, z8, z9, z10, z11, z12]) rfl ?_
        exact ⟨by rw [HE.out]; rfl, Ent.below13 HB.out (by omega) _ _ _ _ _ _ _ _ _ _ _ _ _⟩
      | some i =>
        obtain ⟨x, hx, hxt, hxl⟩ := firstI_some ho
        rw [ho, Option.bind_some, hx] at hst
        dsimp only at hst
        rw [ho] at k1
        simp only [numO, Option.isSome_some] at k1
        have hin := (List.getElem?_eq_some_iff.1 hx).1
        have hd1 : decide ((i : Int) < (n : Int)) = true := decide_eq_true (by omega)
        obtain ⟨b, off, rfl, hbw, hat, -, -⟩ := ents_mem HR.out.1.en hx
        have hgx := HGD.out x (List.mem_of_getElem? hx)
        obtain ⟨c0, c1, c2, c3, c4, c5, c6, c7, c8, c9, c10, c11, c12⟩ := hat.cells
        have HR2 := Lib.hid (HR.out.1.below (Ent.below_box wr (.cells #[.int .i64 x.kind, .int .i64 x.cl, .int .i64 x.ep, .int .i64 x.n, .int .i64 x.lsn, .int .i64 x.prev, .int .i64 x.page, .int .i64 x.slot, .bool x.wu, .string x.wd, .bool x.iu, .string x.id, .int .i64 x.next] 58)))
        have HX2 := Lib.hid (Blk.new wr 58 #[.int .i64 x.kind, .int .i64 x.cl, .int .i64 x.ep, .int .i64 x.n, .int .i64 x.lsn, .int .i64 x.prev, .int .i64 x.page, .int .i64 x.slot, .bool x.wu, .string x.wd, .bool x.iu, .string x.id, .int .i64 x.next])
        have HST := Lib.hid hst
        have HGX := Lib.hid hgx
        have HXL := Lib.hid hxl
        clear HR hst ho hx hxt hxl hat hgx hsp
        go_upto_region 6 with (fail)
        obtain ⟨gx, hgx⟩ : ∃ gx, wr.heap.size = gx := ⟨_, rfl⟩
        rw [hgx] at HX2
        try rw [hgx]
        clear hgx
        clear z0 z1 z2 z3 z4 z5 z6 z7 z8 z9 z10 z11 z12 f0 f1 f2 f3 f4 f5 f6 f7 f8 f9 f10 f11 f12 c0 c1 c2 c3 c4 c5 c6 c7 c8 c9 c10 c11 c12 g10 g11 g12 g20 g21 g22 k1
        generalize hGen : wr.alloc (.cells #[.int .i64 x.kind, .int .i64 x.cl, .int .i64 x.ep, .int .i64 x.n, .int .i64 x.lsn, .int .i64 x.prev, .int .i64 x.page, .int .i64 x.slot, .bool x.wu, .string x.wd, .bool x.iu, .string x.id, .int .i64 x.next] 58) = W1 at HR2 HX2 ⊢
        clear hGen
        obtain ⟨c0, c1, c2, c3, c4, c5, c6, c7, c8, c9, c10, c11, c12⟩ := Ent.ent_cells HX2.out
        obtain ⟨z0, z1, z2, z3, z4, z5, z6, z7, z8, z9, z10, z11, z12⟩ := Ent.ent_cells (x := noE) HR2.out.g3
        obtain ⟨f0, f1, f2, f3, f4, f5, f6, f7, f8, f9, f10, f11, f12⟩ := Ent.ent_frozen HR2.out.g3
        simp only [noE] at z0 z1 z2 z3 z4 z5 z6 z7 z8 z9 z10 z11 z12
        by_cases hk1 : x.kind = 1
        · have e1 : (x.kind == 1) = true := by simp [hk1]
          have HE := Lib.hid (show R = some (some x) by rw [← HST.out, if_pos hk1])
          have HB := Lib.hid HR2.out.bel
          clear HST hk1
          go_wp2
          refine bodyPost_ret (v := .tuple #[.agg #[.int .i64 x.kind, .int .i64 x.cl, .int .i64 x.ep, .int .i64 x.n, .int .i64 x.lsn, .int .i64 x.prev, .int .i64 x.page, .int .i64 x.slot, .bool x.wu, .string x.wd, .bool x.iu, .string x.id, .int .i64 x.next], .int .i64 0]) (by simp [results, Tryz.results51, go_sem, z0, z1, z2, z3, z4, z5, z6, z7, z8, z9, z10, z11, z12]) rfl ?_
          exact ⟨by rw [HE.out]; rfl, Ent.below13 HB.out (by omega) _ _ _ _ _ _ _ _ _ _ _ _ _⟩
        · have e1 : (x.kind == 1) = false := by simp [hk1]
          by_cases hk2 : x.kind = 2
          · have e2 : (x.kind == 2) = true := by simp [hk2]
            have hn := Ent.good_long HGX.out (by unfold Ent.longB; rw [hk2]; rfl)
            have hh := Ent.head_parts hn.1
            have hxl : x.lsn = l' := HXL.out
            have hN := HST.out
            rw [if_neg hk1, if_pos hk2] at hN
            have HN := Lib.hid (show followL (ofL L t) (x.next.toNat + 1) x.next = R by
              rw [← hN]; exact follow_more HGD.out t _ _ _ (by omega) (by omega) hn.2.2.1)
            have hb1 : 0 ≤ x.next ∧ x.next ≤ 1099511627776 := ⟨hn.2.2.1, by have := hn.2.2.2; omega⟩
            have hlt : x.next < l' := by have := hn.2.2.2; omega
            clear hn hh hxl hN hk1 hk2
            go_wp2
            go_roundw
            case rel => exact ⟨x.next, rfl, hb1, Lib.hid ⟨HR2.out, HN.out⟩⟩
            case measure => simp [intN]; omega
          · have e2 : (x.kind == 2) = false := by simp [hk2]
            have HE := Lib.hid (show R = none by rw [← HST.out, if_neg hk1, if_neg hk2])
            have HB := Lib.hid HR2.out.bel
            clear HST hk1 hk2
            go_wp2
            refine bodyPost_ret (v := .tuple #[.agg #[.int .i64 0, .int .i64 0, .int .i64 0, .int .i64 0, .int .i64 0, .int .i64 0, .int .i64 0, .int .i64 0, .bool false, .string ⟨#[]⟩, .bool false, .string ⟨#[]⟩, .int .i64 0], .int .i64 4]) (by simp [results, Tryz.results51, go_sem, z0, z1, z2, z3, z4, z5, z6, z7, z8, z9, z10, z11, z12]) rfl ?_
            exact ⟨by rw [HE.out]; rfl, Ent.below13 HB.out (by omega) _ _ _ _ _ _ _ _ _ _ _ _ _⟩
end Go.Proofs.YtkeocnhndnbamaaGreat.Mend
