/- The walk of the statement RingExact. -/
import Derived.Test.YtdpaeffhddehaaaRefPut
import Derived.Test.YtdpaeffhddehaaaRefAll
import Derived.Test.YtdpaeffhddehaaaRingSIter
import Derived.Test.YtdpaeffhddehaaaRingAwake
import Derived.Test.YtdpaeffhddehaaaRingActs
import Derived.Deep.RegionHeld3
import Derived.Lib.QuietBelow
namespace Go.Proofs.Ytdpaeffhddehaaa.Exact
set_option maxRecDepth 100000
open Go.RowKit Go.Shelf Go.Sort
open Go.Proofs.Ytdpaeffhddehaaa.Mem
open Go.Proofs.Ytdpaeffhddehaaa.Ring
attribute [local go_sem] Oper.semAt_some
abbrev Thing := Th ByteArray
abbrev RState := RS ByteArray
def zS : ByteArray := ⟨#[]⟩
theorem run_equalIn_func (d : Nat) (fn : Fn) (x y : Array Value) (w : World) : (Op.equalIn (d + 1) 44 (.func fn x y) .nilFunc).run Try.prog w = .ok false w := by
  have hu := Try.underlying44
  simp [Op.equalIn, run_underlying hu]
theorem run_func_nil (fn : Fn) (x y : Array Value) (w : World) : (binOp .eql 44 (.func fn x y) .nilFunc).run Try.prog w = .ok (.bool false) w := by
  simp only [binOp]
  simp [Op.equal, Op.maxDepth, run_equalIn_func 9999 fn x y w]
theorem low_get {S : RState} {m : Nat} (h : Low S m) (k : Int) : Low (getR zS S k).2.2 m := by
  unfold getR
  cases hk : atS S k with
  | none => exact h
  | some x => exact low_put h (fun t ht => by cases ht; exact h x.1 x.2 (atS_is (i := x.1) (t := x.2) hk).2.2.1)
theorem low_del {S : RState} {m : Nat} (h : Low S m) (k : Int) : Low (delR zS S k).2.2 m := by
  unfold delR
  cases hk : atS S k with
  | none => exact h
  | some x => exact low_put h (fun t ht => by cases ht)
theorem low_pin {S : RState} {m : Nat} (h : Low S m) (k : Int) : Low (pinR S k).2 (m + 1) := by
  unfold pinR
  cases hk : atS S k with
  | none => exact low_mono h (by omega)
  | some x => exact low_put (low_mono h (by omega)) (fun t ht => by cases ht; exact Nat.succ_le_succ (h x.1 x.2 (atS_is (i := x.1) (t := x.2) hk).2.2.1))
theorem low_let {S : RState} {m : Nat} (h : Low S m) (k : Int) : Low (letR S k).2 m := by
  unfold letR
  cases hk : atS S k with
  | none => exact h
  | some x =>
    simp only
    split
    · exact h
    · exact low_put h (fun t ht => by cases ht; have := h x.1 x.2 (atS_is (i := x.1) (t := x.2) hk).2.2.1; simp only; omega)
theorem low_putR {S : RState} {m : Nat} (hw : S.wf) (h : Low S m) (k : Int) (v : ByteArray) : Low (putR zS S k v).2.2 m := by
  have hP := put_is zS hw k v
  generalize putR zS S k v = R at hP
  cases hP with
  | hit i t hi hf hk => exact low_put h (fun t' ht => by cases ht; exact h i t hf)
  | vac i hi hf hk => exact low_put h (fun t' ht => by cases ht; exact Nat.zero_le _)
  | full ht hp hk => exact h
  | turn i t S2 hi hf hN hw2 hp ht hk hs => exact low_put (low_tired h hs) (fun t' ht => by cases ht; exact Nat.zero_le _)
/-- the ring and the document's own, and the block of the result -/
structure KE (w0 W : World) (p u lb gB b xb : Nat) (Sr Su : RState) : Prop where
  ring : RingS.RQ W p (fun k => k < b ∨ k = lb ∨ k = u ∨ k = xb) Sr
  ua : Ref.UA W u lb Su
  bx : Blk W gB 4 #[.bool false]
  bel : Below w0.heap.size w0 W
  g1 : w0.heap.size ≤ gB
  g2 : gB < b
  g3 : b ≤ lb
  g4 : b ≤ u
section
variable {w0 W W' : World} {p u lb gB b xb : Nat} {Sr Su S2 : RState}
theorem KE.callR (h : KE w0 W p u lb gB b xb Sr Su) (r : RingS.RQ W' p (fun k => k < b ∨ k = lb ∨ k = u ∨ k = xb) S2) (k : Keep (fun k => k < b ∨ k = lb ∨ k = u ∨ k = xb) W W') : KE w0 W' p u lb gB b xb S2 Su :=
  ⟨r, h.ua.keep k (.inr (.inr (.inl rfl))) (.inr (.inl rfl)), k.blk h.bx (.inl h.g2), h.bel.trans (k.below (fun _ hj => .inl (Nat.lt_of_lt_of_le hj (Nat.le_trans h.g1 (Nat.le_of_lt h.g2))))), h.g1, h.g2, h.g3, h.g4⟩
theorem KE.callU (h : KE w0 W p u lb gB b xb Sr Su) (hu : Ref.UA W' u lb S2) (k : Keep (Ref.Apart W u lb) W W') : KE w0 W' p u lb gB b xb Sr S2 := by
  have g1 := h.g1; have g2 := h.g2; have g3 := h.g3; have g4 := h.g4
  have hz := h.bel.size
  refine ⟨h.ring.step k.size (fun j hj hn => k.block j ⟨hj, fun e => hn (.inr (.inr (.inl e))), fun e => hn (.inr (.inl e))⟩) (fun _ hj => .inl hj), hu, k.blk h.bx ⟨h.bx.lt, by omega, by omega⟩, h.bel.trans (k.below (fun _ hj => ⟨by omega, by omega, by omega⟩)), g1, g2, g3, g4⟩
theorem KE.below (h : KE w0 W p u lb gB b xb Sr Su) (hb : Below W.heap.size W W') : KE w0 W' p u lb gB b xb Sr Su :=
  ⟨h.ring.below hb, h.ua.below hb, h.bx.below hb h.bx.lt, h.bel.trans (hb.mono h.bel.size), h.g1, h.g2, h.g3, h.g4⟩
theorem KE.box (h : KE w0 W p u lb gB b lb Sr Su) (o : Obj) : KE w0 (W.alloc o) p u lb gB b W.heap.size Sr Su := by
  have hb := (Below.refl W.heap.size W).alloc (Nat.le_refl _) o
  exact ⟨(h.ring.alloc o).mono (fun k hk => by omega), h.ua.below hb, h.bx.below hb h.bx.lt, h.bel.trans (hb.mono h.bel.size), h.g1, h.g2, h.g3, h.g4⟩
theorem KE.drop (h : KE w0 W p u lb gB b xb Sr Su) : KE w0 W p u lb gB b lb Sr Su := ⟨h.ring.mono (fun k hk => by omega), h.ua, h.bx, h.bel, h.g1, h.g2, h.g3, h.g4⟩
/-- another's block stays behind a call of the ring's -/
theorem KE.xbk (_h : KE w0 W p u lb gB b xb Sr Su) {T : TypeId} {cs : Array Value} (hx : Blk W xb T cs) (k : Keep (fun k => k < b ∨ k = lb ∨ k = u ∨ k = xb) W W') : Blk W' xb T cs := k.blk hx (.inr (.inr (.inr rfl)))
end
def Known (w0 W : World) (p u lb gB b m : Nat) : Prop := ∃ S, KE w0 W p u lb gB b lb S S ∧ Low S m
section
variable {w : World} {p : Nat} {M : Nat → Prop} {S : RState}
theorem r_get (k : Int) (w : World) (h : RingS.RQ w p M S) : Calls Try.prog 13 #[.pointer (some ⟨p, 0, none⟩), .int .i64 k] w fun e w' => e = .returned (.tuple #[.string (getR zS S k).1, .bool (getR zS S k).2.1]) ∧ RingS.RQ w' p M (getR zS S k).2.2 ∧ Keep M w w' := by
  obtain ⟨fb, ad, h⟩ := h; exact RingS.get_any k w h
theorem r_del (k : Int) (w : World) (h : RingS.RQ w p M S) : Calls Try.prog 15 #[.pointer (some ⟨p, 0, none⟩), .int .i64 k] w fun e w' => e = .returned (.tuple #[.string (delR zS S k).1, .bool (delR zS S k).2.1]) ∧ RingS.RQ w' p M (delR zS S k).2.2 ∧ Keep M w w' := by
  obtain ⟨fb, ad, h⟩ := h; exact RingS.del_any k w h
theorem r_pin (k : Int) (w : World) (h : RingS.RQ w p M S) (hl : Low S 1000000) : Calls Try.prog 17 #[.pointer (some ⟨p, 0, none⟩), .int .i64 k] w fun e w' => e = .returned (.bool (pinR S k).1) ∧ RingS.RQ w' p M (pinR S k).2 ∧ Keep M w w' := by
  obtain ⟨fb, ad, h⟩ := h; exact RingS.pin_any k w h hl
theorem r_let (k : Int) (w : World) (h : RingS.RQ w p M S) (hl : Low S 1000000) : Calls Try.prog 19 #[.pointer (some ⟨p, 0, none⟩), .int .i64 k] w fun e w' => e = .returned (.bool (letR S k).1) ∧ RingS.RQ w' p M (letR S k).2 ∧ Keep M w w' := by
  obtain ⟨fb, ad, h⟩ := h; exact RingS.let_any k w h hl
theorem r_pins (k : Int) (w : World) (h : RingS.RQ w p M S) : Calls Try.prog 20 #[.pointer (some ⟨p, 0, none⟩), .int .i64 k] w fun e w' => e = .returned (.int .i64 (pinsR S k : Nat)) ∧ Below w.heap.size w w' := by
  obtain ⟨fb, ad, h⟩ := h; exact RingS.pins_any k w h
theorem r_len (w : World) (h : RingS.RQ w p M S) : Calls Try.prog 24 #[.pointer (some ⟨p, 0, none⟩)] w fun e w' => e = .returned (.int .i64 ((thingsR S).length : Nat)) ∧ Below w.heap.size w w' := by
  obtain ⟨fb, ad, h⟩ := h; exact RingS.len_any w h
theorem r_put (k : Int) (v : ByteArray) (w : World) (h : RingS.RQ w p M S) : Calls Try.prog 11 #[.pointer (some ⟨p, 0, none⟩), .int .i64 k, .string v] w fun e w' => e = .returned (.tuple #[.agg #[.int .i64 (putR zS S k v).1.key, .string (putR zS S k v).1.val, .bool (putR zS S k v).1.gone], .bool (putR zS S k v).2.1]) ∧ RingS.RQ w' p M (putR zS S k v).2.2 ∧ Keep M w w' := RingS.put_any k v w h
end
def kv (t : Thing) : Int × ByteArray := (t.key, t.val)
def Alike (L pre : List Thing) : Prop := pre.map kv = (L.take pre.length).map kv
theorem kv_step {L pre : List Thing} {x t : Thing} (ht : L[pre.length]? = some t) (hp : Alike L pre) : Alike L (pre ++ [x]) ↔ kv x = kv t := by
  unfold Alike at hp ⊢
  have : L.take (pre.length + 1) = L.take pre.length ++ [t] := by rw [List.take_add_one, ht]; rfl
  simp [this, ← hp]
theorem frow_at {w6 V W : World} {base : Nat} {a : Option Addr} {c gN : Nat} {L : List Thing} (h : w6.ownsRow base 35 5 (.slice a L.length c) L.length (Ref.fcells L)) (hb : Below w6.heap.size w6 V) (hg : w6.heap.size ≤ gN) (hk : Keep (fun k => k < V.heap.size ∧ k ≠ gN) V W) {k : Nat} {x : Thing} (hx : L[k]? = some x) :
    ∃ g cap, Value.slice a L.length c = .slice (some ⟨g, 0, none⟩) L.length cap ∧ W.cell? ⟨g, k * 5 + 1, none⟩ = some (.int .i64 x.key) ∧ W.cell? ⟨g, k * 5 + 1 + 1, none⟩ = some (.string x.val) := by
  have hkl : k < L.length := (List.getElem?_eq_some_iff.1 hx).1
  obtain ⟨g, cap, hv, -, h2, h3⟩ := own_pos h (by omega)
  have hs := hb.size
  have hcell : ∀ j, j < L.length * 5 → W.cell? ⟨g, j, none⟩ = (Ref.fcells L)[j]? := fun j hj =>
    ((hk.cell (p := ⟨g, j, none⟩) ⟨Nat.lt_of_lt_of_le h2 hs, Nat.ne_of_lt (Nat.lt_of_lt_of_le h2 hg)⟩).trans (hb.cell (p := ⟨g, j, none⟩) h2)).trans (h3 j hj)
  obtain ⟨-, t1, t2⟩ := Ref.fcells_get hx
  exact ⟨g, cap, hv, (hcell _ (by omega)).trans t1, (hcell _ (by omega)).trans t2⟩
theorem str_inj {a b : ByteArray} (h : a.data.toList = b.data.toList) : a = b := by
  cases a; cases b; simp at h; subst h; rfl
theorem str_ne {a b : ByteArray} (h : ¬ a = b) : (a.toList == b.toList) = false := by
  rw [ByteArray.toList_eq, ByteArray.toList_eq]
  exact beq_eq_false_iff_ne.2 fun e => h (str_inj e)
theorem str_same {a b : ByteArray} (h : a = b) : (a.toList == b.toList) = true := by subst h; exact beq_self_eq_true _
theorem held2 {W : World} {g1 g2 b : Nat} {v1 v2 u : Value} (h : W.cell? ⟨g1, 0, none⟩ = some v1 ∧ W.cell? ⟨g2, 0, none⟩ = some v2) (h1 : g1 ≠ b) (h2 : g2 ≠ b) : (W.setCell ⟨b, 0, none⟩ u).cell? ⟨g1, 0, none⟩ = some v1 ∧ (W.setCell ⟨b, 0, none⟩ u).cell? ⟨g2, 0, none⟩ = some v2 :=
  have k : ∀ {g : Nat}, g ≠ b → (W.setCell ⟨b, 0, none⟩ u).cell? ⟨g, 0, none⟩ = W.cell? ⟨g, 0, none⟩ := fun {g} hg => World.cell?_of_block (w := W) (Below.heap_setCell W ⟨b, 0, none⟩ u g hg)
  ⟨(k h1).trans h.1, (k h2).trans h.2⟩
set_option maxHeartbeats 8000000 in
theorem exact_walk (fr : Int) (a : Option Addr) (n c : Nat) (zs : List Ring.Act) (w : World) (_hf : -9223372036854775808 ≤ fr ∧ fr ≤ 9223372036854775807) (hI : Acts w a n zs) :
    Calls Try.prog 3 #[.int .i64 fr, .slice a n c] w fun e w' => e = .returned (.bool true) ∧ Below w.heap.size w w' := by
  have HI := Lib.hid hI
  have hmq := run_func_nil
  clear hI
  refine (callsIn_wide (n := 6)).1 ?_
  refine callsIn_of_wp_marks Try.func3 rfl trivial ?_ rfl
  refine wpIn_wide.2 ?_
  simp only [Try.ntmps3, List.size_toArray, List.length_cons, List.length_nil, Nat.reduceAdd, Nat.reduceSub, Array.replicate_succ, Array.replicate_zero, List.push_toArray, List.append_toArray, List.nil_append, List.cons_append]
  have hB := Blk.new w 4 #[.bool false]
  have hb0 := (Below.refl w.heap.size w).alloc (Nat.le_refl _) (.cells #[.bool false] 4)
  go_wp2_with fail
  generalize hGen : w.alloc (.cells #[.bool false] 4) = W0 at hB hb0 ⊢
  clear hGen
  refine (RingS.awake_any W0).mono ?_
  rintro e w1 ⟨rfl, b1⟩
  have hB1 := hB.below b1 hB.lt
  have hb1 := hb0.trans (b1.mono hb0.size)
  clear hB hb0 b1
  go_wp2_with fail
  refine (RingS.new_any w1 fr _hf).mono ?_
  rintro e w2 ⟨p, rfl, r2, b2, -⟩
  have hB2 := hB1.below b2 hB1.lt
  have hb2 := hb1.trans (b2.mono hb1.size)
  have hg2 := hB1.lt
  have hs2 := b2.size
  clear hB1 hb1 b2
  go_wp2_with fail
  refine (Ref.new_any w2 fr _hf).mono ?_
  rintro e w3 ⟨rfl, u3, b3, s3⟩
  have K0 : Hid (Known w w3 p (w2.heap.size + 1) w2.heap.size w.heap.size w1.heap.size 0) :=
    ⟨newR (clampN fr), ⟨r2.step b3.size (fun k hk _ => b3.block k hk) (fun k hk => by omega), u3, hB2.below b3 hB2.lt, hb2.trans (b3.mono hb2.size), Nat.le_refl _, hg2, hs2, by omega⟩, fun i t h => (by cases h)⟩
  clear r2 hB2 hb2 hg2 hs2 u3 b3 s3
  generalize w2.heap.size = lb at *
  generalize w1.heap.size = bb at *
  go_wp2
  go_loopw [7] (fun vi wr => ∃ (m : Nat), m ≤ 200 ∧ m ≤ n ∧ vi = .int .i64 (m : Int) ∧ Hid (Known w wr p (lb + 1) lb w.heap.size bb m)) (fun vi _ => 200 - (intOf vi).toNat)
  case atStart => exact ⟨0, Nat.zero_le _, Nat.zero_le _, rfl, K0⟩
  case round =>
    obtain ⟨m, hm, hmn, rfl, HK⟩ := hrel
    clear K0
    rcases (show (m < n ∧ m < 200) ∨ (m < n ∧ m = 200) ∨ m = n by omega) with ⟨hlt, hlt2⟩ | ⟨hlt, h⟩ | h
    · clear hmq
      obtain ⟨S, hK, hL⟩ := HK.out
      obtain ⟨bz, off, x, rfl, -, -, hx, hg⟩ := (HI.out.below hK.bel).at_ hlt
      obtain ⟨kd, kk, vv⟩ := x
      obtain ⟨x0, x1, x2⟩ := hx
      simp only at x0 x1 x2
      have HE := Lib.hid (hK.box (.cells #[.int .i64 kd, .int .i64 kk, .string vv] 29))
      have HXB := Lib.hid (Blk.new wr 29 #[.int .i64 kd, .int .i64 kk, .string vv])
      have HLO := Lib.hid hL
      have HNE := Lib.hid (show lb < wr.heap.size ∧ lb + 1 < wr.heap.size from ⟨hK.ua.ll, hK.ua.lu⟩)
      clear HK hK hL hg
      go_upto_region 9 with (fail)
      clear x0 x1 x2
      generalize hGen : wr.alloc (.cells #[.int .i64 kd, .int .i64 kk, .string vv] 29) = W at HE HXB ⊢
      clear hGen
      have hxne : wr.heap.size ≠ lb ∧ wr.heap.size ≠ lb + 1 := by have := HNE.out; omega
      clear HNE
      generalize wr.heap.size = xb at HE HXB hxne ⊢
      have x0 := HXB.out.cell 0
      have x1 := HXB.out.cell 1
      have x2 := HXB.out.cell 2
      by_cases k1 : kd = 1
      · as_aux_lemma =>
          subst k1
          have XNE := Lib.hid hxne
          clear hxne
          have HR := Lib.hid (r_put kk vv W HE.out.ring)
          have HUC := fun W' (h : Ref.UA W' (lb + 1) lb S) => Ref.put_any kk vv W' h
          have HL2' := low_mono (low_putR HE.out.ring.wf HLO.out kk vv) (show m ≤ m + 1 by omega)
          unfold Ref.PutRes Ref.ouF at HUC
          rw [show Ref.zS = zS from rfl] at HUC
          generalize putR zS S kk vv = R at HR HUC HL2'
          obtain ⟨⟨okey, oval, ogone⟩, sb, S2⟩ := R
          simp only at HR HUC HL2'
          have HU := Lib.hid HUC
          have HL2 := Lib.hid HL2'
          clear HUC HL2'
          go_wp2_with fail
          refine HR.out.mono ?_
          rintro e w4 ⟨rfl, r4, k4⟩
          have HE4 := Lib.hid (HE.out.callR r4 k4)
          have HX4 := Lib.hid (HE.out.xbk HXB.out k4)
          clear r4 k4 HR HE HXB x0 x1 x2 HLO
          have HE4b := Lib.hid (HE4.out.below ((Below.refl _ _).alloc (Nat.le_refl _) (.cells #[.int .i64 okey, .string oval, .bool ogone] 31)))
          have HX4b := Lib.hid (HX4.out.alloc (.cells #[.int .i64 okey, .string oval, .bool ogone] 31))
          have HO4 := Lib.hid (Blk.new w4 31 #[.int .i64 okey, .string oval, .bool ogone])
          have x1 := HX4b.out.cell 1
          have x2 := HX4b.out.cell 2
          have hgn : w4.heap.size ≠ lb ∧ w4.heap.size ≠ lb + 1 := by have h1 := HE4.out.ua.lu; have h2 := HE4.out.ua.ll; omega
          clear HE4 HX4
          go_wp2_with fail
          generalize hGen : w4.alloc (.cells #[.int .i64 okey, .string oval, .bool ogone] 31) = W4 at HE4b HX4b HO4 ⊢
          clear hGen
          generalize hgo : w4.heap.size = go at HO4 hgn ⊢
          clear hgo
          refine (HU.out _ HE4b.out.ua).mono ?_
          rintro e w5 ⟨rfl, h5, k5⟩
          have h5b := (HE4b.out.callU h5 k5).below ((Below.refl _ _).alloc (Nat.le_refl _) (.cells #[.bool ogone, .int .i64 okey, .string oval, .int .i64 0, .bool false] 35))
          have X5b := (k5.blk HX4b.out ⟨HX4b.out.lt, by have := XNE.out; omega, by have := XNE.out; omega⟩).alloc (.cells #[.bool ogone, .int .i64 okey, .string oval, .int .i64 0, .bool false] 35)
          have O5b := (k5.blk HO4.out ⟨HO4.out.lt, by omega, by omega⟩).alloc (.cells #[.bool ogone, .int .i64 okey, .string oval, .int .i64 0, .bool false] 35)
          have F5b := Blk.new w5 35 #[.bool ogone, .int .i64 okey, .string oval, .int .i64 0, .bool false]
          clear h5 k5 HU HE4b HX4b HO4
          go_upto_region 17 with (fail)
          clear x1 x2
          generalize hGen : w5.alloc (.cells #[.bool ogone, .int .i64 okey, .string oval, .int .i64 0, .bool false] 35) = W5 at h5b X5b O5b F5b ⊢
          clear hGen
          generalize w5.heap.size = gf at F5b ⊢
          have o0 := O5b.cell 0
          have o1 := O5b.cell 1
          have o2 := O5b.cell 2
          have f0 := F5b.cell 0
          have f1 := F5b.cell 1
          have f2 := F5b.cell 2
          have H5 := Lib.hid h5b
          have X5 := Lib.hid X5b
          clear h5b X5b O5b F5b
          have cR := fun (d : Nat) (os : Array Obj) => Calls.regrown_of (r_pins kk (grow (redrawn W5 d) os) (H5.out.ring.below (below_regrown W5 d os)))
          have cU := fun (d : Nat) (os : Array Obj) => Calls.regrown_of ((Ref.pins_any kk (grow (redrawn W5 d) os) (H5.out.ua.below (below_regrown W5 d os))).mono (fun e w' h => ⟨h.1, h.2 ▸ Below.refl _ _⟩))
          have q1 := cell_regrown (X5.out.cell 1)
          generalize pinsR S2 kk = np at cR cU
          go_upto_region 33 with (fail)
          refine wp_region_quiet_below (by kernel_rfl) (by kernel_rfl) ?_
          repeat (go_big_quiet_step (first | (with_reducible exact cR _ _) | (with_reducible exact cU _ _)))
          refine wpQuiet_nil ?_
          intro _ hw'
          obtain ⟨⟨dq, osq⟩, hw''⟩ := hw'
          subst hw''
          have b6 := below_regrown W5 dq osq
          generalize grow (redrawn W5 dq) osq = W6 at b6 ⊢
          have HN := Lib.hid (show Known w W6 p (lb + 1) lb w.heap.size bb (m + 1) from ⟨S2, (H5.out.below b6).drop, HL2.out⟩)
          clear cR cU q1 b6 H5 X5 HL2
          go_wp2
          go_roundw
          case rel => exact ⟨m + 1, by omega, by omega, by go_num, HN⟩
          case measure => simp [intOf]; omega
      · by_cases k2 : kd = 2
        · as_aux_lemma =>
            subst k2
            have XNE := Lib.hid hxne
            clear hxne
            have HR := Lib.hid (r_get kk W HE.out.ring)
            have HUC := fun W' (h : Ref.UA W' (lb + 1) lb S) => Ref.get_any kk W' h
            have HL2' := low_mono (low_get HLO.out kk) (show m ≤ m + 1 by omega)
            rw [show Ref.zS = zS from rfl] at HUC
            generalize getR zS S kk = R at HR HUC HL2'
            obtain ⟨sv, sb, S2⟩ := R
            simp only at HR HUC HL2'
            have HU := Lib.hid HUC
            have HL2 := Lib.hid HL2'
            clear HUC HL2'
            go_wp2_with fail
            refine HR.out.mono ?_
            rintro e w4 ⟨rfl, r4, k4⟩
            have HE4 := Lib.hid (HE.out.callR r4 k4)
            have HX4 := Lib.hid (HE.out.xbk HXB.out k4)
            clear r4 k4 HR HE HXB x0 x1 x2 HLO
            have x1 := HX4.out.cell 1
            have x2 := HX4.out.cell 2
            go_wp2_with fail
            refine (HU.out _ HE4.out.ua).mono ?_
            rintro e W5 ⟨rfl, h5, k5⟩
            have H5 := Lib.hid (HE4.out.callU h5 k5)
            have X5 := Lib.hid (k5.blk HX4.out ⟨HX4.out.lt, by have h1 := HE4.out.ring; have := XNE.out; omega, by have := XNE.out; omega⟩)
            clear h5 k5 HU HE4 HX4 x1 x2
            have cR := fun (d : Nat) (os : Array Obj) => Calls.regrown_of (r_pins kk (grow (redrawn W5 d) os) (H5.out.ring.below (below_regrown W5 d os)))
            have cU := fun (d : Nat) (os : Array Obj) => Calls.regrown_of ((Ref.pins_any kk (grow (redrawn W5 d) os) (H5.out.ua.below (below_regrown W5 d os))).mono (fun e w' h => ⟨h.1, h.2 ▸ Below.refl _ _⟩))
            have q1 := cell_regrown (X5.out.cell 1)
            generalize pinsR S2 kk = np at cR cU
            go_upto_region 33 with (fail)
            refine wp_region_quiet_below (by kernel_rfl) (by kernel_rfl) ?_
            repeat (go_big_quiet_step (first | (with_reducible exact cR _ _) | (with_reducible exact cU _ _)))
            refine wpQuiet_nil ?_
            intro _ hw'
            obtain ⟨⟨dq, osq⟩, hw''⟩ := hw'
            subst hw''
            have b6 := below_regrown W5 dq osq
            generalize grow (redrawn W5 dq) osq = W6 at b6 ⊢
            have HN := Lib.hid (show Known w W6 p (lb + 1) lb w.heap.size bb (m + 1) from ⟨S2, (H5.out.below b6).drop, HL2.out⟩)
            clear cR cU q1 b6 H5 X5 HL2
            go_wp2
            go_roundw
            case rel => exact ⟨m + 1, by omega, by omega, by go_num, HN⟩
            case measure => simp [intOf]; omega
        · by_cases k3 : kd = 3
          · as_aux_lemma =>
              subst k3
              have XNE := Lib.hid hxne
              clear hxne
              have HR := Lib.hid (r_del kk W HE.out.ring)
              have HUC := fun W' (h : Ref.UA W' (lb + 1) lb S) => Ref.del_any kk W' h
              have HL2' := low_mono (low_del HLO.out kk) (show m ≤ m + 1 by omega)
              rw [show Ref.zS = zS from rfl] at HUC
              generalize delR zS S kk = R at HR HUC HL2'
              obtain ⟨sv, sb, S2⟩ := R
              simp only at HR HUC HL2'
              have HU := Lib.hid HUC
              have HL2 := Lib.hid HL2'
              clear HUC HL2'
              go_wp2_with fail
              refine HR.out.mono ?_
              rintro e w4 ⟨rfl, r4, k4⟩
              have HE4 := Lib.hid (HE.out.callR r4 k4)
              have HX4 := Lib.hid (HE.out.xbk HXB.out k4)
              clear r4 k4 HR HE HXB x0 x1 x2 HLO
              have x1 := HX4.out.cell 1
              have x2 := HX4.out.cell 2
              go_wp2_with fail
              refine (HU.out _ HE4.out.ua).mono ?_
              rintro e W5 ⟨rfl, h5, k5⟩
              have H5 := Lib.hid (HE4.out.callU h5 k5)
              have X5 := Lib.hid (k5.blk HX4.out ⟨HX4.out.lt, by have h1 := HE4.out.ring; have := XNE.out; omega, by have := XNE.out; omega⟩)
              clear h5 k5 HU HE4 HX4 x1 x2
              have cR := fun (d : Nat) (os : Array Obj) => Calls.regrown_of (r_pins kk (grow (redrawn W5 d) os) (H5.out.ring.below (below_regrown W5 d os)))
              have cU := fun (d : Nat) (os : Array Obj) => Calls.regrown_of ((Ref.pins_any kk (grow (redrawn W5 d) os) (H5.out.ua.below (below_regrown W5 d os))).mono (fun e w' h => ⟨h.1, h.2 ▸ Below.refl _ _⟩))
              have q1 := cell_regrown (X5.out.cell 1)
              generalize pinsR S2 kk = np at cR cU
              go_upto_region 33 with (fail)
              refine wp_region_quiet_below (by kernel_rfl) (by kernel_rfl) ?_
              repeat (go_big_quiet_step (first | (with_reducible exact cR _ _) | (with_reducible exact cU _ _)))
              refine wpQuiet_nil ?_
              intro _ hw'
              obtain ⟨⟨dq, osq⟩, hw''⟩ := hw'
              subst hw''
              have b6 := below_regrown W5 dq osq
              generalize grow (redrawn W5 dq) osq = W6 at b6 ⊢
              have HN := Lib.hid (show Known w W6 p (lb + 1) lb w.heap.size bb (m + 1) from ⟨S2, (H5.out.below b6).drop, HL2.out⟩)
              clear cR cU q1 b6 H5 X5 HL2
              go_wp2
              go_roundw
              case rel => exact ⟨m + 1, by omega, by omega, by go_num, HN⟩
              case measure => simp [intOf]; omega
          · by_cases k4 : kd = 4
            · as_aux_lemma =>
                subst k4
                have XNE := Lib.hid hxne
                clear hxne
                have HR := Lib.hid (r_pin kk W HE.out.ring (low_mono HLO.out (by omega)))
                have HUC := fun W' (h : Ref.UA W' (lb + 1) lb S) => Ref.up_any kk W' h (low_mono HLO.out (by omega))
                have HL2' := low_pin HLO.out kk
                generalize pinR S kk = R at HR HUC HL2'
                obtain ⟨sb, S2⟩ := R
                simp only at HR HUC HL2'
                have HU := Lib.hid HUC
                have HL2 := Lib.hid HL2'
                clear HUC HL2'
                go_wp2_with fail
                refine HR.out.mono ?_
                rintro e w4 ⟨rfl, r4, k4⟩
                have HE4 := Lib.hid (HE.out.callR r4 k4)
                have HX4 := Lib.hid (HE.out.xbk HXB.out k4)
                clear r4 k4 HR HE HXB x0 x1 x2 HLO
                have x1 := HX4.out.cell 1
                have x2 := HX4.out.cell 2
                go_wp2_with fail
                refine (HU.out _ HE4.out.ua).mono ?_
                rintro e W5 ⟨rfl, h5, k5⟩
                have H5 := Lib.hid (HE4.out.callU h5 k5)
                have X5 := Lib.hid (k5.blk HX4.out ⟨HX4.out.lt, by have h1 := HE4.out.ring; have := XNE.out; omega, by have := XNE.out; omega⟩)
                clear h5 k5 HU HE4 HX4 x1 x2
                have cR := fun (d : Nat) (os : Array Obj) => Calls.regrown_of (r_pins kk (grow (redrawn W5 d) os) (H5.out.ring.below (below_regrown W5 d os)))
                have cU := fun (d : Nat) (os : Array Obj) => Calls.regrown_of ((Ref.pins_any kk (grow (redrawn W5 d) os) (H5.out.ua.below (below_regrown W5 d os))).mono (fun e w' h => ⟨h.1, h.2 ▸ Below.refl _ _⟩))
                have q1 := cell_regrown (X5.out.cell 1)
                generalize pinsR S2 kk = np at cR cU
                go_upto_region 33 with (fail)
                refine wp_region_quiet_below (by kernel_rfl) (by kernel_rfl) ?_
                repeat (go_big_quiet_step (first | (with_reducible exact cR _ _) | (with_reducible exact cU _ _)))
                refine wpQuiet_nil ?_
                intro _ hw'
                obtain ⟨⟨dq, osq⟩, hw''⟩ := hw'
                subst hw''
                have b6 := below_regrown W5 dq osq
                generalize grow (redrawn W5 dq) osq = W6 at b6 ⊢
                have HN := Lib.hid (show Known w W6 p (lb + 1) lb w.heap.size bb (m + 1) from ⟨S2, (H5.out.below b6).drop, HL2.out⟩)
                clear cR cU q1 b6 H5 X5 HL2
                go_wp2
                go_roundw
                case rel => exact ⟨m + 1, by omega, by omega, by go_num, HN⟩
                case measure => simp [intOf]; omega
            · by_cases k5 : kd = 5
              · as_aux_lemma =>
                  subst k5
                  have XNE := Lib.hid hxne
                  clear hxne
                  have HR := Lib.hid (r_let kk W HE.out.ring (low_mono HLO.out (by omega)))
                  have HUC := fun W' (h : Ref.UA W' (lb + 1) lb S) => Ref.down_any kk W' h (low_mono HLO.out (by omega))
                  have HL2' := low_mono (low_let HLO.out kk) (show m ≤ m + 1 by omega)
                  generalize letR S kk = R at HR HUC HL2'
                  obtain ⟨sb, S2⟩ := R
                  simp only at HR HUC HL2'
                  have HU := Lib.hid HUC
                  have HL2 := Lib.hid HL2'
                  clear HUC HL2'
                  go_wp2_with fail
                  refine HR.out.mono ?_
                  rintro e w4 ⟨rfl, r4, k4⟩
                  have HE4 := Lib.hid (HE.out.callR r4 k4)
                  have HX4 := Lib.hid (HE.out.xbk HXB.out k4)
                  clear r4 k4 HR HE HXB x0 x1 x2 HLO
                  have x1 := HX4.out.cell 1
                  have x2 := HX4.out.cell 2
                  go_wp2_with fail
                  refine (HU.out _ HE4.out.ua).mono ?_
                  rintro e W5 ⟨rfl, h5, k5⟩
                  have H5 := Lib.hid (HE4.out.callU h5 k5)
                  have X5 := Lib.hid (k5.blk HX4.out ⟨HX4.out.lt, by have h1 := HE4.out.ring; have := XNE.out; omega, by have := XNE.out; omega⟩)
                  clear h5 k5 HU HE4 HX4 x1 x2
                  have cR := fun (d : Nat) (os : Array Obj) => Calls.regrown_of (r_pins kk (grow (redrawn W5 d) os) (H5.out.ring.below (below_regrown W5 d os)))
                  have cU := fun (d : Nat) (os : Array Obj) => Calls.regrown_of ((Ref.pins_any kk (grow (redrawn W5 d) os) (H5.out.ua.below (below_regrown W5 d os))).mono (fun e w' h => ⟨h.1, h.2 ▸ Below.refl _ _⟩))
                  have q1 := cell_regrown (X5.out.cell 1)
                  generalize pinsR S2 kk = np at cR cU
                  go_upto_region 33 with (fail)
                  refine wp_region_quiet_below (by kernel_rfl) (by kernel_rfl) ?_
                  repeat (go_big_quiet_step (first | (with_reducible exact cR _ _) | (with_reducible exact cU _ _)))
                  refine wpQuiet_nil ?_
                  intro _ hw'
                  obtain ⟨⟨dq, osq⟩, hw''⟩ := hw'
                  subst hw''
                  have b6 := below_regrown W5 dq osq
                  generalize grow (redrawn W5 dq) osq = W6 at b6 ⊢
                  have HN := Lib.hid (show Known w W6 p (lb + 1) lb w.heap.size bb (m + 1) from ⟨S2, (H5.out.below b6).drop, HL2.out⟩)
                  clear cR cU q1 b6 H5 X5 HL2
                  go_wp2
                  go_roundw
                  case rel => exact ⟨m + 1, by omega, by omega, by go_num, HN⟩
                  case measure => simp [intOf]; omega
              · as_aux_lemma =>
                  have n1 : (kd == 1) = false := by rw [beq_eq_false_iff_ne]; exact k1
                  have n2 : (kd == 2) = false := by rw [beq_eq_false_iff_ne]; exact k2
                  have n3 : (kd == 3) = false := by rw [beq_eq_false_iff_ne]; exact k3
                  have n4 : (kd == 4) = false := by rw [beq_eq_false_iff_ne]; exact k4
                  have n5 : (kd == 5) = false := by rw [beq_eq_false_iff_ne]; exact k5
                  clear k1 k2 k3 k4 k5 hxne x1 x2
                  have H5 := HE
                  have X5 := HXB
                  have HL2 := Lib.hid (low_mono HLO.out (show m ≤ m + 1 by omega))
                  clear HE HXB HLO
                  generalize hS2 : S = S2 at H5 HL2
                  clear hS2
                  generalize hW5 : W = W5 at H5 X5 x0 ⊢
                  clear hW5
                  have cR := fun (d : Nat) (os : Array Obj) => Calls.regrown_of (r_pins kk (grow (redrawn W5 d) os) (H5.out.ring.below (below_regrown W5 d os)))
                  have cU := fun (d : Nat) (os : Array Obj) => Calls.regrown_of ((Ref.pins_any kk (grow (redrawn W5 d) os) (H5.out.ua.below (below_regrown W5 d os))).mono (fun e w' h => ⟨h.1, h.2 ▸ Below.refl _ _⟩))
                  have q1 := cell_regrown (X5.out.cell 1)
                  generalize pinsR S2 kk = np at cR cU
                  go_upto_region 33 with (fail)
                  refine wp_region_quiet_below (by kernel_rfl) (by kernel_rfl) ?_
                  repeat (go_big_quiet_step (first | (with_reducible exact cR _ _) | (with_reducible exact cU _ _)))
                  refine wpQuiet_nil ?_
                  intro _ hw'
                  obtain ⟨⟨dq, osq⟩, hw''⟩ := hw'
                  subst hw''
                  have b6 := below_regrown W5 dq osq
                  generalize grow (redrawn W5 dq) osq = W6 at b6 ⊢
                  have HN := Lib.hid (show Known w W6 p (lb + 1) lb w.heap.size bb (m + 1) from ⟨S2, (H5.out.below b6).drop, HL2.out⟩)
                  clear cR cU q1 b6 H5 X5 HL2
                  go_wp2
                  go_roundw
                  case rel => exact ⟨m + 1, by omega, by omega, by go_num, HN⟩
                  case measure => simp [intOf]; omega
    all_goals
      first | (have h9 : ¬ m < n := by omega) | (have h9 : ¬ m < 200 := by omega)
      clear h
      obtain ⟨S, hK, -⟩ := HK.out
      obtain ⟨fb, ad, ra⟩ := hK.ring
      have RA0 := Lib.hid ra
      have UA0 := Lib.hid hK.ua
      have BX0 := Lib.hid hK.bx
      have BE0 := Lib.hid hK.bel
      have hg1 := hK.g2
      have hg2 := hK.g3
      clear HK hK ra
      go_wp2_with fail
      refine (RingS.all_any wr p).mono ?_
      rintro e w5 ⟨Bs, rfl, hBs, -, b5⟩
      have RA5 := Lib.hid (RA0.out.below b5)
      have UA5 := Lib.hid (UA0.out.below b5)
      have BX5 := Lib.hid (BX0.out.below b5 BX0.out.lt)
      have BE5 := Lib.hid (BE0.out.trans (b5.mono BE0.out.size))
      have HBs := Lib.hid hBs
      clear RA0 UA0 BX0 BE0 hBs b5
      go_wp2_with fail
      refine (Ref.all_any w5 UA5.out).mono ?_
      rintro e w6 ⟨a6, c6, rfl, hown, b6⟩
      clear hmq
      obtain ⟨L, hL⟩ : ∃ L, L = thingsR S := ⟨_, rfl⟩
      have HL := Lib.hid hL
      rw [← hL] at hown ⊢
      have HOW := Lib.hid hown
      have hs6 := b6.size
      have HS6 := Lib.hid hs6
      have RA6 := Lib.hid (((RA5.out.below b6).box (.cells #[.slice a6 L.length c6] 46)).box (.cells #[.int .i64 0] 3))
      have BX6 := Lib.hid (((BX5.out.below b6 BX5.out.lt).alloc (.cells #[.slice a6 L.length c6] 46)).alloc (.cells #[.int .i64 0] 3))
      have BE6 := Lib.hid (((BE5.out.trans (b6.mono BE5.out.size)).alloc (Nat.le_trans BE5.out.size b6.size) (.cells #[.slice a6 L.length c6] 46)).alloc (by simp; have := BE5.out.size; omega) (.cells #[.int .i64 0] 3))
      have LX6 := Lib.hid ((Blk.new w6 46 #[.slice a6 L.length c6]).alloc (.cells #[.int .i64 0] 3))
      have NX6 := Lib.hid (Blk.new (w6.alloc (.cells #[.slice a6 L.length c6] 46)) 3 #[.int .i64 0])
      have HB6 := Lib.hid (((HBs.out.below b6 HBs.out.lt).alloc (.cells #[.slice a6 L.length c6] 46)).alloc (.cells #[.int .i64 0] 3))
      have HVW := Lib.hid (((Below.refl w6.heap.size w6).alloc (Nat.le_refl _) (.cells #[.slice a6 L.length c6] 46)).alloc (by simp) (.cells #[.int .i64 0] 3))
      have HLW := Lib.hid (show w.heap.size < w6.heap.size from Nat.lt_of_lt_of_le BX5.out.lt b6.size)
      have HGN := Lib.hid (show w.heap.size < w6.heap.size + 1 from Nat.lt_succ_of_lt (Nat.lt_of_lt_of_le BX5.out.lt b6.size))
      clear RA5 UA5 BX5 BE5 HBs hown b6 hL hs6
      go_wp2
      generalize hGen : (w6.alloc (.cells #[.slice a6 L.length c6] 46)).alloc (.cells #[.int .i64 0] 3) = V at RA6 BX6 BE6 LX6 NX6 HB6 HVW ⊢
      clear hGen
      have e1 : (w6.alloc (.cells #[.slice a6 L.length c6] 46)).heap.size = w6.heap.size + 1 := by simp
      rw [e1] at RA6 NX6
      clear e1
      have hgN1 : w6.heap.size ≤ w6.heap.size + 1 := by omega
      have hgN2 : w6.heap.size ≠ w6.heap.size + 1 := by omega
      generalize w6.heap.size + 1 = gN at hgN1 hgN2 RA6 NX6 HGN ⊢
      generalize hgL : w6.heap.size = gL at LX6 hgN2 RA6 ⊢
      have hgL2 : ∀ {W : World}, V.heap.size ≤ W.heap.size → gL < W.heap.size := fun h => Nat.lt_of_lt_of_le LX6.out.lt h
      have hgL3 : gL ≠ w.heap.size := by have := HLW.out; omega
      clear hgL
      have hVw := BE6.out.size
      have hgB := NX6.out.lt
      obtain ⟨cs, hrow, -, -⟩ := RA6.out.row
      clear hrow cs
      refine (wpIn_wide (n := 6)).1 ?_
      apply wpIn_rangeFunc_ownF (F := Fence.wide) (n := 6) rfl (by omega) (gf := 43) (lb := #[.pointer (some ⟨Bs, 0, none⟩)]) rfl trivial (enters_of Try.func43 (by kernel_rfl) rfl)
        (RingS.all_stops 5 (by omega) Bs V.heap.size V RA6.out (Nat.le_refl _) (HB6.out.cell 0))
        (fun h k => RingS.keepC_t h k) (fun W l o o' _ h ho _ => RingS.keepC_b W l o o' h ho) (Below.refl _ _) (fun _ => rfl)
        (fun pre W => Blk W gN 3 #[.int .i64 (pre.length : Int)] ∧ Keep (fun k => k < V.heap.size ∧ k ≠ gN) V W ∧ Alike L pre)
        (fun c pre W => ¬ Alike L pre)
        (fun pre W W' row h hg hr => ⟨RingS.blk_grows h.1 hg (fun r e => (hr r e).2), h.2.1.grown hg (fun k hk => Nat.lt_of_lt_of_le hk.1 h.2.1.size) (fun k e hk => by have := (hr k e).1; have := hk.1; omega), h.2.2⟩)
        (fun c pre W W' row h hg hr => h)
        ⟨NX6.out, Keep.refl _ _, rfl⟩
      case hassign =>
        intro l x W K hK
        dsimp only [RingS.encT]
        gi_wp2
        exact hK
      case hbody =>
        rintro l pre x W ⟨hN, hK, hp⟩ hlt
        rw [← HL.out] at hlt
        obtain ⟨t, ht⟩ : ∃ t, L[pre.length]? = some t := ⟨_, List.getElem?_eq_getElem hlt⟩
        have HST := Lib.hid (kv_step (x := x) ht hp)
        obtain ⟨g, cap, hv, d1, d2⟩ := frow_at HOW.out HVW.out hgN1 hK ht
        cases hv
        have l0 := (hK.cell (p := ⟨gL, 0, none⟩) ⟨LX6.out.lt, hgN2⟩).trans (LX6.out.cell 0)
        have n0 := hN.cell 0
        have nf := hN.frozen 0
        have HN := Lib.hid hN
        have HK := Lib.hid hK
        have hnl : ¬ (L.length : Int) ≤ (pre.length : Int) := by omega
        have hpl : pre.length ≤ 64 := by have := Nat.le_trans (thingsF_len S.f S.N) RA6.out.wf.n2; have := congrArg List.length HL.out; unfold thingsR at this; omega
        have HNN : Hid (Blk (W.setCell ⟨gN, 0, none⟩ (.int .i64 ((pre.length : Int) + 1))) gN 3 #[.int .i64 ((pre ++ [x]).length : Int)]) := by
          have := hN.set_ 0 (.int .i64 ((pre.length : Int) + 1))
          rw [show ((pre ++ [x]).length : Int) = (pre.length : Int) + 1 by simp]
          exact Lib.hid (by simpa using this)
        have HKO := Lib.hid (KeepsOthers.setCell W ⟨gN, 0, none⟩ (.int .i64 ((pre.length : Int) + 1)))
        have HKC := Lib.hid (RingS.keepC_set W hgB 0 (.int .i64 ((pre.length : Int) + 1)))
        have HKR := Lib.hid (KeepsOthers.setCell W ⟨w.heap.size, 0, none⟩ (.bool false))
        have r0 := (hK.cell (p := ⟨w.heap.size, 0, none⟩) ⟨BX6.out.lt, Nat.ne_of_lt HGN.out⟩).trans (BX6.out.cell 0)
        have rf := (hK.frozen (p := ⟨w.heap.size, 0, none⟩) ⟨BX6.out.lt, Nat.ne_of_lt HGN.out⟩).trans (BX6.out.frozen 0)
        obtain ⟨xk, xv, xp, xf⟩ := x
        obtain ⟨tk, tv, tp, tf⟩ := t
        simp only [kv, Prod.mk.injEq] at HST d1 d2
        clear hN hK hp ht
        by_cases hk : xk = tk
        · subst hk
          by_cases hv : xv = tv
          · subst hv
            have hsv := str_same (rfl : xv = xv)
            gi_wp2
            exact ⟨HKO.out, HKC.out, HNN.out, HK.out.set_ (fun h => h.2 rfl) 0 _, HST.out.2 (by simp)⟩
          · have hsv := str_ne (fun e => hv (Eq.symm e))
            gi_wp2
            exact ⟨HKR.out, fun e => hv (HST.out.1 e).2⟩
        · have hkn : (tk == xk) = false := by rw [beq_eq_false_iff_ne]; exact fun e => hk e.symm
          gi_wp2
          exact ⟨HKR.out, fun e => hk (HST.out.1 e).1⟩
      case hstop =>
        rintro D c pre W hD ⟨q, hq, rfl⟩ hx hK
        refine (hx ?_).elim
        unfold Alike
        rw [HL.out, List.length_take, Nat.min_eq_left hq]
      case hdone =>
        rintro D ys W hD rfl ⟨hN, hK2, hS⟩ hK
        rw [← HL.out] at hN
        have hwD : w.heap.size ≤ D := Nat.le_trans hVw hD
        have hpl : L.length ≤ 64 := by have := Nat.le_trans (thingsF_len S.f S.N) RA6.out.wf.n2; have := congrArg List.length HL.out; unfold thingsR at this; omega
        have RX := RA6.out.step hK2.size (fun k hk hn => hK2.block k ⟨hk, fun e => hn (.inr e)⟩) (fun k hk => .inl hk)
        have l0 := (hK2.cell (p := ⟨gL, 0, none⟩) ⟨LX6.out.lt, hgN2⟩).trans (LX6.out.cell 0)
        have n0 := hN.cell 0
        have r0 := (hK2.cell (p := ⟨w.heap.size, 0, none⟩) ⟨BX6.out.lt, Nat.ne_of_lt HGN.out⟩).trans (BX6.out.cell 0)
        have rf := (hK2.frozen (p := ⟨w.heap.size, 0, none⟩) ⟨BX6.out.lt, Nat.ne_of_lt HGN.out⟩).trans (BX6.out.frozen 0)
        have BX := Lib.hid (BE6.out.trans (hK2.below (B := w.heap.size) (fun k hk => ⟨Nat.lt_of_lt_of_le hk hVw, by have := HGN.out; omega⟩)))
        have HKX := Lib.hid hK
        have HRX := Lib.hid RX
        have hll := hgL2 hK2.size
        have hln := hN.lt
        have hlr : w.heap.size < W.heap.size := Nat.lt_of_lt_of_le BX6.out.lt hK2.size
        have HP : Hid (∀ W', Below W.heap.size W W' → Calls Try.prog 24 #[.pointer (some ⟨p, 0, none⟩)] W' fun e w' => e = .returned (.int .i64 (L.length : Nat)) ∧ Below W.heap.size W w') :=
          Lib.hid (fun W' hb => (RingS.len_any W' (RX.below hb)).mono (fun e w' h => by rw [HL.out]; exact ⟨h.1, hb.trans (h.2.mono hb.size)⟩))
        have HZ : Hid (W.cell? ⟨gL, 0, none⟩ = some (.slice a6 L.length c6) ∧ W.cell? ⟨gN, 0, none⟩ = some (.int .i64 (L.length : Int))) := Lib.hid ⟨l0, n0⟩
        have HRF := Lib.hid (And.intro r0 rf)
        have hlb1 : gL ≠ w.heap.size := hgL3
        have hlb2 : gN ≠ w.heap.size := (Nat.ne_of_lt HGN.out).symm
        clear RX hK2 hS hK hN HL l0 n0 r0 rf HRX
        go_upto_region 46 with (fail)
        go_region_held3 (fun w' => w'.cell? ⟨gL, 0, none⟩ = some (.slice a6 L.length c6) ∧ w'.cell? ⟨gN, 0, none⟩ = some (.int .i64 (L.length : Int))) (first | assumption | exact HZ.out | exact held2 hz4 hlb1 hlb2) (first
          | (go_at_call 24; (with_reducible refine (HP.out _ ?_).mono ?_); (first | assumption | exact (Below.refl _ _).drew | exact Below.refl _ _); rintro e wW ⟨rfl, hkW⟩; have hz4 := And.intro ((hkW.cell (p := ⟨gL, 0, none⟩) hll).trans HZ.out.1) ((hkW.cell (p := ⟨gN, 0, none⟩) hln).trans HZ.out.2); have hz5 := (hkW.cell (p := ⟨w.heap.size, 0, none⟩) hlr).trans HRF.out.1; have hz6 := (hkW.frozen (p := ⟨w.heap.size, 0, none⟩) hlr).trans HRF.out.2))
        all_goals
          have hKW := (hkW.block D (Array.getElem?_eq_some_iff.1 HKX.out).1).trans HKX.out
          have hKa := (KeepsOthers.setCell wW ⟨w.heap.size, 0, none⟩ (.bool true)).same D _ hKW rfl
          have hc0 : (wW.setCell ⟨w.heap.size, 0, none⟩ (.bool true)).cell? ⟨w.heap.size, 0, none⟩ = some (.bool true) := World.cell?_setCell_same _ _ _ hz5
          have hc1 := cell_kept hc0 (grownBy_putObj' _ D (.deferred none)) (fun r e => by cases e; exact ⟨_, hKa, rfl⟩)
          have hbf := ((BX.out.trans (hkW.mono BX.out.size)).setCell (p := ⟨w.heap.size, 0, none⟩) (Nat.le_refl _) (.bool true)).trans (belowK_b (w := w) (Nat.le_refl _) _ D _ (.deferred none) hwD hKa rfl rfl)
          have HKA := Lib.hid hKa
          have HC1 := Lib.hid hc1
          have HBF := Lib.hid hbf
          clear hKW hKa hc0 hc1 hbf hz4 hz5 hz6 hkW HP HZ HRF
          go_wp2
          refine ⟨by simp, .inl ⟨_, _, rfl, run_takeDeferred HKA.out, ?_⟩⟩
          have hc5 := HC1.out
          exact ⟨.bool true, by simp [results, Try.results3, go_sem, hc5], rfl, HBF.out⟩
end Go.Proofs.Ytdpaeffhddehaaa.Exact
