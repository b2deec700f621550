/- The walk of the document's own Put. -/
import Derived.Test.YtdpaeffhddehaaaRefCalls
import Derived.Test.YtdpaeffhddehaaaRingKin
namespace Go.Proofs.Ytdpaeffhddehaaa.Ref
set_option maxRecDepth 100000
open Go.RowKit
open Go.Proofs.Ytdpaeffhddehaaa.Mem
open Go.Proofs.Ytdpaeffhddehaaa.Ring
attribute [local go_sem] Oper.semAt_some

theorem below_draw {B : Nat} {a w : World} (h : Below B a w) (q : Nat) : Below B a (w.drewN q) := ⟨h.os, h.tape, h.output, h.size, h.block⟩
/-- what left, as a frame -/
def ouF (o : Ou ByteArray) : Value := .agg #[.bool o.gone, .int .i64 o.key, .string o.val, .int .i64 0, .bool false]
/-- the first n that are pinned -/
def pc (f : Nat → Option Thing) : Nat → Nat
  | 0 => 0
  | n + 1 => pc f n + match f n with
    | some t => if 0 < t.pins then 1 else 0
    | none => 0
theorem pc_le (f : Nat → Option Thing) : ∀ n, pc f n ≤ n
  | 0 => Nat.le_refl _
  | n + 1 => by
    rw [pc]
    have := pc_le f n
    split
    · split <;> omega
    · omega
theorem pc_all {f : Nat → Option Thing} : ∀ n, (∀ i, i < n → ∃ t, f i = some t ∧ 0 < t.pins) → pc f n = n
  | 0, _ => rfl
  | n + 1, h => by
    obtain ⟨t, h1, h2⟩ := h n (by omega)
    rw [pc, pc_all n (fun i hi => h i (by omega)), h1]
    simp [h2]
theorem pc_not {f : Nat → Option Thing} {i : Nat} {t : Thing} (hf : f i = some t) (hp : t.pins = 0) : ∀ n, i < n → pc f n < n
  | n + 1, h => by
    rw [pc]
    by_cases e : i = n
    · subst e
      rw [hf]
      have := pc_le f i
      simp [hp]
      omega
    · have := pc_not hf hp n (by omega)
      split
      · split <;> omega
      · omega
section
variable {w w' : World} {u lb : Nat} {S : RState}
def Z5 : Array Value := #[.bool false, .int .i64 0, .string ⟨#[]⟩, .int .i64 0, .bool false]
/-- a block that isn't the ring's, turned whole -/
theorem UA.five (h : UA w u lb S) {g : Nat} {a b c d e : Value} (h1 : u ≠ g) (h2 : lb ≠ g) : UA (((((w.setCell ⟨g, 0, none⟩ a).setCell ⟨g, 1, none⟩ b).setCell ⟨g, 2, none⟩ c).setCell ⟨g, 3, none⟩ d).setCell ⟨g, 4, none⟩ e) u lb S :=
  h.of_blocks (by rw [Below.heap_setCell _ _ _ _ h1, Below.heap_setCell _ _ _ _ h1, Below.heap_setCell _ _ _ _ h1, Below.heap_setCell _ _ _ _ h1, Below.heap_setCell _ _ _ _ h1]) (by rw [Below.heap_setCell _ _ _ _ h2, Below.heap_setCell _ _ _ _ h2, Below.heap_setCell _ _ _ _ h2, Below.heap_setCell _ _ _ _ h2, Below.heap_setCell _ _ _ _ h2])
theorem keep_five {M : Nat → Prop} {w0 : World} (h : Keep M w0 w) {g : Nat} (hg : ¬ M g) {a b c d e : Value} (i0 i1 i2 i3 i4 : Nat) : Keep M w0 (((((w.setCell ⟨g, i0, none⟩ a).setCell ⟨g, i1, none⟩ b).setCell ⟨g, i2, none⟩ c).setCell ⟨g, i3, none⟩ d).setCell ⟨g, i4, none⟩ e) :=
  ((((h.set_ hg i0 a).set_ hg i1 b).set_ hg i2 c).set_ hg i3 d).set_ hg i4 e
theorem blk_five {g : Nat} {T : TypeId} {a b c d e a' b' c' d' e' : Value} (h : Blk w g T #[a, b, c, d, e]) : Blk (((((w.setCell ⟨g, 0, none⟩ a').setCell ⟨g, 1, none⟩ b').setCell ⟨g, 2, none⟩ c').setCell ⟨g, 3, none⟩ d').setCell ⟨g, 4, none⟩ e') g T #[a', b', c', d', e'] := by
  have := ((((h.set_ 0 a').set_ 1 b').set_ 2 c').set_ 3 d').set_ 4 e'
  simpa using this
theorem blk_far5 {g g' : Nat} {T : TypeId} {cs : Array Value} (h : Blk w g T cs) (hne : g ≠ g') {a b c d e : Value} (i0 i1 i2 i3 i4 : Nat) : Blk (((((w.setCell ⟨g', i0, none⟩ a).setCell ⟨g', i1, none⟩ b).setCell ⟨g', i2, none⟩ c).setCell ⟨g', i3, none⟩ d).setCell ⟨g', i4, none⟩ e) g T cs :=
  ((((h.far (p := ⟨g', i0, none⟩) hne a).far (p := ⟨g', i1, none⟩) hne b).far (p := ⟨g', i2, none⟩) hne c).far (p := ⟨g', i3, none⟩) hne d).far (p := ⟨g', i4, none⟩) hne e
def PutRes (w : World) (u lb : Nat) (S : RState) (k : Int) (v : ByteArray) (e : Ending) (w' : World) : Prop :=
  e = .returned (.tuple #[ouF (putR zS S k v).1, .bool (putR zS S k v).2.1]) ∧ Left w u lb (putR zS S k v).2.2 w'
set_option maxHeartbeats 1600000 in
theorem put_hit (k : Int) (v : ByteArray) (w : World) (h : UA w u lb S) {i : Nat} {t : Thing} (hk : atS S k = some (i, t)) :
    Calls Try.prog 12 #[.pointer (some ⟨u, 0, none⟩), .int .i64 k, .string v] w (PutRes w u lb S k v) := by
  have hr : putR zS S k v = (noOu zS, true, putAt S i (some { t with val := v, fresh := true })) := by unfold putR; rw [hk]
  unfold PutRes
  rw [hr]
  obtain ⟨-, h2, h3, -, -⟩ := atS_is hk
  have hN := h.wf.n2
  have hlu := h.lu
  have hll := h.ll
  have hb := (Below.refl w.heap.size w).alloc (Nat.le_refl _) (.cells #[.bool false, .int .i64 0, .string ⟨#[]⟩, .int .i64 0, .bool false] 35)
  have hA := h.below hb
  have hO := Blk.new w 35 #[.bool false, .int .i64 0, .string ⟨#[]⟩, .int .i64 0, .bool false]
  have hKp := Keep.of_below (M := Apart w u lb) hb (fun k hk => hk.1)
  obtain ⟨c0, -, -⟩ := hA.get
  obtain ⟨d0, d1, d2, d3, d4⟩ := hA.on_ h2 h3
  obtain ⟨-, -, f2, -, f4⟩ := hA.fro h2
  have n1 : u ≠ w.heap.size := by omega
  have n2 : lb ≠ w.heap.size := by omega
  have n3 : ¬ lb = w.heap.size := n2
  have n4 : ¬ w.heap.size = lb := fun e => n2 e.symm
  have hU1 := hA.setTh (x := some { t with val := v }) h2 (show 2 < 5 by omega) (.string v) (by rw [h3]; rfl)
  have hU2 := hU1.setTh (i := i) (x := some { t with val := v, fresh := true }) h2 (show 4 < 5 by omega) (.bool true) (by rw [putAt_at, if_pos rfl]; rfl)
  have e2 : putAt (putAt S i (some { t with val := v })) i (some { t with val := v, fresh := true }) = putAt S i (some { t with val := v, fresh := true }) := by
    unfold putAt; simp only; congr 1; funext j; unfold upF; split <;> rfl
  rw [e2] at hU2
  have HU := Lib.hid (hU2.five (g := w.heap.size) (a := .bool false) (b := .int .i64 0) (c := .string ⟨#[]⟩) (d := .int .i64 0) (e := .bool false) n1 n2)
  have HK := Lib.hid (keep_five (apart_set (apart_set hKp (.inr rfl) (i * 5 + 2) (.string v)) (.inr rfl) (i * 5 + 4) (.bool true)) (g := w.heap.size) (fun hk => Nat.lt_irrefl _ hk.1) (a := .bool false) (b := .int .i64 0) (c := .string ⟨#[]⟩) (d := .int .i64 0) (e := .bool false) 0 1 2 3 4)
  have HO := Lib.hid (blk_five (a' := .bool false) (b' := .int .i64 0) (c' := .string ⟨#[]⟩) (d' := .int .i64 0) (e' := .bool false) ((hO.far (p := ⟨lb, i * 5 + 2, none⟩) n4 (.string v)).far (p := ⟨lb, i * 5 + 4, none⟩) n4 (.bool true)))
  have HT := Lib.hid (place_hit k _ hA hk)
  obtain ⟨N, hN2⟩ : ∃ N, N = S.N := ⟨_, rfl⟩
  rw [← hN2] at hN c0 h2
  have o0 := hO.cell 0
  have o1 := hO.cell 1
  have o2 := hO.cell 2
  have o3 := hO.cell 3
  have o4 := hO.cell 4
  have of0 := hO.frozen 0
  have of1 := hO.frozen 1
  have of2 := hO.frozen 2
  have of3 := hO.frozen 3
  have of4 := hO.frozen 4
  clear h hk hr h3 hN2 hb hA hO hKp hU1 hU2 e2
  go_enter Try.func12, Try.ntmps12
  go_wp2_with fail
  refine HT.out.mono ?_
  rintro e w1 ⟨rfl, rfl⟩
  clear HT
  generalize hGen : w.alloc (.cells #[.bool false, .int .i64 0, .string ⟨#[]⟩, .int .i64 0, .bool false] 35) = W at c0 d0 d1 d2 d3 d4 f2 f4 HU HK HO o0 o1 o2 o3 o4 of0 of1 of2 of3 of4 ⊢
  clear hGen
  go_wp2
  generalize hGen : ((((((W.setCell ⟨lb, i * 5 + 2, none⟩ (.string v)).setCell ⟨lb, i * 5 + 4, none⟩ (.bool true)).setCell ⟨w.heap.size, 0, none⟩ (.bool false)).setCell ⟨w.heap.size, 1, none⟩ (.int .i64 0)).setCell ⟨w.heap.size, 2, none⟩ (.string ⟨#[]⟩)).setCell ⟨w.heap.size, 3, none⟩ (.int .i64 0)).setCell ⟨w.heap.size, 4, none⟩ (.bool false) = W3 at HU HK HO ⊢
  clear hGen
  have q0 := HO.out.cell 0
  have q1 := HO.out.cell 1
  have q2 := HO.out.cell 2
  have q3 := HO.out.cell 3
  have q4 := HO.out.cell 4
  exact ⟨rfl, .tuple #[ouF (noOu zS), .bool true], by simp [results, Try.results12, go_sem, q0, q1, q2, q3, q4, ouF, noOu, zS], rfl, HU.out, HK.out⟩
set_option maxHeartbeats 1600000 in
theorem put_vac (k : Int) (v : ByteArray) (w : World) (h : UA w u lb S) (hk : atS S k = none) {i : Nat} (hv : vacS S = some i) :
    Calls Try.prog 12 #[.pointer (some ⟨u, 0, none⟩), .int .i64 k, .string v] w (PutRes w u lb S k v) := by
  have hr : putR zS S k v = (noOu zS, true, putAt S i (some ⟨k, v, 0, true⟩)) := by unfold putR; rw [hk, hv]
  unfold PutRes
  rw [hr]
  have hi := (fst_is hv).1
  have hf : S.f i = none := by
    have := (fst_is hv).2.1
    unfold vacP at this
    cases hf : S.f i with
    | none => rfl
    | some t => rw [hf] at this; cases this
  have hN := h.wf.n2
  have hlu := h.lu
  have hll := h.ll
  have hb1 := (Below.refl w.heap.size w).alloc (Nat.le_refl _) (.cells #[.bool false, .int .i64 0, .string ⟨#[]⟩, .int .i64 0, .bool false] 35)
  have hb := hb1.alloc (by simp) (.cells #[.bool false, .int .i64 0, .string ⟨#[]⟩, .int .i64 0, .bool false] 35)
  have HP := Lib.hid (place_miss k _ (h.below hb1) hk)
  have hA := h.below hb
  have hO1 := (Blk.new w 35 #[.bool false, .int .i64 0, .string ⟨#[]⟩, .int .i64 0, .bool false]).alloc (.cells #[.bool false, .int .i64 0, .string ⟨#[]⟩, .int .i64 0, .bool false] 35)
  have hO2 := Blk.new (w.alloc (.cells #[.bool false, .int .i64 0, .string ⟨#[]⟩, .int .i64 0, .bool false] 35)) 35 #[.bool false, .int .i64 0, .string ⟨#[]⟩, .int .i64 0, .bool false]
  rw [World.size_alloc] at hO2
  have hKp := Keep.of_below (M := Apart w u lb) hb (fun k hk => hk.1)
  have HV := Lib.hid (vacant_any _ hA)
  rw [hv] at HV
  simp only [idx] at HV
  have n1 : u ≠ w.heap.size := by omega
  have n2 : lb ≠ w.heap.size := by omega
  have n3 : ¬ w.heap.size = lb := by omega
  have n4 : ¬ w.heap.size + 1 = lb := by omega
  have n5 : ¬ lb = w.heap.size := by omega
  have n6 : ¬ lb = w.heap.size + 1 := by omega
  obtain ⟨c0, -, -⟩ := hA.get
  obtain ⟨d0, d1, d2, d3, d4⟩ := hA.off hi hf
  obtain ⟨f0, f1, f2, f3, f4⟩ := hA.fro hi
  have HA := Lib.hid hA
  have HKp := Lib.hid hKp
  have HO1 := Lib.hid hO1
  have HI := Lib.hid hi
  obtain ⟨N, hN2⟩ : ∃ N, N = S.N := ⟨_, rfl⟩
  rw [← hN2] at hN c0 hi
  have o0 := hO1.cell 0
  have o1 := hO1.cell 1
  have o2 := hO1.cell 2
  have o3 := hO1.cell 3
  have o4 := hO1.cell 4
  have of0 := hO1.frozen 0
  have of1 := hO1.frozen 1
  have of2 := hO1.frozen 2
  have of3 := hO1.frozen 3
  have of4 := hO1.frozen 4
  have p0 := hO2.cell 0
  have p1 := hO2.cell 1
  have p2 := hO2.cell 2
  have p3 := hO2.cell 3
  have p4 := hO2.cell 4
  have pf0 := hO2.frozen 0
  have pf1 := hO2.frozen 1
  have pf2 := hO2.frozen 2
  have pf3 := hO2.frozen 3
  have pf4 := hO2.frozen 4
  clear h hk hr hN2 hb hb1 hA hO1 hO2 hKp hv hf
  go_enter Try.func12, Try.ntmps12
  go_wp2_with fail
  refine HP.out.mono ?_
  rintro e w1 ⟨rfl, rfl⟩
  go_wp2_with fail
  refine HV.out.mono ?_
  rintro e w1 ⟨rfl, rfl⟩
  clear HP HV
  generalize hGen : (w.alloc (.cells #[.bool false, .int .i64 0, .string ⟨#[]⟩, .int .i64 0, .bool false] 35)).alloc (.cells #[.bool false, .int .i64 0, .string ⟨#[]⟩, .int .i64 0, .bool false] 35) = W at c0 d0 d1 d2 d3 d4 f0 f1 f2 f3 f4 HA HKp HO1 o0 of0 o1 of1 o2 of2 o3 of3 o4 of4 p0 pf0 p1 pf1 p2 pf2 p3 pf3 p4 pf4 ⊢
  clear hGen
  go_wp2
  have HU := ((HA.out.lay (some ⟨k, v, 0, true⟩) HI.out rfl).five (g := w.heap.size) (a := .bool false) (b := .int .i64 0) (c := .string ⟨#[]⟩) (d := .int .i64 0) (e := .bool false) n1 n2)
  have HK := (keep_five (keep_five HKp.out (g := lb) (fun hk => hk.2.2 rfl) (a := .bool true) (b := .int .i64 k) (c := .string v) (d := .int .i64 0) (e := .bool true) (i * 5) (i * 5 + 1) (i * 5 + 2) (i * 5 + 3) (i * 5 + 4)) (g := w.heap.size) (fun hk => Nat.lt_irrefl _ hk.1) (a := .bool false) (b := .int .i64 0) (c := .string ⟨#[]⟩) (d := .int .i64 0) (e := .bool false) 0 1 2 3 4)
  have HO := (blk_five (a' := .bool false) (b' := .int .i64 0) (c' := .string ⟨#[]⟩) (d' := .int .i64 0) (e' := .bool false) (blk_far5 HO1.out n3 (a := .bool true) (b := .int .i64 k) (c := .string v) (d := .int .i64 0) (e := .bool true) (i * 5) (i * 5 + 1) (i * 5 + 2) (i * 5 + 3) (i * 5 + 4)))
  generalize hGen : (((((((((W.setCell ⟨lb, i * 5, none⟩ (.bool true)).setCell ⟨lb, i * 5 + 1, none⟩ (.int .i64 k)).setCell ⟨lb, i * 5 + 2, none⟩ (.string v)).setCell ⟨lb, i * 5 + 3, none⟩ (.int .i64 0)).setCell ⟨lb, i * 5 + 4, none⟩ (.bool true)).setCell ⟨w.heap.size, 0, none⟩ (.bool false)).setCell ⟨w.heap.size, 1, none⟩ (.int .i64 0)).setCell ⟨w.heap.size, 2, none⟩ (.string ⟨#[]⟩)).setCell ⟨w.heap.size, 3, none⟩ (.int .i64 0)).setCell ⟨w.heap.size, 4, none⟩ (.bool false) = W3 at HU HK HO ⊢
  clear hGen
  have q0 := HO.cell 0
  have q1 := HO.cell 1
  have q2 := HO.cell 2
  have q3 := HO.cell 3
  have q4 := HO.cell 4
  exact ⟨rfl, .tuple #[ouF (noOu zS), .bool true], by simp [results, Try.results12, go_sem, q0, q1, q2, q3, q4, ouF, noOu, zS], rfl, HU, HK⟩
set_option maxHeartbeats 1600000 in
theorem put_full (k : Int) (v : ByteArray) (w : World) (h : UA w u lb S) (hk : atS S k = none) (hv : vacS S = none) (hl : leaveS S = none) :
    Calls Try.prog 12 #[.pointer (some ⟨u, 0, none⟩), .int .i64 k, .string v] w (PutRes w u lb S k v) := by
  have hr : putR zS S k v = (noOu zS, false, S) := by unfold putR; rw [hk, hv, hl]
  unfold PutRes
  rw [hr]
  have htk := vac_taken hv
  have hpin : ∀ i, i < S.N → ∃ t, S.f i = some t ∧ 0 < t.pins := fun i hi => by
    obtain ⟨t, ht⟩ := htk i hi
    have := fst_no hl i hi
    unfold leaveP at this
    rw [ht] at this
    have h3 : t.pins ≠ 0 := by simpa using this
    exact ⟨t, ht, by omega⟩
  have hN := h.wf.n2
  have hlu := h.lu
  have hll := h.ll
  have hb1 := (Below.refl w.heap.size w).alloc (Nat.le_refl _) (.cells #[.bool false, .int .i64 0, .string ⟨#[]⟩, .int .i64 0, .bool false] 35)
  have hb := hb1.alloc (by simp) (.cells #[.bool false, .int .i64 0, .string ⟨#[]⟩, .int .i64 0, .bool false] 35)
  have HP := Lib.hid (place_miss k _ (h.below hb1) hk)
  have hA := h.below hb
  have hO1 := (Blk.new w 35 #[.bool false, .int .i64 0, .string ⟨#[]⟩, .int .i64 0, .bool false]).alloc (.cells #[.bool false, .int .i64 0, .string ⟨#[]⟩, .int .i64 0, .bool false] 35)
  have hO2 := Blk.new (w.alloc (.cells #[.bool false, .int .i64 0, .string ⟨#[]⟩, .int .i64 0, .bool false] 35)) 35 #[.bool false, .int .i64 0, .string ⟨#[]⟩, .int .i64 0, .bool false]
  rw [World.size_alloc] at hO2
  have hKp := Keep.of_below (M := Apart w u lb) hb (fun k hk => hk.1)
  have HV := Lib.hid (vacant_any _ hA)
  rw [hv] at HV
  simp only [idx] at HV
  have n1 : u ≠ w.heap.size := by omega
  have n2 : lb ≠ w.heap.size := by omega
  obtain ⟨c0, -, -⟩ := hA.get
  have HPI := Lib.hid hpin
  have HA := Lib.hid hA
  have HKp := Lib.hid hKp
  have HO1 := Lib.hid hO1
  obtain ⟨N, hN2⟩ : ∃ N, N = S.N := ⟨_, rfl⟩
  rw [← hN2] at hN c0 HPI
  have HN2 := Lib.hid hN2
  have o0 := hO1.cell 0
  have o1 := hO1.cell 1
  have o2 := hO1.cell 2
  have o3 := hO1.cell 3
  have o4 := hO1.cell 4
  have of0 := hO1.frozen 0
  have of1 := hO1.frozen 1
  have of2 := hO1.frozen 2
  have of3 := hO1.frozen 3
  have of4 := hO1.frozen 4
  clear h hk hr hN2 hb hb1 hA hO1 hO2 hKp hv hl htk hpin
  go_enter Try.func12, Try.ntmps12
  go_wp2_with fail
  refine HP.out.mono ?_
  rintro e w1 ⟨rfl, rfl⟩
  go_wp2_with fail
  refine HV.out.mono ?_
  rintro e w1 ⟨rfl, rfl⟩
  clear HP HV
  generalize hGen : (w.alloc (.cells #[.bool false, .int .i64 0, .string ⟨#[]⟩, .int .i64 0, .bool false] 35)).alloc (.cells #[.bool false, .int .i64 0, .string ⟨#[]⟩, .int .i64 0, .bool false] 35) = W at c0 HA HKp HO1 o0 of0 o1 of1 o2 of2 o3 of3 o4 of4 ⊢
  clear hGen
  go_wp2
  go_loop [11, 12] (fun v i => ∃ m : Nat, m ≤ N ∧ i = .int .i64 (m : Int) ∧ v = .int .i64 (m : Int)) (fun _ i => N - (intOf i).toNat)
  case atStart => exact ⟨0, Nat.zero_le _, rfl, rfl⟩
  case round =>
    obtain ⟨m, hm, rfl, rfl⟩ := hrel
    by_cases hlt : m < N
    · obtain ⟨t, ht, htp⟩ := HPI.out m hlt
      obtain ⟨-, -, -, d3, -⟩ := HA.out.on_ (by rw [← HN2.out]; exact hlt) ht
      have htp2 : (0 : Int) < (t.pins : Int) := by omega
      generalize t.pins = tp at d3 htp2
      clear ht htp
      go_wp2
      go_round
      case rel => exact ⟨m + 1, by omega, by go_num, by go_num⟩
      case measure => simp [intOf]; omega
    · obtain rfl : m = N := by omega
      go_wp2
      have HU := (HA.out.five (g := w.heap.size) (a := .bool false) (b := .int .i64 0) (c := .string ⟨#[]⟩) (d := .int .i64 0) (e := .bool false) n1 n2)
      have HK := (keep_five HKp.out (g := w.heap.size) (fun hk => Nat.lt_irrefl _ hk.1) (a := .bool false) (b := .int .i64 0) (c := .string ⟨#[]⟩) (d := .int .i64 0) (e := .bool false) 0 1 2 3 4)
      have HO := (blk_five (a' := .bool false) (b' := .int .i64 0) (c' := .string ⟨#[]⟩) (d' := .int .i64 0) (e' := .bool false) HO1.out)
      generalize hGen : ((((W.setCell ⟨w.heap.size, 0, none⟩ (.bool false)).setCell ⟨w.heap.size, 1, none⟩ (.int .i64 0)).setCell ⟨w.heap.size, 2, none⟩ (.string ⟨#[]⟩)).setCell ⟨w.heap.size, 3, none⟩ (.int .i64 0)).setCell ⟨w.heap.size, 4, none⟩ (.bool false) = W3 at HU HK HO ⊢
      clear hGen
      have q0 := HO.cell 0
      have q1 := HO.cell 1
      have q2 := HO.cell 2
      have q3 := HO.cell 3
      have q4 := HO.cell 4
      exact ⟨rfl, .tuple #[ouF (noOu zS), .bool false], by simp [results, Try.results12, go_sem, q0, q1, q2, q3, q4, ouF, noOu, zS], rfl, HU, HK⟩
/-- the ring, the block of the result, the block of what left -/
structure PB (w0 W : World) (u lb : Nat) (S : RState) (o1 o2 : Nat) (c1 c2 : Array Value) : Prop where
  ua : UA W u lb S
  b1 : Blk W o1 35 c1
  b2 : Blk W o2 35 c2
  kp : Keep (Apart w0 u lb) w0 W
  l1 : w0.heap.size ≤ o1
  l2 : w0.heap.size ≤ o2
  ne : o1 ≠ o2
  lu : u < w0.heap.size
  ll : lb < w0.heap.size
theorem PB.draw {w0 W : World} {o1 o2 : Nat} {c1 c2 : Array Value} (h : PB w0 W u lb S o1 o2 c1 c2) (q : Nat) : PB w0 (W.drewN q) u lb S o1 o2 c1 c2 :=
  ⟨h.ua.below (below_draw (Below.refl _ _) q), h.b1, h.b2, h.kp.drewN q, h.l1, h.l2, h.ne, h.lu, h.ll⟩
theorem PB.next {w0 W W' : World} {o1 o2 : Nat} {c1 c2 : Array Value} {S' : RState} (h : PB w0 W u lb S o1 o2 c1 c2) (hu : UA W' u lb S') (hk : Keep (Apart W u lb) W W') : PB w0 W' u lb S' o1 o2 c1 c2 := by
  have h1 := h.l1; have h2 := h.l2; have h3 := h.lu; have h4 := h.ll
  exact ⟨hu, hk.blk h.b1 ⟨h.b1.lt, by omega, by omega⟩, hk.blk h.b2 ⟨h.b2.lt, by omega, by omega⟩, h.kp.trans (hk.mono (fun k hk => ⟨Nat.lt_of_lt_of_le hk.1 h.kp.size, hk.2⟩)), h1, h2, h.ne, h3, h4⟩
theorem PB.out {w0 W : World} {o1 o2 : Nat} {c1 : Array Value} {a b c d e a' b' c' d' e' : Value} (h : PB w0 W u lb S o1 o2 c1 #[a, b, c, d, e]) : PB w0 (((((W.setCell ⟨o2, 0, none⟩ a').setCell ⟨o2, 1, none⟩ b').setCell ⟨o2, 2, none⟩ c').setCell ⟨o2, 3, none⟩ d').setCell ⟨o2, 4, none⟩ e') u lb S o1 o2 c1 #[a', b', c', d', e'] := by
  have h1 := h.l1; have h2 := h.l2; have h3 := h.lu; have h4 := h.ll
  exact ⟨h.ua.five (by omega) (by omega), blk_far5 h.b1 h.ne 0 1 2 3 4, blk_five h.b2, keep_five h.kp (fun hk => by have := hk.1; omega) 0 1 2 3 4, h1, h2, h.ne, h3, h4⟩
set_option maxHeartbeats 6000000 in
theorem put_turn (k : Int) (v : ByteArray) (w : World) (h : UA w u lb S) (hk : atS S k = none) (hv : vacS S = none) {j : Nat} (hl : leaveS S = some j) :
    Calls Try.prog 12 #[.pointer (some ⟨u, 0, none⟩), .int .i64 k, .string v] w (PutRes w u lb S k v) := by
  obtain ⟨n, hT⟩ := turns_some h.wf hv hl
  obtain ⟨g1, g2, g3, ⟨t, g4, g5, g6⟩, -⟩ := hT.leaves h.wf
  have hr : putR zS S k v = (⟨t.key, t.val, true⟩, true, putAt (turnS S).2 (turnS S).1 (some ⟨k, v, 0, true⟩)) := by unfold putR; rw [hk, hv, hl]; simp only; rw [g4]
  unfold PutRes
  rw [hr]
  generalize turnS S = R at hT g1 g2 g3 g4 ⊢
  obtain ⟨i, S2⟩ := R
  simp only at g1 g2 g3 g4 ⊢
  have htk := vac_taken hv
  have hpc : pc S.f S.N < S.N := by
    obtain ⟨h1, h2, -⟩ := fst_is hl
    obtain ⟨tj, htj⟩ := htk j h1
    unfold leaveP at h2
    rw [htj] at h2
    exact pc_not htj (by simpa using h2) S.N h1
  have hN := h.wf.n2
  have hlu := h.lu
  have hll := h.ll
  have hb1 := (Below.refl w.heap.size w).alloc (Nat.le_refl _) (.cells #[.bool false, .int .i64 0, .string ⟨#[]⟩, .int .i64 0, .bool false] 35)
  have hb := hb1.alloc (by simp) (.cells #[.bool false, .int .i64 0, .string ⟨#[]⟩, .int .i64 0, .bool false] 35)
  have HP := Lib.hid (place_miss k _ (h.below hb1) hk)
  have hA := h.below hb
  have hO1 := (Blk.new w 35 #[.bool false, .int .i64 0, .string ⟨#[]⟩, .int .i64 0, .bool false]).alloc (.cells #[.bool false, .int .i64 0, .string ⟨#[]⟩, .int .i64 0, .bool false] 35)
  have hO2 := Blk.new (w.alloc (.cells #[.bool false, .int .i64 0, .string ⟨#[]⟩, .int .i64 0, .bool false] 35)) 35 #[.bool false, .int .i64 0, .string ⟨#[]⟩, .int .i64 0, .bool false]
  rw [World.size_alloc] at hO2
  have hKp := Keep.of_below (M := Apart w u lb) hb (fun k hk => hk.1)
  have HV := Lib.hid (vacant_any _ hA)
  rw [hv] at HV
  simp only [idx] at HV
  have H0 : Hid (PB w ((w.alloc (.cells #[.bool false, .int .i64 0, .string ⟨#[]⟩, .int .i64 0, .bool false] 35)).alloc (.cells #[.bool false, .int .i64 0, .string ⟨#[]⟩, .int .i64 0, .bool false] 35)) u lb S w.heap.size (w.heap.size + 1) #[.bool false, .int .i64 0, .string ⟨#[]⟩, .int .i64 0, .bool false] #[.bool false, .int .i64 0, .string ⟨#[]⟩, .int .i64 0, .bool false]) := ⟨hA, hO1, hO2, hKp, Nat.le_refl _, by omega, by omega, hlu, hll⟩
  have c0 := hA.get.1
  obtain ⟨N, hN2⟩ : ∃ N, N = S.N := ⟨_, rfl⟩
  rw [← hN2] at hN c0 hpc g2 g3
  have HN2 := Lib.hid hN2
  have HTK := Lib.hid htk
  have HT := Lib.hid hT
  have G4 := Lib.hid g4
  have G2 := Lib.hid g2
  clear h hk hr hN2 hb hb1 hA hO1 hO2 hKp hv hl htk hT g4 g2
  go_enter Try.func12, Try.ntmps12
  go_wp2_with fail
  refine HP.out.mono ?_
  rintro e w1 ⟨rfl, rfl⟩
  go_wp2_with fail
  refine HV.out.mono ?_
  rintro e w1 ⟨rfl, rfl⟩
  clear HP HV
  generalize hGen : (w.alloc (.cells #[.bool false, .int .i64 0, .string ⟨#[]⟩, .int .i64 0, .bool false] 35)).alloc (.cells #[.bool false, .int .i64 0, .string ⟨#[]⟩, .int .i64 0, .bool false] 35) = W at c0 H0 ⊢
  clear hGen
  go_wp2
  go_loop [11, 12] (fun v i => ∃ m : Nat, m ≤ N ∧ i = .int .i64 (m : Int) ∧ v = .int .i64 (pc S.f m : Int)) (fun _ i => N - (intOf i).toNat)
  case atStart => exact ⟨0, Nat.zero_le _, rfl, rfl⟩
  case round =>
    obtain ⟨m, hm, rfl, rfl⟩ := hrel
    by_cases hlt : m < N
    · obtain ⟨tm, htm⟩ := HTK.out m (by rw [← HN2.out]; exact hlt)
      obtain ⟨-, -, -, d3, -⟩ := H0.out.ua.on_ (by rw [← HN2.out]; exact hlt) htm
      have hpl := pc_le S.f m
      by_cases hp0 : 0 < tm.pins
      · have hpn := Lib.hid (show pc S.f (m + 1) = pc S.f m + 1 by rw [pc, htm]; simp [hp0])
        have htp2 : (0 : Int) < (tm.pins : Int) := by omega
        generalize tm.pins = tp at d3 htp2
        generalize pc S.f m = pm at hpl hpn ⊢
        clear htm hp0
        go_wp2
        go_round
        case rel => exact ⟨m + 1, by omega, by go_num, by rw [hpn.out]; go_num⟩
        case measure => simp [intOf]; omega
      · have hpn := Lib.hid (show pc S.f (m + 1) = pc S.f m by rw [pc, htm]; simp [hp0])
        rw [show tm.pins = 0 by omega] at d3
        generalize pc S.f m = pm at hpl hpn ⊢
        clear htm hp0
        go_wp2
        go_round
        case rel => exact ⟨m + 1, by omega, by go_num, by rw [hpn.out]⟩
        case measure => simp [intOf]; omega
    · obtain rfl : m = N := by omega
      have hpe : ((pc S.f m : Int) == (m : Int)) = false := by rw [beq_eq_false_iff_ne]; omega
      generalize pc S.f m = pm at hpe hpc ⊢
      go_wp2
      clear c0 HTK
      go_loopg [115] n (fun gg _ wr => ∃ (q : Nat) (S' : RState), q ≤ gg ∧ Hid (Turns q S' (i, S2)) ∧ Hid (S'.N = m) ∧ Hid (PB w wr u lb S' w.heap.size (w.heap.size + 1) #[.bool false, .int .i64 0, .string ⟨#[]⟩, .int .i64 0, .bool false] #[.bool false, .int .i64 0, .string ⟨#[]⟩, .int .i64 0, .bool false]))
      case atStart => exact ⟨n, S, Nat.le_refl _, HT, HN2.out.symm, H0⟩
      case round =>
        obtain ⟨q, S', hq, T1, HN3, H⟩ := hrel
        clear HT H0
        have hN1' := H.out.ua.wf.n1
        have hN2' := H.out.ua.wf.n2
        have hh := H.out.ua.wf.hh
        have hh0 : (0 : Int) ≤ (S'.hand : Int) := by omega
        have hh1 : (S'.hand : Int) < (S'.N : Int) := by omega
        cases T1.out with
        | stop _ t2 ht hp hf =>
          have c0 := H.out.ua.get.1
          have c1 := H.out.ua.get.2.1
          have d3 := (H.out.ua.on_ hh ht).2.2.2.1
          have d4 := (H.out.ua.on_ hh ht).2.2.2.2
          rw [hp] at d3
          rw [hf] at d4
          go_upto_region 17 with (fail)
          go_quiet (fail)
          have hq5 := H.out.draw nq
          clear c0 c1 d3 d4 H
          generalize hGen : wr.drewN nq = W5 at hq5 ⊢
          clear hGen
          have H := Lib.hid hq5
          clear hq5
          have c0 := H.out.ua.get.1
          have c1 := H.out.ua.get.2.1
          obtain ⟨d0, d1, d2, d3, d4⟩ := H.out.ua.on_ hh ht
          rw [hp] at d3
          rw [hf] at d4
          obtain rfl : t2 = t := by have h9 := G4.out; simp only at h9; rw [ht] at h9; cases h9; rfl
          have HX := Lib.hid (H.out.out (a' := .bool true) (b' := .int .i64 t2.key) (c' := .string t2.val) (d' := .int .i64 0) (e' := .bool false))
          have hX2 := H.out.b2
          have p0 := hX2.cell 0
          have p1 := hX2.cell 1
          have p2 := hX2.cell 2
          have p3 := hX2.cell 3
          have p4 := hX2.cell 4
          have pf0 := hX2.frozen 0
          have pf1 := hX2.frozen 1
          have pf2 := hX2.frozen 2
          have pf3 := hX2.frozen 3
          have pf4 := hX2.frozen 4
          clear hX2 H
          go_wp2_with fail
          generalize hGen : ((((W5.setCell ⟨w.heap.size + 1, 0, none⟩ (.bool true)).setCell ⟨w.heap.size + 1, 1, none⟩ (.int .i64 t2.key)).setCell ⟨w.heap.size + 1, 2, none⟩ (.string t2.val)).setCell ⟨w.heap.size + 1, 3, none⟩ (.int .i64 0)).setCell ⟨w.heap.size + 1, 4, none⟩ (.bool false) = W6 at HX ⊢
          clear hGen
          refine (on_any W6 HX.out.ua).mono ?_
          rintro e w7 ⟨rfl, h7, k7⟩
          have H7 := HX.out.next h7 k7
          have hh7 : S'.hand < ({ S' with hand := nx S' } : RState).N := hh
          have ht7 : ({ S' with hand := nx S' } : RState).f S'.hand = some t2 := ht
          clear p0 pf0 p1 pf1 p2 pf2 p3 pf3 p4 pf4 c0 c1 d0 d1 d2 d3 d4 h7 k7 HX
          have c0 : w7.cell? ⟨u, 0, none⟩ = some (.slice (some ⟨lb, 0, none⟩) S'.N S'.N) := H7.ua.get.1
          obtain ⟨d0, d1, d2, d3, d4⟩ := H7.ua.on_ hh7 ht7
          obtain ⟨f0, f1, f2, f3, f4⟩ := H7.ua.fro hh7
          have hX1 := H7.b1
          have hX2 := H7.b2
          have o0 := hX1.cell 0
          have o1 := hX1.cell 1
          have o2 := hX1.cell 2
          have o3 := hX1.cell 3
          have o4 := hX1.cell 4
          have of0 := hX1.frozen 0
          have of1 := hX1.frozen 1
          have of2 := hX1.frozen 2
          have of3 := hX1.frozen 3
          have of4 := hX1.frozen 4
          have p0 := hX2.cell 0
          have p1 := hX2.cell 1
          have p2 := hX2.cell 2
          have p3 := hX2.cell 3
          have p4 := hX2.cell 4
          have pf0 := hX2.frozen 0
          have pf1 := hX2.frozen 1
          have pf2 := hX2.frozen 2
          have pf3 := hX2.frozen 3
          have pf4 := hX2.frozen 4
          have n3 : ¬ w.heap.size = lb := by omega
          have n4 : ¬ w.heap.size + 1 = lb := by omega
          have n5 : ¬ lb = w.heap.size := by omega
          have n6 : ¬ lb = w.heap.size + 1 := by omega
          have n1 : u ≠ w.heap.size := by omega
          have H7 := Lib.hid H7
          have HH := Lib.hid hh7
          clear hX1 hX2 hh7 ht7
          go_wp2
          have HU := (H7.out.ua.lay (some ⟨k, v, 0, true⟩) HH.out rfl).five (g := w.heap.size) (a := .bool true) (b := .int .i64 t2.key) (c := .string t2.val) (d := .int .i64 0) (e := .bool false) n1 n5
          have HK := keep_five (keep_five H7.out.kp (g := lb) (fun hk => hk.2.2 rfl) (a := .bool true) (b := .int .i64 k) (c := .string v) (d := .int .i64 0) (e := .bool true) (S'.hand * 5) (S'.hand * 5 + 1) (S'.hand * 5 + 2) (S'.hand * 5 + 3) (S'.hand * 5 + 4)) (g := w.heap.size) (fun hk => Nat.lt_irrefl _ hk.1) (a := .bool true) (b := .int .i64 t2.key) (c := .string t2.val) (d := .int .i64 0) (e := .bool false) 0 1 2 3 4
          have HO := blk_five (a' := .bool true) (b' := .int .i64 t2.key) (c' := .string t2.val) (d' := .int .i64 0) (e' := .bool false) (blk_far5 H7.out.b1 n3 (a := .bool true) (b := .int .i64 k) (c := .string v) (d := .int .i64 0) (e := .bool true) (S'.hand * 5) (S'.hand * 5 + 1) (S'.hand * 5 + 2) (S'.hand * 5 + 3) (S'.hand * 5 + 4))
          generalize hGen : (((((((((w7.setCell ⟨lb, S'.hand * 5, none⟩ (.bool true)).setCell ⟨lb, S'.hand * 5 + 1, none⟩ (.int .i64 k)).setCell ⟨lb, S'.hand * 5 + 2, none⟩ (.string v)).setCell ⟨lb, S'.hand * 5 + 3, none⟩ (.int .i64 0)).setCell ⟨lb, S'.hand * 5 + 4, none⟩ (.bool true)).setCell ⟨w.heap.size, 0, none⟩ (.bool true)).setCell ⟨w.heap.size, 1, none⟩ (.int .i64 t2.key)).setCell ⟨w.heap.size, 2, none⟩ (.string t2.val)).setCell ⟨w.heap.size, 3, none⟩ (.int .i64 0)).setCell ⟨w.heap.size, 4, none⟩ (.bool false) = W3 at HU HK HO ⊢
          clear hGen
          have q0 := HO.cell 0
          have q1 := HO.cell 1
          have q2 := HO.cell 2
          have q3 := HO.cell 3
          have q4 := HO.cell 4
          exact ⟨rfl, .tuple #[ouF ⟨t2.key, t2.val, true⟩, .bool true], by simp [results, Try.results12, go_sem, q0, q1, q2, q3, q4, ouF], rfl, HU, HK⟩
        | on _ t2 n' _ ht hp hr =>
          have c0 := H.out.ua.get.1
          have c1 := H.out.ua.get.2.1
          have d3 := (H.out.ua.on_ hh ht).2.2.2.1
          have d4 := (H.out.ua.on_ hh ht).2.2.2.2
          by_cases hp0 : t2.pins = 0
          · have hfr : t2.fresh = true := by
              cases hf : t2.fresh with
              | true => rfl
              | false => exact absurd ⟨hp0, hf⟩ hp
            rw [hp0] at d3
            rw [hfr] at d4
            have hti : tire S' t2 = { putAt S' S'.hand (some { t2 with fresh := false }) with hand := nx S' } := by
              unfold tire putAt
              rw [if_pos hp0]
            have HR : Hid (Turns n' { putAt S' S'.hand (some { t2 with fresh := false }) with hand := nx S' } (i, S2)) := hti ▸ hr
            go_upto_region 17 with (fail)
            go_quiet (fail)
            have hq5 := H.out.draw nq
            clear c0 c1 d3 d4 H
            generalize hGen : wr.drewN nq = W5 at hq5 ⊢
            clear hGen
            have H := Lib.hid hq5
            clear hq5
            have c0 := H.out.ua.get.1
            have c1 := H.out.ua.get.2.1
            have d3 := (H.out.ua.on_ hh ht).2.2.2.1
            rw [hp0] at d3
            go_upto_region 18 with (fail)
            go_quiet (fail)
            have hq5 := H.out.draw nq
            clear c0 c1 d3 H
            generalize hGen : W5.drewN nq = W6 at hq5 ⊢
            clear hGen
            have H := Lib.hid hq5
            clear hq5
            have c0 := H.out.ua.get.1
            have c1 := H.out.ua.get.2.1
            have d4 := (H.out.ua.on_ hh ht).2.2.2.2
            have f4 := (H.out.ua.fro hh).2.2.2.2
            go_upto_region 19 with (fail)
            go_still_tail 10, (by kernel_rfl)
            change wpList _ _ _ _ _ W6.drew
            have hq5 := H.out.draw 1
            have hq6 : PB w W6.drew u lb S' w.heap.size (w.heap.size + 1) #[.bool false, .int .i64 0, .string ⟨#[]⟩, .int .i64 0, .bool false] #[.bool false, .int .i64 0, .string ⟨#[]⟩, .int .i64 0, .bool false] := hq5
            clear c0 c1 d4 f4 H hq5
            generalize hGen : W6.drew = W7 at hq6 ⊢
            clear hGen
            have c0 := hq6.ua.get.1
            have c1 := hq6.ua.get.2.1
            have d4 := (hq6.ua.on_ hh ht).2.2.2.2
            have f4 := (hq6.ua.fro hh).2.2.2.2
            have HX := Lib.hid (hq6.next (hq6.ua.setTh (x := some { t2 with fresh := false }) hh (show 4 < 5 by omega) (.bool false) (by rw [ht]; rfl)) (apart_set (Keep.refl (Apart W7 u lb) W7) (.inr rfl) (S'.hand * 5 + 4) (.bool false)))
            clear hq6 hfr hti hr hp T1
            go_wp2_with fail
            clear c0 c1 d4 f4
            generalize hGen : W7.setCell ⟨lb, S'.hand * 5 + 4, none⟩ (.bool false) = W8 at HX ⊢
            clear hGen
            refine (on_any W8 HX.out.ua).mono ?_
            rintro e w9 ⟨rfl, h9, k9⟩
            have H9 := Lib.hid (HX.out.next h9 k9)
            clear h9 k9 HX
            go_wp2
            go_roundg n'
            case measure => omega
            case rel => exact ⟨n', _, Nat.le_refl _, HR, HN3, H9⟩
          · have hti : tire S' t2 = { S' with hand := nx S' } := by
              unfold tire
              rw [if_neg hp0]
            have HR : Hid (Turns n' { S' with hand := nx S' } (i, S2)) := hti ▸ hr
            have hp1 : (0 : Int) < (t2.pins : Int) := by omega
            have hp2 : ((t2.pins : Int) == 0) = false := by rw [beq_eq_false_iff_ne]; omega
            generalize hTP : t2.pins = tp at d3 hp1 hp2
            have HTP := Lib.hid hTP
            have hp3 : decide ((0 : Int) < (tp : Int)) = true := by rw [decide_eq_true_iff]; exact hp1
            have hp4 : 0 < tp := by omega
            have hp5 : decide (0 < tp) = true := decide_eq_true hp4
            clear hTP hp0 hp hti hr T1
            clear d4
            go_upto_region 17 with (fail)
            go_quiet (fail)
            have hq5 := H.out.draw nq
            clear c0 c1 d3 H
            generalize hGen : wr.drewN nq = W5 at hq5 ⊢
            clear hGen
            have H := Lib.hid hq5
            clear hq5
            have c0 := H.out.ua.get.1
            have c1 := H.out.ua.get.2.1
            have d3 := (H.out.ua.on_ hh ht).2.2.2.1
            rw [HTP.out] at d3
            go_upto_region 18 with (fail)
            go_quiet (fail)
            have hq5 := H.out.draw nq
            clear c0 c1 d3 H
            generalize hGen : W5.drewN nq = W8 at hq5 ⊢
            clear hGen
            have HX := Lib.hid hq5
            clear hq5
            go_wp2_with fail
            refine (on_any W8 HX.out.ua).mono ?_
            rintro e w9 ⟨rfl, h9, k9⟩
            have H9 := Lib.hid (HX.out.next h9 k9)
            clear h9 k9 HX
            go_wp2
            go_roundg n'
            case measure => omega
            case rel => exact ⟨n', _, Nat.le_refl _, HR, HN3, H9⟩
theorem put_any (k : Int) (v : ByteArray) (w : World) (h : UA w u lb S) :
    Calls Try.prog 12 #[.pointer (some ⟨u, 0, none⟩), .int .i64 k, .string v] w (PutRes w u lb S k v) := by
  cases hk : atS S k with
  | some x => exact put_hit k v w h (i := x.1) (t := x.2) hk
  | none =>
    cases hv : vacS S with
    | some i => exact put_vac k v w h hk hv
    | none =>
      cases hl : leaveS S with
      | none => exact put_full k v w h hk hv hl
      | some j => exact put_turn k v w h hk hv hl
end
end Go.Proofs.Ytdpaeffhddehaaa.Ref
