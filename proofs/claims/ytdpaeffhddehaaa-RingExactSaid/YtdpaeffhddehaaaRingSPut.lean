/- The walks of a ring's Put. -/
import Derived.Test.YtdpaeffhddehaaaRingSCalls
import Derived.StillTailTactics
import Derived.Deep.CutBlock
import Derived.Deep.DeepCutAuto
namespace Go.Proofs.Ytdpaeffhddehaaa.RingS
set_option maxRecDepth 100000
open Go.RowKit Go.Shelf
open Go.Proofs.Ytdpaeffhddehaaa.Mem
open Go.Proofs.Ytdpaeffhddehaaa.Ring
attribute [local go_sem] Oper.semAt_some

def ouC (o : Ou ByteArray) : Value := .agg #[.int .i64 o.key, .string o.val, .bool o.gone]
theorem blk_three {w : World} {g : Nat} {T : TypeId} {a b c a' b' c' : Value} (h : Blk w g T #[a, b, c]) : Blk (((w.setCell ⟨g, 0, none⟩ a').setCell ⟨g, 1, none⟩ b').setCell ⟨g, 2, none⟩ c') g T #[a', b', c'] := by
  have := ((h.set_ 0 a').set_ 1 b').set_ 2 c'
  simpa using this
theorem keep_three {M : Nat → Prop} {w w' : World} {g : Nat} {a b c : Value} (h : Keep M w w') (hg : ¬ M g) : Keep M w (((w'.setCell ⟨g, 0, none⟩ a).setCell ⟨g, 1, none⟩ b).setCell ⟨g, 2, none⟩ c) := ((h.set_ hg 0 a).set_ hg 1 b).set_ hg 2 c
section
variable {p fb : Nat} {ad : Nat → Nat} {M : Nat → Prop} {S : RState}
theorem atS_below {x : Option (Nat × Thing)} {k : Int} (h : atS S k = x) : atS S k = x := h
/-- a block that isn't the ring's, turned -/
theorem RA.three {w : World} {M M' : Nat → Prop} {g : Nat} {a b c : Value} (h : RA w p fb ad M S) (hg : M g) (hm : ∀ k, M' k → M k) : RA (((w.setCell ⟨g, 0, none⟩ a).setCell ⟨g, 1, none⟩ b).setCell ⟨g, 2, none⟩ c) p fb ad M' S :=
  h.step (by simp) (fun k _ hk => by
    have e : k ≠ g := fun e => hk (e ▸ hg)
    rw [Below.heap_setCell _ _ _ _ e, Below.heap_setCell _ _ _ _ e, Below.heap_setCell _ _ _ _ e]) (fun k hk => .inl (hm k hk))
/-- with the block of the result laid -/
theorem RA.box {w : World} (h : RA w p fb ad M S) (o : Obj) : RA (w.alloc o) p fb ad (fun k => M k ∨ k = w.heap.size) S :=
  h.step (by simp) (fun k hk _ => Below.heap_alloc w o k hk) (fun k hk => hk.elim .inl (fun e => .inr (by simp; omega)))
theorem RA.less {w : World} {M' : Nat → Prop} (h : RA w p fb ad M S) (hm : ∀ k, M' k → M k) : RA w p fb ad M' S := h.step (Nat.le_refl _) (fun _ _ _ => rfl) (fun k hk => .inl (hm k hk))
def PutRes (w : World) (p : Nat) (M : Nat → Prop) (z : ByteArray) (S : RState) (k : Int) (v : ByteArray) (e : Ending) (w' : World) : Prop :=
  e = .returned (.tuple #[ouC (putR z S k v).1, .bool (putR z S k v).2.1]) ∧ Left w p M (putR z S k v).2.2 w'
set_option maxHeartbeats 1600000 in
theorem put_hit (k : Int) (v : ByteArray) (w : World) (h : RA w p fb ad M S) {i : Nat} {t : Thing} (hk : atS S k = some (i, t)) :
    Calls Try.prog 11 #[.pointer (some ⟨p, 0, none⟩), .int .i64 k, .string v] w (PutRes w p M (⟨#[]⟩ : ByteArray) S k v) := by
  have hr : putR (⟨#[]⟩ : ByteArray) S k v = (noOu (⟨#[]⟩ : ByteArray), true, putAt S i (some { t with val := v, fresh := true })) := by unfold putR; rw [hk]
  unfold PutRes
  rw [hr]
  obtain ⟨-, h2, h3, -, -⟩ := atS_is hk
  have hA := h.box (.cells #[.int .i64 0, .string (⟨#[]⟩ : ByteArray), .bool false] 31)
  have hB := (Keep.refl M w).alloc h.lt (.cells #[.int .i64 0, .string (⟨#[]⟩ : ByteArray), .bool false] 31)
  have hO := Blk.new w 31 #[.int .i64 0, .string (⟨#[]⟩ : ByteArray), .bool false]
  have hml := h.lt
  clear h hr
  go_enter Try.func11, Try.ntmps11
  go_wp2_with fail
  generalize hGen : w.alloc (.cells #[.int .i64 0, .string (⟨#[]⟩ : ByteArray), .bool false] 31) = W at hA hB hO ⊢
  clear hGen
  have HT := Lib.hid (thing_hit k W hA hk)
  refine HT.out.mono ?_
  rintro e w1 ⟨rfl, b1⟩
  have h1 := hA.below b1
  have hO1 := hO.below b1 hO.lt
  have hB1 := hB.trans (Keep.of_below b1 (fun k hk => hA.lt k (.inl hk)))
  obtain ⟨-, -, d1, -, d3, ⟨f1, -, f3⟩, -, -⟩ := h1.on h2 h3
  obtain ⟨-, -, nM⟩ := hA.n1 i t h2 h3
  have hne : ¬ ad i = w.heap.size := fun e => nM (.inr e)
  have hne2 : ¬ w.heap.size = ad i := fun e => nM (.inr e.symm)
  have hU1 := h1.setTh h2 h3 { t with val := v } 1 (.string v) (by simp [thC])
  have hU2 := hU1.setTh h2 (upF_self _ _ _) { t with val := v, fresh := true } 3 (.bool true) (by simp [thC])
  have e : putAt (putAt S i (some { t with val := v })) i (some { t with val := v, fresh := true }) = putAt S i (some { t with val := v, fresh := true }) := by
    unfold putAt
    simp only
    congr 1
    funext j
    unfold upF
    split <;> rfl
  rw [e] at hU2
  have hU3 := hU2.three (M' := M) (g := w.heap.size) (a := .int .i64 0) (b := .string (⟨#[]⟩ : ByteArray)) (c := .bool false) (.inr rfl) (fun _ h => .inl h)
  have hB3 := keep_three (g := w.heap.size) (a := .int .i64 0) (b := .string (⟨#[]⟩ : ByteArray)) (c := .bool false) ((hB1.set_ (fun h => nM (.inl h)) 1 (.string v)).set_ (fun h => nM (.inl h)) 3 (.bool true)) (fun h => by have := hml _ h; omega)
  have o0 := hO1.cell 0
  have o1 := hO1.cell 1
  have o2 := hO1.cell 2
  have of0 := hO1.frozen 0
  have of1 := hO1.frozen 1
  have of2 := hO1.frozen 2
  have hO3 := blk_three (a' := .int .i64 0) (b' := .string (⟨#[]⟩ : ByteArray)) (c' := .bool false) ((hO1.far (p := ⟨ad i, 1, none⟩) hne2 (.string v)).far (p := ⟨ad i, 3, none⟩) hne2 (.bool true))
  have HU := Lib.hid hU3
  have HB := Lib.hid hB3
  have HO := Lib.hid hO3
  clear hU1 hU2 hU3 hB1 hB3 h1 hA hB HT h2 h3 hO hO1 hO3 e
  go_wp2
  generalize hGen : ((((w1.setCell ⟨ad i, 1, none⟩ (.string v)).setCell ⟨ad i, 3, none⟩ (.bool true)).setCell ⟨w.heap.size, 0, none⟩ (.int .i64 0)).setCell ⟨w.heap.size, 1, none⟩ (.string (⟨#[]⟩ : ByteArray))).setCell ⟨w.heap.size, 2, none⟩ (.bool false) = W3 at HU HB HO ⊢
  clear hGen
  have q0 := HO.out.cell 0
  have q1 := HO.out.cell 1
  have q2 := HO.out.cell 2
  exact ⟨rfl, .tuple #[ouC (noOu (⟨#[]⟩ : ByteArray)), .bool true], by simp [results, Try.results11, go_sem, q0, q1, q2, ouC, noOu], rfl, ⟨fb, ad, HU.out⟩, HB.out⟩
/-- a new thing, laid in a frame -/
theorem RA.layNew {w : World} (h : RA w p fb ad M S) {i : Nat} (hi : i < S.N) (u : Thing) : RA ((w.alloc (.cells (thC u) 75)).setCell ⟨fb, i, none⟩ (.pointer (some ⟨w.heap.size, 0, none⟩))) p fb (fun k => if k = i then w.heap.size else ad k) M (putAt S i (some u)) := by
  have hA := h.below ((Below.refl _ _).alloc (Nat.le_refl _) (.cells (thC u) 75))
  obtain ⟨cs, r1, -, -⟩ := h.row
  refine hA.lay hi (Blk.new w _ _) ?_ ?_ ?_ ?_
  · have := h.blk.lt; omega
  · have := r1.lt; omega
  · intro hk; have := h.lt _ hk; omega
  · intro k t hk ht e
    have := (h.th k t hk ht).lt
    omega
set_option maxHeartbeats 1600000 in
theorem put_vac (k : Int) (v : ByteArray) (w : World) (h : RA w p fb ad M S) (hk : atS S k = none) {i : Nat} (hv : vacS S = some i) :
    Calls Try.prog 11 #[.pointer (some ⟨p, 0, none⟩), .int .i64 k, .string v] w (PutRes w p M (⟨#[]⟩ : ByteArray) S k v) := by
  have hr : putR (⟨#[]⟩ : ByteArray) S k v = (noOu (⟨#[]⟩ : ByteArray), true, putAt S i (some ⟨k, v, 0, true⟩)) := by unfold putR; rw [hk, hv]
  unfold PutRes
  rw [hr]
  obtain ⟨h2, -, -⟩ := fst_is hv
  have hN := h.wf.n2
  have hA := h.box (.cells #[.int .i64 0, .string (⟨#[]⟩ : ByteArray), .bool false] 31)
  have hB := (Keep.refl M w).alloc h.lt (.cells #[.int .i64 0, .string (⟨#[]⟩ : ByteArray), .bool false] 31)
  have hO := Blk.new w 31 #[.int .i64 0, .string (⟨#[]⟩ : ByteArray), .bool false]
  have hml := h.lt
  have HM1 := Lib.hid h.m1
  clear h hr
  go_enter Try.func11, Try.ntmps11
  go_wp2_with fail
  generalize hGen : w.alloc (.cells #[.int .i64 0, .string (⟨#[]⟩ : ByteArray), .bool false] 31) = W at hA hB hO ⊢
  clear hGen
  have HT := Lib.hid (thing_miss k W hA hk)
  refine HT.out.mono ?_
  rintro e w1 ⟨rfl, b1⟩
  have h1 := hA.below b1
  have hO1 := hO.below b1 hO.lt
  have hB1 := hB.trans (Keep.of_below b1 (fun k hk => hA.lt k (.inl hk)))
  have hV := vacant_any w1 h1
  rw [hv] at hV
  obtain ⟨c0, -, -⟩ := h1.get
  obtain ⟨V, fc⟩ : ∃ V, w1.cell? ⟨fb, i, none⟩ = some V := ⟨_, (h1.at_ h2).1⟩
  have fz := (h1.at_ h2).2
  have hne : ¬ fb = w.heap.size := fun e => h1.m1 (.inr e)
  have hne2 : ¬ w.heap.size = fb := fun e => h1.m1 (.inr e.symm)
  have hol := hO1.lt
  have o0 := hO1.cell 0
  have o1 := hO1.cell 1
  have o2 := hO1.cell 2
  have of0 := hO1.frozen 0
  have of1 := hO1.frozen 1
  have of2 := hO1.frozen 2
  have H1 := Lib.hid h1
  have HB1 := Lib.hid hB1
  have HO1 := Lib.hid hO1
  have HI := Lib.hid h2
  have HV := Lib.hid hV
  have hfl : fb < w1.heap.size := World.block_lt_of_cell? _ _ (h1.at_ h2).1
  clear hB1 h1 hA hB HT hO hO1 hV hv
  generalize S.N = N at c0 HV h2 hN
  go_wp2_with fail
  refine HV.out.mono ?_
  simp only [idx]
  rintro e w2 ⟨rfl, rfl⟩
  go_wp2
  have HU := (H1.out.layNew HI.out ⟨k, v, 0, true⟩).three (M' := M) (g := w.heap.size) (a := .int .i64 0) (b := .string (⟨#[]⟩ : ByteArray)) (c := .bool false) (.inr rfl) (fun _ h => .inl h)
  have HB := keep_three (g := w.heap.size) (a := .int .i64 0) (b := .string (⟨#[]⟩ : ByteArray)) (c := .bool false) ((HB1.out.alloc (fun k hk => H1.out.lt k (.inl hk)) (.cells (thC ⟨k, v, 0, true⟩) 75)).set_ HM1.out i (.pointer (some ⟨w1.heap.size, 0, none⟩))) (fun h => by have := hml _ h; omega)
  have HO := blk_three (a' := .int .i64 0) (b' := .string (⟨#[]⟩ : ByteArray)) (c' := .bool false) ((HO1.out.alloc (.cells (thC ⟨k, v, 0, true⟩) 75)).far (p := ⟨fb, i, none⟩) hne2 (.pointer (some ⟨w1.heap.size, 0, none⟩)))
  rw [World.setCell_alloc_past _ _ _ _ hfl, World.setCell_alloc_past _ _ _ _ (show w.heap.size < (w1.setCell _ _).heap.size by simpa using hol), World.setCell_alloc_past _ _ _ _ (show w.heap.size < ((w1.setCell _ _).setCell _ _).heap.size by simpa using hol), World.setCell_alloc_past _ _ _ _ (show w.heap.size < (((w1.setCell _ _).setCell _ _).setCell _ _).heap.size by simpa using hol)] at HU HB HO
  simp only [thC] at HU HB HO
  generalize hGen : ((((w1.setCell ⟨fb, i, none⟩ (.pointer (some ⟨w1.heap.size, 0, none⟩))).setCell ⟨w.heap.size, 0, none⟩ (.int .i64 0)).setCell ⟨w.heap.size, 1, none⟩ (.string (⟨#[]⟩ : ByteArray))).setCell ⟨w.heap.size, 2, none⟩ (.bool false)).alloc (.cells #[.int .i64 k, .string v, .int .i64 0, .bool true] 75) = W3 at HU HB HO ⊢
  clear hGen
  have q0 := HO.cell 0
  have q1 := HO.cell 1
  have q2 := HO.cell 2
  exact ⟨rfl, .tuple #[ouC (noOu (⟨#[]⟩ : ByteArray)), .bool true], by simp [results, Try.results11, go_sem, q0, q1, q2, ouC, noOu], rfl, ⟨fb, _, HU⟩, HB⟩
set_option maxHeartbeats 1600000 in
theorem put_full (k : Int) (v : ByteArray) (w : World) (h : RA w p fb ad M S) (hk : atS S k = none) (hv : vacS S = none) (hl : leaveS S = none) :
    Calls Try.prog 11 #[.pointer (some ⟨p, 0, none⟩), .int .i64 k, .string v] w (PutRes w p M (⟨#[]⟩ : ByteArray) S k v) := by
  have hr : putR (⟨#[]⟩ : ByteArray) S k v = (noOu (⟨#[]⟩ : ByteArray), false, S) := by unfold putR; rw [hk, hv, hl]
  unfold PutRes
  rw [hr]
  have ht := vac_taken hv
  have hA := h.box (.cells #[.int .i64 0, .string (⟨#[]⟩ : ByteArray), .bool false] 31)
  have hB := (Keep.refl M w).alloc h.lt (.cells #[.int .i64 0, .string (⟨#[]⟩ : ByteArray), .bool false] 31)
  have hO := Blk.new w 31 #[.int .i64 0, .string (⟨#[]⟩ : ByteArray), .bool false]
  clear h hr
  go_enter Try.func11, Try.ntmps11
  go_wp2_with fail
  generalize hGen : w.alloc (.cells #[.int .i64 0, .string (⟨#[]⟩ : ByteArray), .bool false] 31) = W at hA hB hO ⊢
  clear hGen
  have HT := Lib.hid (thing_miss k W hA hk)
  refine HT.out.mono ?_
  rintro e w1 ⟨rfl, b1⟩
  have h1 := hA.below b1
  have hO1 := hO.below b1 hO.lt
  have hB1 := hB.trans (Keep.of_below b1 (fun k hk => hA.lt k (.inl hk)))
  have hV := vacant_any w1 h1
  rw [hv] at hV
  have hC := contains_any w1 h1 ht
  rw [hl] at hC
  obtain ⟨c0, -, -⟩ := h1.get
  have H1 := Lib.hid h1
  have HO := Lib.hid hO1
  have HB := Lib.hid hB1
  have HV := Lib.hid hV
  have HC := Lib.hid hC
  clear h1 hA hB HT hO hO1 hB1 hV hv hC hl ht
  obtain ⟨N, hN⟩ : ∃ N, N = S.N := ⟨_, rfl⟩
  rw [← hN] at c0 HV HC
  clear hN
  go_wp2_with fail
  refine HV.out.mono ?_
  simp only [idx]
  rintro e w2 ⟨rfl, rfl⟩
  go_wp2_with fail
  refine HC.out.mono ?_
  simp only [Option.isSome_none]
  rintro e w2 ⟨rfl, b2⟩
  have hO2 := HO.out.below b2 HO.out.lt
  have q0 := hO2.cell 0
  have q1 := hO2.cell 1
  have q2 := hO2.cell 2
  clear hO2
  go_wp2
  exact ⟨rfl, .tuple #[ouC (noOu (⟨#[]⟩ : ByteArray)), .bool false], by simp [results, Try.results11, go_sem, q0, q1, q2, ouC, noOu], rfl, ⟨fb, ad, (H1.out.below b2).less (fun _ h => .inl h)⟩, HB.out.trans (Keep.of_below b2 (fun k hk => H1.out.lt k (.inl hk)))⟩
set_option maxHeartbeats 4000000 in
theorem put_turn (k : Int) (v : ByteArray) (w : World) (h : RA w p fb ad M S) (hk : atS S k = none) (hv : vacS S = none) {j : Nat} (hl : leaveS S = some j) :
    Calls Try.prog 11 #[.pointer (some ⟨p, 0, none⟩), .int .i64 k, .string v] w (PutRes w p M (⟨#[]⟩ : ByteArray) S k v) := by
  obtain ⟨n, hT⟩ := turns_some h.wf hv hl
  obtain ⟨l1, l2, l3, ⟨t, l4, -, -⟩, -⟩ := hT.leaves h.wf
  have hr : putR (⟨#[]⟩ : ByteArray) S k v = (⟨t.key, t.val, true⟩, true, putAt (turnS S).2 (turnS S).1 (some ⟨k, v, 0, true⟩)) := by unfold putR; rw [hk, hv, hl]; simp only; rw [l4]
  unfold PutRes
  rw [hr]
  generalize turnS S = R at hT l1 l2 l3 l4 ⊢
  obtain ⟨i, S2⟩ := R
  simp only at l1 l2 l3 l4 ⊢
  have ht := vac_taken hv
  have hN := h.wf.n2
  have hA := h.box (.cells #[.int .i64 0, .string (⟨#[]⟩ : ByteArray), .bool false] 31)
  have hB := (Keep.refl M w).alloc h.lt (.cells #[.int .i64 0, .string (⟨#[]⟩ : ByteArray), .bool false] 31)
  have hO := Blk.new w 31 #[.int .i64 0, .string (⟨#[]⟩ : ByteArray), .bool false]
  have hml := h.lt
  have HM1 := Lib.hid h.m1
  clear h hr
  go_enter Try.func11, Try.ntmps11
  go_wp2_with fail
  generalize hGen : w.alloc (.cells #[.int .i64 0, .string (⟨#[]⟩ : ByteArray), .bool false] 31) = W at hA hB hO ⊢
  clear hGen
  have HT := Lib.hid (thing_miss k W hA hk)
  refine HT.out.mono ?_
  rintro e w1 ⟨rfl, b1⟩
  have h1 := hA.below b1
  have hO1 := hO.below b1 hO.lt
  have hB1 := hB.trans (Keep.of_below b1 (fun k hk => hA.lt k (.inl hk)))
  have hV := vacant_any w1 h1
  rw [hv] at hV
  have hC := contains_any w1 h1 ht
  rw [hl] at hC
  obtain ⟨c0, -, -⟩ := h1.get
  have H1 := Lib.hid h1
  have HO1 := Lib.hid hO1
  have HB := Lib.hid hB1
  have HV := Lib.hid hV
  have HC := Lib.hid hC
  have HTU := Lib.hid hT
  clear h1 hA hB HT hO hO1 hB1 hV hv hC hl ht hT
  obtain ⟨N, hN2⟩ : ∃ N, N = S.N := ⟨_, rfl⟩
  rw [← hN2] at c0 HV HC hN l2 l3
  clear hN2
  go_wp2_with fail
  refine HV.out.mono ?_
  simp only [idx]
  rintro e w2 ⟨rfl, rfl⟩
  go_wp2_with fail
  refine HC.out.mono ?_
  simp only [Option.isSome_some]
  rintro e w2 ⟨rfl, b2⟩
  have HTT := Lib.hid (turn_any n (i, S2) w2 (H1.out.below b2) HTU.out)
  have HO2 := Lib.hid (HO1.out.below b2 HO1.out.lt)
  have HB2 := Lib.hid (HB.out.trans (Keep.of_below b2 (fun k hk => H1.out.lt k (.inl hk))))
  clear c0 HO1 HB HV HC HTU
  go_wp2_with fail
  refine HTT.out.mono ?_
  rintro e w3 ⟨rfl, h3, k3⟩
  have hO3 := k3.blk HO2.out (.inr rfl)
  have hB3 := HB2.out.trans (k3.mono (fun _ h => .inl h))
  clear HTT HO2 HB2 b2 b1 H1 k3
  have h3d := h3.below ((Below.refl _ _).drew)
  have hO3d := hO3.drew 1
  have hB3d : Keep M w w3.drew := hB3.drewN 1
  have hO3e : Blk w3.drew w.heap.size 31 #[.int .i64 0, .string (⟨#[]⟩ : ByteArray), .bool false] := hO3d
  rw [← l2] at l3 hN
  obtain ⟨c0, -, -⟩ := h3.get
  obtain ⟨d0, d1, d2, -, -, -, -, -⟩ := h3.on l3 l4
  have HL := Lib.hid l3
  have H3d := Lib.hid h3d
  have HO3e := Lib.hid hO3e
  have HB3d := Lib.hid hB3d
  clear h3 hO3 hB3 hO3d h3d hO3e hB3d
  obtain ⟨N4, hN4⟩ : ∃ N4, N4 = S2.N := ⟨_, rfl⟩
  rw [← hN4] at c0 l3 hN
  clear hN4
  go_upto_region 10 with (fail)
  go_still_tail 21, (by kernel_rfl)
  clear c0 d0 d1 d2
  have h3d := H3d.out
  have hO3e := HO3e.out
  have hB3d := HB3d.out
  clear H3d HO3e HB3d
  change wpList _ _ _ _ _ w3.drew
  generalize hGen : w3.drew = V at h3d hO3e hB3d ⊢
  clear hGen
  obtain ⟨c0, -, -⟩ := h3d.get
  obtain ⟨d0, d1, d2, -, -, -, -, -⟩ := h3d.on HL.out l4
  have o0 := hO3e.cell 0
  have o1 := hO3e.cell 1
  have o2 := hO3e.cell 2
  have of0 := hO3e.frozen 0
  have of1 := hO3e.frozen 1
  have of2 := hO3e.frozen 2
  have HX := Lib.hid h3d
  have HY := Lib.hid hO3e
  have HZ := Lib.hid hB3d
  clear h3d hO3e hB3d
  obtain ⟨N4, hN4⟩ : ∃ N4, N4 = S2.N := ⟨_, rfl⟩
  have l3 := HL.out
  have hN : N4 ≤ 64 := by rw [hN4]; exact l1.n2
  rw [← hN4] at c0 l3
  clear hN4
  go_upto_region 11 with (fail)
  have h4 := HX.out.three (M' := fun k => M k ∨ k = w.heap.size) (g := w.heap.size) (a := .int .i64 t.key) (b := .string t.val) (c := .bool true) (.inr rfl) (fun _ h => h)
  have hO4 := blk_three (a' := .int .i64 t.key) (b' := .string t.val) (c' := .bool true) HY.out
  have hB4 := keep_three (g := w.heap.size) (a := .int .i64 t.key) (b := .string t.val) (c := .bool true) HZ.out (fun h => by have := hml _ h; omega)
  clear HX HY HZ o0 o1 o2 of0 of1 of2 c0 d0 d1 d2
  generalize hGen : ((V.setCell ⟨w.heap.size, 0, none⟩ (.int .i64 t.key)).setCell ⟨w.heap.size, 1, none⟩ (.string t.val)).setCell ⟨w.heap.size, 2, none⟩ (.bool true) = w1 at h4 hO4 hB4 ⊢
  clear hGen
  obtain ⟨c0, -, -⟩ := h4.get
  obtain ⟨V2, fc⟩ : ∃ V, w1.cell? ⟨fb, i, none⟩ = some V := ⟨_, (h4.at_ HL.out).1⟩
  have fz := (h4.at_ HL.out).2
  have hne : ¬ fb = w.heap.size := fun e => h4.m1 (.inr e)
  have hne2 : ¬ w.heap.size = fb := fun e => h4.m1 (.inr e.symm)
  have hol := hO4.lt
  have hfl : fb < w1.heap.size := World.block_lt_of_cell? _ _ fc
  have o0 := hO4.cell 0
  have o1 := hO4.cell 1
  have o2 := hO4.cell 2
  have of0 := hO4.frozen 0
  have of1 := hO4.frozen 1
  have of2 := hO4.frozen 2
  have H1 := Lib.hid h4
  have HO1 := Lib.hid hO4
  have HB1 := Lib.hid hB4
  obtain ⟨N5, hN5⟩ : ∃ N5, N5 = S2.N := ⟨_, rfl⟩
  have l3 := HL.out
  have hN : N5 ≤ 64 := by rw [hN5]; exact l1.n2
  rw [← hN5] at c0 l3
  clear hN5 h4 hO4 hB4
  go_wp2
  have HU := (H1.out.layNew HL.out ⟨k, v, 0, true⟩).three (M' := M) (g := w.heap.size) (a := .int .i64 t.key) (b := .string t.val) (c := .bool true) (.inr rfl) (fun _ h => .inl h)
  have HB := keep_three (g := w.heap.size) (a := .int .i64 t.key) (b := .string t.val) (c := .bool true) ((HB1.out.alloc (fun k hk => H1.out.lt k (.inl hk)) (.cells (thC ⟨k, v, 0, true⟩) 75)).set_ HM1.out i (.pointer (some ⟨w1.heap.size, 0, none⟩))) (fun h => by have := hml _ h; omega)
  have HO := blk_three (a' := .int .i64 t.key) (b' := .string t.val) (c' := .bool true) ((HO1.out.alloc (.cells (thC ⟨k, v, 0, true⟩) 75)).far (p := ⟨fb, i, none⟩) hne2 (.pointer (some ⟨w1.heap.size, 0, none⟩)))
  rw [World.setCell_alloc_past _ _ _ _ hfl, World.setCell_alloc_past _ _ _ _ (show w.heap.size < (w1.setCell _ _).heap.size by simpa using hol), World.setCell_alloc_past _ _ _ _ (show w.heap.size < ((w1.setCell _ _).setCell _ _).heap.size by simpa using hol), World.setCell_alloc_past _ _ _ _ (show w.heap.size < (((w1.setCell _ _).setCell _ _).setCell _ _).heap.size by simpa using hol)] at HU HB HO
  simp only [thC] at HU HB HO
  generalize hGen : ((((w1.setCell ⟨fb, i, none⟩ (.pointer (some ⟨w1.heap.size, 0, none⟩))).setCell ⟨w.heap.size, 0, none⟩ (.int .i64 t.key)).setCell ⟨w.heap.size, 1, none⟩ (.string t.val)).setCell ⟨w.heap.size, 2, none⟩ (.bool true)).alloc (.cells #[.int .i64 k, .string v, .int .i64 0, .bool true] 75) = W3 at HU HB HO ⊢
  clear hGen
  have q0 := HO.cell 0
  have q1 := HO.cell 1
  have q2 := HO.cell 2
  exact ⟨rfl, .tuple #[ouC ⟨t.key, t.val, true⟩, .bool true], by simp [results, Try.results11, go_sem, q0, q1, q2, ouC], rfl, ⟨fb, _, HU⟩, HB⟩
theorem put_any (k : Int) (v : ByteArray) (w : World) (h : RQ w p M S) :
    Calls Try.prog 11 #[.pointer (some ⟨p, 0, none⟩), .int .i64 k, .string v] w (PutRes w p M (⟨#[]⟩ : ByteArray) S k v) := by
  obtain ⟨fb, ad, h⟩ := h
  cases hk : atS S k with
  | some x => exact put_hit k v w h (i := x.1) (t := x.2) hk
  | none =>
    cases hv : vacS S with
    | some i => exact put_vac k v w h hk hv
    | none =>
      cases hl : leaveS S with
      | none => exact put_full k v w h hk hv hl
      | some j => exact put_turn k v w h hk hv hl
end
end Go.Proofs.Ytdpaeffhddehaaa.RingS
