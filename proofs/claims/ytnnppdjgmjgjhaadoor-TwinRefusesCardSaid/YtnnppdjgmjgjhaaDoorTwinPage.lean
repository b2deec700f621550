/- The walks of pageOf, look, copyOf: what a store reads. -/
import Derived.Test.YtnnppdjgmjgjhaaDoorTwinLeaf
namespace Go.Proofs.YtnnppdjgmjgjhaaDoor.Twin
set_option maxRecDepth 100000
open Go.RowKit Go.Sort
open Go.Proofs.YtnnppdjgmjgjhaaDoor.Mem
open Go.Proofs.YtnnppdjgmjgjhaaDoor.Plate

/-- a page and a bool are handed back, in new memory -/
def PageB (l : Int) (z : List Slab.Slot) (ok : Bool) (w : World) (e : Ending) (w' : World) : Prop :=
  ∃ a n c, e = .returned (.tuple #[.agg #[.int .i64 l, .slice a n c], .bool ok]) ∧ Slab.Slots w' a n z ∧ Below w.heap.size w w' ∧ ∀ b off e, a = some ⟨b, off, e⟩ → w.heap.size ≤ b
theorem sufB_iff (b : ByteArray) (n : Nat) : sufB b (tailB n) = Lib.hasSuffix b.data.toList (tailL n) := by
  unfold sufB tailB
  simp
theorem tailB_size (n : Nat) : (tailB n).size = 16 := rfl
theorem image_of (b : ByteArray) : (b.extract 0 (b.size - 16)).data.toList = b.data.toList.take (b.size - 16) := by
  rw [Lib.extract_data]
  simp
theorem dec_code (t : List UInt8) : ((Slab.decR t).2.2 == 0) = decide ((Slab.decR t).2.2 = 0) := by
  cases h : decide ((Slab.decR t).2.2 = 0)
  · simpa using h
  · simpa using h
theorem page_store {w : World} {g : Nat} {T : TypeId} {x y : Value} (h : Blk w g T #[x, y]) (u v : Value) :
    (w.cell? ⟨g, 0, none⟩ = some x ∧ w.cell? ⟨g, 1, none⟩ = some y ∧ w.frozen? ⟨g, 0, none⟩ = false ∧ w.frozen? ⟨g, 1, none⟩ = false) ∧
    ((w.setCell ⟨g, 0, none⟩ u).cell? ⟨g, 0, none⟩ = some u ∧ (w.setCell ⟨g, 0, none⟩ u).cell? ⟨g, 1, none⟩ = some y ∧ (w.setCell ⟨g, 0, none⟩ u).frozen? ⟨g, 1, none⟩ = false) ∧
    (((w.setCell ⟨g, 0, none⟩ u).setCell ⟨g, 1, none⟩ v).cell? ⟨g, 0, none⟩ = some u ∧ ((w.setCell ⟨g, 0, none⟩ u).setCell ⟨g, 1, none⟩ v).cell? ⟨g, 1, none⟩ = some v ∧
      ((w.setCell ⟨g, 0, none⟩ u).setCell ⟨g, 1, none⟩ v).frozen? ⟨g, 0, none⟩ = false ∧ ((w.setCell ⟨g, 0, none⟩ u).setCell ⟨g, 1, none⟩ v).frozen? ⟨g, 1, none⟩ = false) ∧
    Blk ((w.setCell ⟨g, 0, none⟩ u).setCell ⟨g, 1, none⟩ v) g T #[u, v] := by
  have k := h.set_ 0 u
  have k2 := k.set_ 1 v
  exact ⟨⟨h.cell 0, h.cell 1, h.frozen 0, h.frozen 1⟩, ⟨k.cell 0, k.cell 1, k.frozen 1⟩, ⟨k2.cell 0, k2.cell 1, k2.frozen 0, k2.frozen 1⟩, k2⟩
/-- slots lie in memory that a store into an older block leaves alone -/
theorem slots_far {w w' : World} {a : Option Addr} {m : Nat} {z : List Slab.Slot} {g B : Nat} (hS : Slab.Slots w a m z) (hnew : ∀ b off e, a = some ⟨b, off, e⟩ → B ≤ b) (hg : g < B) (hW : ∀ k, k ≠ g → w'.heap[k]? = w.heap[k]?) (hl : w.heap.size ≤ w'.heap.size) : Slab.Slots w' a m z := by
  obtain ⟨h1, h2, h3⟩ := hS
  refine ⟨h1, h2, fun hm => ?_⟩
  obtain ⟨bb, off, ha, hlb, hc⟩ := h3 hm
  have hne : bb ≠ g := by have := hnew bb off none ha; omega
  have hbk := hW bb hne
  refine ⟨bb, off, ha, by omega, fun i hi => ?_⟩
  obtain ⟨c1, c2⟩ := hc i hi
  exact ⟨(World.cell?_of_block (w := w) (w' := w') (a := ⟨bb, off + i * 2, none⟩) hbk).trans c1, (World.cell?_of_block (w := w) (w' := w') (a := ⟨bb, off + i * 2 + 1, none⟩) hbk).trans c2⟩
theorem far_set (w : World) (g i : Nat) (v : Value) : ∀ k, k ≠ g → (w.setCell ⟨g, i, none⟩ v).heap[k]? = w.heap[k]? := fun k hk => Below.heap_setCell w ⟨g, i, none⟩ v k (fun e => hk e)
theorem slots_set {w : World} {a : Option Addr} {m : Nat} {z : List Slab.Slot} {g B : Nat} (hS : Slab.Slots w a m z) (hnew : ∀ b off e, a = some ⟨b, off, e⟩ → B ≤ b) (hg : g < B) (i : Nat) (v : Value) : Slab.Slots (w.setCell ⟨g, i, none⟩ v) a m z := slots_far hS hnew hg (far_set w g i v) (by simp)
set_option maxHeartbeats 1000000 in
theorem pageOf_any (b : ByteArray) (n : Nat) (w : World) (hb : b.size ≤ 140737488351232) (hn : n ≤ 65535) :
    Calls Tryd.prog 55 #[.string b, .int .i64 (n : Int)] w (PageB (pageR b n).1 (pageR b n).2.1 (pageR b n).2.2 w) := by
  have hb0 : Below w.heap.size w (w.alloc (.cells #[.int .i64 0, .slice none 0 0] 41)) := (Below.refl _ _).alloc (Nat.le_refl _) _
  have hB := Blk.new w 41 #[.int .i64 0, .slice none 0 0]
  have hlt : w.heap.size < (w.alloc (.cells #[.int .i64 0, .slice none 0 0] 41)).heap.size := by simp
  have hT := tail_any n (w.alloc (.cells #[.int .i64 0, .slice none 0 0] 41)) hn
  have hC := fun W => cut_any b (tailB n) W hb (by rw [tailB_size]; decide)
  rw [tailB_size] at hC
  have hsf := sufB_iff b n
  have hpg : pageR b n = if sufB b (tailB n) then ((Slab.decR (b.data.toList.take (b.size - 16))).1, (Slab.decR (b.data.toList.take (b.size - 16))).2.1, decide ((Slab.decR (b.data.toList.take (b.size - 16))).2.2 = 0)) else (0, [], false) := by rw [hsf]; rfl
  rw [hpg]
  clear hpg hsf
  cases hs : sufB b (tailB n) with
  | true =>
    rw [hs] at hC
    simp only [if_true] at hC ⊢
    have hD := fun W => Slab.decode_any (b.extract 0 (b.size - 16)) W
    rw [image_of] at hD
    have hdc := dec_code (b.data.toList.take (b.size - 16))
    generalize Slab.decR (b.data.toList.take (b.size - 16)) = R at hD hdc ⊢
    obtain ⟨l, z, code⟩ := R
    generalize b.extract 0 (b.size - 16) = im at hC hD
    generalize tailB n = T at hT hC
    simp only at hD hdc
    rw [← hdc]
    have HT := Lib.hid hT
    have HC := Lib.hid hC
    have HD := Lib.hid hD
    clear hT hC hD hdc hs
    go_enter Tryd.func55, Tryd.ntmps55
    go_wp2_with fail
    refine HT.out.mono ?_
    rintro e w1 ⟨rfl, b1⟩
    have B1 := hb0.trans (b1.mono hb0.size)
    have hB1 := hB.below b1 hlt
    clear b1
    go_wp2_with fail
    refine (HC.out _).mono ?_
    rintro e w2 ⟨rfl, b2⟩
    have B2 := B1.trans (b2.mono B1.size)
    have hB2 := hB1.below b2 hB1.lt
    clear b2 hB hB1
    go_wp2_with fail
    refine (HD.out _).mono ?_
    rintro e w3 ⟨a, m, c, rfl, hS, b3, hnew⟩
    have B3 := B2.trans (b3.mono B2.size)
    have hB3 := hB2.below b3 hB2.lt
    have hwl : w.heap.size < w2.heap.size := hB2.lt
    obtain ⟨⟨s0, s1, s2, s3⟩, ⟨s4, s5, s6⟩, ⟨s7, s8, s9, s10⟩, hB4⟩ := page_store hB3 (.int .i64 l) (.slice a m c)
    obtain ⟨-, ⟨t4, t5, t6⟩, ⟨t7, t8, t9, t10⟩, -⟩ := page_store hB4 (.int .i64 l) (.slice a m c)
    have HS := Lib.hid hS
    have HN := Lib.hid hnew
    have HB := Lib.hid B3
    have HW := Lib.hid hwl
    clear hS hnew b3 hB2 B1 B2 B3 hB3 hB4 hb0 hlt hwl
    go_wp2
    refine bodyPost_ret (v := .tuple #[.agg #[.int .i64 l, .slice a m c], .bool (code == 0)]) (by simp [results, Tryd.results55, go_sem, t7, t8]) rfl ⟨a, m, c, rfl, ?_, ?_, fun b off e h => by have := HN.out b off e h; have := HW.out; omega⟩
    · exact slots_set (slots_set (slots_set (slots_set HS.out HN.out HW.out _ _) HN.out HW.out _ _) HN.out HW.out _ _) HN.out HW.out _ _
    · exact (((HB.out.setCell (p := ⟨w.heap.size, 0, none⟩) (Nat.le_refl _) _).setCell (p := ⟨w.heap.size, 1, none⟩) (Nat.le_refl _) _).setCell (p := ⟨w.heap.size, 0, none⟩) (Nat.le_refl _) _).setCell (p := ⟨w.heap.size, 1, none⟩) (Nat.le_refl _) _
  | false =>
    rw [hs] at hC
    simp only [Bool.false_eq_true, if_false] at hC ⊢
    generalize tailB n = T at hT hC
    have HT := Lib.hid hT
    have HC := Lib.hid hC
    clear hT hC hs
    go_enter Tryd.func55, Tryd.ntmps55
    go_wp2_with fail
    refine HT.out.mono ?_
    rintro e w1 ⟨rfl, b1⟩
    have B1 := hb0.trans (b1.mono hb0.size)
    have hB1 := hB.below b1 hlt
    clear b1
    go_wp2_with fail
    refine (HC.out _).mono ?_
    rintro e w2 ⟨rfl, b2⟩
    have B2 := B1.trans (b2.mono B1.size)
    have hB2 := hB1.below b2 hB1.lt
    have q0 := hB2.cell 0
    have q1 := hB2.cell 1
    simp at q0 q1
    go_wp2
    exact bodyPost_ret (v := .tuple #[.agg #[.int .i64 0, .slice none 0 0], .bool false]) (by simp [results, Tryd.results55, go_sem, q0, q1]) rfl ⟨none, 0, 0, rfl, Slab.Slots.nil _ _, B2, fun _ _ _ e => by cases e⟩
end Go.Proofs.YtnnppdjgmjgjhaaDoor.Twin
