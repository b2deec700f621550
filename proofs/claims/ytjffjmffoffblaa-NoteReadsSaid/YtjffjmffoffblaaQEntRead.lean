/- The walks of the reader: went, number, data, slot. -/
import Derived.Test.YtjffjmffoffblaaQEntFields
namespace Go.Proofs.Ytjffjmffoffblaa.Ent
set_option maxRecDepth 100000
open Go.RowKit
open Go.Proofs.Ytjffjmffoffblaa.Slab (Blk)
open Go.Proofs.Ytjffjmffoffblaa.Nib (below_next below_drew takeInt takeStr takeVal takeStrVal)

/-- nothing but block b is other than it was, and what is new -/
def Only (b : Nat) (w w' : World) : Prop := w'.os = w.os ∧ w'.tape = w.tape ∧ w'.output = w.output ∧ w.heap.size ≤ w'.heap.size ∧ ∀ k, k < w.heap.size → k ≠ b → w'.heap[k]? = w.heap[k]?
section
variable {b : Nat} {w w' w'' : World}
theorem Only.refl (b : Nat) (w : World) : Only b w w := ⟨rfl, rfl, rfl, Nat.le_refl _, fun _ _ _ => rfl⟩
theorem Only.trans (h : Only b w w') (h' : Only b w' w'') : Only b w w'' :=
  ⟨h'.1.trans h.1, h'.2.1.trans h.2.1, h'.2.2.1.trans h.2.2.1, Nat.le_trans h.2.2.2.1 h'.2.2.2.1, fun k hk hn => (h'.2.2.2.2 k (Nat.lt_of_lt_of_le hk h.2.2.2.1) hn).trans (h.2.2.2.2 k hk hn)⟩
theorem Only.drewN (h : Only b w w') (q : Nat) : Only b w (w'.drewN q) := h
theorem Only.set_ (h : Only b w w') (i : Nat) (v : Value) : Only b w (w'.setCell ⟨b, i, none⟩ v) :=
  h.trans ⟨rfl, rfl, rfl, by simp, fun k _ hn => Below.heap_setCell w' ⟨b, i, none⟩ v k hn⟩
theorem Only.below (h : Only b w w') {B : Nat} (hb : B ≤ b) (hB : B ≤ w.heap.size) : Below B w w' :=
  ⟨h.1, h.2.1, h.2.2.1, h.2.2.2.1, fun k hk => h.2.2.2.2 k (Nat.lt_of_lt_of_le hk hB) (by omega)⟩
theorem Only.blk (h : Only b w w') {g : Nat} {t : TypeId} {cs : Array Value} (hg : Blk w g t cs) (hn : g ≠ b) : Blk w' g t cs := (h.2.2.2.2 g hg.lt hn).trans hg
theorem Only.of_below (h : Below w.heap.size w w') : Only b w w' := ⟨h.os, h.tape, h.output, h.size, fun k hk _ => h.block k hk⟩
theorem Only.prow (h : Only b w w') {g : Nat} {vs : List Value} (hp : PRow w g vs) (hn : g ≠ b) : PRow w' g vs := hp.same (h.2.2.2.2 g hp.lt hn)
theorem Only.size (h : Only b w w') : w.heap.size ≤ w'.heap.size := h.2.2.2.1
end
/-- a reader in memory -/
def Rd (w : World) (b : Nat) (s : ByteArray) (wr : Bool) : Prop := Blk w b 118 #[.string s, .bool wr]
theorem Rd.get {w : World} {b : Nat} {s : ByteArray} {wr : Bool} (h : Rd w b s wr) : w.cell? ⟨b, 0, none⟩ = some (.string s) ∧ w.cell? ⟨b, 1, none⟩ = some (.bool wr) ∧ w.frozen? ⟨b, 0, none⟩ = false ∧ w.frozen? ⟨b, 1, none⟩ = false :=
  ⟨Blk.cell h 0, Blk.cell h 1, Blk.frozen h 0, Blk.frozen h 1⟩
theorem Rd.set2 {w : World} {b : Nat} {s r : ByteArray} {wr k : Bool} (h : Rd w b s wr) : Rd ((w.setCell ⟨b, 0, none⟩ (.string r)).setCell ⟨b, 1, none⟩ (.bool k)) b r k := by
  have := (Slab.Blk.set_ (Slab.Blk.set_ h 0 (.string r)) 1 (.bool k))
  simpa [Rd] using this

theorem Rd.drewN {w : World} {b : Nat} {s : ByteArray} {wr : Bool} (h : Rd w b s wr) (q : Nat) : Rd (w.drewN q) b s wr := h
theorem Rd.far {w : World} {b : Nat} {s : ByteArray} {wr : Bool} (h : Rd w b s wr) {g : Nat} (hg : b ≠ g) (i : Nat) (v : Value) : Rd (w.setCell ⟨g, i, none⟩ v) b s wr := Slab.Blk.far h hg v
theorem Only.setNew {b : Nat} {w w' : World} (h : Only b w w') {g : Nat} (hg : w.heap.size ≤ g) (i : Nat) (v : Value) : Only b w (w'.setCell ⟨g, i, none⟩ v) :=
  ⟨h.1, h.2.1, h.2.2.1, by simpa using h.2.2.2.1, fun k hk hn => (Below.heap_setCell w' ⟨g, i, none⟩ v k (show k ≠ g by omega)).trans (h.2.2.2.2 k hk hn)⟩

set_option maxRecDepth 100000 in
theorem went_any (b : Nat) (s r : ByteArray) (wr ok : Bool) (w : World) (h : Rd w b s wr) :
    Calls Try.prog 86 #[.pointer (some ⟨b, 0, none⟩), .string r, .bool ok] w fun e w' => e = .returned (.tuple #[]) ∧ Rd w' b r (wr || !ok) ∧ Only b w w' := by
  have H := Lib.hid h
  obtain ⟨c0, c1, f0, f1⟩ := h.get
  clear h
  cases wr <;> cases ok
  all_goals
    go_enter Try.func86, Try.ntmps86
    go_wp2
    go_end0
    exact ⟨rfl, H.out.set2, ((Only.refl _ _).set_ _ _).set_ _ _⟩

theorem arr_take (s : ByteArray) : takeVal s.data.toList = .tuple #[.int .i64 (takeInt s.data.toList).1, .string (arr (takeInt s.data.toList).2.1), .bool (takeInt s.data.toList).2.2] := rfl
theorem arr_takeStr (s : ByteArray) (m : Int) : takeStrVal s.data.toList m = .tuple #[.string (arr (takeStr s.data.toList m).1), .string (arr (takeStr s.data.toList m).2.1), .bool (takeStr s.data.toList m).2.2] := rfl

set_option maxRecDepth 100000 in
theorem number_any (b : Nat) (s : ByteArray) (wr : Bool) (w : World) (h : Rd w b s wr) (hs : s.size ≤ 9223372036854775807) :
    Calls Try.prog 74 #[.pointer (some ⟨b, 0, none⟩)] w fun e w' => e = .returned (.int .i64 (takeInt s.data.toList).1) ∧ Rd w' b (arr (takeInt s.data.toList).2.1) (wr || !(takeInt s.data.toList).2.2) ∧ Only b w w' := by
  have H := Lib.hid h
  obtain ⟨c0, c1, f0, f1⟩ := h.get
  clear h
  have hT := fun w => Nib.takeInt_any s w hs
  rw [arr_take] at hT
  generalize (takeInt s.data.toList).1 = n at hT ⊢
  generalize (takeInt s.data.toList).2.2 = ok at hT ⊢
  generalize arr (takeInt s.data.toList).2.1 = r at hT ⊢
  have HT := Lib.hid hT
  clear hT
  go_enter Try.func74, Try.ntmps74
  go_wp2_with fail
  refine (HT.out _).mono ?_
  rintro e w1 ⟨rfl, q, rfl⟩
  go_wp2_with fail
  refine (went_any b s r wr ok (w.drewN q) (Rd.drewN H.out q)).mono ?_
  rintro e w2 ⟨rfl, h2, o2⟩
  go_wp2
  go_ret
  exact ⟨rfl, h2, ((Only.refl b w).drewN q).trans o2⟩
set_option maxRecDepth 100000 in
theorem data_any (b : Nat) (s : ByteArray) (wr : Bool) (w : World) (h : Rd w b s wr) (hs : s.size ≤ 9223372036854775807) :
    Calls Try.prog 87 #[.pointer (some ⟨b, 0, none⟩)] w fun e w' => e = .returned (.string (arr (takeStr s.data.toList 200).1)) ∧ Rd w' b (arr (takeStr s.data.toList 200).2.1) (wr || !(takeStr s.data.toList 200).2.2) ∧ Only b w w' := by
  have H := Lib.hid h
  obtain ⟨c0, c1, f0, f1⟩ := h.get
  clear h
  have hT := fun w => Nib.takeStr_any s 200 w hs
  rw [arr_takeStr] at hT
  generalize arr (takeStr s.data.toList 200).1 = n at hT ⊢
  generalize (takeStr s.data.toList 200).2.2 = ok at hT ⊢
  generalize arr (takeStr s.data.toList 200).2.1 = r at hT ⊢
  have HT := Lib.hid hT
  clear hT
  go_enter Try.func87, Try.ntmps87
  go_wp2_with fail
  refine (HT.out _).mono ?_
  rintro e w1 ⟨rfl, q, rfl⟩
  go_wp2_with fail
  refine (went_any b s r wr ok (w.drewN q) (Rd.drewN H.out q)).mono ?_
  rintro e w2 ⟨rfl, h2, o2⟩
  go_wp2
  go_ret
  exact ⟨rfl, h2, ((Only.refl b w).drewN q).trans o2⟩

theorem slotR_zero {s : List UInt8} (h : (takeInt s).1 = 0) : slotR s = (false, [], (takeInt s).2.1, (takeInt s).2.2) := by unfold slotR; rw [if_pos h]
theorem slotR_one {s : List UInt8} (h : (takeInt s).1 = 1) : slotR s = (true, (takeStr (takeInt s).2.1 200).1, (takeStr (takeInt s).2.1 200).2.1, (takeInt s).2.2 && (takeStr (takeInt s).2.1 200).2.2) := by
  unfold slotR; rw [if_neg (by omega), if_pos h]
theorem slotR_else {s : List UInt8} (h0 : ¬ (takeInt s).1 = 0) (h1 : ¬ (takeInt s).1 = 1) : slotR s = (false, [], (takeInt s).2.1, false) := by
  unfold slotR; rw [if_neg h0, if_neg h1]
theorem Rd.lt {w : World} {b : Nat} {s : ByteArray} {wr : Bool} (h : Rd w b s wr) : b < w.heap.size := Blk.lt h
theorem Rd.alloc {w : World} {b : Nat} {s : ByteArray} {wr : Bool} (h : Rd w b s wr) (o : Obj) : Rd (w.alloc o) b s wr := Blk.alloc h o
theorem arr_nil : arr [] = ⟨#[]⟩ := rfl
theorem or_not_and (a b c : Bool) : ((a || !b) || !c) = (a || !(b && c)) := by cases a <;> cases b <;> cases c <;> rfl

set_option maxRecDepth 100000 in
set_option maxHeartbeats 800000 in
theorem slot_any (b : Nat) (s : ByteArray) (wr : Bool) (w : World) (h : Rd w b s wr) (hs : s.size ≤ 9223372036854775807) :
    Calls Try.prog 76 #[.pointer (some ⟨b, 0, none⟩)] w fun e w' => e = .returned (.agg #[.bool (slotR s.data.toList).1, .string (arr (slotR s.data.toList).2.1)]) ∧ Rd w' b (arr (slotR s.data.toList).2.2.1) (wr || !(slotR s.data.toList).2.2.2) ∧ Only b w w' := by
  have hne : w.heap.size ≠ b := Nat.ne_of_gt h.lt
  have H := Lib.hid (h.alloc (.cells #[.bool false, .string ⟨#[]⟩] 54))
  have hBX := Blk.new w 54 #[.bool false, .string ⟨#[]⟩]
  have O0 := Lib.hid (Only.of_below (b := b) (below_box w (.cells #[.bool false, .string ⟨#[]⟩] 54)))
  have hlt := h.lt
  clear h
  by_cases h0 : (takeInt s.data.toList).1 = 0
  · rw [slotR_zero h0]
    have H0 := Lib.hid h0
    clear h0
    go_enter Try.func76, Try.ntmps76
    go_wp2_with fail
    generalize hGen : w.alloc (.cells #[.bool false, .string ⟨#[]⟩] 54) = W at H hBX O0 ⊢
    clear hGen
    have HX := Lib.hid hBX
    clear hBX
    refine (number_any b s wr _ H.out hs).mono ?_
    rw [H0.out]
    rintro e w1 ⟨rfl, h1, o1⟩
    have hX := o1.blk HX.out hne
    have g0 := Blk.frozen hX 0
    have g1 := Blk.frozen hX 1
    have d0 := Blk.cell hX 0
    have d1 := Blk.cell hX 1
    go_wp2
    refine bodyPost_ret (v := .agg #[.bool false, .string ⟨#[]⟩]) (by simp [results, Try.results76, go_sem, d0, d1]) rfl ?_
    exact ⟨rfl, (h1.far (Ne.symm hne) _ _).far (Ne.symm hne) _ _, ((O0.out.trans o1).setNew (Nat.le_refl _) _ _).setNew (Nat.le_refl _) _ _⟩
  · by_cases h1 : (takeInt s.data.toList).1 = 1
    · rw [slotR_one h1]
      have H0 := Lib.hid h1
      have hl : (arr (takeInt s.data.toList).2.1).size ≤ 9223372036854775807 := by have := Nib.takeInt_len s.data.toList; rw [arr_size]; have h2 : s.data.toList.length = s.size := by simp
                                                                                   omega
      have hN := fun w h => number_any b s wr w h hs
      have hD := fun w wr h => data_any b (arr (takeInt s.data.toList).2.1) wr w h hl
      simp only [arr_list] at hD
      generalize arr (takeStr (takeInt s.data.toList).2.1 200).1 = D at hD ⊢
      generalize (takeStr (takeInt s.data.toList).2.1 200).2.2 = k2 at hD ⊢
      generalize arr (takeStr (takeInt s.data.toList).2.1 200).2.1 = R at hD ⊢
      generalize (takeInt s.data.toList).2.2 = k1 at hN ⊢
      generalize arr (takeInt s.data.toList).2.1 = R1 at hN hD
      rw [← or_not_and]
      have HN := Lib.hid hN
      have HD := Lib.hid hD
      clear h0 h1 hN hD hl
      go_enter Try.func76, Try.ntmps76
      go_wp2_with fail
      generalize hGen : w.alloc (.cells #[.bool false, .string ⟨#[]⟩] 54) = W at H hBX O0 ⊢
      clear hGen
      have HX := Lib.hid hBX
      clear hBX
      refine (HN.out _ H.out).mono ?_
      rw [H0.out]
      rintro e w1 ⟨rfl, h1, o1⟩
      have hX := Lib.hid (o1.blk HX.out hne)
      have H1 := Lib.hid h1
      clear h1
      go_wp2_with fail
      refine (HD.out _ _ H1.out).mono ?_
      rintro e w2 ⟨rfl, h2, o2⟩
      have hX2 := o2.blk hX.out hne
      have g0 := Blk.frozen hX2 0
      have g1 := Blk.frozen hX2 1
      have d0 := Blk.cell hX2 0
      have d1 := Blk.cell hX2 1
      have O3 := Lib.hid ((O0.out.trans o1).trans o2)
      have H2 := Lib.hid h2
      clear h2 o2 o1 hX2
      go_wp2
      refine bodyPost_ret (v := .agg #[.bool true, .string D]) (by simp [results, Try.results76, go_sem, d0, d1]) rfl ?_
      exact ⟨rfl, (H2.out.far (Ne.symm hne) _ _).far (Ne.symm hne) _ _, (O3.out.setNew (Nat.le_refl _) _ _).setNew (Nat.le_refl _) _ _⟩
    · rw [slotR_else h0 h1]
      have t0 : ((takeInt s.data.toList).1 == 0) = false := by simpa using h0
      have t1 : ((takeInt s.data.toList).1 == 1) = false := by simpa using h1
      clear h0 h1
      have hN := fun w h => number_any b s wr w h hs
      generalize (takeInt s.data.toList).1 = n at hN t0 t1
      generalize (takeInt s.data.toList).2.2 = k at hN
      generalize arr (takeInt s.data.toList).2.1 = R at hN ⊢
      have HN := Lib.hid hN
      clear hN
      go_enter Try.func76, Try.ntmps76
      go_wp2_with fail
      generalize hGen : w.alloc (.cells #[.bool false, .string ⟨#[]⟩] 54) = W at H hBX O0 ⊢
      clear hGen
      have HX := Lib.hid hBX
      clear hBX
      refine (HN.out _ H.out).mono ?_
      rintro e w1 ⟨rfl, h1, o1⟩
      obtain ⟨r0, r1, q0, q1⟩ := h1.get
      have hX := o1.blk HX.out hne
      have g0 := Blk.frozen hX 0
      have g1 := Blk.frozen hX 1
      have d0 := Blk.cell hX 0
      have d1 := Blk.cell hX 1
      have H1 := Lib.hid h1
      have O1 := Lib.hid (O0.out.trans o1)
      have H1s : Hid (Rd (w1.setCell ⟨b, 1, none⟩ (.bool true)) b R true) := Lib.hid (by simpa [Rd] using Slab.Blk.set_ H1.out 1 (.bool true))
      clear h1 hX o1
      go_wp2
      refine bodyPost_ret (v := .agg #[.bool false, .string ⟨#[]⟩]) (by simp [results, Try.results76, go_sem, d0, d1]) rfl ?_
      have e1 : (wr || !false) = true := by cases wr <;> rfl
      rw [e1]
      exact ⟨rfl, (H1s.out.far (Ne.symm hne) _ _).far (Ne.symm hne) _ _, ((O1.out.set_ _ _).setNew (Nat.le_refl _) _ _).setNew (Nat.le_refl _) _ _⟩
end Go.Proofs.Ytjffjmffoffblaa.Ent
