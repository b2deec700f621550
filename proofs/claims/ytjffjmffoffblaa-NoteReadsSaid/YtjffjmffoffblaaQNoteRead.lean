/- The walks of the reader: went, number, flag, image, entries. -/
import Derived.Test.YtjffjmffoffblaaQNoteGood
import Derived.Test.YtjffjmffoffblaaQEntRead
import Derived.Test.YtjffjmffoffblaaQEntLaws
import Derived.Test.YtjffjmffoffblaaQSlabBookC
import Derived.Laws.AppendOwn
namespace Go.Proofs.Ytjffjmffoffblaa.Note
set_option maxRecDepth 100000
open Go.RowKit
open Go.Proofs.Ytjffjmffoffblaa.Nib (enc below_next below_drew Fits takeInt takeVal)
open Go.Proofs.Ytjffjmffoffblaa.Slab (Slot Slots Blk ret_bool' ret_int' PageRes)
open Go.Proofs.Ytjffjmffoffblaa.Ent (Ent Ents EntAt SmallE withinB knownB noE entA below_box alloc_lt arr arr_list list_arr arr_size ent_cells Only arr_take decX decT decC cellsE)

/-- a reader in memory -/
def Rd (w : World) (b : Nat) (s : List UInt8) (wr : Bool) : Prop := Blk w b 68 #[.string (arr s), .bool wr]
theorem Rd.get {w : World} {b : Nat} {s : List UInt8} {wr : Bool} (h : Rd w b s wr) : w.cell? ⟨b, 0, none⟩ = some (.string (arr s)) ∧ w.cell? ⟨b, 1, none⟩ = some (.bool wr) ∧ w.frozen? ⟨b, 0, none⟩ = false ∧ w.frozen? ⟨b, 1, none⟩ = false :=
  ⟨Blk.cell h 0, Blk.cell h 1, Blk.frozen h 0, Blk.frozen h 1⟩
theorem Rd.set2 {w : World} {b : Nat} {s r : List UInt8} {wr k : Bool} (h : Rd w b s wr) : Rd ((w.setCell ⟨b, 0, none⟩ (.string (arr r))).setCell ⟨b, 1, none⟩ (.bool k)) b r k := by
  have := (Slab.Blk.set_ (Slab.Blk.set_ h 0 (.string (arr r))) 1 (.bool k))
  simpa [Rd] using this
theorem Rd.set1 {w : World} {b : Nat} {s : List UInt8} {wr k : Bool} (h : Rd w b s wr) : Rd (w.setCell ⟨b, 1, none⟩ (.bool k)) b s k := by
  have := Slab.Blk.set_ h 1 (.bool k)
  simpa [Rd] using this
theorem Rd.drewN {w : World} {b : Nat} {s : List UInt8} {wr : Bool} (h : Rd w b s wr) (q : Nat) : Rd (w.drewN q) b s wr := h
theorem Rd.far {w : World} {b : Nat} {s : List UInt8} {wr : Bool} (h : Rd w b s wr) {g : Nat} (hg : b ≠ g) (i : Nat) (v : Value) : Rd (w.setCell ⟨g, i, none⟩ v) b s wr := Slab.Blk.far h hg v
theorem Rd.lt {w : World} {b : Nat} {s : List UInt8} {wr : Bool} (h : Rd w b s wr) : b < w.heap.size := Blk.lt h
theorem Rd.alloc {w : World} {b : Nat} {s : List UInt8} {wr : Bool} (h : Rd w b s wr) (o : Obj) : Rd (w.alloc o) b s wr := Blk.alloc h o
theorem Rd.below {w w' : World} {b : Nat} {s : List UInt8} {wr : Bool} (h : Rd w b s wr) (hb : Below w.heap.size w w') : Rd w' b s wr := Blk.below h hb h.lt

set_option maxRecDepth 100000 in
theorem went_any (b : Nat) (s r : List UInt8) (wr ok : Bool) (w : World) (h : Rd w b s wr) :
    Calls Try.prog 48 #[.pointer (some ⟨b, 0, none⟩), .string (arr r), .bool ok] w fun e w' => e = .returned (.tuple #[]) ∧ Rd w' b r (wr || !ok) ∧ Only b w w' := by
  have H := Lib.hid h
  obtain ⟨c0, c1, f0, f1⟩ := h.get
  clear h
  cases wr <;> cases ok
  all_goals
    go_enter Try.func48, Try.ntmps48
    go_wp2
    go_end0
    exact ⟨rfl, H.out.set2, ((Only.refl _ _).set_ _ _).set_ _ _⟩
theorem takeVal_is (s : List UInt8) : takeVal s = .tuple #[.int .i64 (vl s), .string (arr (nx s)), .bool (takeInt s).2.2] := rfl
set_option maxRecDepth 100000 in
theorem number_any (b : Nat) (s : List UInt8) (bad : Bool) (w : World) (h : Rd w b s bad) (hs : s.length ≤ 9223372036854775807) :
    Calls Try.prog 26 #[.pointer (some ⟨b, 0, none⟩)] w fun e w' => e = .returned (.int .i64 (vl s)) ∧ Rd w' b (nx s) (bad || wr s) ∧ Only b w w' := by
  have H := Lib.hid h
  obtain ⟨c0, c1, f0, f1⟩ := h.get
  clear h
  have hT := fun w => Nib.takeInt_any (arr s) w (by rw [arr_size]; exact hs)
  rw [arr_list, takeVal_is] at hT
  have hw : wr s = !(takeInt s).2.2 := rfl
  rw [hw]
  generalize vl s = n at hT ⊢
  generalize (takeInt s).2.2 = ok at hT ⊢
  generalize nx s = r at hT ⊢
  clear hw
  have HT := Lib.hid hT
  clear hT
  go_enter Try.func26, Try.ntmps26
  go_wp2_with fail
  refine (HT.out _).mono ?_
  rintro e w1 ⟨rfl, q, rfl⟩
  go_wp2_with fail
  refine (went_any b s r bad ok (w.drewN q) (Rd.drewN H.out q)).mono ?_
  rintro e w2 ⟨rfl, h2, o2⟩
  go_wp2
  go_ret
  exact ⟨rfl, h2, ((Only.refl b w).drewN q).trans o2⟩
set_option maxRecDepth 100000 in
set_option maxHeartbeats 400000 in
theorem rflag_any (b : Nat) (s : List UInt8) (bad : Bool) (w : World) (h : Rd w b s bad) (hs : s.length ≤ 9223372036854775807) :
    Calls Try.prog 27 #[.pointer (some ⟨b, 0, none⟩)] w fun e w' => e = .returned (.bool (fg s)) ∧ Rd w' b (nx s) (wf s bad) ∧ Only b w w' := by
  have HN := Lib.hid (number_any b s bad w h hs)
  have HW := Lib.hid (show wf s bad = ((bad || wr s) || !withinB (vl s) 0 1) from rfl)
  have HFG := Lib.hid (show fg s = (vl s == 1) from rfl)
  clear h
  go_enter Try.func27, Try.ntmps27
  go_wp2_with fail
  refine HN.out.mono ?_
  rintro e w1 ⟨rfl, h1, o1⟩
  have H1 := Lib.hid h1
  have O1 := Lib.hid o1
  clear h1 o1
  generalize (bad || wr s) = k at H1 HW
  generalize vl s = n at HW HFG ⊢
  obtain ⟨c0, c1, f0, f1⟩ := H1.out.get
  cases k with
  | true =>
    go_wp2
    go_ret
    exact ⟨ret_bool' HFG.out.symm, by rw [HW.out]; exact H1.out.set1, O1.out.set_ _ _⟩
  | false =>
    go_wp2_with fail
    refine (within_any n 0 1 _).mono ?_
    rintro e w' ⟨rfl, rfl⟩
    cases hq : withinB n 0 1 with
    | true =>
      have HQ := Lib.hid hq
      clear hq
      go_wp2
      go_ret
      exact ⟨ret_bool' HFG.out.symm, by rw [HW.out, HQ.out]; exact H1.out.set1, O1.out.set_ _ _⟩
    | false =>
      have HQ := Lib.hid hq
      clear hq
      go_wp2
      go_ret
      exact ⟨ret_bool' HFG.out.symm, by rw [HW.out, HQ.out]; exact H1.out.set1, O1.out.set_ _ _⟩

/-- an image is handed back, in new memory -/
def ImgRes (b : Nat) (s : List UInt8) (bad : Bool) (w : World) (e : Ending) (w' : World) : Prop :=
  ∃ a n c, e = .returned (.agg #[.int .i64 (imR s).1, .slice a n c]) ∧ Slots w' a n (imR s).2.1 ∧ (∀ g off e, a = some ⟨g, off, e⟩ → w.heap.size < g) ∧ Rd w' b (s.drop (imE s)) (bad || !((imR s).2.2 == 0)) ∧ Only b w w'
theorem slots_keep {w w' : World} {a : Option Addr} {n : Nat} {zs : List Slot} (h : Slots w a n zs) (hsz : w.heap.size ≤ w'.heap.size) (hk : ∀ g off e, a = some ⟨g, off, e⟩ → w'.heap[g]? = w.heap[g]?) : Slots w' a n zs := by
  obtain ⟨h1, h2, h3⟩ := h
  refine ⟨h1, h2, fun hn => ?_⟩
  obtain ⟨b, off, ha, hlt, hc⟩ := h3 hn
  refine ⟨b, off, ha, Nat.lt_of_lt_of_le hlt hsz, fun i hi => ?_⟩
  obtain ⟨c1, c2⟩ := hc i hi
  have hb := hk b off none ha
  exact ⟨(World.cell?_of_block (w := w) (a := ⟨b, off + i * 2, none⟩) hb).trans c1, (World.cell?_of_block (w := w) (a := ⟨b, off + i * 2 + 1, none⟩) hb).trans c2⟩
theorem ents_keep {w w' : World} {a : Option Addr} {n : Nat} {zs : List Ent} (h : Ents w a n zs) (hsz : w.heap.size ≤ w'.heap.size) (hk : ∀ g off e, a = some ⟨g, off, e⟩ → w'.heap[g]? = w.heap[g]?) : Ents w' a n zs := by
  obtain ⟨h1, h2, h3⟩ := h
  refine ⟨h1, h2, fun hn => ?_⟩
  obtain ⟨b, off, ha, hlt, hc⟩ := h3 hn
  have hb := hk b off none ha
  exact ⟨b, off, ha, Nat.lt_of_lt_of_le hlt hsz, fun i hi j v hv => (World.cell?_of_block (w := w) (a := ⟨b, off + i * 13 + j, none⟩) hb).trans (hc i hi j v hv)⟩
/-- a row of no slots is nobody's -/
theorem slots_zero {w w' : World} {a : Option Addr} {zs : List Slot} (h : Slots w a 0 zs) : Slots w' a 0 zs := ⟨h.1, h.2.1, fun h => absurd h (Nat.lt_irrefl 0)⟩
theorem slots_only {b : Nat} {w w' : World} {a : Option Addr} {n : Nat} {zs : List Slot} (h : Slots w a n zs) (o : Only b w w') (hn : ∀ g off e, a = some ⟨g, off, e⟩ → g ≠ b) : Slots w' a n zs := by
  rcases Nat.eq_zero_or_pos n with h0 | h0
  · subst h0; exact slots_zero h
  · obtain ⟨g, off, ha, hlt, _⟩ := h.2.2 h0
    exact slots_keep h o.size fun g' off' e' h' => by rw [ha] at h'; cases h'; exact o.2.2.2.2 g hlt (hn g off none ha)
theorem slots_set {w : World} {a : Option Addr} {n : Nat} {zs : List Slot} (h : Slots w a n zs) {b : Nat} (hn : ∀ g off e, a = some ⟨g, off, e⟩ → g ≠ b) (i : Nat) (v : Value) : Slots (w.setCell ⟨b, i, none⟩ v) a n zs :=
  slots_keep h (by simp) fun g off e ha => Below.heap_setCell w ⟨b, i, none⟩ v g (hn g off e ha)
theorem ents_set {w : World} {a : Option Addr} {n : Nat} {zs : List Ent} (h : Ents w a n zs) {b : Nat} (hn : ∀ g off e, a = some ⟨g, off, e⟩ → g ≠ b) (i : Nat) (v : Value) : Ents (w.setCell ⟨b, i, none⟩ v) a n zs :=
  ents_keep h (by simp) fun g off e ha => Below.heap_setCell w ⟨b, i, none⟩ v g (hn g off e ha)
theorem ext_take (s : List UInt8) (k : Nat) : (arr s).extract 0 k = arr (s.take k) := by
  rw [← Nib.str_take, arr_list]; rfl
theorem ext_drop (s : List UInt8) (k : Nat) : (arr s).extract k (arr s).size = arr (s.drop k) := by
  rw [← Nib.str_drop, arr_list]; rfl
set_option maxRecDepth 100000 in
set_option maxHeartbeats 1000000 in
theorem image_any (b : Nat) (s : List UInt8) (bad : Bool) (w : World) (h : Rd w b s bad) (hs : s.length ≤ 9223372036854775807) :
    Calls Try.prog 28 #[.pointer (some ⟨b, 0, none⟩)] w (ImgRes b s bad w) := by
  have hne : w.heap.size ≠ b := Nat.ne_of_gt h.lt
  have hlt := h.lt
  have H := Lib.hid (h.alloc (.cells #[.int .i64 0, .slice none 0 0] 27))
  have hX := Blk.new w 27 #[.int .i64 0, .slice none 0 0]
  have O0 := Lib.hid (Only.of_below (b := b) (below_box w (.cells #[.int .i64 0, .slice none 0 0] 27)))
  have hg := alloc_lt w (.cells #[.int .i64 0, .slice none 0 0] 27)
  have hmin : min ((arr s).size : Int) 240 = (imE s : Int) := by unfold imE; rw [arr_size]; omega
  have hK : imE s ≤ (arr s).size := by unfold imE; rw [arr_size]; omega
  have hN : (arr s).size ≤ 9223372036854775807 := by rw [arr_size]; exact hs
  have he1 := ext_take s (imE s)
  have he2 := ext_drop s (imE s)
  have hD := fun w => Slab.decode_any (arr (s.take (imE s))) w
  rw [arr_list] at hD
  have HP := Lib.hid (show ImgRes b s bad w = fun e w' => ∃ a n c, e = .returned (.agg #[.int .i64 (Slab.decR (s.take (imE s))).1, .slice a n c]) ∧ Slots w' a n (Slab.decR (s.take (imE s))).2.1 ∧ (∀ g off e, a = some ⟨g, off, e⟩ → w.heap.size < g) ∧ Rd w' b (s.drop (imE s)) (bad || !((Slab.decR (s.take (imE s))).2.2 == 0)) ∧ Only b w w' from rfl)
  rw [HP.out]
  clear HP h
  generalize imE s = K at hmin hK he1 he2 hD ⊢
  generalize (Slab.decR (s.take K)).1 = L at hD ⊢
  generalize (Slab.decR (s.take K)).2.1 = z at hD ⊢
  generalize (Slab.decR (s.take K)).2.2 = code at hD ⊢
  have HD := Lib.hid hD
  clear hD hs
  go_enter Try.func28, Try.ntmps28
  go_upto_region 1 with (fail)
  generalize hGen : w.alloc (.cells #[.int .i64 0, .slice none 0 0] 27) = W at H hX O0 hg ⊢
  clear hGen
  obtain ⟨c0, c1, f0, f1⟩ := H.out.get
  have HX := Lib.hid hX
  clear hX
  go_wp2_with fail
  refine (HD.out _).mono ?_
  rintro e w1 ⟨a, n, c, rfl, hS, b1, hnew⟩
  have H1 := Lib.hid (H.out.below b1)
  have X1 := Lib.hid (HX.out.below b1 hg)
  have O1 := Lib.hid (O0.out.trans (Only.of_below b1))
  have hsz := b1.size
  have HNEW := Lib.hid (show ∀ g off e, a = some ⟨g, off, e⟩ → w.heap.size < g from fun g off e h => Nat.lt_of_lt_of_le hg (hnew g off e h))
  have HS := Lib.hid hS
  clear c0 c1 f0 f1 b1 hnew hS H HX O0
  go_upto_region 3 with (fail)
  have H2 := Lib.hid (H1.out.alloc (.cells #[.int .i64 L, .slice a n c] 27))
  have X2 := Lib.hid (X1.out.alloc (.cells #[.int .i64 L, .slice a n c] 27))
  have hY := Blk.new w1 27 #[.int .i64 L, .slice a n c]
  have S2 := Lib.hid (HS.out.below (below_box w1 (.cells #[.int .i64 L, .slice a n c] 27)))
  have O2 := Lib.hid (O1.out.trans (Only.of_below (below_box w1 (.cells #[.int .i64 L, .slice a n c] 27))))
  have hs2 := alloc_lt w1 (.cells #[.int .i64 L, .slice a n c] 27)
  generalize hGen : w1.alloc (.cells #[.int .i64 L, .slice a n c] 27) = W2 at H2 X2 hY S2 O2 hs2 ⊢
  clear hGen
  have hgy : w.heap.size < w1.heap.size := by omega
  generalize hGen : w1.heap.size = gy at hY hs2 hgy ⊢
  clear hGen
  have HY := Lib.hid hY
  obtain ⟨c0, c1, f0, f1⟩ := H2.out.get
  clear hY H1 X1 HS O1
  have HGO := Lib.hid (went_any b s (s.drop K) bad (code == 0) W2 H2.out)
  go_wp2_with fail
  refine HGO.out.mono ?_
  rintro e w3 ⟨rfl, h3, o3⟩
  have hb : b < gy := by omega
  have hX3 := o3.blk X2.out hne
  have hY3 := o3.blk HY.out (by omega)
  have y0 := Blk.cell hY3 0
  have y1 := Blk.cell hY3 1
  have g0 := Blk.frozen hX3 0
  have g1 := Blk.frozen hX3 1
  have S3 := Lib.hid (slots_only S2.out o3 (fun g off e h => by have := HNEW.out g off e h; omega))
  have H3 := Lib.hid h3
  have O3 := Lib.hid (O2.out.trans o3)
  have x0 := Blk.cell hX3 0
  have x1 := Blk.cell hX3 1
  clear h3 o3 hX3 hY3 c0 c1 f0 f1
  go_wp2
  refine bodyPost_ret (v := .agg #[.int .i64 L, .slice a n c]) (by simp [results, Try.results28, go_sem, x0, x1]) rfl ?_
  have hgn : ∀ g off e, a = some ⟨g, off, e⟩ → g ≠ w.heap.size := fun g off e h => by have := HNEW.out g off e h; omega
  exact ⟨a, n, c, rfl, slots_set (slots_set S3.out hgn _ _) hgn _ _, HNEW.out, (H3.out.far (Ne.symm hne) _ _).far (Ne.symm hne) _ _, (O3.out.setNew (Nat.le_refl _) _ _).setNew (Nat.le_refl _) _ _⟩
end Go.Proofs.Ytjffjmffoffblaa.Note
