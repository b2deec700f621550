/- The walk of entry.Decode. -/
import Derived.Test.YtjffjmffoffblaaQEntAll
import Derived.Test.YtjffjmffoffblaaQEntBox
import Derived.RegionTactic
import Derived.BigRegion
namespace Go.Proofs.Ytjffjmffoffblaa.Ent
set_option maxRecDepth 100000
open Go.RowKit
open Go.Proofs.Ytjffjmffoffblaa.Slab (Blk)
open Go.Proofs.Ytjffjmffoffblaa.Nib (below_next below_drew takeInt takeStr)

/-- an entry whose first numbers are read -/
def partE (k : Nat) (L : List UInt8) : Ent :=
  ⟨valN 0 L, if 1 ≤ k then valN 1 L else 0, if 2 ≤ k then valN 2 L else 0, if 3 ≤ k then valN 3 L else 0, if 4 ≤ k then valN 4 L else 0, if 5 ≤ k then valN 5 L else 0,
    if 6 ≤ k then valN 6 L else 0, if 7 ≤ k then valN 7 L else 0, false, ⟨#[]⟩, false, ⟨#[]⟩, if 8 ≤ k then valN 8 L else 0⟩
theorem part_next (L : List UInt8) : ∀ k, k < 8 → (entA (partE k L)).setIfInBounds (offs (k + 1)) (.int .i64 (valN (k + 1) L)) = entA (partE (k + 1) L)
  | 0, _ => by simp [entA, partE, offs]
  | 1, _ => by simp [entA, partE, offs]
  | 2, _ => by simp [entA, partE, offs]
  | 3, _ => by simp [entA, partE, offs]
  | 4, _ => by simp [entA, partE, offs]
  | 5, _ => by simp [entA, partE, offs]
  | 6, _ => by simp [entA, partE, offs]
  | 7, _ => by simp [entA, partE, offs]
  | k + 8, h => absurd h (by omega)
theorem offs_lt {k : Nat} (h : k < 8) : offs (k + 1) < 13 := by unfold offs; split <;> omega
theorem entA_get (x : Ent) {i : Nat} (h : i < 13) : ∃ v, (entA x)[i]? = some v := ⟨_, Array.getElem?_eq_getElem (by unfold entA; simpa using h)⟩
/-- behind k slots -/
def srN : Nat → List UInt8 → List UInt8
  | 0, L => restN 9 L
  | k + 1, L => (slotR (srN k L)).2.2.1
def swN : Nat → List UInt8 → Bool
  | 0, L => wrN 9 L
  | k + 1, L => swN k L || !(slotR (srN k L)).2.2.2
def partS (k : Nat) (L : List UInt8) : Ent :=
  ⟨valN 0 L, valN 1 L, valN 2 L, valN 3 L, valN 4 L, valN 5 L, valN 6 L, valN 7 L, if 1 ≤ k then (slotR (srN 0 L)).1 else false, if 1 ≤ k then arr (slotR (srN 0 L)).2.1 else ⟨#[]⟩,
    if 2 ≤ k then (slotR (srN 1 L)).1 else false, if 2 ≤ k then arr (slotR (srN 1 L)).2.1 else ⟨#[]⟩, valN 8 L⟩
theorem partS_next (L : List UInt8) : ∀ k, k < 2 → ((entA (partS k L)).setIfInBounds (8 + 2 * k) (.bool (slotR (srN k L)).1)).setIfInBounds (8 + 2 * k + 1) (.string (arr (slotR (srN k L)).2.1)) = entA (partS (k + 1) L)
  | 0, _ => by simp [entA, partS]
  | 1, _ => by simp [entA, partS]
  | k + 2, h => absurd h (by omega)
theorem part_all (L : List UInt8) : partE 8 L = partS 0 L := by simp [partE, partS]
theorem read_long {L : List UInt8} (h : longB (valN 0 L) = true) : readX L = partS 2 L ∧ readT L = srN 2 L ∧ readW L = swN 2 L := by
  unfold readX readT readW; rw [h]; simp [partS, srN, swN]
theorem read_short {L : List UInt8} (h : longB (valN 0 L) = false) : readX L = partE 5 L ∧ readT L = restN 6 L ∧ readW L = wrN 6 L := by
  unfold readX readT readW; rw [h]; simp [partE, arr_nil]
theorem srN_len (k : Nat) (L : List UInt8) : (srN k L).length ≤ L.length := by
  induction k with
  | zero => exact restN_len 9 L
  | succ k ih =>
    refine Nat.le_trans ?_ ih
    show (slotR (srN k L)).2.2.1.length ≤ _
    unfold slotR
    have h1 := Nib.takeInt_len (srN k L)
    split
    · exact h1
    · split
      · exact Nat.le_trans (Nib.takeStr_len _ _).2 h1
      · exact h1

theorem number_at (b k : Nat) (L : List UInt8) (w : World) (h : Rd w b (arr (restN k L)) (wrN k L)) (hl : L.length ≤ 9223372036854775807) :
    Calls Try.prog 74 #[.pointer (some ⟨b, 0, none⟩)] w fun e w' => e = .returned (.int .i64 (valN k L)) ∧ Rd w' b (arr (restN (k + 1) L)) (wrN (k + 1) L) ∧ Only b w w' := by
  have := number_any b _ _ w h (by have := restN_len k L; rw [arr_size]; omega)
  rw [arr_list] at this
  exact this
theorem slot_at (b k : Nat) (L : List UInt8) (w : World) (h : Rd w b (arr (srN k L)) (swN k L)) (hl : L.length ≤ 9223372036854775807) :
    Calls Try.prog 76 #[.pointer (some ⟨b, 0, none⟩)] w fun e w' => e = .returned (.agg #[.bool (slotR (srN k L)).1, .string (arr (slotR (srN k L)).2.1)]) ∧ Rd w' b (arr (srN (k + 1) L)) (swN (k + 1) L) ∧ Only b w w' := by
  have := slot_any b _ _ w h (by have := srN_len k L; rw [arr_size]; omega)
  rw [arr_list] at this
  exact this

/-- what lies in memory while an entry is read: r the result's box, b the reader, g the entry -/
structure St (w : World) (r b g : Nat) (x : Ent) (t : List UInt8) (wr : Bool) (W : World) : Prop where
  bel : Below w.heap.size w W
  res : Blk W r 56 (entA noE)
  rd : Rd W b (arr t) wr
  en : Blk W g 56 (entA x)
structure Pl (w : World) (r b g : Nat) : Prop where
  r0 : w.heap.size ≤ r
  b0 : w.heap.size < b
  g0 : w.heap.size < g
  rb : r ≠ b
  rg : r ≠ g
  bg : b ≠ g
theorem St.only {w W W' : World} {r b g : Nat} {x : Ent} {t t' : List UInt8} {wr wr' : Bool} (h : St w r b g x t wr W) (p : Pl w r b g) (o : Only b W W') (hr : Rd W' b (arr t') wr') : St w r b g x t' wr' W' :=
  ⟨h.bel.trans (o.below (Nat.le_of_lt p.b0) h.bel.size), o.blk h.res p.rb, hr, o.blk h.en (Ne.symm p.bg)⟩
theorem St.set_ {w W : World} {r b g : Nat} {x x' : Ent} {t : List UInt8} {wr : Bool} (h : St w r b g x t wr W) (p : Pl w r b g) {i : Nat} {v : Value} (he : (entA x).setIfInBounds i v = entA x') : St w r b g x' t wr (W.setCell ⟨g, i, none⟩ v) :=
  ⟨h.bel.setCell (p := ⟨g, i, none⟩) (Nat.le_of_lt p.g0) v, Slab.Blk.far h.res (p := ⟨g, i, none⟩) p.rg v, h.rd.far p.bg i v, by rw [← he]; exact Slab.Blk.set_ h.en i v⟩
theorem St.set2 {w W : World} {r b g : Nat} {x x' : Ent} {t : List UInt8} {wr : Bool} (h : St w r b g x t wr W) (p : Pl w r b g) {i j : Nat} {v u : Value} (he : ((entA x).setIfInBounds i v).setIfInBounds j u = entA x') : St w r b g x' t wr ((W.setCell ⟨g, i, none⟩ v).setCell ⟨g, j, none⟩ u) :=
  ⟨(h.bel.setCell (p := ⟨g, i, none⟩) (Nat.le_of_lt p.g0) v).setCell (p := ⟨g, j, none⟩) (Nat.le_of_lt p.g0) u, Slab.Blk.far (Slab.Blk.far h.res (p := ⟨g, i, none⟩) p.rg v) (p := ⟨g, j, none⟩) p.rg u, (h.rd.far p.bg i v).far p.bg j u, by rw [← he]; exact Slab.Blk.set_ (Slab.Blk.set_ h.en i v) j u⟩
theorem St.next {w W W' : World} {r b g : Nat} {x : Ent} {t : List UInt8} {wr : Bool} (h : St w r b g x t wr W) (hb : Below W.heap.size W W') : St w r b g x t wr W' :=
  ⟨below_next h.bel hb, h.res.below hb h.res.lt, Blk.below h.rd hb (Rd.lt h.rd), h.en.below hb h.en.lt⟩
/-- the entry, the rest and the wrong behind k slots -/
def xsN (lg : Bool) (k : Nat) (L : List UInt8) : Ent := if lg then partS k L else partE 5 L
def tsN (lg : Bool) (k : Nat) (L : List UInt8) : List UInt8 := if lg then srN k L else restN 6 L
def wsN (lg : Bool) (k : Nat) (L : List UInt8) : Bool := if lg then swN k L else wrN 6 L
theorem sN_start (lg : Bool) (L : List UInt8) : partE (mN lg) L = xsN lg 0 L ∧ restN (mN lg + 1) L = tsN lg 0 L ∧ wrN (mN lg + 1) L = wsN lg 0 L := by
  cases lg with
  | true => exact ⟨part_all L, rfl, rfl⟩
  | false => exact ⟨rfl, rfl, rfl⟩
theorem sN_end (lg : Bool) (L : List UInt8) (h : longB (valN 0 L) = lg) : readX L = xsN lg (nN lg) L ∧ readT L = tsN lg (nN lg) L ∧ readW L = wsN lg (nN lg) L := by
  cases lg with
  | true => exact read_long h
  | false => exact read_short h
theorem nN_long {lg : Bool} {k : Nat} (h : k < nN lg) : lg = true ∧ k < 2 := by
  cases lg with
  | true => exact ⟨rfl, h⟩
  | false => exact absurd h (by simp [nN])

theorem dec_fail {L : List UInt8} (h : readW L = true ∨ goodB (readX L) = false) : decX L = noE ∧ decT L = [] ∧ decC L = 4 := by
  have hb : decB L = false := by
    unfold decB
    rcases h with h | h
    · rw [h]; rfl
    · rw [h]; simp
  unfold decX decT decC; rw [hb]; exact ⟨rfl, rfl, rfl⟩
theorem dec_ok {L : List UInt8} (h1 : readW L = false) (h2 : goodB (readX L) = true) : decX L = readX L ∧ decT L = readT L ∧ decC L = 0 := by
  have hb : decB L = true := by unfold decB; rw [h1, h2]; rfl
  unfold decX decT decC; rw [hb]; exact ⟨rfl, rfl, rfl⟩
theorem slotR_size (s : List UInt8) : (slotR s).2.1.length ≤ s.length := by
  unfold slotR
  have h1 := Nib.takeInt_len s
  split
  · simp
  · split
    · exact Nat.le_trans (Nib.takeStr_len _ _).1 h1
    · simp
theorem read_small {L : List UInt8} (h : L.length ≤ 140737488351232) : Small (readX L) := by
  have h9 := restN_len 9 L
  have h2 := srN_len 1 L
  simp only [srN] at h2
  have a1 := slotR_size (restN 9 L)
  have a2 := slotR_size (slotR (restN 9 L)).2.2.1
  unfold Small readX
  generalize restN 9 L = R at h9 h2 a1 a2 ⊢
  generalize (slotR R).2.2.1 = R2 at h2 a2 ⊢
  cases longB (valN 0 L)
  · simp only [Bool.false_eq_true, if_false, arr_size, List.length_nil]; omega
  · simp only [if_true, arr_size]; omega
theorem ptr_slot {k : Nat} (h : k < 2) (g : Nat) : (ptrs g [8, 10])[k]? = some (.pointer (some ⟨g, 8 + 2 * k, none⟩)) := by
  match k, h with
  | 0, _ => rfl
  | 1, _ => rfl
set_option maxRecDepth 100000 in
set_option maxHeartbeats 4000000 in
theorem decode_any (s : ByteArray) (L : List UInt8) (hL : s.data.toList = L) (w : World) (hs : s.size ≤ 140737488351232) :
    Calls Try.prog 50 #[.string s] w fun e w' => e = .returned (.tuple #[.agg (entA (decX L)), .string (arr (decT L)), .int .i64 (decC L)]) ∧ Below w.heap.size w w' := by
  have hlen : L.length ≤ 140737488351232 := by rw [← hL]; simpa using hs
  have hS : s = arr (restN 0 L) := by rw [← hL]; exact (list_arr s).symm
  subst hS
  clear hL hs
  have hb0 := below_box w (.cells #[.int .i64 0, .int .i64 0, .int .i64 0, .int .i64 0, .int .i64 0, .int .i64 0, .int .i64 0, .int .i64 0, .bool false, .string ⟨#[]⟩, .bool false, .string ⟨#[]⟩, .int .i64 0] 56)
  have hR0 : Blk (w.alloc (.cells #[.int .i64 0, .int .i64 0, .int .i64 0, .int .i64 0, .int .i64 0, .int .i64 0, .int .i64 0, .int .i64 0, .bool false, .string ⟨#[]⟩, .bool false, .string ⟨#[]⟩, .int .i64 0] 56)) w.heap.size 56 (entA noE) := Blk.new w 56 #[.int .i64 0, .int .i64 0, .int .i64 0, .int .i64 0, .int .i64 0, .int .i64 0, .int .i64 0, .int .i64 0, .bool false, .string ⟨#[]⟩, .bool false, .string ⟨#[]⟩, .int .i64 0]
  have hw0 := alloc_lt w (.cells #[.int .i64 0, .int .i64 0, .int .i64 0, .int .i64 0, .int .i64 0, .int .i64 0, .int .i64 0, .int .i64 0, .bool false, .string ⟨#[]⟩, .bool false, .string ⟨#[]⟩, .int .i64 0] 56)
  go_enter Try.func50, Try.ntmps50
  go_wp2_with fail
  have hb1 := below_next hb0 (below_box (w.alloc (.cells #[.int .i64 0, .int .i64 0, .int .i64 0, .int .i64 0, .int .i64 0, .int .i64 0, .int .i64 0, .int .i64 0, .bool false, .string ⟨#[]⟩, .bool false, .string ⟨#[]⟩, .int .i64 0] 56)) (.cells #[.string (arr (restN 0 L)), .bool false] 118))
  have hR1 := hR0.alloc (.cells #[.string (arr (restN 0 L)), .bool false] 118)
  have hD1 : Rd ((w.alloc (.cells #[.int .i64 0, .int .i64 0, .int .i64 0, .int .i64 0, .int .i64 0, .int .i64 0, .int .i64 0, .int .i64 0, .bool false, .string ⟨#[]⟩, .bool false, .string ⟨#[]⟩, .int .i64 0] 56)).alloc (.cells #[.string (arr (restN 0 L)), .bool false] 118)) (w.heap.size + 1) (arr (restN 0 L)) (wrN 0 L) := by
    have := Blk.new (w.alloc (.cells #[.int .i64 0, .int .i64 0, .int .i64 0, .int .i64 0, .int .i64 0, .int .i64 0, .int .i64 0, .int .i64 0, .bool false, .string ⟨#[]⟩, .bool false, .string ⟨#[]⟩, .int .i64 0] 56)) 118 #[.string (arr (restN 0 L)), .bool false]
    rwa [World.size_alloc] at this
  have hw1 := alloc_lt (w.alloc (.cells #[.int .i64 0, .int .i64 0, .int .i64 0, .int .i64 0, .int .i64 0, .int .i64 0, .int .i64 0, .int .i64 0, .bool false, .string ⟨#[]⟩, .bool false, .string ⟨#[]⟩, .int .i64 0] 56)) (.cells #[.string (arr (restN 0 L)), .bool false] 118)
  rw [World.size_alloc] at hw1
  generalize hGen : (w.alloc (.cells #[.int .i64 0, .int .i64 0, .int .i64 0, .int .i64 0, .int .i64 0, .int .i64 0, .int .i64 0, .int .i64 0, .bool false, .string ⟨#[]⟩, .bool false, .string ⟨#[]⟩, .int .i64 0] 56)).alloc (.cells #[.string (arr (restN 0 L)), .bool false] 118) = W at hb1 hR1 hD1 hw1 ⊢
  clear hGen
  clear hb0 hR0 hw0
  have HB1 := Lib.hid hb1
  have HR1 := Lib.hid hR1
  have HD1 := Lib.hid hD1
  clear hb1 hR1 hD1
  refine (number_at (w.heap.size + 1) 0 L W HD1.out (by omega)).mono ?_
  rintro e w1 ⟨rfl, h1, o1⟩
  have HB2 := Lib.hid (HB1.out.trans (o1.below (B := w.heap.size) (by omega) (by omega)))
  have HR2 := Lib.hid (o1.blk HR1.out (by omega))
  have HD2 := Lib.hid h1
  have hw2 : w.heap.size + 1 < w1.heap.size := Nat.lt_of_lt_of_le hw1 o1.size
  clear h1 o1 HB1 HR1 HD1 hw1
  go_wp2_with fail
  have hG : Blk (w1.alloc (.cells #[.int .i64 (valN 0 L), .int .i64 0, .int .i64 0, .int .i64 0, .int .i64 0, .int .i64 0, .int .i64 0, .int .i64 0, .bool false, .string ⟨#[]⟩, .bool false, .string ⟨#[]⟩, .int .i64 0] 56)) w1.heap.size 56 (entA (partE 0 L)) := by
    have := Blk.new w1 56 #[.int .i64 (valN 0 L), .int .i64 0, .int .i64 0, .int .i64 0, .int .i64 0, .int .i64 0, .int .i64 0, .int .i64 0, .bool false, .string ⟨#[]⟩, .bool false, .string ⟨#[]⟩, .int .i64 0]
    simpa [entA, partE] using this
  have hb3 := below_next HB2.out (below_box w1 (.cells #[.int .i64 (valN 0 L), .int .i64 0, .int .i64 0, .int .i64 0, .int .i64 0, .int .i64 0, .int .i64 0, .int .i64 0, .bool false, .string ⟨#[]⟩, .bool false, .string ⟨#[]⟩, .int .i64 0] 56))
  have hR3 := HR2.out.alloc (.cells #[.int .i64 (valN 0 L), .int .i64 0, .int .i64 0, .int .i64 0, .int .i64 0, .int .i64 0, .int .i64 0, .int .i64 0, .bool false, .string ⟨#[]⟩, .bool false, .string ⟨#[]⟩, .int .i64 0] 56)
  have hD3 := HD2.out.alloc (.cells #[.int .i64 (valN 0 L), .int .i64 0, .int .i64 0, .int .i64 0, .int .i64 0, .int .i64 0, .int .i64 0, .int .i64 0, .bool false, .string ⟨#[]⟩, .bool false, .string ⟨#[]⟩, .int .i64 0] 56)
  have hw3 := alloc_lt w1 (.cells #[.int .i64 (valN 0 L), .int .i64 0, .int .i64 0, .int .i64 0, .int .i64 0, .int .i64 0, .int .i64 0, .int .i64 0, .bool false, .string ⟨#[]⟩, .bool false, .string ⟨#[]⟩, .int .i64 0] 56)
  generalize hGen : w1.alloc (.cells #[.int .i64 (valN 0 L), .int .i64 0, .int .i64 0, .int .i64 0, .int .i64 0, .int .i64 0, .int .i64 0, .int .i64 0, .bool false, .string ⟨#[]⟩, .bool false, .string ⟨#[]⟩, .int .i64 0] 56) = W1 at hG hb3 hR3 hD3 hw3 ⊢
  clear hGen
  clear HB2 HR2 HD2
  generalize hGen : w1.heap.size = g at hG hw3 hw2 ⊢
  clear hGen
  have hc := hG.cell 0
  have ST := Lib.hid (show St w w.heap.size (w.heap.size + 1) g (partE 0 L) (restN 1 L) (wrN 1 L) W1 from ⟨hb3, hR3, hD3, hG⟩)
  have PL := Lib.hid (show Pl w w.heap.size (w.heap.size + 1) g from ⟨by omega, by omega, by omega, by omega, by omega, by omega⟩)
  have hbs : w.heap.size + 1 < W1.heap.size := by omega
  have hLG : longB (valN 0 L) = longB (valN 0 L) := rfl
  generalize hlg : longB (valN 0 L) = lg at hLG
  clear hLG
  have HLG := Lib.hid hlg
  clear hb3 hR3 hD3 hG
  generalize hGen : w.heap.size + 1 = b at ST PL hw2 hbs ⊢
  clear hGen
  refine (fields_any lg g (valN 0 L) W1 (by simpa [entA, partE] using hc) hlg).mono ?_
  rintro e w2 ⟨b1, cap1, so, cap2, rfl, hb1, hp1, hp2, bf⟩
  clear hc hlg
  have ST2 := Lib.hid (ST.out.next bf)
  have P1 := Lib.hid hp1
  have PP2 := Lib.hid hp2
  clear ST hp1 hp2 bf
  generalize hGen : W1.heap.size = N at hb1 PP2 hw3 hbs ⊢
  clear hGen
  have SS := Lib.hid (sN_start lg L)
  have SE := Lib.hid (sN_end lg L HLG.out)
  have hm8 := mN_le lg
  have hn2 := nN_le lg
  have HNL := Lib.hid (fun k => @nN_long lg k)
  have HM := Lib.hid (rfl : mN lg = mN lg)
  generalize hmm : mN lg = m at P1 SS hm8 HM ⊢
  generalize hnn : nN lg = n2 at SE hn2 HNL ⊢
  clear hmm hnn HM
  go_wp2_with fail
  go_loopw [23] (fun i wr => ∃ k : Nat, k ≤ m ∧ i = .int .i64 (k : Int) ∧ St w w.heap.size b g (partE k L) (restN (k + 1) L) (wrN (k + 1) L) wr ∧ PRow wr b1 (ptrs g (numsL m)) ∧ P2 lg so N g wr) (fun i _ => m - (intOf i).toNat)
  case atStart => exact ⟨0, by omega, rfl, ST2.out, P1.out, PP2.out⟩
  case round =>
    obtain ⟨k, hk, rfl, hst, hp1, hp2⟩ := hrel
    have HST := Lib.hid hst
    have HP1 := Lib.hid hp1
    have HP2 := Lib.hid hp2
    clear hst hp1 hp2
    by_cases hlt : k < m
    · have hp := HP1.out.get (numsL_get hlt g)
      have ho := offs_lt (k := k) (by omega)
      have HN := Lib.hid (part_next L k (by omega))
      generalize offs (k + 1) = o at hp ho HN
      go_wp2_with fail
      refine (number_at b (k + 1) L wr HST.out.rd (by omega)).mono ?_
      rintro e w3 ⟨rfl, h3, o3⟩
      have HS3 := Lib.hid (HST.out.only PL.out o3 h3)
      have HP13 := Lib.hid (o3.prow HP1.out (by omega))
      have HP23 := Lib.hid (HP2.out.next o3 (by omega))
      obtain ⟨v, hv⟩ := entA_get (partE k L) ho
      have hcell : w3.cell? ⟨g, o, none⟩ = some v := (HS3.out.en.cell o).trans hv
      have hfz : w3.frozen? ⟨g, o, none⟩ = false := HS3.out.en.frozen o
      have HV := Lib.hid hv
      clear h3 o3 hv
      go_wp2
      go_roundw
      case rel => exact ⟨k + 1, by omega, by go_num, HS3.out.set_ PL.out HN.out, prow_far HP13.out (by omega), HP23.out.far (by omega)⟩
      case measure => simp [intOf]; omega
    · obtain rfl : k = m := by omega
      obtain ⟨e1, e2, e3⟩ := SS.out
      have hst0 := HST.out
      rw [e1, e2, e3] at hst0
      have HST0 := Lib.hid hst0
      clear e1 e2 e3 hst0 HST SS
      go_wp2_with fail
      go_loopw [33] (fun i wr => ∃ k : Nat, k ≤ n2 ∧ i = .int .i64 (k : Int) ∧ St w w.heap.size b g (xsN lg k L) (tsN lg k L) (wsN lg k L) wr ∧ P2 lg so N g wr) (fun i _ => n2 - (intOf i).toNat)
      case atStart => exact ⟨0, by omega, rfl, HST0.out, HP2.out⟩
      case round =>
        clear HST0 HP2
        obtain ⟨k, hk, rfl, hst, hp2⟩ := hrel
        have HST := Lib.hid hst
        have HP2 := Lib.hid hp2
        clear hst hp2
        by_cases hlt : k < n2
        · obtain ⟨hlg, hk2⟩ := HNL.out k hlt
          subst hlg
          obtain ⟨b2, rfl, hb2, hq⟩ := HP2.out rfl
          have hp := hq.get (ptr_slot hk2 g)
          clear hq
          have HN := Lib.hid (partS_next L k hk2)
          have ho : 8 + 2 * k + 1 < 13 := by omega
          generalize 8 + 2 * k = o at hp ho HN
          go_wp2_with fail
          refine (slot_at b k L wr HST.out.rd (by omega)).mono ?_
          rintro e w3 ⟨rfl, h3, o3⟩
          have HS3 := Lib.hid (show St w w.heap.size b g (partS k L) (srN (k + 1) L) (swN (k + 1) L) w3 from HST.out.only PL.out o3 h3)
          have HP23 := Lib.hid (HP2.out.next o3 (by omega))
          obtain ⟨v0, hv0⟩ := entA_get (partS k L) (show o < 13 by omega)
          obtain ⟨v1, hv1⟩ := entA_get (partS k L) ho
          have hcell : w3.cell? ⟨g, o, none⟩ = some v0 := (HS3.out.en.cell o).trans hv0
          have hfz : w3.frozen? ⟨g, o, none⟩ = false := HS3.out.en.frozen o
          have hcell1 : w3.cell? ⟨g, o + 1, none⟩ = some v1 := (HS3.out.en.cell (o + 1)).trans hv1
          have hfz1 : w3.frozen? ⟨g, o + 1, none⟩ = false := HS3.out.en.frozen (o + 1)
          clear h3 o3 hv0 hv1
          go_wp2
          go_roundw
          case rel => exact ⟨k + 1, by omega, by go_num, HS3.out.set2 PL.out HN.out, (HP23.out.far (by omega)).far (by omega)⟩
          case measure => simp [intOf]; omega
        · obtain rfl : k = n2 := by omega
          obtain ⟨e1, e2, e3⟩ := SE.out
          have hst0 := HST.out
          rw [← e1, ← e2, ← e3] at hst0
          have HSX := Lib.hid hst0
          have HFAIL := Lib.hid (@dec_fail L)
          have HOK := Lib.hid (@dec_ok L)
          have hsm := read_small hlen
          clear e1 e2 e3 hst0 HST SE HNL HP2
          generalize readX L = X at HSX HFAIL HOK hsm
          generalize readT L = T at HSX HOK
          generalize readW L = WR at HSX HFAIL HOK
          have hbel := HSX.out.bel
          obtain ⟨r0, r1, _, _⟩ := HSX.out.rd.get
          cases WR with
          | true =>
            have HF := Lib.hid (HFAIL.out (.inl rfl))
            have HZ := Lib.hid (show Blk wr w.heap.size 56 #[.int .i64 noE.kind, .int .i64 noE.cl, .int .i64 noE.ep, .int .i64 noE.n, .int .i64 noE.lsn, .int .i64 noE.prev, .int .i64 noE.page, .int .i64 noE.slot, .bool noE.wu, .string noE.wd, .bool noE.iu, .string noE.id, .int .i64 noE.next] from HSX.out.res)
            clear HFAIL HOK
            obtain ⟨z0, z1, z2, z3, z4, z5, z6, z7, z8, z9, z10, z11, z12⟩ := ent_cells HZ.out
            obtain ⟨q0, q1, q2, q3, q4, q5, q6, q7, q8, q9, q10, q11, q12⟩ := ent_frozen HZ.out
            go_wp2
            refine bodyPost_ret (v := .tuple #[.agg #[.int .i64 0, .int .i64 0, .int .i64 0, .int .i64 0, .int .i64 0, .int .i64 0, .int .i64 0, .int .i64 0, .bool false, .string ⟨#[]⟩, .bool false, .string ⟨#[]⟩, .int .i64 0], .string ⟨#[]⟩, .int .i64 4]) (by simp [results, Try.results50, go_sem, z0, z1, z2, z3, z4, z5, z6, z7, z8, z9, z10, z11, z12]) rfl ?_
            obtain ⟨f1, f2, f3⟩ := HF.out
            refine ⟨by rw [f1, f2, f3]; rfl, ?_⟩
            exact below13 hbel (Nat.le_refl _) _ _ _ _ _ _ _ _ _ _ _ _ _
          | false =>
            have HE := Lib.hid (show Blk wr g 56 #[.int .i64 X.kind, .int .i64 X.cl, .int .i64 X.ep, .int .i64 X.n, .int .i64 X.lsn, .int .i64 X.prev, .int .i64 X.page, .int .i64 X.slot, .bool X.wu, .string X.wd, .bool X.iu, .string X.id, .int .i64 X.next] from HSX.out.en)
            obtain ⟨c0, c1, c2, c3, c4, c5, c6, c7, c8, c9, c10, c11, c12⟩ := ent_cells HE.out
            go_wp2_with fail
            refine (good_any X wr hsm).mono ?_
            rintro e w4 ⟨rfl, b4⟩
            have HS4 := Lib.hid (HSX.out.next b4)
            have hbel := HS4.out.bel
            have HZ := Lib.hid (show Blk w4 w.heap.size 56 #[.int .i64 noE.kind, .int .i64 noE.cl, .int .i64 noE.ep, .int .i64 noE.n, .int .i64 noE.lsn, .int .i64 noE.prev, .int .i64 noE.page, .int .i64 noE.slot, .bool noE.wu, .string noE.wd, .bool noE.iu, .string noE.id, .int .i64 noE.next] from HS4.out.res)
            clear HSX HE b4 c0 c1 c2 c3 c4 c5 c6 c7 c8 c9 c10 c11 c12 r0 r1
            obtain ⟨r0, r1, _, _⟩ := HS4.out.rd.get
            obtain ⟨z0, z1, z2, z3, z4, z5, z6, z7, z8, z9, z10, z11, z12⟩ := ent_cells HZ.out
            obtain ⟨q0, q1, q2, q3, q4, q5, q6, q7, q8, q9, q10, q11, q12⟩ := ent_frozen HZ.out
            cases hgd : goodB X with
            | false =>
              have HF := Lib.hid (HFAIL.out (.inr hgd))
              clear hgd HFAIL HOK
              go_wp2
              refine bodyPost_ret (v := .tuple #[.agg #[.int .i64 0, .int .i64 0, .int .i64 0, .int .i64 0, .int .i64 0, .int .i64 0, .int .i64 0, .int .i64 0, .bool false, .string ⟨#[]⟩, .bool false, .string ⟨#[]⟩, .int .i64 0], .string ⟨#[]⟩, .int .i64 4]) (by simp [results, Try.results50, go_sem, z0, z1, z2, z3, z4, z5, z6, z7, z8, z9, z10, z11, z12]) rfl ?_
              obtain ⟨f1, f2, f3⟩ := HF.out
              refine ⟨by rw [f1, f2, f3]; rfl, ?_⟩
              exact below13 hbel (Nat.le_refl _) _ _ _ _ _ _ _ _ _ _ _ _ _
            | true =>
              have HF := Lib.hid (by simpa using HOK.out (by simp) hgd)
              have HE := Lib.hid (show Blk w4 g 56 #[.int .i64 X.kind, .int .i64 X.cl, .int .i64 X.ep, .int .i64 X.n, .int .i64 X.lsn, .int .i64 X.prev, .int .i64 X.page, .int .i64 X.slot, .bool X.wu, .string X.wd, .bool X.iu, .string X.id, .int .i64 X.next] from HS4.out.en)
              obtain ⟨c0, c1, c2, c3, c4, c5, c6, c7, c8, c9, c10, c11, c12⟩ := ent_cells HE.out
              have hne : g ≠ w.heap.size := Ne.symm PL.out.rg
              have hnb : b ≠ w.heap.size := Ne.symm PL.out.rb
              clear hgd HFAIL HOK
              go_wp2_with fail
              go_region
              go_wp2
              refine bodyPost_ret (v := .tuple #[.agg #[.int .i64 X.kind, .int .i64 X.cl, .int .i64 X.ep, .int .i64 X.n, .int .i64 X.lsn, .int .i64 X.prev, .int .i64 X.page, .int .i64 X.slot, .bool X.wu, .string X.wd, .bool X.iu, .string X.id, .int .i64 X.next], .string (arr T), .int .i64 0]) (by simp [results, Try.results50, go_sem, z0, z1, z2, z3, z4, z5, z6, z7, z8, z9, z10, z11, z12]) rfl ?_
              obtain ⟨f1, f2, f3⟩ := HF.out
              refine ⟨by rw [f1, f2, f3]; rfl, ?_⟩
              first
              | exact (below13 hbel (Nat.le_refl _) _ _ _ _ _ _ _ _ _ _ _ _ _).drew
              | exact below13 hbel.drew (Nat.le_refl _) _ _ _ _ _ _ _ _ _ _ _ _ _
end Go.Proofs.Ytjffjmffoffblaa.Ent
