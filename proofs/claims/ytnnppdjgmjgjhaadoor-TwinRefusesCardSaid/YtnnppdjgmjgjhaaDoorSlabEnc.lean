/- The walk of slab.Encode. -/
import Derived.Test.YtnnppdjgmjgjhaaDoorSlabVac
import Derived.Test.YtnnppdjgmjgjhaaDoorBuilder
import Derived.Test.YtnnppdjgmjgjhaaDoorShelf
import Derived.Laws.ShiftsVar
namespace Go.Proofs.YtnnppdjgmjgjhaaDoor.Slab
set_option maxRecDepth 100000
open Go.RowKit Go.Sort

def byteAt (L : Nat) (s : Nat) : UInt8 := UInt8.ofNat (L / 256 ^ s % 256)
/-- the bytes of a number, the highest of eight first, when t are still to come -/
def beL (L : Nat) (t : Nat) : List UInt8 := (List.range (8 - t)).map fun i => byteAt L (7 - i)
theorem beL_next (L s : Nat) (h : s < 8) : beL L s = beL L (s + 1) ++ [byteAt L s] := by
  unfold beL
  have e : 8 - s = (8 - (s + 1)) + 1 := by omega
  rw [e, List.range_succ, List.map_append]
  congr 2
  simp only [List.map_cons, List.map_nil]
  congr 2; omega
theorem beL_length (L t : Nat) : (beL L t).length = 8 - t := by simp [beL]
def slotB (x : Slot) : List UInt8 := if x.u then UInt8.ofNat x.d.size :: x.d.data.toList else [255]
def slotsB (l : List Slot) : List UInt8 := l.flatMap slotB
/-- the bytes ahead of the zeros -/
def headB (L : Nat) (l : List Slot) : List UInt8 := beL L 0 ++ UInt8.ofNat l.length :: slotsB l
def encB (L : Nat) (l : List Slot) : List UInt8 := headB L l ++ List.replicate (240 - (headB L l).length) 0
def encCode (lsn : Int) (l : List Slot) : Int := if goodB lsn l then 0 else 1
def encS' (lsn : Int) (l : List Slot) : ByteArray := if goodB lsn l then ⟨(encB lsn.toNat l).toArray⟩ else ⟨#[]⟩

set_option maxRecDepth 100000 in
set_option maxHeartbeats 4000000 in
theorem enc_bad (lsn : Int) (a : Option Addr) (n c : Nat) (zs : List Slot) (w : World) (h : Slots w a n zs) (hn : n ≤ 1000000) (hg : goodB lsn zs = false) :
    Calls Tryd.prog 48 #[.agg #[.int .i64 lsn, .slice a n c]] w fun e w' => e = .returned (.tuple #[.string (encS' lsn zs), .int .i64 (encCode lsn zs)]) ∧ Below w.heap.size w w' := by
  have hb0 : Below w.heap.size w (w.alloc (.cells #[.int .i64 lsn, .slice a n c] 41)) := (Below.refl _ _).alloc (Nat.le_refl _) _
  have HS := Lib.hid (h.below hb0)
  obtain ⟨c0, c1⟩ := page_cells w (.int .i64 lsn) (.slice a n c) 41
  have HG := Lib.hid hg
  clear hg h
  go_enter Tryd.func48, Tryd.ntmps48
  go_wp2_with fail
  generalize hGen : w.alloc (.cells #[.int .i64 lsn, .slice a n c] 41) = W at c0 c1 hb0 HS ⊢
  clear hGen
  refine (good_any lsn a n c zs _ HS.out (by omega)).mono ?_
  rw [HG.out]
  rintro e w1 ⟨rfl, b1⟩
  go_wp2
  go_ret2
  exact ⟨by unfold encS' encCode; rw [HG.out]; rfl, hb0.trans (b1.mono hb0.size)⟩
theorem byteAt_int (L s : Nat) : ((byteAt L s).toNat : Int) = (L : Int) / 2 ^ (8 * s) % 256 := by
  unfold byteAt
  have e : (256 : Nat) ^ s = 2 ^ (8 * s) := by rw [Nat.pow_mul]
  rw [e, UInt8.toNat_ofNat']
  have h1 : ((L : Int) / 2 ^ (8 * s)) = ((L / 2 ^ (8 * s) : Nat) : Int) := by simp
  rw [h1]
  generalize L / 2 ^ (8 * s) = q
  omega
theorem ofNat_int {n : Nat} (h : n ≤ 255) : ((UInt8.ofNat n).toNat : Int) = (n : Int) := by rw [UInt8.toNat_ofNat']; omega
theorem byteCells_snoc (l : List UInt8) (b : UInt8) (c : Int) (h : (b.toNat : Int) = c) : Lib.byteCells l ++ [.int .u8 c] = Lib.byteCells (l ++ [b]) := by
  rw [← h]; simp [Lib.byteCells]
theorem byteCells_app (l m : List UInt8) : Lib.byteCells l ++ Lib.byteCells m = Lib.byteCells (l ++ m) := by simp [Lib.byteCells]
theorem bld_next {T e : TypeId} {B b : Nat} {p : Value} {bs : List Value} {W W' : World} (h : Lib.BuilderAt T e B b p bs W) (hb : Below W.heap.size W W') : Lib.BuilderAt T e B b p bs W' := by
  obtain ⟨hB, v, hbk, hown, hne⟩ := h
  have hlt : b < W.heap.size := (Array.getElem?_eq_some_iff.1 hbk).1
  refine ⟨hB, v, (hb.block b hlt).trans hbk, hown.kept (row := none) ⟨hb.os, hb.tape, hb.output, hb.size, fun k hk _ => hb.block k hk⟩ ?_, hne⟩
  rcases hown.2 with ⟨rfl, _⟩ | ⟨g, cap, cur, rfl, _⟩
  · exact .inl rfl
  · exact .inr (by simp [Value.ownBlock])
theorem slotsB_next {l : List Slot} {k : Nat} {x : Slot} (h : l[k]? = some x) : slotsB (l.take (k + 1)) = slotsB (l.take k) ++ slotB x := by
  rw [take_next h]; simp [slotsB]
theorem slotsB_le (l : List Slot) : (slotsB l).length ≤ sz l := by
  induction l with
  | nil => simp [slotsB, sz]
  | cons x r ih =>
    have h1 : (slotB x).length ≤ 1 + x.d.size := by
      unfold slotB
      cases x.u with
      | true => simp; omega
      | false => simp
    simp only [slotsB, List.flatMap_cons, List.length_append, sz] at ih ⊢
    omega
theorem rep_zero (q : Nat) : Lib.repeatL ((⟨#[0]⟩ : ByteArray)).data.toList q = List.replicate q 0 := by
  induction q with
  | zero => rfl
  | succ q ih => rw [List.replicate_succ, ← ih]; rfl
set_option maxRecDepth 100000 in
set_option maxHeartbeats 4000000 in
theorem enc_good (L : Nat) (a : Option Addr) (n c : Nat) (zs : List Slot) (w : World) (h : Slots w a n zs) (hg : goodB (L : Int) zs = true) :
    Calls Tryd.prog 48 #[.agg #[.int .i64 (L : Int), .slice a n c]] w fun e w' => e = .returned (.tuple #[.string (encS' L zs), .int .i64 (encCode L zs)]) ∧ Below w.heap.size w w' := by
  have hn : n ≤ 32 := by have := h.len; simp [goodB] at hg; omega
  have hL : L ≤ 1099511627776 := by simp [goodB] at hg; omega
  have hb0 : Below w.heap.size w (w.alloc (.cells #[.int .i64 (L : Int), .slice a n c] 41)) := (Below.refl _ _).alloc (Nat.le_refl _) _
  have HS := Lib.hid (h.below hb0)
  have HO := Lib.hid h
  have hsz : w.heap.size < (w.alloc (.cells #[.int .i64 (L : Int), .slice a n c] 41)).heap.size := by simp
  obtain ⟨c0, c1⟩ := page_cells w (.int .i64 (L : Int)) (.slice a n c) 41
  have HG := Lib.hid hg
  clear hg h
  go_enter Tryd.func48, Tryd.ntmps48
  go_wp2_with fail
  generalize hGen : w.alloc (.cells #[.int .i64 (L : Int), .slice a n c] 41) = W at c0 c1 hb0 HS hsz ⊢
  clear hGen
  refine (good_any L a n c zs _ HS.out (by omega)).mono ?_
  rw [HG.out]
  rintro e w1 ⟨rfl, b1⟩
  have hb1 := hb0.trans (b1.mono hb0.size)
  have d0 := (b1.cell (p := ⟨w.heap.size, 0, none⟩) hsz).trans c0
  have d1 := (b1.cell (p := ⟨w.heap.size, 1, none⟩) hsz).trans c1
  have hsz1 := Nat.lt_of_lt_of_le hsz b1.size
  have HS1 := Lib.hid (HS.out.below b1)
  clear b1 hb0 c0 c1 HS hsz
  go_wp2_with fail
  refine (Tryd.Builder_Grow_fresh w1.heap.size w1.heap.size 240 _ (Nat.le_refl _) (World.alloc_heap_new w1 _) (by simp) (by omega)).mono ?_
  rintro e w2 ⟨rfl, B2, b2⟩
  have b2 := ((Below.refl w1.heap.size w1).alloc (Nat.le_refl _) (.cells #[.pointer none, .slice none 0 0] 90)).trans b2
  go_wp2
  go_loopw [5] (fun i wr => ∃ t : Nat, t ≤ 8 ∧ i = .int .i64 ((t : Int) - 1) ∧ Hid (Lib.BuilderAt 90 5 w1.heap.size w1.heap.size (.pointer (some ⟨w1.heap.size, 0, none⟩)) (Lib.byteCells (beL L t)) wr) ∧ Below w1.heap.size w1 wr) (fun i _ => (intOf i + 1).toNat)
  case atStart => exact ⟨8, by omega, rfl, B2, b2⟩
  case round =>
    obtain ⟨t, ht, hi, HB, hb⟩ := hrel
    have e0 := (hb.cell (p := ⟨w.heap.size, 0, none⟩) hsz1).trans d0
    have e1 := (hb.cell (p := ⟨w.heap.size, 1, none⟩) hsz1).trans d1
    have hbs := hb.size
    cases t with
    | zero =>
      obtain rfl := hi
      go_wp2_with fail
      have hq := Bld.writeByte_any w1.heap.size w1.heap.size _ (n : Int) wr (.inr HB.out) (by rw [Lib.byteCells_length, beL_length]; omega) hbs
      rw [byteCells_snoc _ (UInt8.ofNat n) _ (ofNat_int (by omega))] at hq
      have HQ := Lib.hid hq
      clear hq
      refine HQ.out.mono ?_
      rintro e w3 ⟨rfl, B3, b3, _⟩
      have b3 := hb.trans b3
      have f1 := (b3.cell (p := ⟨w.heap.size, 1, none⟩) hsz1).trans d1
      have B3 := Lib.hid B3
      go_wp2
      go_loopw [31] (fun i wr => ∃ k : Nat, k ≤ n ∧ i = .int .i64 (k : Int) ∧ Hid (Lib.BuilderAt 90 5 w1.heap.size w1.heap.size (.pointer (some ⟨w1.heap.size, 0, none⟩)) (Lib.byteCells (beL L 0 ++ [UInt8.ofNat n] ++ slotsB (zs.take k))) wr) ∧ Below w1.heap.size w1 wr) (fun i _ => n - (intOf i).toNat)
      case atStart => exact ⟨0, by omega, rfl, by simpa [slotsB] using B3, b3⟩
      case round =>
        obtain ⟨k, hk, rfl, HB, hb⟩ := hrel
        have hbs := hb.size
        by_cases hlt : k < n
        · obtain ⟨b, off, u, d, rfl, hbl, hg, x0, x1, hd⟩ := (HS1.out.mono hb (Nat.le_refl _)).at_ hlt
          have hd2 : d.size ≤ 200 := sizes_of_good HG.out ⟨u, d⟩ (List.mem_of_getElem? hg)
          have hle := sz_take_le zs (k + 1)
          rw [sz_next hg] at hle
          have hle2 : (slotsB (zs.take k)).length + (1 + d.size) ≤ 231 := by
            have h1 := slotsB_le (zs.take k)
            have h2 : sz zs ≤ 231 := by have := HG.out; simp [goodB] at this; omega
            simp only at hle; omega
          have HN := Lib.hid (slotsB_next hg)
          clear hg hle hbl
          have hlen : (beL L 0 ++ [UInt8.ofNat n] ++ slotsB (zs.take k)).length = 9 + (slotsB (zs.take k)).length := by simp [beL_length]; omega
          have HLEN := Lib.hid hlen
          clear hlen
          cases u with
          | true =>
            go_wp2_with fail
            have hbA : Below wr.heap.size wr (wr.alloc (.cells #[.bool true, .string d] 81)) := (Below.refl _ _).alloc (Nat.le_refl _) _
            have hq := Bld.writeByte_any w1.heap.size w1.heap.size _ (d.size : Int) _ (.inr (bld_next HB.out hbA)) (by rw [Lib.byteCells_length, HLEN.out]; omega) (by simp; omega)
            rw [byteCells_snoc _ (UInt8.ofNat d.size) _ (ofNat_int (by omega))] at hq
            have HQ := Lib.hid hq
            clear hq
            refine HQ.out.mono ?_
            rintro e w4 ⟨rfl, B4, b4, o4⟩
            have BX := Lib.hid (o4 wr.heap.size #[.bool true, .string d] 81 (0, 0) (World.alloc_heap_new wr _) (by decide) (by decide))
            have x1b : w4.cell? ⟨wr.heap.size, 1, none⟩ = some (.string d) := by rw [Lib.cell_of_heap BX.out]; rfl
            have hb4 := hb.trans ((hbA.mono hbs).trans b4)
            have hb4s := hb4.size
            have hlen2 : (Lib.byteCells (beL L 0 ++ [UInt8.ofNat n] ++ slotsB (zs.take k) ++ [UInt8.ofNat d.size])).length + d.size ≤ 140737488355328 := by rw [Lib.byteCells_length, List.length_append, HLEN.out]; simp; omega
            have hq2 := Bld.writeString_any w1.heap.size w1.heap.size _ d w4 (.inr B4) hlen2 hb4s
            rw [Lib.strCells_eq, byteCells_app] at hq2
            have HQ2 := Lib.hid hq2
            clear hq2 hlen2
            go_wp2_with fail
            refine HQ2.out.mono ?_
            rintro e w5 ⟨rfl, B5, b5, o5⟩
            have B5 := Lib.hid B5
            have hb5 := hb4.trans b5
            go_wp2
            go_roundw
            case rel => exact ⟨k + 1, by omega, by go_num, by rw [HN.out]; have := B5.out; exact Lib.hid (by simpa [slotB] using this), hb5⟩
            case measure => simp [intOf]; omega
          | false =>
            go_wp2_with fail
            have hbA : Below wr.heap.size wr (wr.alloc (.cells #[.bool false, .string d] 81)) := (Below.refl _ _).alloc (Nat.le_refl _) _
            have hq := Bld.writeByte_any w1.heap.size w1.heap.size _ 255 _ (.inr (bld_next HB.out hbA)) (by rw [Lib.byteCells_length, HLEN.out]; omega) (by simp; omega)
            rw [byteCells_snoc _ 255 _ (by rfl)] at hq
            have HQ := Lib.hid hq
            clear hq
            refine HQ.out.mono ?_
            rintro e w4 ⟨rfl, B4, b4, _⟩
            have B4 := Lib.hid B4
            have HB5 := hb.trans ((hbA.mono hbs).trans b4)
            go_wp2
            go_roundw
            case rel => exact ⟨k + 1, by omega, by go_num, by rw [HN.out, ← List.append_assoc]; exact B4, HB5⟩
            case measure => simp [intOf]; omega
        · obtain rfl : k = n := by omega
          have hlz : zs.length = k := HO.out.len
          have hcut := HB.out
          rw [take_all hlz] at hcut
          have hhd : beL L 0 ++ [UInt8.ofNat k] ++ slotsB zs = headB L zs := by unfold headB; rw [hlz]; simp
          rw [hhd] at hcut
          have hh : (headB L zs).length ≤ 240 := by
            have h1 := slotsB_le zs
            have h2 : sz zs ≤ 231 := by have := HG.out; simp [goodB] at this; omega
            rw [← hhd]; simp [beL_length]; omega
          have hfin0 : encS' (L : Int) zs = ⟨(headB L zs ++ List.replicate (240 - (headB L zs).length) 0).toArray⟩ := by unfold encS'; rw [HG.out]; rfl
          have HFIN := Lib.hid hfin0
          clear hfin0
          obtain ⟨Hd, hHd⟩ : ∃ Hd, Hd = headB L zs := ⟨_, rfl⟩
          rw [← hHd] at hcut hh
          have HHD := Lib.hid hHd
          have HCUT := Lib.hid hcut
          clear hhd hlz hHd hcut
          obtain ⟨q, hq⟩ : ∃ q : Nat, q + Hd.length = 240 := ⟨240 - Hd.length, by omega⟩
          have HQQ := Lib.hid hq
          have hql : q ≤ 240 := by omega
          have hqi : 240 - ((Hd.length : Nat) : Int) = (q : Int) := by omega
          have hbl := Lib.byteCells_length Hd
          clear hq
          have hlr := Tryd.Builder_Len w1.heap.size w1.heap.size (Lib.byteCells Hd) wr (.inr HCUT.out)
          rw [hbl] at hlr
          have HLR := Lib.hid hlr
          clear hlr hbl
          go_wp2_with fail
          refine HLR.out.mono ?_
          rintro e w4 ⟨rfl, rfl⟩
          go_wp2_with fail
          obtain ⟨Z, hZ⟩ : ∃ Z : ByteArray, Z = ⟨(List.replicate q (0 : UInt8)).toArray⟩ := ⟨_, rfl⟩
          have hZl : Z.data.toList = List.replicate q 0 := by rw [hZ]
          have hZs : Z.size = q := by rw [show Z.size = Z.data.toList.length from (Array.length_toList).symm, hZl]; simp
          have hrr := Tryd.strings_Repeat ⟨#[0]⟩ q w4 (by omega) (by show 1 * q ≤ _; omega)
          rw [rep_zero, ← hZ] at hrr
          have HRR := Lib.hid hrr
          have HZL := Lib.hid hZl
          have hZs2 : Z.size ≤ 240 := by omega
          clear hrr hZ hZl hZs
          refine HRR.out.mono ?_
          rintro e w5 ⟨rfl, b5⟩
          have B5 := bld_next HCUT.out b5
          have hb5 := hb.trans (b5.mono hbs)
          have hwr := Bld.writeString_any w1.heap.size w1.heap.size _ Z w5 (.inr B5) (by rw [Lib.byteCells_length]; omega) hb5.size
          rw [Lib.strCells_eq, byteCells_app, HZL.out] at hwr
          have HWR := Lib.hid hwr
          clear hwr B5
          go_wp2_with fail
          refine HWR.out.mono ?_
          rintro e w6 ⟨rfl, B6, b6, _⟩
          have hb6 := hb5.trans b6
          have hss := Tryd.Builder_String_any w1.heap.size w1.heap.size _ w6 (.inr B6) hb6.size
          have hfin : (⟨(Hd ++ List.replicate q 0).toArray⟩ : ByteArray) = encS' (L : Int) zs := by rw [HFIN.out, ← HHD.out]; congr 4; have := HQQ.out; omega
          rw [hfin] at hss
          have HSS := Lib.hid hss
          clear hss hfin B6
          go_wp2_with fail
          refine HSS.out.mono ?_
          rintro e w7 ⟨rfl, b7⟩
          go_wp2
          go_ret2
          exact ⟨by unfold encCode; rw [HG.out]; rfl, hb1.trans ((hb6.trans b7).mono hb1.size)⟩
    | succ s =>
      have hi' : u5 = Value.int .i64 (s : Int) := by rw [hi]; congr 1; omega
      subst hi'
      clear hi
      have s0 : (0 : Int) ≤ (s : Int) := by omega
      have s1 : (s : Int) < 8 := by omega
      have hlen : (Lib.byteCells (beL L (s + 1))).length + 1 ≤ 140737488355328 := by rw [Lib.byteCells_length, beL_length]; omega
      go_wp2_with fail
      have hq := Bld.writeByte_any w1.heap.size w1.heap.size _ ((L : Int) / 2 ^ (8 * s) % 256) wr (.inr HB.out) hlen hbs
      rw [byteCells_snoc _ (byteAt L s) _ (byteAt_int L s), ← beL_next L s (by omega)] at hq
      have HQ := Lib.hid hq
      clear hq
      refine HQ.out.mono ?_
      rintro e w3 ⟨rfl, B3, b3, _⟩
      have B3 := Lib.hid B3
      go_wp2
      go_roundw
      case rel => exact ⟨s, by omega, rfl, B3, hb.trans b3⟩
      case measure => simp [intOf]
theorem enc_any (lsn : Int) (a : Option Addr) (n c : Nat) (zs : List Slot) (w : World) (h : Slots w a n zs) (hn : n ≤ 1000000) :
    Calls Tryd.prog 48 #[.agg #[.int .i64 lsn, .slice a n c]] w fun e w' => e = .returned (.tuple #[.string (encS' lsn zs), .int .i64 (encCode lsn zs)]) ∧ Below w.heap.size w w' := by
  cases hg : goodB lsn zs with
  | false => exact enc_bad lsn a n c zs w h hn hg
  | true =>
    obtain ⟨L, rfl⟩ := Int.eq_ofNat_of_zero_le (show 0 ≤ lsn by simp [goodB] at hg; omega)
    exact enc_good L a n c zs w h hg
end Go.Proofs.YtnnppdjgmjgjhaaDoor.Slab
