/- The walks of entry.write, Encode, Cost. -/
import Derived.Test.YtjffjmffoffblaaQEntAll
import Derived.Test.YtjffjmffoffblaaQSlabBookC
namespace Go.Proofs.Ytjffjmffoffblaa.Ent
set_option maxRecDepth 100000
open Go.RowKit
open Go.Proofs.Ytjffjmffoffblaa.Slab (Blk ret_int' bld_next byteCells_app)
open Go.Proofs.Ytjffjmffoffblaa.Nib (below_next below_drew enc encStr Fits)

theorem PRow.oth {w w' : World} {b : Nat} {vs : List Value} (h : PRow w b vs) (o : Bld.Oth w w') : PRow w' b vs := by
  obtain ⟨cs, T, fr, h1, h2, h3⟩ := h
  refine ⟨cs, T, fr, o b cs T fr h1 ?_ ?_, h2, h3⟩
  · rcases h2 with rfl | rfl <;> decide
  · rcases h2 with rfl | rfl <;> decide
theorem P2.oth {lg : Bool} {so : Option Addr} {N g : Nat} {W W' : World} (h : P2 lg so N g W) (o : Bld.Oth W W') : P2 lg so N g W' := fun hl => by
  obtain ⟨b2, h1, h2, h3⟩ := h hl
  exact ⟨b2, h1, h2, h3.oth o⟩
theorem P2.below {lg : Bool} {so : Option Addr} {N g : Nat} {W W' : World} (h : P2 lg so N g W) (o : Below W.heap.size W W') : P2 lg so N g W' := fun hl => by
  obtain ⟨b2, h1, h2, h3⟩ := h hl
  exact ⟨b2, h1, h2, prow_next h3 o⟩

def numE : Nat → Ent → Int
  | 0, x => x.kind | 1, x => x.cl | 2, x => x.ep | 3, x => x.n | 4, x => x.lsn | 5, x => x.prev | 6, x => x.page | 7, x => x.slot | _ + 8, x => x.next
theorem numE_cell (x : Ent) : ∀ k, k < 8 → (entA x)[offs (k + 1)]? = some (.int .i64 (numE (k + 1) x))
  | 0, _ => rfl | 1, _ => rfl | 2, _ => rfl | 3, _ => rfl | 4, _ => rfl | 5, _ => rfl | 6, _ => rfl | 7, _ => rfl
  | k + 8, h => absurd h (by omega)
def bN : Nat → Ent → List UInt8
  | 0, x => enc x.kind
  | k + 1, x => bN k x ++ enc (numE (k + 1) x)
def slE (k : Nat) (x : Ent) : Bool × ByteArray := if k = 0 then (x.wu, x.wd) else (x.iu, x.id)
theorem slE_cell (x : Ent) : ∀ k, k < 2 → (entA x)[8 + 2 * k]? = some (.bool (slE k x).1) ∧ (entA x)[8 + 2 * k + 1]? = some (.string (slE k x).2)
  | 0, _ => ⟨rfl, rfl⟩ | 1, _ => ⟨rfl, rfl⟩
  | k + 2, h => absurd h (by omega)
def sN (m : Nat) : Nat → Ent → List UInt8
  | 0, x => bN m x
  | k + 1, x => sN m k x ++ slotL (slE k x).1 (slE k x).2.data.toList
theorem sN_all {x : Ent} {lg : Bool} (h : longB x.kind = lg) : sN (mN lg) (nN lg) x = rawL x := by
  unfold rawL
  rw [h]
  cases lg with
  | true =>
    simp only [if_true]
    show (((((((((enc x.kind ++ enc x.cl) ++ enc x.ep) ++ enc x.n) ++ enc x.lsn) ++ enc x.prev) ++ enc x.page) ++ enc x.slot) ++ enc x.next) ++ slotL x.wu x.wd.data.toList) ++ slotL x.iu x.id.data.toList = _
    simp only [headL, tailL, List.append_assoc]
  | false =>
    simp only [Bool.false_eq_true, if_false, List.append_nil]
    rfl
theorem fits_small {n : Int} (h0 : 0 ≤ n) (h1 : n ≤ 1099511627776) : Fits n := ⟨by omega, by omega⟩
theorem num_fits {x : Ent} (h : goodB x = true) (k : Nat) : Fits (numE k x) := by
  have hk := kind_fits h
  have hh : headB x = true := by unfold goodB at h; simp only [Bool.and_eq_true] at h; exact h.1
  obtain ⟨h1, h2, h3, h4, h5, h6⟩ := head_parts hh
  have ht : (0 ≤ x.page ∧ x.page ≤ 1023) ∧ (0 ≤ x.slot ∧ x.slot ≤ 31) ∧ 0 ≤ x.next ∧ x.next ≤ 1099511627776 := by
    cases hl : longB x.kind with
    | true =>
      obtain ⟨_, hc, hn⟩ := good_long h hl
      obtain ⟨c1, c2, _, _⟩ := ch_parts hc
      exact ⟨c1, c2, by omega, by omega⟩
    | false =>
      obtain ⟨b1, b2, _, _, _, _, b7⟩ := of_decide_eq_true (good_short h hl).2.2
      omega
  match k with
  | 0 => exact fits_small (show 0 ≤ x.kind by omega) (show x.kind ≤ _ by omega)
  | 1 => exact fits_small (show 0 ≤ x.cl by omega) (show x.cl ≤ _ by omega)
  | 2 => exact fits_small (show 0 ≤ x.ep by omega) (show x.ep ≤ _ by omega)
  | 3 => exact fits_small (show 0 ≤ x.n by omega) (show x.n ≤ _ by omega)
  | 4 => exact fits_small (show 0 ≤ x.lsn by omega) (show x.lsn ≤ _ by omega)
  | 5 => exact fits_small (show 0 ≤ x.prev by omega) (show x.prev ≤ _ by omega)
  | 6 => exact fits_small (show 0 ≤ x.page by omega) (show x.page ≤ _ by omega)
  | 7 => exact fits_small (show 0 ≤ x.slot by omega) (show x.slot ≤ _ by omega)
  | k + 8 => exact fits_small (show 0 ≤ x.next by omega) (show x.next ≤ _ by omega)
theorem bN_len {x : Ent} (h : goodB x = true) (k : Nat) : (bN k x).length ≤ 10 * (k + 1) := by
  induction k with
  | zero => exact Nib.enc_le (num_fits h 0)
  | succ k ih =>
    have := Nib.enc_le (num_fits h (k + 1))
    simp only [bN, List.length_append]; omega
theorem slE_fits {x : Ent} (h : goodB x = true) (hl : longB x.kind = true) (k : Nat) : fitsB (slE k x).1 (slE k x).2 = true := by
  obtain ⟨_, hc, _⟩ := good_long h hl
  obtain ⟨_, _, c3, c4⟩ := ch_parts hc
  unfold slE
  split
  · exact c3
  · exact c4
theorem sN_len {x : Ent} (h : goodB x = true) (hl : longB x.kind = true) {m : Nat} (hm : m ≤ 8) (k : Nat) : (sN m k x).length ≤ 90 + 203 * k := by
  induction k with
  | zero => have := bN_len h m; simp only [sN]; omega
  | succ k ih =>
    have := slotL_len (slE_fits h hl k)
    simp only [sN, List.length_append]; omega

theorem _root_.Go.Proofs.Ytjffjmffoffblaa.Slab.bld_lt {T e : TypeId} {B b : Nat} {p : Value} {bs : List Value} {W : World} (h : Lib.BuilderAt T e B b p bs W) : b < W.heap.size := by
  obtain ⟨hB, v, hbk, _⟩ := h
  exact (Array.getElem?_eq_some_iff.1 hbk).1
theorem str_cells {a : ByteArray} {l : List UInt8} (h : a.data.toList = l) : Lib.strCells a = Lib.byteCells l := by rw [Lib.strCells_eq, h]
/-- WriteString, in bytes -/
theorem ws_any (b : Nat) (l m : List UInt8) (s : ByteArray) (w : World) (hs : s.data.toList = m) (h : Lib.IsBuilder 82 5 b b (Lib.byteCells l) w) (hlen : l.length + m.length ≤ 140737488355328) (hBw : b ≤ w.heap.size) :
    Calls Try.prog 35 #[.pointer (some ⟨b, 0, none⟩), .string s] w fun e w' => e = .returned (.tuple #[.int .i64 s.size, .nilIface]) ∧ Lib.BuilderAt 82 5 b b (.pointer (some ⟨b, 0, none⟩)) (Lib.byteCells (l ++ m)) w' ∧ Below b w w' ∧ Bld.Oth w w' := by
  have hl : s.size = m.length := by rw [← hs]; simp
  have := Bld.writeString_any b b _ s w h (by rw [Lib.byteCells_length]; omega) hBw
  rw [str_cells hs, byteCells_app] at this
  exact this.mono fun _ _ ⟨h1, h2, h3, h4⟩ => ⟨h1, h2, h3, h4⟩
theorem app_list {a b : ByteArray} : (a ++ b).data.toList = a.data.toList ++ b.data.toList := by simp

set_option maxRecDepth 100000 in
set_option maxHeartbeats 4000000 in
theorem write_any (x : Ent) (w : World) (hx : goodB x = true) :
    Calls Try.prog 61 #[.agg #[.int .i64 x.kind, .int .i64 x.cl, .int .i64 x.ep, .int .i64 x.n, .int .i64 x.lsn, .int .i64 x.prev, .int .i64 x.page, .int .i64 x.slot, .bool x.wu, .string x.wd, .bool x.iu, .string x.id, .int .i64 x.next]] w fun e w' => e = .returned (.string (arr (rawL x))) ∧ Below w.heap.size w w' := by
  have hb0 := below_box w (.cells #[.int .i64 x.kind, .int .i64 x.cl, .int .i64 x.ep, .int .i64 x.n, .int .i64 x.lsn, .int .i64 x.prev, .int .i64 x.page, .int .i64 x.slot, .bool x.wu, .string x.wd, .bool x.iu, .string x.id, .int .i64 x.next] 56)
  have hB0 : Blk (w.alloc (.cells #[.int .i64 x.kind, .int .i64 x.cl, .int .i64 x.ep, .int .i64 x.n, .int .i64 x.lsn, .int .i64 x.prev, .int .i64 x.page, .int .i64 x.slot, .bool x.wu, .string x.wd, .bool x.iu, .string x.id, .int .i64 x.next] 56)) w.heap.size 56 (entA x) := Blk.new w 56 #[.int .i64 x.kind, .int .i64 x.cl, .int .i64 x.ep, .int .i64 x.n, .int .i64 x.lsn, .int .i64 x.prev, .int .i64 x.page, .int .i64 x.slot, .bool x.wu, .string x.wd, .bool x.iu, .string x.id, .int .i64 x.next]
  have hw0 := alloc_lt w (.cells #[.int .i64 x.kind, .int .i64 x.cl, .int .i64 x.ep, .int .i64 x.n, .int .i64 x.lsn, .int .i64 x.prev, .int .i64 x.page, .int .i64 x.slot, .bool x.wu, .string x.wd, .bool x.iu, .string x.id, .int .i64 x.next] 56)
  have HX := Lib.hid hx
  clear hx
  go_enter Try.func61, Try.ntmps61
  go_upto_region 1 with (fail)
  generalize hGen : w.alloc (.cells #[.int .i64 x.kind, .int .i64 x.cl, .int .i64 x.ep, .int .i64 x.n, .int .i64 x.lsn, .int .i64 x.prev, .int .i64 x.page, .int .i64 x.slot, .bool x.wu, .string x.wd, .bool x.iu, .string x.id, .int .i64 x.next] 56) = W at hb0 hB0 hw0 ⊢
  clear hGen
  generalize hGen : w.heap.size = g at hB0 hw0 ⊢
  clear hGen
  have HB0 := Lib.hid hb0
  have HE0 := Lib.hid hB0
  have hfr := Lib.fresh_isBuilder 82 5 W
  have hb1 := below_box W (.cells #[.pointer none, .slice none 0 0] 82)
  have hE1 := Lib.hid (hB0.below hb1 hw0)
  have c0 : (W.alloc (.cells #[.pointer none, .slice none 0 0] 82)).cell? ⟨g, 0, none⟩ = some (.int .i64 x.kind) := hE1.out.cell 0
  have HFR := Lib.hid hfr
  have HB1 := Lib.hid hb1
  have hw1 := alloc_lt W (.cells #[.pointer none, .slice none 0 0] 82)
  clear hb0 hB0 hfr hb1
  go_wp2_with fail
  generalize hGen : W.alloc (.cells #[.pointer none, .slice none 0 0] 82) = W1 at c0 HFR HB1 hw1 hE1 ⊢
  clear hGen
  refine (Nib.intB x.kind _ (num_fits HX.out 0)).mono ?_
  rintro e w1 ⟨rfl, b1⟩
  have HB2 := Lib.hid (HB1.out.trans (b1.mono (Nat.le_of_lt hw1)))
  have HI2 := Lib.hid (show Lib.IsBuilder 82 5 W.heap.size W.heap.size (Lib.byteCells []) w1 from HFR.out.elim (fun h => .inl (bld_next h b1)) fun h => .inr (bld_next h b1))
  have hw2 : W.heap.size < w1.heap.size := Nat.lt_of_lt_of_le hw1 b1.size
  clear HB1 hE1 HFR b1 c0 hw1
  have hwb := HB0.out.size
  generalize hbb : W.heap.size = bb at HB2 HI2 hw2 hw0 hwb
  clear hbb
  go_wp2_with fail
  refine (ws_any bb [] (enc x.kind) (Nib.encB x.kind) w1 (Nib.encB_list _).symm HI2.out (by have := Nib.enc_le (num_fits HX.out 0); show 0 + (enc x.kind).length ≤ _; have h2 : (enc (numE 0 x)).length = (enc x.kind).length := rfl; omega) (by omega)).mono ?_
  rintro e w2 ⟨rfl, h2, b2, o2⟩
  have HB3 := Lib.hid (HB2.out.trans b2)
  have hs3 : bb < w2.heap.size := Nat.lt_of_lt_of_le hw2 b2.size
  have HI3 := Lib.hid (show Lib.BuilderAt 82 5 bb bb (.pointer (some ⟨bb, 0, none⟩)) (Lib.byteCells (bN 0 x)) w2 from h2)
  clear h2 b2 o2 HB2 HI2 hw2
  have c0 : w2.cell? ⟨g, 0, none⟩ = some (.int .i64 x.kind) := (HB3.out.cell (p := ⟨g, 0, none⟩) hw0).trans (HE0.out.cell 0)
  have hLG : longB x.kind = longB x.kind := rfl
  generalize hlg : longB x.kind = lg at hLG
  clear hLG
  have HLG := Lib.hid hlg
  go_wp2_with fail
  refine (fields_any lg g x.kind w2 c0 hlg).mono ?_
  rintro e w3 ⟨b1, cap1, so, cap2, rfl, hq1, hp1, hp2, bf⟩
  clear c0 hlg
  have HB4 := Lib.hid (HB3.out.trans (bf.mono (Nat.le_of_lt hs3)))
  have HI4 := Lib.hid (bld_next HI3.out bf)
  have hs4 : bb < w3.heap.size := Nat.lt_of_lt_of_le hs3 bf.size
  have P1 := Lib.hid hp1
  have PP2 := Lib.hid hp2
  clear HB3 HI3 hp1 hp2 bf
  have SA := Lib.hid (sN_all HLG.out)
  have hm8 := mN_le lg
  have HNL := Lib.hid (fun k (h : k < nN lg) => (show lg = true ∧ k < 2 from by cases lg with | true => exact ⟨rfl, h⟩ | false => exact absurd h (by simp [nN])))
  generalize hmm : mN lg = m at P1 SA hm8 ⊢
  generalize hnn : nN lg = n2 at SA HNL ⊢
  clear hmm hnn
  go_wp2_with fail
  go_loopw [20] (fun i wr => ∃ k : Nat, k ≤ m ∧ i = .int .i64 (k : Int) ∧ Lib.BuilderAt 82 5 bb bb (.pointer (some ⟨bb, 0, none⟩)) (Lib.byteCells (bN k x)) wr ∧ Below bb W wr ∧ PRow wr b1 (ptrs g (numsL m)) ∧ P2 lg so w2.heap.size g wr) (fun i _ => m - (intOf i).toNat)
  case atStart => exact ⟨0, by omega, rfl, HI4.out, HB4.out, P1.out, PP2.out⟩
  case round =>
    obtain ⟨k, hk, rfl, hi, hb, hp1, hp2⟩ := hrel
    have HI := Lib.hid hi
    have HB := Lib.hid hb
    have HP1 := Lib.hid hp1
    have HP2 := Lib.hid hp2
    have hbs := Slab.bld_lt hi
    clear hi hb hp1 hp2
    by_cases hlt : k < m
    · have hp := HP1.out.get (numsL_get hlt g)
      have hc : wr.cell? ⟨g, offs (k + 1), none⟩ = some (.int .i64 (numE (k + 1) x)) := (HB.out.cell (p := ⟨g, offs (k + 1), none⟩) hw0).trans ((HE0.out.cell _).trans (numE_cell x k (by omega)))
      have hf := num_fits HX.out (k + 1)
      have HF := Lib.hid hf
      clear hf
      generalize offs (k + 1) = o at hp hc
      go_wp2_with fail
      refine (Nib.intB (numE (k + 1) x) _ HF.out).mono ?_
      rintro e w4 ⟨rfl, b4⟩
      have HB5 := Lib.hid (HB.out.trans (b4.mono (Nat.le_of_lt hbs)))
      have HI5 := Lib.hid (bld_next HI.out b4)
      have HP15 := Lib.hid (prow_next HP1.out b4)
      have HP25 := Lib.hid (HP2.out.below b4)
      have hs5 : bb ≤ w4.heap.size := Nat.le_trans (Nat.le_of_lt hbs) b4.size
      clear b4
      go_wp2_with fail
      refine (ws_any bb (bN k x) (enc (numE (k + 1) x)) (Nib.encB (numE (k + 1) x)) w4 (Nib.encB_list _).symm (.inr HI5.out) (by have h1 := Nib.enc_le HF.out; have h2 := bN_len HX.out k; omega) hs5).mono ?_
      rintro e w5 ⟨rfl, h5, b5, o5⟩
      have HI6 := Lib.hid h5
      have HB6 := Lib.hid (HB5.out.trans b5)
      have HP16 := Lib.hid (HP15.out.oth o5)
      have HP26 := Lib.hid (HP25.out.oth o5)
      clear h5 b5 o5
      go_wp2
      go_roundw
      case rel => exact ⟨k + 1, by omega, by go_num, HI6.out, HB6.out, HP16.out, HP26.out⟩
      case measure => simp [intOf]; omega
    · obtain rfl : k = m := by omega
      go_wp2_with fail
      go_loopw [32] (fun i wr => ∃ j : Nat, j ≤ n2 ∧ i = .int .i64 (j : Int) ∧ Lib.BuilderAt 82 5 bb bb (.pointer (some ⟨bb, 0, none⟩)) (Lib.byteCells (sN k j x)) wr ∧ Below bb W wr ∧ P2 lg so w2.heap.size g wr) (fun i _ => n2 - (intOf i).toNat)
      case atStart => exact ⟨0, by omega, rfl, HI.out, HB.out, HP2.out⟩
      case round =>
        clear HI HB HP1 HP2 hbs
        obtain ⟨j, hj, rfl, hi, hb, hp2⟩ := hrel
        have HI := Lib.hid hi
        have HB := Lib.hid hb
        have HP2 := Lib.hid hp2
        have hbs := Slab.bld_lt hi
        clear hi hb hp2
        by_cases hlt : j < n2
        · obtain ⟨hl, hj2⟩ := HNL.out j hlt
          subst hl
          obtain ⟨b2, rfl, hb2, hq⟩ := HP2.out rfl
          have hp : wr.cell? ⟨b2, j, none⟩ = some (.pointer (some ⟨g, 8 + 2 * j, none⟩)) := hq.get (by match j, hj2 with | 0, _ => rfl | 1, _ => rfl)
          have hc0 : wr.cell? ⟨g, 8 + 2 * j, none⟩ = some (.bool (slE j x).1) := (HB.out.cell (p := ⟨g, 8 + 2 * j, none⟩) hw0).trans ((HE0.out.cell _).trans (slE_cell x j hj2).1)
          have hc1 : wr.cell? ⟨g, 8 + 2 * j + 1, none⟩ = some (.string (slE j x).2) := (HB.out.cell (p := ⟨g, 8 + 2 * j + 1, none⟩) hw0).trans ((HE0.out.cell _).trans (slE_cell x j hj2).2)
          have HSF := Lib.hid (slE_fits HX.out HLG.out j)
          have HSL := Lib.hid (sN_len HX.out HLG.out hm8 j)
          have HNX := Lib.hid (show sN k (j + 1) x = sN k j x ++ slotL (slE j x).1 (slE j x).2.data.toList from rfl)
          clear hq
          generalize 8 + 2 * j = o at hp hc0 hc1
          generalize (slE j x).2 = d at hc1 HSF HNX
          have hd : d.size ≤ 200 := (of_decide_eq_true HSF.out).1
          cases hu : (slE j x).1 with
          | false =>
            rw [hu] at hc0 HNX
            clear hu
            go_wp2_with fail
            refine (Nib.intB 0 _ fits0).mono ?_
            rintro e w4 ⟨rfl, b4⟩
            have HB5 := Lib.hid (HB.out.trans (b4.mono (Nat.le_of_lt hbs)))
            have HI5 := Lib.hid (bld_next HI.out b4)
            have HP25 := Lib.hid (HP2.out.below b4)
            have hs5 : bb ≤ w4.heap.size := Nat.le_trans (Nat.le_of_lt hbs) b4.size
            clear b4
            go_wp2_with fail
            refine (ws_any bb (sN k j x) (enc 0) (Nib.encB 0) w4 (Nib.encB_list _).symm (.inr HI5.out) (by have h1 := Nib.enc_le fits0; have h2 := HSL.out; omega) hs5).mono ?_
            rintro e w5 ⟨rfl, h5, b5, o5⟩
            have HI6 := Lib.hid (show Lib.BuilderAt 82 5 bb bb (.pointer (some ⟨bb, 0, none⟩)) (Lib.byteCells (sN k (j + 1) x)) w5 by rw [HNX.out]; exact h5)
            have HB6 := Lib.hid (HB5.out.trans b5)
            have HP26 := Lib.hid (HP25.out.oth o5)
            clear h5 b5 o5
            go_wp2
            go_roundw
            case rel => exact ⟨j + 1, by omega, by go_num, HI6.out, HB6.out, HP26.out⟩
            case measure => simp [intOf]; omega
          | true =>
            rw [hu] at hc0 HNX
            clear hu
            have hll : (enc 1 ++ encStr d.data.toList).length ≤ 203 := by have := slotL_len (u := true) (d := d) (decide_eq_true ⟨hd, .inl rfl⟩); simpa [slotL] using this
            have happ : (Nib.encB 1 ++ (⟨(encStr d.data.toList).toArray⟩ : ByteArray)).data.toList = enc 1 ++ encStr d.data.toList := by rw [app_list, ← Nib.encB_list]
            have HWS := Lib.hid (fun (W' : World) (hW : Below wr.heap.size wr W') => ws_any bb (sN k j x) (enc 1 ++ encStr d.data.toList) (Nib.encB 1 ++ (⟨(encStr d.data.toList).toArray⟩ : ByteArray)) W' happ (.inr (bld_next HI.out hW)) (by have h2 := HSL.out; omega) (by have := hW.size; omega))
            have HF1 := Lib.hid (fun w => Nib.intB 1 w fits1)
            have HFS := Lib.hid (fun w => Nib.str_any d w (by omega))
            have ha1 : (Nib.encB 1).size ≤ 203 := by rw [Nib.encB_size]; simp at hll; omega
            have ha2 : (⟨(encStr d.data.toList).toArray⟩ : ByteArray).size ≤ 203 := by show (encStr d.data.toList).toArray.size ≤ 203; simp at hll ⊢; omega
            clear happ hll
            generalize (⟨(encStr d.data.toList).toArray⟩ : ByteArray) = E2 at ha2 HWS HFS
            generalize Nib.encB 1 = E1 at ha1 HWS HF1
            go_upto_region 13 with (fail)
            have hcs : g < wr.heap.size := by omega
            go_region_with (first
              | (go_at_call 36; (with_reducible refine (HF1.out _).mono ?_); rintro e wI ⟨rfl, bI⟩; have hcI : wI.cell? ⟨g, o + 1, none⟩ = some (.string d) := (bI.cell (p := ⟨g, o + 1, none⟩) (by first | exact hcs | exact Nat.lt_of_lt_of_le hcs (Below.size (by assumption)))).trans (by first | exact hc1 | assumption))
              | (go_at_call 82; (with_reducible refine (HFS.out _).mono ?_); rintro e wS ⟨rfl, bS⟩)
              | (go_at_call 35; (with_reducible refine (HWS.out _ ?_).mono ?_); (first | exact below_next (below_next (Below.refl _ _).drew bI) bS | exact below_next (below_next (Below.refl _ _).drew bS) bI); rintro e w5 ⟨rfl, h5, b5, o5⟩))
            all_goals
              have HI6 := Lib.hid (show Lib.BuilderAt 82 5 bb bb (.pointer (some ⟨bb, 0, none⟩)) (Lib.byteCells (sN k (j + 1) x)) w5 by rw [HNX.out]; exact h5)
              have hW : Below wr.heap.size wr _ := (by first | exact below_next (below_next (Below.refl _ _).drew bI) bS | exact below_next (below_next (Below.refl _ _).drew bS) bI)
              have HB6 := Lib.hid ((HB.out.trans (hW.mono (Nat.le_of_lt hbs))).trans b5)
              have HP26 := Lib.hid ((HP2.out.below hW).oth o5)
              clear h5 b5 o5 bI bS hW
              go_wp2
              go_roundw
              case rel => exact ⟨j + 1, by omega, by go_num, HI6.out, HB6.out, HP26.out⟩
              case measure => simp [intOf]; omega
        · obtain rfl : j = n2 := by omega
          have hss := Try.Builder_String_any bb bb _ wr (.inr HI.out) (Nat.le_of_lt hbs)
          rw [SA.out] at hss
          have HSS := Lib.hid hss
          clear hss
          go_wp2_with fail
          refine HSS.out.mono ?_
          rintro e w7 ⟨rfl, b7⟩
          go_wp2
          go_ret
          exact ⟨rfl, HB0.out.trans ((HB.out.trans b7).mono hwb)⟩

set_option maxRecDepth 100000 in
set_option maxHeartbeats 800000 in
theorem encode_any (x : Ent) (w : World) (hx : Small x) :
    Calls Try.prog 39 #[.agg #[.int .i64 x.kind, .int .i64 x.cl, .int .i64 x.ep, .int .i64 x.n, .int .i64 x.lsn, .int .i64 x.prev, .int .i64 x.page, .int .i64 x.slot, .bool x.wu, .string x.wd, .bool x.iu, .string x.id, .int .i64 x.next]] w fun e w' => e = .returned (.tuple #[.string (encE x), .int .i64 (codeE x)]) ∧ Below w.heap.size w w' := by
  have hb := below_box w (.cells #[.int .i64 x.kind, .int .i64 x.cl, .int .i64 x.ep, .int .i64 x.n, .int .i64 x.lsn, .int .i64 x.prev, .int .i64 x.page, .int .i64 x.slot, .bool x.wu, .string x.wd, .bool x.iu, .string x.id, .int .i64 x.next] 56)
  have hg := alloc_lt w (.cells #[.int .i64 x.kind, .int .i64 x.cl, .int .i64 x.ep, .int .i64 x.n, .int .i64 x.lsn, .int .i64 x.prev, .int .i64 x.page, .int .i64 x.slot, .bool x.wu, .string x.wd, .bool x.iu, .string x.id, .int .i64 x.next] 56)
  have hB := Blk.new w 56 #[.int .i64 x.kind, .int .i64 x.cl, .int .i64 x.ep, .int .i64 x.n, .int .i64 x.lsn, .int .i64 x.prev, .int .i64 x.page, .int .i64 x.slot, .bool x.wu, .string x.wd, .bool x.iu, .string x.id, .int .i64 x.next]
  have HS := Lib.hid hx
  clear hx
  go_enter Try.func39, Try.ntmps39
  go_upto_region 1 with (fail)
  generalize hGen : w.alloc (.cells #[.int .i64 x.kind, .int .i64 x.cl, .int .i64 x.ep, .int .i64 x.n, .int .i64 x.lsn, .int .i64 x.prev, .int .i64 x.page, .int .i64 x.slot, .bool x.wu, .string x.wd, .bool x.iu, .string x.id, .int .i64 x.next] 56) = W at hb hg hB ⊢
  clear hGen
  obtain ⟨c0, c1, c2, c3, c4, c5, c6, c7, c8, c9, c10, c11, c12⟩ := ent_cells hB
  go_wp2_with fail
  refine (good_any x _ HS.out).mono ?_
  rintro e w1 ⟨rfl, b1⟩
  have hB1 := hB.below b1 hg
  have hb1 := below_next hb b1
  obtain ⟨d0, d1, d2, d3, d4, d5, d6, d7, d8, d9, d10, d11, d12⟩ := ent_cells hB1
  clear c0 c1 c2 c3 c4 c5 c6 c7 c8 c9 c10 c11 c12 hB hb
  cases hgd : goodB x with
  | false =>
    have HG := Lib.hid hgd
    clear hgd
    go_wp2
    go_ret2
    exact ⟨by unfold encE codeE; rw [HG.out]; rfl, hb1⟩
  | true =>
    have HG := Lib.hid hgd
    clear hgd
    go_wp2_with fail
    refine (write_any x _ HG.out).mono ?_
    rintro e w2 ⟨rfl, b2⟩
    go_wp2
    go_ret2
    exact ⟨by unfold encE codeE; rw [HG.out]; rfl, below_next hb1 b2⟩
end Go.Proofs.Ytjffjmffoffblaa.Ent
