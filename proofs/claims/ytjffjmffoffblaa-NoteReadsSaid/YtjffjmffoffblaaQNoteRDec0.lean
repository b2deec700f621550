/- The document's own Decode: its cursor, its check, what its entries come to. -/
import Derived.Test.YtjffjmffoffblaaQNoteRefGood
import Derived.Test.YtjffjmffoffblaaQNoteWrite
import Derived.Test.YtjffjmffoffblaaQNoteCheck
import Derived.Test.YtjffjmffoffblaaQNoteLaws
import Derived.Test.YtjffjmffoffblaaQEntRefEnc
import Derived.Test.YtjffjmffoffblaaQSlabREnc
import Derived.Lib.QuietBelow
import Derived.Test.YtjffjmffoffblaaQNoteRef
namespace Go.Proofs.Ytjffjmffoffblaa.Note
set_option maxRecDepth 100000
open Go.RowKit Go.Sort
open Go.Proofs.Ytjffjmffoffblaa.Nib (enc below_next below_drew Fits takeInt takeVal)
open Go.Proofs.Ytjffjmffoffblaa.Slab (Slot Slots Blk ret_bool' ret_int')
open Go.Proofs.Ytjffjmffoffblaa.Ent (Ent Ents EntAt SmallE withinB knownB noE entA below_box alloc_lt arr arr_list list_arr arr_size ent_cells Only)

/-- the four bytes as a number -/
theorem quad_num {s : ByteArray} (h4 : 4 ≤ s.size) (c : BitVec 32) :
    s.data.toList.take 4 = quadH c ↔ ((s[0]'(by omega)).toNat : Int) * 16777216 + ((s[1]'(by omega)).toNat : Int) * 65536 + ((s[2]'(by omega)).toNat : Int) * 256 + ((s[3]'(by omega)).toNat : Int) = (c.toNat : Int) := by
  have hl : s.data.toList.length = s.size := by simp
  have e : s.data.toList.take 4 = [s[0]'(by omega), s[1]'(by omega), s[2]'(by omega), s[3]'(by omega)] := by
    apply List.ext_getElem
    · simp; omega
    · intro i h1 h2
      simp only [List.getElem_take]
      match i, h2 with
      | 0, _ => simp [ByteArray.getElem_eq_getElem_data]
      | 1, _ => simp [ByteArray.getElem_eq_getElem_data]
      | 2, _ => simp [ByteArray.getElem_eq_getElem_data]
      | 3, _ => simp [ByteArray.getElem_eq_getElem_data]
  rw [e]
  have b0 := (s[0]'(by omega)).toNat_lt
  have b1 := (s[1]'(by omega)).toNat_lt
  have b2 := (s[2]'(by omega)).toNat_lt
  have b3 := (s[3]'(by omega)).toNat_lt
  generalize s[0]'(by omega) = x0 at *
  generalize s[1]'(by omega) = x1 at *
  generalize s[2]'(by omega) = x2 at *
  generalize s[3]'(by omega) = x3 at *
  have hc := c.isLt
  unfold quadH
  simp only [List.cons.injEq, and_true]
  constructor
  · rintro ⟨h0, h1, h2, h3⟩
    have g0 := congrArg UInt8.toNat h0
    have g1 := congrArg UInt8.toNat h1
    have g2 := congrArg UInt8.toNat h2
    have g3 := congrArg UInt8.toNat h3
    rw [Sum.u8_toNat _ (by omega)] at g0 g1 g2 g3
    omega
  · intro h
    refine ⟨UInt8.toNat_inj.1 ?_, UInt8.toNat_inj.1 ?_, UInt8.toNat_inj.1 ?_, UInt8.toNat_inj.1 ?_⟩ <;> (rw [Sum.u8_toNat _ (by omega)]; omega)

/-- a cursor in memory -/
def CRd (w : World) (b : Nat) (s : List UInt8) (bad : Bool) : Prop := Blk w b 47 #[.string (arr s), .bool bad]
theorem CRd.get {w : World} {b : Nat} {s : List UInt8} {wr : Bool} (h : CRd w b s wr) : w.cell? ⟨b, 0, none⟩ = some (.string (arr s)) ∧ w.cell? ⟨b, 1, none⟩ = some (.bool wr) ∧ w.frozen? ⟨b, 0, none⟩ = false ∧ w.frozen? ⟨b, 1, none⟩ = false :=
  ⟨Blk.cell h 0, Blk.cell h 1, Blk.frozen h 0, Blk.frozen h 1⟩
theorem CRd.set2 {w : World} {b : Nat} {s r : List UInt8} {wr k : Bool} (h : CRd w b s wr) : CRd ((w.setCell ⟨b, 0, none⟩ (.string (arr r))).setCell ⟨b, 1, none⟩ (.bool k)) b r k := by
  have := (Slab.Blk.set_ (Slab.Blk.set_ h 0 (.string (arr r))) 1 (.bool k))
  simpa [CRd] using this
theorem CRd.set1 {w : World} {b : Nat} {s : List UInt8} {wr k : Bool} (h : CRd w b s wr) : CRd (w.setCell ⟨b, 1, none⟩ (.bool k)) b s k := by
  have := Slab.Blk.set_ h 1 (.bool k)
  simpa [CRd] using this
theorem CRd.set0 {w : World} {b : Nat} {s r : List UInt8} {wr : Bool} (h : CRd w b s wr) : CRd (w.setCell ⟨b, 0, none⟩ (.string (arr r))) b r wr := by
  have := Slab.Blk.set_ h 0 (.string (arr r))
  simpa [CRd] using this
theorem CRd.drewN {w : World} {b : Nat} {s : List UInt8} {wr : Bool} (h : CRd w b s wr) (q : Nat) : CRd (w.drewN q) b s wr := h
theorem CRd.far {w : World} {b : Nat} {s : List UInt8} {wr : Bool} (h : CRd w b s wr) {g : Nat} (hg : b ≠ g) (i : Nat) (v : Value) : CRd (w.setCell ⟨g, i, none⟩ v) b s wr := Slab.Blk.far h hg v
theorem CRd.lt {w : World} {b : Nat} {s : List UInt8} {wr : Bool} (h : CRd w b s wr) : b < w.heap.size := Blk.lt h
theorem CRd.below {w w' : World} {b : Nat} {s : List UInt8} {wr : Bool} (h : CRd w b s wr) (hb : Below w.heap.size w w') : CRd w' b s wr := Blk.below h hb h.lt

set_option maxRecDepth 100000 in
set_option maxHeartbeats 1000000 in
theorem cint_any (b : Nat) (s : List UInt8) (bad : Bool) (w : World) (h : CRd w b s bad) (hs : s.length ≤ 9223372036854775807) :
    Calls Try.prog 13 #[.pointer (some ⟨b, 0, none⟩)] w fun e w' => e = .returned (.int .i64 (vl s)) ∧ CRd w' b (nx s) (bad || wr s) ∧ Only b w w' := by
  have H := Lib.hid h
  have hT := fun w => Nib.refTakeInt (arr s) w (by rw [arr_size]; exact hs)
  rw [arr_list, takeVal_is] at hT
  have hw : wr s = !(takeInt s).2.2 := rfl
  rw [hw]
  generalize vl s = n at hT ⊢
  generalize (takeInt s).2.2 = ok at hT ⊢
  generalize nx s = r at hT ⊢
  clear hw
  have HT := Lib.hid hT
  clear hT
  cases bad <;> cases ok
  all_goals
    obtain ⟨c0, c1, f0, f1⟩ := h.get
    clear h
    go_enter Try.func13, Try.ntmps13
    go_wp2_with fail
    refine (HT.out _).mono ?_
    rintro e w1 ⟨rfl, q, rfl⟩
    obtain ⟨d0, d1, g0, g1⟩ := (H.out.drewN q).get
    go_wp2
    go_ret
    exact ⟨rfl, (H.out.drewN q).set2, (((Only.refl b w).drewN q).set_ _ _).set_ _ _⟩
set_option maxRecDepth 100000 in
set_option maxHeartbeats 1000000 in
theorem cflag_any (b : Nat) (s : List UInt8) (bad : Bool) (w : World) (h : CRd w b s bad) (hs : s.length ≤ 9223372036854775807) :
    Calls Try.prog 16 #[.pointer (some ⟨b, 0, none⟩)] w fun e w' => e = .returned (.bool (fg s)) ∧ CRd w' b (nx s) (wf s bad) ∧ Only b w w' := by
  have HN := Lib.hid (cint_any b s bad w h hs)
  have HW := Lib.hid (show wf s bad = ((bad || wr s) || !withinB (vl s) 0 1) from rfl)
  have HFG := Lib.hid (show fg s = (vl s == 1) from rfl)
  clear h
  go_enter Try.func16, Try.ntmps16
  go_wp2_with fail
  refine HN.out.mono ?_
  rintro e w1 ⟨rfl, h1, o1⟩
  have H1 := Lib.hid h1
  have O1 := Lib.hid o1
  clear h1 o1
  generalize (bad || wr s) = k at H1 HW
  generalize vl s = n at HW HFG ⊢
  obtain ⟨c0, c1, f0, f1⟩ := H1.out.get
  cases k with
  | true =>
    go_wp2
    go_ret
    exact ⟨ret_bool' HFG.out.symm, by rw [HW.out]; exact H1.out.set1, O1.out.set_ _ _⟩
  | false =>
    by_cases n0 : n = 0
    · have t0 : (n != 0) = false := by rw [n0]; rfl
      have HQ := Lib.hid (show withinB n 0 1 = true from within_yes (by omega))
      clear n0
      go_wp2
      go_ret
      exact ⟨ret_bool' HFG.out.symm, by rw [HW.out, HQ.out]; exact H1.out.set1, O1.out.set_ _ _⟩
    have t0 : (n != 0) = true := bne_iff_ne.2 n0
    by_cases n1 : n = 1
    · have t1 : (n != 1) = false := by rw [n1]; rfl
      have HQ := Lib.hid (show withinB n 0 1 = true from within_yes (by omega))
      clear n0 n1
      go_wp2
      go_ret
      exact ⟨ret_bool' HFG.out.symm, by rw [HW.out, HQ.out]; exact H1.out.set1, O1.out.set_ _ _⟩
    · have t1 : (n != 1) = true := bne_iff_ne.2 n1
      have HQ := Lib.hid (show withinB n 0 1 = false from within_no (by omega))
      clear n0 n1
      go_wp2
      go_ret
      exact ⟨ret_bool' HFG.out.symm, by rw [HW.out, HQ.out]; exact H1.out.set1, O1.out.set_ _ _⟩

theorem entsW_mono {s : List UInt8} {b : Bool} {j : Nat} (h : entsW j s b = true) : ∀ d, entsW (j + d) s b = true
  | 0 => h
  | d + 1 => by rw [← Nat.add_assoc, entsW_snoc, entsW_mono h d]; rfl
theorem good_log {m : Ms} (hH : partsH m.kind m.need = hLog) (h : m.es.length = 0 ∨ 16 < m.es.length) : goodM m = false := by
  cases hg : goodM m with
  | false => rfl
  | true =>
    obtain ⟨_, hw, _⟩ := good_parts hg
    rw [hH] at hw
    obtain ⟨_, _, _, _, w5⟩ := whole_parts hw
    have := (w5 rfl).1
    omega
/-- what the loop over the entries comes to, whatever ends it -/
theorem ents_exit (m : Ms) (hH : partsH m.kind m.need = hLog) {s : List UInt8} {b : Bool} {j : Nat}
    (hx : ¬ ((j : Int) < vl s ∧ j < 17 ∧ entsW j (nx s) (b || wr s) = false)) (hp : ∀ i, i < j → (i : Int) < vl s ∧ i < 17 ∧ entsW i (nx s) (b || wr s) = false) :
    ((!(entsW j (nx s) (b || wr s) || !(vl s == (j : Int))) && (entsT j (nx s) == [])) && goodM { m with es := entsL j (nx s) }) = ((!(esW s b) && (esT s == [])) && goodM { m with es := esL s }) ∧
    (((!(entsW j (nx s) (b || wr s) || !(vl s == (j : Int))) && (entsT j (nx s) == [])) && goodM { m with es := entsL j (nx s) }) = true → entsL j (nx s) = esL s) := by
  have hj : (j : Int) ≤ vl s ∨ j = 0 := by
    rcases Nat.eq_zero_or_pos j with h | h
    · exact .inr h
    · left; have := (hp (j - 1) (by omega)).1; omega
  have hj17 : j ≤ 17 := by
    rcases Nat.eq_zero_or_pos j with h | h
    · omega
    · have := (hp (j - 1) (by omega)).2.1; omega
  cases hw : entsW j (nx s) (b || wr s) with
  | true =>
    have hB : esW s b = true := by
      unfold esW
      by_cases c : 16 < vl s
      · rw [if_pos c]
      · rw [if_neg c]
        have he : esN s = (vl s).toNat := by unfold esN; rw [if_neg c]
        obtain ⟨d, hd⟩ : ∃ d, esN s = j + d := ⟨esN s - j, by omega⟩
        rw [hd]; exact entsW_mono hw d
    rw [hB]
    exact ⟨rfl, fun h => by cases h⟩
  | false =>
    by_cases h17 : j = 17
    · subst h17
      have hv := (hp 16 (by omega)).1
      have hB : esW s b = true := by unfold esW; rw [if_pos (by omega)]
      have hA : goodM { m with es := entsL 17 (nx s) } = false := good_log (m := { m with es := entsL 17 (nx s) }) hH (.inr (by rw [entsL_len]; omega))
      rw [hB, hA]
      simp
    · have hlt : ¬ (j : Int) < vl s := fun h => hx ⟨h, by omega, hw⟩
      by_cases he : vl s = (j : Int)
      · have c : ¬ 16 < vl s := by omega
        have hn : esN s = j := by unfold esN; rw [if_neg c]; omega
        have e1 : esL s = entsL j (nx s) := by unfold esL; rw [hn]
        have e2 : esT s = entsT j (nx s) := by unfold esT; rw [hn]
        have e3 : esW s b = false := by unfold esW; rw [if_neg c, hn]; exact hw
        have e4 : (vl s == (j : Int)) = true := by rw [he]; exact beq_self_eq_true _
        rw [e1, e2, e3, e4]
        exact ⟨rfl, fun _ => rfl⟩
      · have h0 : j = 0 := by omega
        subst h0
        have hn : esN s = 0 := by unfold esN; split <;> omega
        have hA : goodM { m with es := esL s } = false := good_log (m := { m with es := esL s }) hH (.inl (by show (esL s).length = 0; unfold esL; rw [hn]; rfl))
        have e4 : (vl s == ((0 : Nat) : Int)) = false := beq_eq_false_iff_ne.2 he
        rw [hA, e4]
        simp
end Go.Proofs.Ytjffjmffoffblaa.Note
