/- The walk of the statement NibRow. -/
import Derived.Test.YtelnodnacgpilaaNibLawsC
namespace Go.Proofs.Ytelnodnacgpilaa
/-- a slice of integers that came in: nil, or a row of cap cells, the numbers zs, the first len of them its elements -/
def IsRow (k : IntKind) (w : World) (a : Option Addr) (len cap : Nat) (zs : List Int) : Prop :=
  (a = none ∧ len = 0 ∧ cap = 0 ∧ zs = []) ∨
  ∃ x, a = some x ∧ len ≤ cap ∧ cap ≤ maxLen ∧ zs.length = cap ∧ (∀ i, i < zs.length → w.cell? (x.add i) = some (.int k (zs.getD i 0))) ∧ ∀ n ∈ zs, (Lit.int k n).wf = true
end Go.Proofs.Ytelnodnacgpilaa
namespace Go.Proofs.Ytelnodnacgpilaa.Nib
open Go.RowKit
open Go.Lib (zigzag uvarint uvarint_small uvarint_big)

def encRow : List Int → List UInt8
  | [] => []
  | z :: r => enc z ++ encRow r
theorem encRow_snoc (l : List Int) (z : Int) : encRow (l ++ [z]) = encRow l ++ enc z := by
  induction l with
  | nil => simp [encRow]
  | cons y r ih => simp [encRow, ih]
theorem encRow_le (l : List Int) (h : ∀ z ∈ l, Fits z) : (encRow l).length ≤ 10 * l.length := by
  induction l with
  | nil => simp [encRow]
  | cons y r ih =>
    have h1 := enc_le (h y (by simp))
    have h2 := ih (fun z hz => h z (by simp [hz]))
    simp [encRow]; omega
def rowB (l : List Int) : ByteArray := ⟨(encRow l).toArray⟩
theorem rowB_list (l : List Int) : (rowB l).data.toList = encRow l := by simp [rowB]
theorem rowB_size (l : List Int) : (rowB l).size = (encRow l).length := rfl
theorem rowB_snoc (l : List Int) (k : Nat) (hk : k < l.length) : rowB (l.take k) ++ encB (l.getD k 0) = rowB (l.take (k + 1)) := by
  apply str_inj
  rw [app_list, rowB_list, rowB_list, ← encB_list, List.take_succ_eq_append_getElem hk, encRow_snoc]
  simp [List.getD, hk]
theorem rowB_cons (l : List Int) (k : Nat) (hk : k < l.length) (h : ∀ z ∈ l, Fits z) : takeInt (rowB (l.drop k)).data.toList = (l.getD k 0, (rowB (l.drop (k + 1))).data.toList, true) := by
  rw [rowB_list, rowB_list, List.drop_eq_getElem_cons hk, encRow]
  have e : l.getD k 0 = l[k] := by simp [List.getD, hk]
  rw [e]
  exact takeInt_enc (h _ (List.getElem_mem hk)) _
theorem rowB_bound (l : List Int) (h : ∀ z ∈ l, Fits z) : (rowB l).size ≤ 10 * l.length := by rw [rowB_size]; exact encRow_le l h

theorem below_next' {B : Nat} {W w w' : World} (h : Below B W w) (h' : Below w.heap.size w w') (hB : B ≤ w.heap.size) : Below B W w' := h.trans (h'.mono hB)
set_option maxRecDepth 100000 in
set_option maxHeartbeats 800000 in
theorem row_long (a : Option Addr) (len cap : Nat) (w : World) (hl : 100 < len) :
    Calls Try.prog 9 #[.slice a len cap] w fun e w' => e = .returned (.bool true) ∧ Below w.heap.size w w' := by
  go_enter Try.func9, Try.ntmps9
  go_wp2_with ((with_reducible refine (awake_any _).mono ?_); rintro e w1 ⟨rfl, b1⟩)
  go_ret
  exact ⟨rfl, b1⟩
set_option maxRecDepth 100000 in
set_option maxHeartbeats 800000 in
theorem row_empty (a : Option Addr) (cap : Nat) (w : World) :
    Calls Try.prog 9 #[.slice a 0 cap] w fun e w' => e = .returned (.bool true) ∧ Below w.heap.size w w' := by
  go_enter Try.func9, Try.ntmps9
  go_wp2_with ((with_reducible refine (awake_any _).mono ?_); rintro e w1 ⟨rfl, b1⟩)
  refine wp_loop_rounds 1 ?_
  rw [rounds_succ]
  go_wp2
  refine wp_loop_rounds 1 ?_
  rw [rounds_succ]
  go_wp2
  go_ret
  exact ⟨rfl, b1⟩

set_option maxRecDepth 100000 in
set_option maxHeartbeats 800000 in
theorem row_some (b off len cap : Nat) (l : List Int) (w : World) (h100 : len ≤ 100) (hl : l.length = len) (hf : ∀ z ∈ l, Fits z) (hb : b < w.heap.size)
    (hc : ∀ j, j < len → w.cell? ⟨b, off + j, none⟩ = some (.int .i64 (l.getD j 0))) :
    Calls Try.prog 9 #[.slice (some ⟨b, off, none⟩) len cap] w fun e w' => e = .returned (.bool true) ∧ Below w.heap.size w w' := by
  have HF := Lib.hid hf
  have HC := Lib.hid hc
  have HL := Lib.hid hl
  clear hf hc hl
  go_enter Try.func9, Try.ntmps9
  go_wp2_with ((with_reducible refine (awake_any _).mono ?_); rintro e w1 ⟨rfl, b1⟩)
  have B1 : Below w.heap.size w w1 := b1
  go_loopw [3, 4] (fun t i wr => ∃ k : Nat, k ≤ len ∧ i = .int .i64 k ∧ t = .string (rowB (l.take k)) ∧ Below w.heap.size w wr) (fun _ i _ => len - (intOf i).toNat)
  case atStart => exact ⟨0, Nat.zero_le _, rfl, rfl, b1⟩
  case round =>
    obtain ⟨k, hk, rfl, rfl, hbel⟩ := hrel
    by_cases hlt : k < len
    · have hcell : wr.cell? ⟨b, off + k, none⟩ = some (.int .i64 (l.getD k 0)) := (hbel.cell (p := ⟨b, off + k, none⟩) hb).trans (HC.out k hlt)
      have hbd : (rowB (l.take k)).size ≤ 1000 := by
        have h1 := rowB_bound (l.take k) (fun z hz => HF.out z (List.mem_of_mem_take hz))
        have h2 : (l.take k).length ≤ k := List.length_take_le _ _
        omega
      have hfz : Fits (l.getD k 0) := by
        have hkl : k < l.length := by rw [HL.out]; exact hlt
        have e : l.getD k 0 = l[k] := by simp [List.getD, hkl]
        rw [e]; exact HF.out _ (List.getElem_mem hkl)
      have hle := encB_le hfz
      have HS := Lib.hid (rowB_snoc l k (by rw [HL.out]; exact hlt))
      generalize l.getD k 0 = z at hcell hfz hle HS
      go_wp2_with ((with_reducible refine (intB z _ hfz).mono ?_); rintro e w2 ⟨rfl, b2⟩)
      go_roundw
      case rel => exact ⟨k + 1, by omega, by go_num, by rw [HS.out], below_next' hbel b2 hbel.size⟩
      case measure => simp [intOf]; omega
    · obtain rfl : k = len := by omega
      go_wp2
      go_loopw [3, 5] (fun t i wr => ∃ j : Nat, j ≤ k ∧ i = .int .i64 j ∧ t = .string (rowB (l.drop j)) ∧ Below w.heap.size w wr) (fun _ i _ => k - (intOf i).toNat)
      case atStart => exact ⟨0, Nat.zero_le _, rfl, by rw [List.take_of_length_le (by rw [HL.out]; exact Nat.le_refl _)]; rfl, hbel⟩
      case round =>
        obtain ⟨j, hj, rfl, rfl, hbel2⟩ := hrel
        by_cases hjk : j < k
        · have hcell : wr.cell? ⟨b, off + j, none⟩ = some (.int .i64 (l.getD j 0)) := (hbel2.cell (p := ⟨b, off + j, none⟩) hb).trans (HC.out j hjk)
          have HT := Lib.hid (rowB_cons l j (by rw [HL.out]; exact hjk) HF.out)
          have hbd : (rowB (l.drop j)).size ≤ 9223372036854775807 := by
            have h1 := rowB_bound (l.drop j) (fun z hz => HF.out z (List.mem_of_mem_drop hz))
            have h2 := HL.out
            rw [List.length_drop] at h1
            omega
          have HB := Lib.hid hbd
          clear hbd
          generalize l.getD j 0 = z at hcell HT
          go_wp2_with ((with_reducible refine (takeInt_yes _ _ z _ HB.out HT.out).mono ?_); rintro e w2 ⟨rfl, q, rfl⟩)
          go_roundw
          case rel => exact ⟨j + 1, by omega, by go_num, rfl, below_drewN hbel2 _⟩
          case measure => simp [intOf]; omega
        · obtain rfl : j = k := by omega
          have he : rowB (l.drop j) = ⟨#[]⟩ := by rw [List.drop_of_length_le (by rw [HL.out]; exact Nat.le_refl _)]; rfl
          go_wp2
          go_ret
          exact ⟨rfl, hbel2⟩

theorem row_walk (a : Option Addr) (len cap : Nat) (zs : List Int) (w : World) (h : IsRow .i64 w a len cap zs) :
    Calls Try.prog 9 #[.slice a len cap] w fun e w' => e = .returned (.bool true) ∧ Below w.heap.size w w' := by
  by_cases h100 : 100 < len
  · exact row_long a len cap w h100
  · by_cases h0 : len = 0
    · subst h0; exact row_empty a cap w
    · rcases h with ⟨_, e, _⟩ | ⟨x, rfl, hlc, _, hz, hcell, hwf⟩
      · exact absurd e h0
      · obtain ⟨b, off, spot⟩ := x
        have hc0 := hcell 0 (by omega)
        have hspot : spot = none := by
          have := World.cell?_spot hc0
          simpa [Addr.add] using this
        subst hspot
        have hb : b < w.heap.size := by
          have := World.block_lt_of_cell? w _ hc0
          simpa [Addr.add] using this
        have hlen : (zs.take len).length = len := by rw [List.length_take]; omega
        refine row_some b off len cap (zs.take len) w (by omega) hlen ?_ hb ?_
        · intro z hz'
          have := hwf z (List.mem_of_mem_take hz')
          unfold Lit.wf at this
          simp [IntKind.min, IntKind.max, IntKind.signed, IntKind.bits] at this
          exact ⟨by omega, by omega⟩
        · intro j hj
          have h1 := hcell j (by omega)
          have e1 : (Addr.add ⟨b, off, none⟩ j) = ⟨b, off + j, none⟩ := by
            unfold Addr.add; split
            · subst_vars; rfl
            · rfl
          have e2 : (zs.take len).getD j 0 = zs.getD j 0 := by simp [List.getD, hj]
          rw [e1] at h1
          rw [e2]; exact h1
end Go.Proofs.Ytelnodnacgpilaa.Nib
