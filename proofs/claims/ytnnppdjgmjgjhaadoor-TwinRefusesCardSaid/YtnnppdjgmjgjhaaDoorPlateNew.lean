/- The walk of plate.New. -/
import Derived.Test.YtnnppdjgmjgjhaaDoorPlateFate
import Derived.Test.YtnnppdjgmjgjhaaDoorPlateFill
import Derived.Test.YtnnppdjgmjgjhaaDoorShelf
namespace Go.Proofs.YtnnppdjgmjgjhaaDoor.Plate
set_option maxRecDepth 100000
open Go.RowKit
open Go.Proofs.YtnnppdjgmjgjhaaDoor.Mem

theorem rep_zero (q : Nat) : Lib.repeatL ((⟨#[0]⟩ : ByteArray)).data.toList q = List.replicate q 0 := by
  induction q with
  | zero => rfl
  | succ q ih => rw [List.replicate_succ, ← ih]; rfl
theorem info_sector : (Tryd.prog.info? 65).map (fun i => (i.zero, i.size, i.bytes)) = some (some (.agg #[.string ⟨#[]⟩, .bool false]), 2, 24) := by kernel_rfl
theorem run_secs (n : Nat) (hn : n ≤ 16384) (w : World) :
    (Instr.makeSlice 59 (.int .i64 (n : Int)) (.int .i64 (n : Int))).run Tryd.prog w = .ok (.slice (some ⟨w.heap.size, 0, none⟩) n n) (w.alloc (.cells (madeCells #[.string ⟨#[]⟩, .bool false] (n * 2)) 65)) := by
  obtain ⟨i0, hi, hz0, hz1, hz2⟩ := info_parts info_sector
  have h := run_make (P := Tryd.prog) w 59 65 i0 _ Tryd.underlying59 hi hz0 .i64 .i64 n n (by omega) (Int.le_refl _) (by rw [hz2]; omega) (by omega)
  rw [hz1] at h
  simpa [Value.cells] using h
def newS (N : Nat) : PS := ⟨N, fun _ => ⟨fstr 256 0, false⟩, [], false, 0, 0, 0⟩
/-- the first j sectors hold d -/
def firstS (j : Nat) (d : ByteArray) : Nat → Sec := fun k => if k < j then ⟨d, false⟩ else ⟨⟨#[]⟩, false⟩
theorem first_next (j : Nat) (d : ByteArray) : upd (firstS j d) j ⟨d, false⟩ = firstS (j + 1) d := by
  funext k
  unfold upd firstS
  by_cases h : k = j
  · subst h; rw [if_pos rfl, if_pos (by omega)]
  · rw [if_neg h]
    by_cases h2 : k < j
    · rw [if_pos h2, if_pos (by omega)]
    · rw [if_neg h2, if_neg (by omega)]
theorem SecRow.congr {w : World} {sb N : Nat} {f g : Nat → Sec} (h : SecRow w sb N f) (hg : ∀ k, k < N → f k = g k) : SecRow w sb N g := by
  obtain ⟨cs, h1, h2, h3⟩ := h
  exact ⟨cs, h1, h2, fun k hk => by rw [← hg k hk]; exact h3 k hk⟩
theorem SecRow.new (w : World) (N : Nat) (d : ByteArray) : SecRow (w.alloc (.cells (madeCells #[.string ⟨#[]⟩, .bool false] (N * 2)) 65)) w.heap.size N (firstS 0 d) := by
  refine ⟨_, Blk.new w _ _, by simp [madeCells], fun k hk => ?_⟩
  have e1 : k * 2 < N * 2 := by omega
  have e2 : k * 2 + 1 < N * 2 := by omega
  have e3 : (k * 2 + 1) % 2 = 1 := by omega
  simp [madeCells, firstS, e1, e2, e3]
theorem SecRow.putD {w : World} {sb N n : Nat} {f : Nat → Sec} (h : SecRow w sb N f) (hn : n < N) (d : ByteArray) (t : Bool) (ht : (f n).t = t) :
    SecRow (w.setCell ⟨sb, n * 2, none⟩ (.string d)) sb N (upd f n ⟨d, t⟩) := by
  obtain ⟨cs, h1, h2, h3⟩ := h
  refine ⟨_, h1.set_ (n * 2) (.string d), by simpa using h2, fun k hk => ?_⟩
  have := h3 k hk
  unfold upd
  by_cases hkn : k = n
  · subst hkn
    rw [if_pos rfl]
    rw [ht] at this
    simp only [Array.getElem?_setIfInBounds, h2]
    exact ⟨by simp; omega, by rw [if_neg (by omega)]; exact this.2⟩
  · rw [if_neg hkn]
    simp only [Array.getElem?_setIfInBounds]
    rw [if_neg (by omega), if_neg (by omega)]
    exact this
theorem SecRow.below {w w' : World} {sb N : Nat} {f : Nat → Sec} (h : SecRow w sb N f) (hb : Below w.heap.size w w') : SecRow w' sb N f := by
  obtain ⟨cs, h1, h2⟩ := h
  exact ⟨cs, h1.below hb h1.lt, h2⟩
theorem SecRow.lt {w : World} {sb N : Nat} {f : Nat → Sec} (h : SecRow w sb N f) : sb < w.heap.size := by
  obtain ⟨cs, h1, h2⟩ := h
  exact h1.lt
set_option maxRecDepth 100000 in
set_option maxHeartbeats 1000000 in
theorem new_any (w : World) (n : Nat) (h1 : 1 ≤ n) (h2 : n ≤ 16384) :
    Calls Tryd.prog 6 #[.int .i64 (n : Int)] w fun e w' => ∃ p sb, e = .returned (.pointer (some ⟨p, 0, none⟩)) ∧ PA w' p sb (.slice none 0 0) (fun k => k < w.heap.size) (newS n) ∧ Below w.heap.size w w' := by
  have hmk := run_secs n h2
  have hrr := fun w => Tryd.strings_Repeat ⟨#[0]⟩ 256 w (by decide) (by decide)
  rw [rep_zero, show (⟨(List.replicate 256 (0 : UInt8)).toArray⟩ : ByteArray) = fstr 256 0 from rfl] at hrr
  have hS := (SecRow.new w n (fstr 256 0)).below ((Below.refl _ _).alloc (Nat.le_refl _) (.cells #[.slice (some ⟨w.heap.size, 0, none⟩) n n, .slice none 0 0, .bool false, .int .i64 0, .int .i64 0, .int .i64 0] 62))
  have hP := Blk.new (w.alloc (.cells (madeCells #[.string ⟨#[]⟩, .bool false] (n * 2)) 65)) 62 #[.slice (some ⟨w.heap.size, 0, none⟩) n n, .slice none 0 0, .bool false, .int .i64 0, .int .i64 0, .int .i64 0]
  rw [World.size_alloc] at hP
  have hb : Below w.heap.size w ((w.alloc (.cells (madeCells #[.string ⟨#[]⟩, .bool false] (n * 2)) 65)).alloc (.cells #[.slice (some ⟨w.heap.size, 0, none⟩) n n, .slice none 0 0, .bool false, .int .i64 0, .int .i64 0, .int .i64 0] 62)) := ((Below.refl _ _).alloc (Nat.le_refl _) _).alloc (by simp) _
  have HRR := Lib.hid hrr
  have hmx : max (n : Int) 1 = (n : Int) := by omega
  have hmn : min (n : Int) 16384 = (n : Int) := by omega
  clear hrr
  go_enter Tryd.func6, Tryd.ntmps6
  go_wp2_with fail
  generalize hGen : (w.alloc (.cells (madeCells #[.string ⟨#[]⟩, .bool false] (n * 2)) 65)).alloc (.cells #[.slice (some ⟨w.heap.size, 0, none⟩) n n, .slice none 0 0, .bool false, .int .i64 0, .int .i64 0, .int .i64 0] 62) = W at hS hP hb ⊢
  clear hGen
  refine (HRR.out _).mono ?_
  rintro e w1 ⟨rfl, b1⟩
  have hS1 := hS.below b1
  have hP1 := hP.below b1 hP.lt
  have hb1 := hb.trans (b1.mono hb.size)
  have p0 := hP1.cell 0
  obtain ⟨D, hD⟩ : ∃ D, D = fstr 256 0 := ⟨_, rfl⟩
  rw [← hD] at hS1 ⊢
  have HD := Lib.hid hD
  clear hD
  clear hS hP hb b1 hmx hmn
  go_wp2
  go_loopw [5, 18] (fun x i wr => ∃ k : Nat, k ≤ n ∧ i = .int .i64 (k : Int) ∧ SecRow wr w.heap.size n (firstS k D) ∧ Blk wr (w.heap.size + 1) 62 #[.slice (some ⟨w.heap.size, 0, none⟩) n n, .slice none 0 0, .bool false, .int .i64 0, .int .i64 0, .int .i64 0] ∧ Below w.heap.size w wr) (fun _ i _ => n - (intOf i).toNat)
  case atStart => exact ⟨0, Nat.zero_le _, rfl, hS1, hP1, hb1⟩
  case round =>
    obtain ⟨k, hk, rfl, hS, hP, hb⟩ := hrel
    have HS := Lib.hid hS
    have HP := Lib.hid hP
    have HB := Lib.hid hb
    clear hS1 hP1 hb1 p0
    by_cases hlt : k < n
    · have q0 := hP.cell 0
      obtain ⟨s0, -, s2, -⟩ := hS.get hlt
      clear hS hP hb
      go_wp2
      go_roundw
      case rel => exact ⟨k + 1, by omega, by go_num, by rw [← first_next]; exact HS.out.putD hlt D false (by simp [firstS]), HP.out.far (p := ⟨w.heap.size, k * 2, none⟩) (by simp) _, HB.out.setCell (p := ⟨w.heap.size, k * 2, none⟩) (Nat.le_refl _) _⟩
      case measure => simp [intOf]; omega
    · have hkn : k = n := by omega
      subst hkn
      clear hS hP hb
      go_wp2
      go_ret
      refine ⟨_, _, rfl, ⟨HP.out, HS.out.congr (fun j hj => by simp [firstS, newS, hj, HD.out]), own_nil _ _ _ _, by simp [newS], by omega, by simp [Value.ownBlock], by simp [Value.ownBlock], by simp, by simp, by simp [Value.ownBlock], fun j hj => ?_⟩, HB.out⟩
      have := HB.out.size; omega
end Go.Proofs.YtnnppdjgmjgjhaaDoor.Plate
