/- What room a record needs, on lists; a text of zero bytes. -/
import Derived.Test.YtnnppdjgmjgjhaaDoorSlabLaws
import Derived.Test.YtnnppdjgmjgjhaaDoorHold
import Derived.Laws.IdiomStrings
namespace Go.Proofs.YtnnppdjgmjgjhaaDoor.Slab
set_option maxRecDepth 100000
open Go.RowKit Go.Sort

theorem cut_of (x : Int) (n : Int) (hn : 1 ≤ n) (hm : n ≤ 9223372036854775807) : ∃ K : Nat, wrap64 ((IntKind.u64.wrap x).tmod n) = (K : Int) ∧ (K : Int) < n := by
  have h0 : 0 ≤ IntKind.u64.wrap x := by rw [IntKind.wrap_u64]; omega
  rw [Int.tmod_eq_emod_of_nonneg h0]
  have h1 := Int.emod_nonneg (IntKind.u64.wrap x) (b := n) (by omega)
  have h2 := Int.emod_lt_of_pos (IntKind.u64.wrap x) (b := n) (by omega)
  generalize IntKind.u64.wrap x % n = z at h1 h2 ⊢
  exact ⟨z.toNat, by unfold wrap64; omega, by omega⟩

/-- the bytes of all slots but the k-th, of the first i -/
def oth (l : List Slot) (k : Nat) : Nat → Nat
  | 0 => 0
  | i + 1 => oth l k i + (if i = k then 0 else (l.getD i nos).d.size)
def tot (l : List Slot) : Nat → Nat
  | 0 => 0
  | i + 1 => tot l i + (l.getD i nos).d.size
theorem sz_tot (l : List Slot) : ∀ i, i ≤ l.length → sz (l.take i) = i + tot l i
  | 0, _ => by simp [sz, tot]
  | i + 1, h => by
    have hi : l[i]? = some l[i] := List.getElem?_eq_getElem (by omega)
    rw [sz_next hi, sz_tot l i (by omega)]
    have : l.getD i nos = l[i] := by simp [List.getD, hi]
    rw [tot, this]
    omega
theorem sz_is (l : List Slot) : sz l = l.length + tot l l.length := by
  have := sz_tot l l.length (Nat.le_refl _)
  rwa [List.take_length] at this
theorem tot_of {l l' : List Slot} {k : Nat} {x : Slot} (h : ∀ i, l'.getD i nos = if i = k then x else l.getD i nos) : ∀ i, tot l' i = oth l k i + (if k < i then x.d.size else 0)
  | 0 => by simp [tot, oth]
  | i + 1 => by
    rw [tot, oth, tot_of h i, h i]
    by_cases h1 : i = k
    · subst h1; simp
    · rw [if_neg h1, if_neg h1]
      by_cases h2 : k < i
      · rw [if_pos h2, if_pos (by omega)]; omega
      · rw [if_neg h2, if_neg (by omega)]; omega
theorem oth_beyond (l : List Slot) (k : Nat) : ∀ i, oth l k (l.length + i) = oth l k l.length
  | 0 => rfl
  | i + 1 => by
    show oth l k (l.length + i + 1) = _
    rw [oth, oth_beyond l k i, getD_out (by omega)]
    split <;> rfl
theorem oth_le_tot (l : List Slot) (k : Nat) : ∀ i, oth l k i ≤ tot l i
  | 0 => Nat.le_refl _
  | i + 1 => by
    rw [oth, tot]
    have := oth_le_tot l k i
    split <;> omega
theorem oth_mono (l : List Slot) (k : Nat) {i j : Nat} (h : i ≤ j) : oth l k i ≤ oth l k j := by
  induction j with
  | zero => obtain rfl : i = 0 := by omega
            exact Nat.le_refl _
  | succ j ih =>
    rcases Nat.lt_or_ge i (j + 1) with h1 | h1
    · exact Nat.le_trans (ih (by omega)) (by rw [oth]; omega)
    · obtain rfl : i = j + 1 := by omega
      exact Nat.le_refl _
theorem put_len {l : List Slot} {k : Nat} {x : Slot} (hc : Clean l) (hl : l.length = usedN l) (hx : x.u = true) : (putL l k x).length = max l.length (k + 1) := by
  have hg := putL_getD (k := k) hc (show x.u = false → x = nos from fun h => by rw [hx] at h; cases h)
  rw [putL_trim]
  refine used_is (fun _ => ?_) (fun i hi => ?_)
  · rw [hg]
    by_cases h1 : max l.length (k + 1) - 1 = k
    · rw [if_pos h1]; exact hx
    · rw [if_neg h1]
      have h2 : max l.length (k + 1) = l.length := by omega
      rw [h2, hl]
      exact used_at l (by omega)
  · rw [hg, if_neg (by omega), getD_out (by omega)]
    rfl
theorem fits_size {l : List Slot} {k : Nat} {x : Slot} (hc : Clean l) (hl : l.length = usedN l) (hx : x.u = true) : sz (putL l k x) = max l.length (k + 1) + x.d.size + oth l k l.length := by
  have hg := putL_getD (k := k) hc (show x.u = false → x = nos from fun h => by rw [hx] at h; cases h)
  have hn := put_len (k := k) hc hl hx
  rw [sz_is, hn, tot_of hg, if_pos (by omega)]
  obtain ⟨d, hd⟩ : ∃ d, max l.length (k + 1) = l.length + d := ⟨max l.length (k + 1) - l.length, by omega⟩
  have h2 := oth_beyond l k d
  rw [← hd] at h2
  rw [h2]
  omega
theorem oth_next {l : List Slot} {k j : Nat} {x : Slot} (h : l[j]? = some x) : oth l k (j + 1) = oth l k j + (if j = k then 0 else x.d.size) := by
  have : l.getD j nos = x := by simp [List.getD, h]
  rw [oth, this]

/-- n zero bytes -/
def zstr (n : Nat) : ByteArray := ⟨(List.replicate n (0 : UInt8)).toArray⟩
theorem zstr_size (n : Nat) : (zstr n).size = n := by
  unfold zstr ByteArray.size
  simp
theorem info_u8 : (Tryd.prog.info? 5).map (fun i => (i.zero, i.size, i.bytes)) = some (some (.int .u8 0), 1, 1) := by kernel_rfl
theorem run_made (n : Nat) (hn : n ≤ 1000) (w : World) :
    (Instr.makeSlice 70 (.int .i64 (n : Int)) (.int .i64 (n : Int))).run Tryd.prog w = .ok (.slice (some ⟨w.heap.size, 0, none⟩) n n) (w.alloc (.cells (madeCells #[.int .u8 0] n) 5)) := by
  obtain ⟨i0, hi, hz0, hz1, hz2⟩ := info_parts info_u8
  have h := run_make (P := Tryd.prog) w 70 5 i0 _ Tryd.underlying70 hi hz0 .i64 .i64 n n (by omega) (Int.le_refl _) (by rw [hz2]; omega) (by omega)
  rw [hz1] at h
  simpa [Value.cells] using h
theorem run_conv0 (n : Nat) (g : Nat) (w : World) (h : ∀ j, j < n → w.cell? ⟨g, j, none⟩ = some (.int .u8 0)) :
    (convert 70 9 (.slice (some ⟨g, 0, none⟩) n n)).run Tryd.prog w = .ok (.string (zstr n)) w := by
  have := run_convert_bytes_back (P := Tryd.prog) w 70 9 5 ⟨g, 0, none⟩ n (List.replicate n (0 : UInt8)) Tryd.underlying70 Tryd.underlying5 Tryd.underlying9 (fun j hj => by
    simp at hj
    have := h j hj
    by_cases h0 : j = 0
    · subst h0; simpa [Addr.add] using this
    · simpa [Addr.add, h0] using this)
  simpa [zstr] using this
theorem made_cell (w : World) (n j : Nat) (hj : j < n) (T : TypeId) : (w.alloc (.cells (madeCells #[.int .u8 0] n) T)).cell? ⟨w.heap.size, j, none⟩ = some (.int .u8 0) := by
  rw [World.cell?_alloc_new]
  simp [madeCells, hj, Nat.mod_one]
end Go.Proofs.YtnnppdjgmjgjhaaDoor.Slab
