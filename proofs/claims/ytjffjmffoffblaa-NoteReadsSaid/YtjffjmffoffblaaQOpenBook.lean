/- Slots, pages and places that came in, opened. Entries that came in, opened. Entries in a row that came in, opened. -/
import Derived.Test.YtjffjmffoffblaaQSlabBookA
import Derived.Lib.SmallJoins
import Derived.SizedLaws
import Derived.OpenShut
import Derived.Test.YtjffjmffoffblaaQEntMath
import Derived.Test.YtjffjmffoffblaaQEntA
namespace Go.Proofs.Ytjffjmffoffblaa.Slab
set_option maxRecDepth 100000
open Go.RowKit Go.Joins Go.ChangeShapes Go.WideShapes Go.Deep
instance : Inhabited Slot := ⟨nos⟩
section
variable {H : Type} {enc : TypeId × Value → H} {w : World} {base : Nat} {spare : Nat → Bool} {held : Bool}
theorem weights_all_mem {P : Program} {e : TypeId} {d : DataW H} : ∀ {ds : List (DataW H)}, d ∈ ds → ∀ n ∈ d.weights P e, n ∈ DataW.weightsAll P e ds
  | x :: r, h, n, hn => by
    simp only [DataW.weightsAll, List.mem_append]
    rcases List.mem_cons.1 h with rfl | h
    · exact .inl hn
    · exact .inr (weights_all_mem h n hn)
/-- the cells of a slot, read -/
theorem open_slot_cells {fuel : Nat} {cs : List Value} {x : DataW H × List MemPlace} (h : DataW.trod enc Try.prog w base spare held fuel 54 cs = some x) (hw : ∀ n ∈ x.1.weights Try.prog 54, n ≤ reachBytes) :
    ∃ s : Slot, cs = [.bool s.u, .string s.d] ∧ s.d.size ≤ 140737488351232 := by
  obtain ⟨xs, n, _, hx, hcl, hxl, hf⟩ := DataW.trod_struct Try.underlying54 h
  have hl : cs.length = 2 := hcl.trans (by kernel_rfl)
  obtain ⟨c0, c1, rfl⟩ : ∃ c0 c1, cs = [c0, c1] := by
    rcases cs with _ | ⟨c0, _ | ⟨c1, _ | ⟨c2, r⟩⟩⟩ <;> simp at hl
    exact ⟨c0, c1, rfl⟩
  have h0 := hf 0 _ rfl
  have h1 := hf 1 _ rfl
  have k0 : Try.prog.cellsOf 4 = 1 := by kernel_rfl
  have k1 : Try.prog.cellsOf 9 = 1 := by kernel_rfl
  simp only [List.getElem_toArray, List.getElem_cons_zero, List.getElem_cons_succ, k0, k1, List.drop_zero, List.take_succ_cons, List.take_zero, List.drop_succ_cons] at h0 h1
  have hlen : xs.length = 2 := hxl
  obtain ⟨y0, y1, rfl⟩ : ∃ y0 y1, xs = [y0, y1] := by
    rcases xs with _ | ⟨c0, _ | ⟨c1, _ | ⟨c2, r⟩⟩⟩ <;> simp at hlen
    exact ⟨c0, c1, rfl⟩
  obtain ⟨b, e0, _⟩ := DataW.trod_bool Try.underlying4 h0
  obtain ⟨s, e1, e2, _⟩ := DataW.trod_string Try.underlying9 h1
  simp only [List.cons.injEq, and_true] at e0 e1
  subst e0 e1
  refine ⟨⟨b, s⟩, rfl, ?_⟩
  have := hw s.data.toList.length (by
    rw [hx]
    simp only [DataW.weights, Try.underlying54]
    refine DataW.weights_mem_each (j := 1) (t := 9) (d := y1.1) rfl rfl _ ?_
    rw [e2]; simp [DataW.weights])
  unfold reachBytes at this
  simpa using this
end
end Go.Proofs.Ytjffjmffoffblaa.Slab
namespace Go.Proofs.Ytjffjmffoffblaa.Ent
set_option maxRecDepth 100000
open Go.RowKit Go.Joins Go.ChangeShapes Go.WideShapes Go.Deep
open Go.Proofs.Ytjffjmffoffblaa.Slab (open_slot_cells weights_all_mem)
/-- slots as small as memory can hold -/
def SmallE (x : Ent) : Prop := x.wd.size ≤ 140737488351232 ∧ x.id.size ≤ 140737488351232
section
variable {H : Type} {enc : TypeId × Value → H} {w : World} {base : Nat} {spare : Nat → Bool} {held : Bool}
end
end Go.Proofs.Ytjffjmffoffblaa.Ent
namespace Go.Proofs.Ytjffjmffoffblaa.Ent
set_option maxRecDepth 100000
open Go.RowKit Go.Joins Go.ChangeShapes Go.WideShapes Go.Deep Go.Sort
open Go.Proofs.Ytjffjmffoffblaa.Slab (weights_all_mem)
instance : Inhabited Ent := ⟨noE⟩
/-- an entry's cells from o on -/
def EntAt (w : World) (b o : Nat) (x : Ent) : Prop := ∀ (j : Nat) (v : Value), (entA x)[j]? = some v → w.cell? ⟨b, o + j, none⟩ = some v
def Ents (w : World) (a : Option Addr) (n : Nat) (zs : List Ent) : Prop :=
  zs.length = n ∧ (∀ x ∈ zs, SmallE x) ∧ (0 < n → ∃ b off, a = some ⟨b, off, none⟩ ∧ b < w.heap.size ∧ ∀ i, i < n → EntAt w b (off + i * 13) (zs.getD i noE))
theorem EntAt.next {w w' : World} {b o B : Nat} {x : Ent} (h : EntAt w b o x) (hb : Below B w w') (hB : b < B) : EntAt w' b o x := fun j v hv =>
  (hb.cell (p := ⟨b, o + j, none⟩) hB).trans (h j v hv)
theorem EntAt.cells {w : World} {b o : Nat} {x : Ent} (h : EntAt w b o x) :
    w.cell? ⟨b, o, none⟩ = some (.int .i64 x.kind) ∧ w.cell? ⟨b, o + 1, none⟩ = some (.int .i64 x.cl) ∧ w.cell? ⟨b, o + 2, none⟩ = some (.int .i64 x.ep) ∧ w.cell? ⟨b, o + 3, none⟩ = some (.int .i64 x.n) ∧
    w.cell? ⟨b, o + 4, none⟩ = some (.int .i64 x.lsn) ∧ w.cell? ⟨b, o + 5, none⟩ = some (.int .i64 x.prev) ∧ w.cell? ⟨b, o + 6, none⟩ = some (.int .i64 x.page) ∧ w.cell? ⟨b, o + 7, none⟩ = some (.int .i64 x.slot) ∧
    w.cell? ⟨b, o + 8, none⟩ = some (.bool x.wu) ∧ w.cell? ⟨b, o + 9, none⟩ = some (.string x.wd) ∧ w.cell? ⟨b, o + 10, none⟩ = some (.bool x.iu) ∧ w.cell? ⟨b, o + 11, none⟩ = some (.string x.id) ∧ w.cell? ⟨b, o + 12, none⟩ = some (.int .i64 x.next) :=
  ⟨h 0 _ rfl, h 1 _ rfl, h 2 _ rfl, h 3 _ rfl, h 4 _ rfl, h 5 _ rfl, h 6 _ rfl, h 7 _ rfl, h 8 _ rfl, h 9 _ rfl, h 10 _ rfl, h 11 _ rfl, h 12 _ rfl⟩
section
variable {H : Type} {enc : TypeId × Value → H} {w : World} {base : Nat} {spare : Nat → Bool} {held : Bool}
end
def cellsE (l : List Ent) : List Value := l.flatMap fun x => (entA x).toList
theorem cellsE_snoc (z : List Ent) (x : Ent) : cellsE z ++ (entA x).toList = cellsE (z ++ [x]) := by simp [cellsE]
theorem cellsE_length (l : List Ent) : (cellsE l).length = l.length * 13 := by
  induction l with
  | nil => rfl
  | cons x r ih => simp only [cellsE, List.flatMap_cons, List.length_append] at ih ⊢; rw [ih]; simp [entA]; omega
theorem cellsE_get : ∀ {l : List Ent} {i : Nat} {x : Ent}, l[i]? = some x → ∀ (j : Nat) (v : Value), (entA x)[j]? = some v → (cellsE l)[i * 13 + j]? = some v
  | y :: r, 0, x, h, j, v, hv => by
    simp at h; subst h
    have hj := (Array.getElem?_eq_some_iff.1 hv).1
    simp only [cellsE, List.flatMap_cons, Nat.zero_mul, Nat.zero_add]
    rw [List.getElem?_append_left (by simpa using hj)]
    simpa using hv
  | y :: r, i + 1, x, h, j, v, hv => by
    have ih := cellsE_get (l := r) (i := i) (by simpa using h) j v hv
    simp only [cellsE, List.flatMap_cons] at ih ⊢
    rw [List.getElem?_append_right (by simp [entA]; omega)]
    have e : (i + 1) * 13 + j - (entA y).toList.length = i * 13 + j := by simp [entA]; omega
    rw [e]; exact ih
theorem Ents.next {w w' : World} {a : Option Addr} {n : Nat} {zs : List Ent} (h : Ents w a n zs) (hb : Below w.heap.size w w') : Ents w' a n zs := by
  obtain ⟨h1, h2, h3⟩ := h
  refine ⟨h1, h2, fun hn => ?_⟩
  obtain ⟨b, off, ha, hlt, hc⟩ := h3 hn
  exact ⟨b, off, ha, Nat.lt_of_lt_of_le hlt hb.size, fun i hi => (hc i hi).next hb hlt⟩
theorem Ents.take {w : World} {a : Option Addr} {n : Nat} {zs : List Ent} (h : Ents w a n zs) {k : Nat} (hk : k ≤ n) : Ents w a k (zs.take k) := by
  obtain ⟨h1, h2, h3⟩ := h
  refine ⟨by rw [List.length_take, h1]; omega, fun x hx => h2 x (List.mem_of_mem_take hx), fun hn => ?_⟩
  obtain ⟨b, off, ha, hlt, hc⟩ := h3 (by omega)
  refine ⟨b, off, ha, hlt, fun i hi => ?_⟩
  have e : (zs.take k).getD i noE = zs.getD i noE := by simp [List.getD, hi]
  rw [e]; exact hc i (by omega)
theorem Ents.drop {w : World} {b off n : Nat} {zs : List Ent} (h : Ents w (some ⟨b, off, none⟩) n zs) {k : Nat} (hk : k ≤ n) : Ents w (some ⟨b, off + k * 13, none⟩) (n - k) (zs.drop k) := by
  obtain ⟨h1, h2, h3⟩ := h
  refine ⟨by rw [List.length_drop, h1], fun x hx => h2 x (List.mem_of_mem_drop hx), fun hn => ?_⟩
  obtain ⟨b', off', ha, hlt, hc⟩ := h3 (by omega)
  cases ha
  refine ⟨b, off + k * 13, rfl, hlt, fun i hi => ?_⟩
  have e : (zs.drop k).getD i noE = zs.getD (k + i) noE := by simp [List.getD]
  rw [e]
  have := hc (k + i) (by omega)
  rw [show off + k * 13 + i * 13 = off + (k + i) * 13 by omega]; exact this
end Go.Proofs.Ytjffjmffoffblaa.Ent
