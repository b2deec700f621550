/- Plain facts on log entries: which can be, their bytes, what bytes begin with; no program is named here. Entries that came in, opened. An entry's cells as one array. Entries in a row that came in, opened. -/
import Derived.Test.YtkeocnhndnbamaaGreatQBook3
import Derived.Test.YtkeocnhndnbamaaGreatRows
namespace Go.Proofs.YtkeocnhndnbamaaGreat.Ent
set_option maxRecDepth 100000
open Go.Lib (uvarint zigzag)
open Go.Proofs.YtkeocnhndnbamaaGreat.Nib

structure Ent where
  kind : Int
  cl : Int
  ep : Int
  n : Int
  lsn : Int
  prev : Int
  page : Int
  slot : Int
  wu : Bool
  wd : ByteArray
  iu : Bool
  id : ByteArray
  next : Int
def noE : Ent := ⟨0, 0, 0, 0, 0, 0, 0, 0, false, ⟨#[]⟩, false, ⟨#[]⟩, 0⟩

def withinB (a lo hi : Int) : Bool := decide (lo ≤ a ∧ a ≤ hi)
def knownB (c e n : Int) : Bool := withinB c 1 8 && withinB e 1 1073741824 && withinB n 1 1073741824
/-- a slot that can be -/
def fitsB (u : Bool) (d : ByteArray) : Bool := decide (d.size ≤ 200 ∧ (u = true ∨ d.size = 0))
def chB (x : Ent) : Bool := withinB x.page 0 1023 && withinB x.slot 0 31 && fitsB x.wu x.wd && fitsB x.iu x.id
def bareB (x : Ent) : Bool := decide (x.page = 0 ∧ x.slot = 0 ∧ x.wu = false ∧ x.wd.size = 0 ∧ x.iu = false ∧ x.id.size = 0 ∧ x.next = 0)
def headB (x : Ent) : Bool := knownB x.cl x.ep x.n && withinB x.lsn 1 1099511627776 && decide (0 ≤ x.prev ∧ x.prev < x.lsn)
def longB (k : Int) : Bool := decide (k = 1 ∨ k = 2)
def goodB (x : Ent) : Bool := headB x &&
  (if x.kind = 1 then decide (x.next = 0) && chB x else if x.kind = 2 then withinB x.next 0 x.prev && chB x else if x.kind = 3 ∨ x.kind = 4 then bareB x else false)

theorem good_short {x : Ent} (h : goodB x = true) (hk : longB x.kind = false) : headB x = true ∧ (x.kind = 3 ∨ x.kind = 4) ∧ bareB x = true := by
  have hk' := of_decide_eq_false hk
  unfold goodB at h
  rw [if_neg (by omega), if_neg (by omega)] at h
  by_cases c : x.kind = 3 ∨ x.kind = 4
  · rw [if_pos c] at h; simp at h; exact ⟨h.1, c, h.2⟩
  · rw [if_neg c] at h; simp at h
theorem good_long {x : Ent} (h : goodB x = true) (hk : longB x.kind = true) : headB x = true ∧ chB x = true ∧ 0 ≤ x.next ∧ x.next ≤ x.prev := by
  have hk' := of_decide_eq_true hk
  unfold goodB at h
  by_cases c : x.kind = 1
  · rw [if_pos c] at h; simp at h
    have hh := h.1
    unfold headB at hh; simp at hh
    exact ⟨h.1, h.2.2, by omega, by omega⟩
  · rw [if_neg c, if_pos (by omega)] at h; simp [withinB] at h
    exact ⟨h.1, h.2.2, h.2.1.1, h.2.1.2⟩

/-- the parts of a good head -/
theorem head_parts {x : Ent} (h : headB x = true) : (1 ≤ x.cl ∧ x.cl ≤ 8) ∧ (1 ≤ x.ep ∧ x.ep ≤ 1073741824) ∧ (1 ≤ x.n ∧ x.n ≤ 1073741824) ∧ (1 ≤ x.lsn ∧ x.lsn ≤ 1099511627776) ∧ 0 ≤ x.prev ∧ x.prev < x.lsn := by
  simp only [headB, knownB, withinB, Bool.and_eq_true, decide_eq_true_eq] at h
  exact ⟨h.1.1.1.1, h.1.1.1.2, h.1.1.2, h.1.2, h.2⟩
theorem ch_parts {x : Ent} (h : chB x = true) : (0 ≤ x.page ∧ x.page ≤ 1023) ∧ (0 ≤ x.slot ∧ x.slot ≤ 31) ∧ fitsB x.wu x.wd = true ∧ fitsB x.iu x.id = true := by
  simp only [chB, withinB, Bool.and_eq_true, decide_eq_true_eq] at h
  exact ⟨h.1.1.1, h.1.1.2, h.1.2, h.2⟩
theorem kind_fits {x : Ent} (h : goodB x = true) : 1 ≤ x.kind ∧ x.kind ≤ 4 := by
  cases hk : longB x.kind with
  | false => have := (good_short h hk).2.1; omega
  | true => have := of_decide_eq_true hk; omega

theorem size_zero {d : ByteArray} (h : d.size = 0) : d = ⟨#[]⟩ := by
  apply ByteArray.ext
  apply Array.eq_empty_of_size_eq_zero
  exact h
end Go.Proofs.YtkeocnhndnbamaaGreat.Ent
namespace Go.Proofs.YtkeocnhndnbamaaGreat.Ent
set_option maxRecDepth 100000
open Go.RowKit Go.Joins Go.ChangeShapes Go.WideShapes Go.Deep
open Go.Proofs.YtkeocnhndnbamaaGreat.Slab (open_slot_cells weights_all_mem)
/-- slots as small as memory can hold -/
def SmallE (x : Ent) : Prop := x.wd.size ≤ 140737488351232 ∧ x.id.size ≤ 140737488351232
theorem list13 {α : Type} {l : List α} (h : l.length = 13) : ∃ a b c d e f g i j k m n o, l = [a, b, c, d, e, f, g, i, j, k, m, n, o] := by
  match l, h with
  | [a, b, c, d, e, f, g, i, j, k, m, n, o], _ => exact ⟨_, _, _, _, _, _, _, _, _, _, _, _, _, rfl⟩
theorem list9 {α : Type} {l : List α} (h : l.length = 9) : ∃ a b c d e f g i j, l = [a, b, c, d, e, f, g, i, j] := by
  match l, h with
  | [a, b, c, d, e, f, g, i, j], _ => exact ⟨_, _, _, _, _, _, _, _, _, rfl⟩
theorem list3 {α : Type} {l : List α} (h : l.length = 3) : ∃ a b c, l = [a, b, c] := by
  match l, h with
  | [a, b, c], _ => exact ⟨_, _, _, rfl⟩
section
variable {H : Type} {enc : TypeId × Value → H} {w : World} {base : Nat} {spare : Nat → Bool} {held : Bool}
set_option maxRecDepth 100000 in
theorem open_txn_cells {fuel : Nat} {cs : List Value} {x : DataW H × List MemPlace} (h : DataW.trod enc Tryz.prog w base spare held fuel 56 cs = some x) :
    ∃ a b c : Int, cs = [.int .i64 a, .int .i64 b, .int .i64 c] := by
  obtain ⟨xs, n, _, hx, hcl, hxl, hf⟩ := DataW.trod_struct Tryz.underlying56 h
  obtain ⟨c0, c1, c2, rfl⟩ := list3 (hcl.trans (by kernel_rfl))
  obtain ⟨y0, y1, y2, rfl⟩ := list3 hxl
  have h0 := hf 0 _ rfl
  have h1 := hf 1 _ rfl
  have h2 := hf 2 _ rfl
  have k0 : Tryz.prog.cellsOf 3 = 1 := by kernel_rfl
  simp only [List.getElem_toArray, List.getElem_cons_zero, List.getElem_cons_succ, k0, List.drop_zero, List.take_succ_cons, List.take_zero, List.drop_succ_cons] at h0 h1 h2
  obtain ⟨a, e0, _, _⟩ := DataW.trod_int Tryz.underlying3 h0
  obtain ⟨b, e1, _, _⟩ := DataW.trod_int Tryz.underlying3 h1
  obtain ⟨c, e2, _, _⟩ := DataW.trod_int Tryz.underlying3 h2
  simp only [List.cons.injEq, and_true] at e0 e1 e2
  exact ⟨a, b, c, by rw [e0, e1, e2]⟩
set_option maxRecDepth 100000 in
theorem open_ent_cells {fuel : Nat} {cs : List Value} {x : DataW H × List MemPlace} (h : DataW.trod enc Tryz.prog w base spare held fuel 58 cs = some x) (hw : ∀ n ∈ x.1.weights Tryz.prog 58, n ≤ reachBytes) :
    ∃ e : Ent, cs = (#[.int .i64 e.kind, .int .i64 e.cl, .int .i64 e.ep, .int .i64 e.n, .int .i64 e.lsn, .int .i64 e.prev, .int .i64 e.page, .int .i64 e.slot, .bool e.wu, .string e.wd, .bool e.iu, .string e.id, .int .i64 e.next]).toList ∧ SmallE e := by
  obtain ⟨xs, n, _, hx, hcl, hxl, hf⟩ := DataW.trod_struct Tryz.underlying58 h
  obtain ⟨c0, c1, c2, c3, c4, c5, c6, c7, c8, c9, c10, c11, c12, rfl⟩ := list13 (hcl.trans (by kernel_rfl))
  obtain ⟨y0, y1, y2, y3, y4, y5, y6, y7, y8, rfl⟩ := list9 hxl
  have h0 := hf 0 _ rfl
  have h1 := hf 1 _ rfl
  have h2 := hf 2 _ rfl
  have h3 := hf 3 _ rfl
  have h4 := hf 4 _ rfl
  have h5 := hf 5 _ rfl
  have h6 := hf 6 _ rfl
  have h7 := hf 7 _ rfl
  have h8 := hf 8 _ rfl
  have k0 : Tryz.prog.cellsOf 3 = 1 := by kernel_rfl
  have k1 : Tryz.prog.cellsOf 41 = 2 := by kernel_rfl
  have k2 : Tryz.prog.cellsOf 56 = 3 := by kernel_rfl
  simp only [List.getElem_toArray, List.getElem_cons_zero, List.getElem_cons_succ, k0, k1, k2, List.drop_zero, List.take_succ_cons, List.take_zero, List.drop_succ_cons] at h0 h1 h2 h3 h4 h5 h6 h7 h8
  obtain ⟨a0, e0, _, _⟩ := DataW.trod_int Tryz.underlying3 h0
  obtain ⟨t0, t1, t2, e1⟩ := open_txn_cells h1
  obtain ⟨a2, e2, _, _⟩ := DataW.trod_int Tryz.underlying3 h2
  obtain ⟨a3, e3, _, _⟩ := DataW.trod_int Tryz.underlying3 h3
  obtain ⟨a4, e4, _, _⟩ := DataW.trod_int Tryz.underlying3 h4
  obtain ⟨a5, e5, _, _⟩ := DataW.trod_int Tryz.underlying3 h5
  obtain ⟨a8, e8, _, _⟩ := DataW.trod_int Tryz.underlying3 h8
  obtain ⟨s6, e6, z6⟩ := open_slot_cells h6 (fun n hn => hw n (by
    rw [hx]
    simp only [DataW.weights, Tryz.underlying58]
    exact DataW.weights_mem_each (j := 6) (t := 41) (d := y6.1) rfl rfl n hn))
  obtain ⟨s7, e7, z7⟩ := open_slot_cells h7 (fun n hn => hw n (by
    rw [hx]
    simp only [DataW.weights, Tryz.underlying58]
    exact DataW.weights_mem_each (j := 7) (t := 41) (d := y7.1) rfl rfl n hn))
  simp only [List.cons.injEq, and_true] at e0 e1 e2 e3 e4 e5 e6 e7 e8
  obtain ⟨q0, q1, q2⟩ := e1
  obtain ⟨q3, q4⟩ := e6
  obtain ⟨q5, q6⟩ := e7
  refine ⟨⟨a0, t0, t1, t2, a2, a3, a4, a5, s6.u, s6.d, s7.u, s7.d, a8⟩, ?_, z6, z7⟩
  rw [e0, q0, q1, q2, e2, e3, e4, e5, q3, q4, q5, q6, e8]
end
end Go.Proofs.YtkeocnhndnbamaaGreat.Ent
namespace Go.Proofs.YtkeocnhndnbamaaGreat.Ent
set_option maxRecDepth 100000
def entA (x : Ent) : Array Value := #[.int .i64 x.kind, .int .i64 x.cl, .int .i64 x.ep, .int .i64 x.n, .int .i64 x.lsn, .int .i64 x.prev, .int .i64 x.page, .int .i64 x.slot, .bool x.wu, .string x.wd, .bool x.iu, .string x.id, .int .i64 x.next]
end Go.Proofs.YtkeocnhndnbamaaGreat.Ent
namespace Go.Proofs.YtkeocnhndnbamaaGreat.Ent
set_option maxRecDepth 100000
open Go.RowKit Go.Joins Go.ChangeShapes Go.WideShapes Go.Deep Go.Sort
open Go.Proofs.YtkeocnhndnbamaaGreat.Slab (weights_all_mem)
instance : Inhabited Ent := ⟨noE⟩
/-- an entry's cells from o on -/
def EntAt (w : World) (b o : Nat) (x : Ent) : Prop := ∀ (j : Nat) (v : Value), (entA x)[j]? = some v → w.cell? ⟨b, o + j, none⟩ = some v
def Ents (w : World) (a : Option Addr) (n : Nat) (zs : List Ent) : Prop :=
  zs.length = n ∧ (∀ x ∈ zs, SmallE x) ∧ (0 < n → ∃ b off, a = some ⟨b, off, none⟩ ∧ b < w.heap.size ∧ ∀ i, i < n → EntAt w b (off + i * 13) (zs.getD i noE))
theorem EntAt.next {w w' : World} {b o B : Nat} {x : Ent} (h : EntAt w b o x) (hb : Below B w w') (hB : b < B) : EntAt w' b o x := fun j v hv =>
  (hb.cell (p := ⟨b, o + j, none⟩) hB).trans (h j v hv)
theorem EntAt.cells {w : World} {b o : Nat} {x : Ent} (h : EntAt w b o x) :
    w.cell? ⟨b, o, none⟩ = some (.int .i64 x.kind) ∧ w.cell? ⟨b, o + 1, none⟩ = some (.int .i64 x.cl) ∧ w.cell? ⟨b, o + 2, none⟩ = some (.int .i64 x.ep) ∧ w.cell? ⟨b, o + 3, none⟩ = some (.int .i64 x.n) ∧
    w.cell? ⟨b, o + 4, none⟩ = some (.int .i64 x.lsn) ∧ w.cell? ⟨b, o + 5, none⟩ = some (.int .i64 x.prev) ∧ w.cell? ⟨b, o + 6, none⟩ = some (.int .i64 x.page) ∧ w.cell? ⟨b, o + 7, none⟩ = some (.int .i64 x.slot) ∧
    w.cell? ⟨b, o + 8, none⟩ = some (.bool x.wu) ∧ w.cell? ⟨b, o + 9, none⟩ = some (.string x.wd) ∧ w.cell? ⟨b, o + 10, none⟩ = some (.bool x.iu) ∧ w.cell? ⟨b, o + 11, none⟩ = some (.string x.id) ∧ w.cell? ⟨b, o + 12, none⟩ = some (.int .i64 x.next) :=
  ⟨h 0 _ rfl, h 1 _ rfl, h 2 _ rfl, h 3 _ rfl, h 4 _ rfl, h 5 _ rfl, h 6 _ rfl, h 7 _ rfl, h 8 _ rfl, h 9 _ rfl, h 10 _ rfl, h 11 _ rfl, h 12 _ rfl⟩
section
variable {H : Type} {enc : TypeId × Value → H} {w : World} {base : Nat} {spare : Nat → Bool} {held : Bool}
theorem open_ents_cells {fuel : Nat} {cs : List Value} {x : DataW H × List MemPlace} (h : DataW.trod enc Tryz.prog w base spare held fuel 29 cs = some x) (hw : ∀ n ∈ x.1.weights Tryz.prog 29, n ≤ reachBytes) :
    ∃ a n c zs, cs = [.slice a n c] ∧ Ents w a n zs := by
  rcases open_slice Tryz.underlying29 h with ⟨rfl, _⟩ | ⟨a, len, cap, m, n, D, Pl, hcs, hb, hl, hm, hmm, hx, hi⟩
  · exact ⟨none, 0, 0, [], rfl, rfl, by simp, fun h => absurd h (Nat.lt_irrefl 0)⟩
  · have hml : len ≤ m := by rw [hmm]; split <;> omega
    have hone : ∀ i, i < len → ∃ e : Ent, w.cells? base (a.add (i * 13)) 13 = some (entA e).toList ∧ SmallE e := by
      intro i hil
      obtain ⟨cs', hc, ht⟩ := hi i (by omega)
      have k2 : Tryz.prog.cellsOf 58 = 13 := by kernel_rfl
      rw [k2] at hc
      obtain ⟨s, rfl, hs⟩ := open_ent_cells ht (fun n hn => hw n (by
        rw [hx]
        simp only [DataW.weights, Tryz.underlying29]
        refine List.mem_cons_of_mem _ (List.mem_append.2 (.inl (weights_all_mem (d := D i) ?_ n hn)))
        exact List.mem_map.2 ⟨i, List.mem_range.2 hil, rfl⟩))
      exact ⟨s, hc, hs⟩
    obtain ⟨f, hf⟩ := choose_lt hone
    refine ⟨some a, len, cap, (List.range len).map f, hcs, by simp, ?_, fun hn => ?_⟩
    · intro y hy
      obtain ⟨i, hir, rfl⟩ := List.mem_map.1 hy
      exact (hf i (List.mem_range.1 hir)).2
    · obtain ⟨b, off, spot⟩ := a
      have hcell : ∀ i, i < len → ∀ (j : Nat) (v : Value), (entA (f i))[j]? = some v → w.cell? ((Addr.mk b off spot).add (i * 13 + j)) = some v := by
        intro i hil j v hv
        obtain ⟨_, _, hat⟩ := World.cells?_some (hf i hil).1
        have hj : j < (entA (f i)).toList.length := by
          have := (Array.getElem?_eq_some_iff.1 hv).1
          simpa using this
        have h0 := hat j hj
        rw [add_add] at h0
        rw [h0]
        rw [← hv]
        simp
      have hc0 := hcell 0 hn 0 _ rfl
      have hspot : spot = none := by
        have := World.cell?_spot hc0
        simpa [Addr.add] using this
      subst hspot
      refine ⟨b, off, rfl, ?_, fun i hil => ?_⟩
      · have := World.block_lt_of_cell? w _ hc0
        simpa [Addr.add] using this
      · have e : ((List.range len).map f).getD i noE = f i := by simp [List.getD, hil]
        rw [e]
        have ea : ∀ j, (Addr.mk b off none).add j = ⟨b, off + j, none⟩ := fun j => by unfold Addr.add; split <;> simp_all
        intro j v hv
        have := hcell i hil j v hv
        rw [ea, ← Nat.add_assoc] at this
        exact this
set_option maxRecDepth 100000 in
theorem open_ents {r : Reach} {b0 : Nat} {v : Value} {d : DataW H} {p : List MemPlace} (_hv : Value.okWide Tryz.prog w r b0 29 v) (h : DataW.Trod enc Tryz.prog w base spare held 29 v d p) (hw : ∀ n ∈ d.weights Tryz.prog 29, n ≤ reachBytes) :
    ∃ a n c zs, v = .slice a n c ∧ Ents w a n zs := by
  obtain ⟨a0, n0, c0, hv0⟩ := okWide_slice Tryz.underlying29 _hv
  obtain ⟨fuel, hf⟩ := h
  subst hv0
  obtain ⟨a, n, c, zs, he, hz⟩ := open_ents_cells (x := (d, p)) (by simpa [Value.cells] using hf) hw
  simp only [List.cons.injEq, and_true] at he
  exact ⟨a, n, c, zs, he, hz⟩
end
def cellsE (l : List Ent) : List Value := l.flatMap fun x => (entA x).toList
theorem cellsE_snoc (z : List Ent) (x : Ent) : cellsE z ++ (entA x).toList = cellsE (z ++ [x]) := by simp [cellsE]
theorem cellsE_length (l : List Ent) : (cellsE l).length = l.length * 13 := by
  induction l with
  | nil => rfl
  | cons x r ih => simp only [cellsE, List.flatMap_cons, List.length_append] at ih ⊢; rw [ih]; simp [entA]; omega
theorem cellsE_get : ∀ {l : List Ent} {i : Nat} {x : Ent}, l[i]? = some x → ∀ (j : Nat) (v : Value), (entA x)[j]? = some v → (cellsE l)[i * 13 + j]? = some v
  | y :: r, 0, x, h, j, v, hv => by
    simp at h; subst h
    have hj := (Array.getElem?_eq_some_iff.1 hv).1
    simp only [cellsE, List.flatMap_cons, Nat.zero_mul, Nat.zero_add]
    rw [List.getElem?_append_left (by simpa using hj)]
    simpa using hv
  | y :: r, i + 1, x, h, j, v, hv => by
    have ih := cellsE_get (l := r) (i := i) (by simpa using h) j v hv
    simp only [cellsE, List.flatMap_cons] at ih ⊢
    rw [List.getElem?_append_right (by simp [entA]; omega)]
    have e : (i + 1) * 13 + j - (entA y).toList.length = i * 13 + j := by simp [entA]; omega
    rw [e]; exact ih
theorem Ents.next {w w' : World} {a : Option Addr} {n : Nat} {zs : List Ent} (h : Ents w a n zs) (hb : Below w.heap.size w w') : Ents w' a n zs := by
  obtain ⟨h1, h2, h3⟩ := h
  refine ⟨h1, h2, fun hn => ?_⟩
  obtain ⟨b, off, ha, hlt, hc⟩ := h3 hn
  exact ⟨b, off, ha, Nat.lt_of_lt_of_le hlt hb.size, fun i hi => (hc i hi).next hb hlt⟩
theorem Ents.take {w : World} {a : Option Addr} {n : Nat} {zs : List Ent} (h : Ents w a n zs) {k : Nat} (hk : k ≤ n) : Ents w a k (zs.take k) := by
  obtain ⟨h1, h2, h3⟩ := h
  refine ⟨by rw [List.length_take, h1]; omega, fun x hx => h2 x (List.mem_of_mem_take hx), fun hn => ?_⟩
  obtain ⟨b, off, ha, hlt, hc⟩ := h3 (by omega)
  refine ⟨b, off, ha, hlt, fun i hi => ?_⟩
  have e : (zs.take k).getD i noE = zs.getD i noE := by simp [List.getD, hi]
  rw [e]; exact hc i (by omega)
theorem Ents.drop {w : World} {b off n : Nat} {zs : List Ent} (h : Ents w (some ⟨b, off, none⟩) n zs) {k : Nat} (hk : k ≤ n) : Ents w (some ⟨b, off + k * 13, none⟩) (n - k) (zs.drop k) := by
  obtain ⟨h1, h2, h3⟩ := h
  refine ⟨by rw [List.length_drop, h1], fun x hx => h2 x (List.mem_of_mem_drop hx), fun hn => ?_⟩
  obtain ⟨b', off', ha, hlt, hc⟩ := h3 (by omega)
  cases ha
  refine ⟨b, off + k * 13, rfl, hlt, fun i hi => ?_⟩
  have e : (zs.drop k).getD i noE = zs.getD (k + i) noE := by simp [List.getD]
  rw [e]
  have := hc (k + i) (by omega)
  rw [show off + k * 13 + i * 13 = off + (k + i) * 13 by omega]; exact this
theorem ents_of_blk {w : World} {g : Nat} {t : TypeId} {zs : List Ent} (h : w.heap[g]? = some (.cells (cellsE zs).toArray t (0, 0))) (hs : ∀ x ∈ zs, SmallE x) : Ents w (some ⟨g, 0, none⟩) zs.length zs := by
  refine ⟨rfl, hs, fun _ => ⟨g, 0, rfl, (Array.getElem?_eq_some_iff.1 h).1, fun i hi j v hv => ?_⟩⟩
  have hx : zs[i]? = some (zs.getD i noE) := by simp [List.getD, hi]
  have h1 := cellsE_get hx j v hv
  have h2 : w.cell? ⟨g, 0 + i * 13 + j, none⟩ = (cellsE zs).toArray[0 + i * 13 + j]? := by simp [World.cell?, h]
  rw [h2, Nat.zero_add]
  simpa using h1
end Go.Proofs.YtkeocnhndnbamaaGreat.Ent
