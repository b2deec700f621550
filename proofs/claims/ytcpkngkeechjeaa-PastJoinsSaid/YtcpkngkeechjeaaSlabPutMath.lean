/- What comes of a put, on lists; a row of slots as cells. -/
import Derived.Test.YtcpkngkeechjeaaSlabSame
import Derived.Test.YtcpkngkeechjeaaCopyK
import Derived.OwnWalk
namespace Go.Proofs.Ytcpkngkeechjeaa.Slab
set_option maxRecDepth 100000
open Go.RowKit Go.Sort

def padL (l : List Slot) (m : Nat) : List Slot := l ++ List.replicate (m - l.length) nos
/-- the slots behind a put -/
def putL (l : List Slot) (k : Nat) (x : Slot) : List Slot :=
  let g := (padL l (max l.length (k + 1))).set k x
  g.take (usedN g)
def putCode (lsn : Int) (l : List Slot) (slot : Int) (x : Slot) : Int :=
  if goodB lsn l = false ∨ slot < 0 ∨ 32 ≤ slot ∨ (x.u = false ∧ ¬ x.d.size = 0) then 1
  else if 200 < x.d.size then 5
  else if 240 < 9 + sz (putL l slot.toNat x) then 22 else 0
def putZ (lsn : Int) (l : List Slot) (slot : Int) (x : Slot) : List Slot := if putCode lsn l slot x = 0 then putL l slot.toNat x else []
def putN (lsn : Int) (l : List Slot) (slot : Int) (x : Slot) : Int := if putCode lsn l slot x = 0 then lsn else 0
/-- a page and an error's number are handed back, in new memory -/
def PageRes (l : Int) (z : List Slot) (code : Int) (w : World) (e : Ending) (w' : World) : Prop :=
  ∃ a n c, e = .returned (.tuple #[.agg #[.int .i64 l, .slice a n c], .int .i64 code]) ∧ Slots w' a n z ∧ Below w.heap.size w w' ∧ ∀ b off e, a = some ⟨b, off, e⟩ → w.heap.size ≤ b

def encS (x : Slot) : List Value := [.bool x.u, .string x.d]
def cellsOf (l : List Slot) : List Value := l.flatMap encS
theorem cellsOf_append (l m : List Slot) : cellsOf (l ++ m) = cellsOf l ++ cellsOf m := by simp [cellsOf]
theorem cellsOf_length (l : List Slot) : (cellsOf l).length = l.length * 2 := by
  induction l with
  | nil => rfl
  | cons x r ih => simp only [cellsOf, List.flatMap_cons, List.length_append, List.length_cons] at ih ⊢; rw [ih]; simp [encS]; omega
theorem cellsOf_get {l : List Slot} {k : Nat} {x : Slot} (h : l[k]? = some x) : (cellsOf l)[k * 2]? = some (.bool x.u) ∧ (cellsOf l)[k * 2 + 1]? = some (.string x.d) := by
  induction l generalizing k with
  | nil => simp at h
  | cons y r ih =>
    cases k with
    | zero => simp at h; subst h; simp [cellsOf, encS]
    | succ k =>
      have := ih (k := k) (by simpa using h)
      have e : (k + 1) * 2 = k * 2 + 1 + 1 := by omega
      rw [e]
      simpa [cellsOf, encS] using this
theorem cellsOf_set {l : List Slot} {k : Nat} (x : Slot) (h : k < l.length) : ((cellsOf l).set (k * 2) (.bool x.u)).set (k * 2 + 1) (.string x.d) = cellsOf (l.set k x) := by
  induction l generalizing k with
  | nil => simp at h
  | cons y r ih =>
    cases k with
    | zero => simp [cellsOf, encS]
    | succ k =>
      have := ih (k := k) (by simpa using h)
      have e : (k + 1) * 2 = k * 2 + 1 + 1 := by omega
      rw [e]
      simpa [cellsOf, encS] using this
theorem cellsOf_one (l : List Slot) : ∀ v ∈ cellsOf l, v.oneCell' = true := by
  intro v hv
  simp only [cellsOf, List.mem_flatMap, encS, List.mem_cons, List.not_mem_nil, or_false] at hv
  obtain ⟨x, _, rfl | rfl⟩ := hv <;> rfl
theorem slots_of_blk {w : World} {g : Nat} {t : TypeId} {l r : List Slot} (h : Blk w g t (cellsOf (l ++ r)).toArray) (hs : ∀ x ∈ l, x.d.size ≤ 140737488351232) : Slots w (some ⟨g, 0, none⟩) l.length l := by
  refine ⟨rfl, hs, fun _ => ⟨g, 0, rfl, h.lt, fun i hi => ?_⟩⟩
  have hg : (l ++ r)[i]? = some (l.getD i nos) := by rw [List.getElem?_append_left hi]; simp [List.getD, hi]
  obtain ⟨c1, c2⟩ := cellsOf_get hg
  rw [h.cell, h.cell]
  simpa using ⟨c1, c2⟩
theorem slots_src {w : World} {a : Option Addr} {n : Nat} {zs : List Slot} (h : Slots w a n zs) (hn : 0 < n) : ∃ ad, a = some ad ∧ ∀ j v, (cellsOf zs)[j]? = some v → w.cell? (ad.add j) = some v := by
  obtain ⟨b, off, ha, _, hc⟩ := h.2.2 hn
  refine ⟨_, ha, fun j v hv => ?_⟩
  have hj : j < n * 2 := by
    have := (List.getElem?_eq_some_iff.1 hv).1
    rw [cellsOf_length, h.1] at this; exact this
  have hk : j / 2 < zs.length := by rw [h.1]; omega
  have hg : zs[j / 2]? = some (zs.getD (j / 2) nos) := by simp [List.getD, hk]
  obtain ⟨c1, c2⟩ := cellsOf_get hg
  obtain ⟨d1, d2⟩ := hc (j / 2) (by omega)
  have ea : (Addr.add ⟨b, off, none⟩ j) = ⟨b, off + j, none⟩ := by unfold Addr.add; split <;> simp_all
  rw [ea]
  rcases Nat.mod_two_eq_zero_or_one j with hm | hm
  · have e : j = j / 2 * 2 := by omega
    rw [e] at hv ⊢
    rw [c1] at hv; injection hv with hv; rw [← hv]; exact d1
  · have e : j = j / 2 * 2 + 1 := by omega
    rw [e] at hv ⊢
    rw [c2] at hv; injection hv with hv; rw [← hv]; exact d2
theorem zero_cells (m : Nat) : madeCells #[.bool false, .string ⟨#[]⟩] (m * 2) = (cellsOf (List.replicate m nos)).toArray := by
  apply Array.ext
  · simp [size_madeCells, cellsOf_length]
  · intro i h1 h2
    rw [size_madeCells] at h1
    have hk : (List.replicate m nos)[i / 2]? = some nos := by rw [List.getElem?_replicate]; rw [if_pos (by omega)]
    obtain ⟨c1, c2⟩ := cellsOf_get hk
    simp only [madeCells, Array.getElem_map, Array.getElem_range, List.getElem_toArray]
    rcases Nat.mod_two_eq_zero_or_one i with hm | hm
    · have e : i / 2 * 2 = i := by omega
      rw [e] at c1
      rw [(List.getElem?_eq_some_iff.1 c1).2]
      simp [hm, nos]
    · have e : i / 2 * 2 + 1 = i := by omega
      rw [e] at c2
      rw [(List.getElem?_eq_some_iff.1 c2).2]
      simp [hm, nos]
theorem splice_pad (l : List Slot) (m : Nat) (h : l.length ≤ m) : splice (cellsOf (List.replicate m nos)) 0 (cellsOf l) = cellsOf (padL l m) := by
  unfold splice padL
  rw [cellsOf_append, List.take_zero, List.nil_append, Nat.zero_add, cellsOf_length]
  congr 1
  have e : List.replicate m nos = List.replicate l.length nos ++ List.replicate (m - l.length) nos := by rw [List.replicate_append_replicate]; congr 1; omega
  rw [e, cellsOf_append, List.drop_append_of_le_length (by rw [cellsOf_length]; simp), List.drop_of_length_le (by rw [cellsOf_length]; simp), List.nil_append]
theorem padL_length (l : List Slot) (m : Nat) (h : l.length ≤ m) : (padL l m).length = m := by simp [padL]; omega
theorem padL_sizes {l : List Slot} {m B : Nat} (h : ∀ x ∈ l, x.d.size ≤ B) : ∀ x ∈ padL l m, x.d.size ≤ B := by
  intro x hx
  rcases List.mem_append.1 hx with h1 | h1
  · exact h x h1
  · obtain rfl := (List.mem_replicate.1 h1).2
    exact Nat.zero_le _
theorem set_sizes {l : List Slot} {k B : Nat} {y : Slot} (h : ∀ x ∈ l, x.d.size ≤ B) (hy : y.d.size ≤ B) : ∀ x ∈ l.set k y, x.d.size ≤ B := by
  intro x hx
  rcases List.mem_or_eq_of_mem_set hx with h1 | h1
  · exact h x h1
  · rw [h1]; exact hy
theorem sz_bound {l : List Slot} {B : Nat} (h : ∀ x ∈ l, x.d.size ≤ B) : sz l ≤ (B + 1) * l.length := by
  induction l with
  | nil => simp [sz]
  | cons x r ih =>
    have := ih fun y hy => h y (List.mem_cons_of_mem _ hy)
    have := h x List.mem_cons_self
    simp only [sz, List.length_cons, Nat.mul_add]; omega
theorem Blk.set_ {w : World} {g : Nat} {t : TypeId} {cs : Array Value} (h : Blk w g t cs) (i : Nat) (u : Value) : Blk (w.setCell ⟨g, i, none⟩ u) g t (cs.setIfInBounds i u) := by
  unfold Blk at h ⊢
  simp [World.setCell, Array.getElem?_modify, h]
theorem Blk.far {w : World} {g : Nat} {t : TypeId} {cs : Array Value} (h : Blk w g t cs) {p : Addr} (hp : g ≠ p.block) (u : Value) : Blk (w.setCell p u) g t cs := (Below.heap_setCell w p u g hp).trans h
theorem Blk.drew {w : World} {g : Nat} {t : TypeId} {cs : Array Value} (h : Blk w g t cs) (n : Nat) : Blk (w.drewN n) g t cs := h
theorem Blk.grown {w w' : World} {g : Nat} {t : TypeId} {cs : Array Value} {row : Option Nat} (h : Blk w g t cs) (hb : w.grownBy w' row) (hg : some g ≠ row) : Blk w' g t cs := (hb.block g h.lt hg).trans h
/-- a slot is stored into a row of slots -/
theorem Blk.put_slot {w : World} {g : Nat} {t : TypeId} {l : List Slot} {k : Nat} (h : Blk w g t (cellsOf l).toArray) (hk : k < l.length) (u : Bool) (d : ByteArray) :
    Blk ((w.setCell ⟨g, k * 2, none⟩ (.bool u)).setCell ⟨g, k * 2 + 1, none⟩ (.string d)) g t (cellsOf (l.set k ⟨u, d⟩)).toArray := by
  have := (h.set_ (k * 2) (.bool u)).set_ (k * 2 + 1) (.string d)
  rw [← cellsOf_set ⟨u, d⟩ hk]
  simpa using this
theorem Slots.grown {w w' : World} {a : Option Addr} {n : Nat} {zs : List Slot} (h : Slots w a n zs) (hk : ∀ p : Addr, p.block < w.heap.size → w'.cell? p = w.cell? p) (hs : w.heap.size ≤ w'.heap.size) : Slots w' a n zs := by
  obtain ⟨h1, h2, h3⟩ := h
  refine ⟨h1, h2, fun hn => ?_⟩
  obtain ⟨b, off, ha, hlt, hc⟩ := h3 hn
  exact ⟨b, off, ha, Nat.lt_of_lt_of_le hlt hs, fun i hi => ⟨(hk ⟨b, off + i * 2, none⟩ hlt).trans (hc i hi).1, (hk ⟨b, off + i * 2 + 1, none⟩ hlt).trans (hc i hi).2⟩⟩
/-- a store into a block that the row does not lie in -/
theorem Slots.setCell {w : World} {a : Option Addr} {n : Nat} {zs : List Slot} (h : Slots w a n zs) {g i : Nat} (v : Value) (hne : ∀ b off, a = some ⟨b, off, none⟩ → 0 < n → b ≠ g) : Slots (w.setCell ⟨g, i, none⟩ v) a n zs := by
  obtain ⟨h1, h2, h3⟩ := h
  refine ⟨h1, h2, fun hn => ?_⟩
  obtain ⟨b, off, ha, hlt, hc⟩ := h3 hn
  have hb := hne b off ha hn
  refine ⟨b, off, ha, by simpa using hlt, fun i hi => ?_⟩
  rw [World.cell?_setCell_other _ _ _ _ (fun e => hb (by cases e; rfl)), World.cell?_setCell_other _ _ _ _ (fun e => hb (by cases e; rfl))]
  exact hc i hi
end Go.Proofs.Ytcpkngkeechjeaa.Slab
