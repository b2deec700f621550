/- copy between slices whose elements have k cells (Derived.Laws.CopyOwn has it for one cell). What comes of a put, on lists; a row of slots as cells. The walk of slab.Put. The walk of slab.Put, where a slot is put. The walk of slab.Vacant. Cells that a walk reads on, held over calls that only make memory. -/
import Derived.Test.YtjffjmffoffblaaRows
import Derived.Laws.CopyOwn
import Derived.Test.YtjffjmffoffblaaQSlabBookA
import Derived.OwnWalk
import Derived.Below
import Derived.WalkKit
import Derived.Deep.Draws
namespace Go.Proofs.Ytjffjmffoffblaa
set_option maxRecDepth 100000
open Go.RowKit
theorem run_copy_rowK {P : Program} (w : World) (dT sT ty elem : TypeId) (k g o dLen dCap : Nat) (a : Addr) (sLen sCap : Nat) (cur : Array Value) (t : TypeId) (cs : List Value)
    (hu : P.underlying dT = some (.slice elem)) (hs : (P.info? elem).map (·.size) = some k)
    (hg : w.heap[g]? = some (.cells cur t (0, 0))) (hn : cs.length = Nat.min sLen dLen * k)
    (hsrc : ∀ j v, cs[j]? = some v → w.cell? (a.add j) = some v) (hfit : o + cs.length ≤ cur.size) (h1 : ∀ v ∈ cs, v.oneCell' = true) :
    (Builtin.copy_ #[dT, sT] ty #[.slice (some ⟨g, o, none⟩) dLen dCap, .slice (some a) sLen sCap]).run P w =
      .ok (goInt (Nat.min sLen dLen : Nat)) (w.setRow g (cur.toList.take o ++ cs ++ cur.toList.drop (o + cs.length)).toArray) := by
  have hl := run_loadCells_list (P := P) w a cs hsrc
  have hst := run_storeCells_at P g o t cs 0 cur w hg (by simpa using hfit) h1
  cases hq : P.info? elem with
  | none => simp [hq] at hs
  | some i =>
    have hi : i.size = k := by simpa [hq] using hs
    rw [hn] at hl
    simp [Builtin.copy_, run_underlying hu, Builtin.lenOf, Builtin.firstCells, sizeOf, typeInfo, hq, hi, hl, hst]
theorem run_copy_noneK {P : Program} (w : World) (dT sT ty elem : TypeId) (k : Nat) (d a : Option Addr) (dLen dCap sLen sCap : Nat) (hu : P.underlying dT = some (.slice elem)) (hs : (P.info? elem).map (·.size) = some k) (hn : Nat.min sLen dLen = 0) :
    (Builtin.copy_ #[dT, sT] ty #[.slice d dLen dCap, .slice a sLen sCap]).run P w = .ok (goInt 0) w := by
  cases hq : P.info? elem with
  | none => simp [hq] at hs
  | some i =>
    have hl : ∀ (x : Addr), (loadCells x 0).run P w = .ok #[] w := fun x => by simpa using run_loadCells_list (P := P) w x [] (by simp)
    cases d <;> cases a <;> simp [Builtin.copy_, run_underlying hu, Builtin.lenOf, Builtin.firstCells, sizeOf, typeInfo, hq, hn, storeCells, hl]
theorem wpList_copy_spliceK {P : Program} {w : World} {ops : Array Oper} {rest : List Oper} {o : Oper} {a : Act} {Q : Exit → Act → World → Prop} (hgd : o.guard = none) (d s : Operand) (dT sT : TypeId)
    (ho : o.op = .call { callee := .builtin .copy, args := #[d, s], argTypes := #[dT, sT] }) (elem : TypeId) (k : Nat) (hu : P.underlying dT = some (.slice elem)) (hsz : (P.info? elem).map (·.size) = some k) (hk : 0 < k)
    (dp sp : Option Addr) (dLen dCap sLen sCap : Nat) (hd : a.eval d = .slice dp dLen dCap) (hs : a.eval s = .slice sp sLen sCap)
    (g off : Nat) (cur : List Value) (t : TypeId) (hg : w.heap[g]? = some (.cells cur.toArray t (0, 0))) (cs : List Value) (hn : cs.length = Nat.min sLen dLen * k)
    (hpos : 0 < cs.length → dp = some ⟨g, off, none⟩ ∧ ∃ ad, sp = some ad ∧ ∀ j v, cs[j]? = some v → w.cell? (ad.add j) = some v)
    (hfit : off + cs.length ≤ cur.length) (h1 : ∀ v ∈ cs, v.oneCell' = true) (B : Nat) (w0 : World) (hb : Below B w0 w) (hBg : B ≤ g)
    (h : ∀ w', Hid (w'.heap[g]? = some (.cells (splice cur off cs).toArray t (0, 0))) → Below B w0 w' → w.grownBy w' (some g) → wpList P ops Q rest (a.put o.dst (goInt (Nat.min sLen dLen : Nat))) w') :
    wpList P ops Q (o :: rest) a w := by
  refine wpList_plain hgd fun K hK => ?_
  by_cases h0 : cs.length = 0
  · obtain rfl : cs = [] := List.eq_nil_of_length_eq_zero h0
    have h00 : Nat.min sLen dLen = 0 := by
      rcases Nat.eq_zero_or_pos (Nat.min sLen dLen) with hz | hz
      · exact hz
      · have := Nat.mul_pos hz hk; simp at hn; omega
    have hrun := run_copy_noneK (P := P) w dT sT o.type elem k dp sp dLen dCap sLen sCap hu hsz h00
    unfold Oper.wp
    simp only [execOp, ho, resolve, invoke, builtin, hd, hs, hrun, Sem.run_bind, Sem.run_pure, Result.andThen_ok, List.map_toArray, List.map_cons, List.map_nil]
    have := h w (show _ = _ by simpa [splice] using hg) hb ⟨rfl, rfl, rfl, Nat.le_refl _, fun _ _ _ => rfl⟩
    rw [h00] at this
    exact hK _ _ this
  · obtain ⟨rfl, ad, rfl, hsrc⟩ := hpos (by omega)
    have hrun := run_copy_rowK (P := P) w dT sT o.type elem k g off dLen dCap ad sLen sCap cur.toArray t cs hu hsz hg hn hsrc (by simpa using hfit) h1
    unfold Oper.wp
    simp only [execOp, ho, resolve, invoke, builtin, hd, hs, hrun, Sem.run_bind, Sem.run_pure, Result.andThen_ok, List.map_toArray, List.map_cons, List.map_nil]
    refine hK _ _ (h _ (show _ = _ by simpa [splice] using setRow_heap w g _ _ t _ hg) (below_setRow hb hBg _) ⟨rfl, rfl, rfl, by simp [World.setRow], fun j _ hj => setRow_other w g j _ (fun e => hj (by rw [e]))⟩)
end Go.Proofs.Ytjffjmffoffblaa
namespace Go.Proofs.Ytjffjmffoffblaa.Slab
set_option maxRecDepth 100000
open Go.RowKit Go.Sort

def padL (l : List Slot) (m : Nat) : List Slot := l ++ List.replicate (m - l.length) nos
/-- the slots behind a put -/
def putL (l : List Slot) (k : Nat) (x : Slot) : List Slot :=
  let g := (padL l (max l.length (k + 1))).set k x
  g.take (usedN g)
def putCode (lsn : Int) (l : List Slot) (slot : Int) (x : Slot) : Int :=
  if goodB lsn l = false ∨ slot < 0 ∨ 32 ≤ slot ∨ (x.u = false ∧ ¬ x.d.size = 0) then 1
  else if 200 < x.d.size then 5
  else if 240 < 9 + sz (putL l slot.toNat x) then 22 else 0
def putZ (lsn : Int) (l : List Slot) (slot : Int) (x : Slot) : List Slot := if putCode lsn l slot x = 0 then putL l slot.toNat x else []
def putN (lsn : Int) (l : List Slot) (slot : Int) (x : Slot) : Int := if putCode lsn l slot x = 0 then lsn else 0
/-- a page and an error's number are handed back, in new memory -/
def PageRes (l : Int) (z : List Slot) (code : Int) (w : World) (e : Ending) (w' : World) : Prop :=
  ∃ a n c, e = .returned (.tuple #[.agg #[.int .i64 l, .slice a n c], .int .i64 code]) ∧ Slots w' a n z ∧ Below w.heap.size w w' ∧ ∀ b off e, a = some ⟨b, off, e⟩ → w.heap.size ≤ b

def encS (x : Slot) : List Value := [.bool x.u, .string x.d]
def cellsOf (l : List Slot) : List Value := l.flatMap encS
theorem cellsOf_append (l m : List Slot) : cellsOf (l ++ m) = cellsOf l ++ cellsOf m := by simp [cellsOf]
theorem cellsOf_length (l : List Slot) : (cellsOf l).length = l.length * 2 := by
  induction l with
  | nil => rfl
  | cons x r ih => simp only [cellsOf, List.flatMap_cons, List.length_append, List.length_cons] at ih ⊢; rw [ih]; simp [encS]; omega
theorem cellsOf_get {l : List Slot} {k : Nat} {x : Slot} (h : l[k]? = some x) : (cellsOf l)[k * 2]? = some (.bool x.u) ∧ (cellsOf l)[k * 2 + 1]? = some (.string x.d) := by
  induction l generalizing k with
  | nil => simp at h
  | cons y r ih =>
    cases k with
    | zero => simp at h; subst h; simp [cellsOf, encS]
    | succ k =>
      have := ih (k := k) (by simpa using h)
      have e : (k + 1) * 2 = k * 2 + 1 + 1 := by omega
      rw [e]
      simpa [cellsOf, encS] using this
theorem cellsOf_set {l : List Slot} {k : Nat} (x : Slot) (h : k < l.length) : ((cellsOf l).set (k * 2) (.bool x.u)).set (k * 2 + 1) (.string x.d) = cellsOf (l.set k x) := by
  induction l generalizing k with
  | nil => simp at h
  | cons y r ih =>
    cases k with
    | zero => simp [cellsOf, encS]
    | succ k =>
      have := ih (k := k) (by simpa using h)
      have e : (k + 1) * 2 = k * 2 + 1 + 1 := by omega
      rw [e]
      simpa [cellsOf, encS] using this
theorem cellsOf_one (l : List Slot) : ∀ v ∈ cellsOf l, v.oneCell' = true := by
  intro v hv
  simp only [cellsOf, List.mem_flatMap, encS, List.mem_cons, List.not_mem_nil, or_false] at hv
  obtain ⟨x, _, rfl | rfl⟩ := hv <;> rfl
theorem slots_of_blk {w : World} {g : Nat} {t : TypeId} {l r : List Slot} (h : Blk w g t (cellsOf (l ++ r)).toArray) (hs : ∀ x ∈ l, x.d.size ≤ 140737488351232) : Slots w (some ⟨g, 0, none⟩) l.length l := by
  refine ⟨rfl, hs, fun _ => ⟨g, 0, rfl, h.lt, fun i hi => ?_⟩⟩
  have hg : (l ++ r)[i]? = some (l.getD i nos) := by rw [List.getElem?_append_left hi]; simp [List.getD, hi]
  obtain ⟨c1, c2⟩ := cellsOf_get hg
  rw [h.cell, h.cell]
  simpa using ⟨c1, c2⟩
theorem slots_src {w : World} {a : Option Addr} {n : Nat} {zs : List Slot} (h : Slots w a n zs) (hn : 0 < n) : ∃ ad, a = some ad ∧ ∀ j v, (cellsOf zs)[j]? = some v → w.cell? (ad.add j) = some v := by
  obtain ⟨b, off, ha, _, hc⟩ := h.2.2 hn
  refine ⟨_, ha, fun j v hv => ?_⟩
  have hj : j < n * 2 := by
    have := (List.getElem?_eq_some_iff.1 hv).1
    rw [cellsOf_length, h.1] at this; exact this
  have hk : j / 2 < zs.length := by rw [h.1]; omega
  have hg : zs[j / 2]? = some (zs.getD (j / 2) nos) := by simp [List.getD, hk]
  obtain ⟨c1, c2⟩ := cellsOf_get hg
  obtain ⟨d1, d2⟩ := hc (j / 2) (by omega)
  have ea : (Addr.add ⟨b, off, none⟩ j) = ⟨b, off + j, none⟩ := by unfold Addr.add; split <;> simp_all
  rw [ea]
  rcases Nat.mod_two_eq_zero_or_one j with hm | hm
  · have e : j = j / 2 * 2 := by omega
    rw [e] at hv ⊢
    rw [c1] at hv; injection hv with hv; rw [← hv]; exact d1
  · have e : j = j / 2 * 2 + 1 := by omega
    rw [e] at hv ⊢
    rw [c2] at hv; injection hv with hv; rw [← hv]; exact d2
theorem zero_cells (m : Nat) : madeCells #[.bool false, .string ⟨#[]⟩] (m * 2) = (cellsOf (List.replicate m nos)).toArray := by
  apply Array.ext
  · simp [size_madeCells, cellsOf_length]
  · intro i h1 h2
    rw [size_madeCells] at h1
    have hk : (List.replicate m nos)[i / 2]? = some nos := by rw [List.getElem?_replicate]; rw [if_pos (by omega)]
    obtain ⟨c1, c2⟩ := cellsOf_get hk
    simp only [madeCells, Array.getElem_map, Array.getElem_range, List.getElem_toArray]
    rcases Nat.mod_two_eq_zero_or_one i with hm | hm
    · have e : i / 2 * 2 = i := by omega
      rw [e] at c1
      rw [(List.getElem?_eq_some_iff.1 c1).2]
      simp [hm, nos]
    · have e : i / 2 * 2 + 1 = i := by omega
      rw [e] at c2
      rw [(List.getElem?_eq_some_iff.1 c2).2]
      simp [hm, nos]
theorem splice_pad (l : List Slot) (m : Nat) (h : l.length ≤ m) : splice (cellsOf (List.replicate m nos)) 0 (cellsOf l) = cellsOf (padL l m) := by
  unfold splice padL
  rw [cellsOf_append, List.take_zero, List.nil_append, Nat.zero_add, cellsOf_length]
  congr 1
  have e : List.replicate m nos = List.replicate l.length nos ++ List.replicate (m - l.length) nos := by rw [List.replicate_append_replicate]; congr 1; omega
  rw [e, cellsOf_append, List.drop_append_of_le_length (by rw [cellsOf_length]; simp), List.drop_of_length_le (by rw [cellsOf_length]; simp), List.nil_append]
theorem padL_length (l : List Slot) (m : Nat) (h : l.length ≤ m) : (padL l m).length = m := by simp [padL]; omega
theorem padL_sizes {l : List Slot} {m B : Nat} (h : ∀ x ∈ l, x.d.size ≤ B) : ∀ x ∈ padL l m, x.d.size ≤ B := by
  intro x hx
  rcases List.mem_append.1 hx with h1 | h1
  · exact h x h1
  · obtain rfl := (List.mem_replicate.1 h1).2
    exact Nat.zero_le _
theorem set_sizes {l : List Slot} {k B : Nat} {y : Slot} (h : ∀ x ∈ l, x.d.size ≤ B) (hy : y.d.size ≤ B) : ∀ x ∈ l.set k y, x.d.size ≤ B := by
  intro x hx
  rcases List.mem_or_eq_of_mem_set hx with h1 | h1
  · exact h x h1
  · rw [h1]; exact hy
theorem sz_bound {l : List Slot} {B : Nat} (h : ∀ x ∈ l, x.d.size ≤ B) : sz l ≤ (B + 1) * l.length := by
  induction l with
  | nil => simp [sz]
  | cons x r ih =>
    have := ih fun y hy => h y (List.mem_cons_of_mem _ hy)
    have := h x List.mem_cons_self
    simp only [sz, List.length_cons, Nat.mul_add]; omega
theorem Blk.set_ {w : World} {g : Nat} {t : TypeId} {cs : Array Value} (h : Blk w g t cs) (i : Nat) (u : Value) : Blk (w.setCell ⟨g, i, none⟩ u) g t (cs.setIfInBounds i u) := by
  unfold Blk at h ⊢
  simp [World.setCell, Array.getElem?_modify, h]
theorem Blk.far {w : World} {g : Nat} {t : TypeId} {cs : Array Value} (h : Blk w g t cs) {p : Addr} (hp : g ≠ p.block) (u : Value) : Blk (w.setCell p u) g t cs := (Below.heap_setCell w p u g hp).trans h
theorem Blk.drew {w : World} {g : Nat} {t : TypeId} {cs : Array Value} (h : Blk w g t cs) (n : Nat) : Blk (w.drewN n) g t cs := h
theorem Blk.grown {w w' : World} {g : Nat} {t : TypeId} {cs : Array Value} {row : Option Nat} (h : Blk w g t cs) (hb : w.grownBy w' row) (hg : some g ≠ row) : Blk w' g t cs := (hb.block g h.lt hg).trans h
/-- a slot is stored into a row of slots -/
theorem Blk.put_slot {w : World} {g : Nat} {t : TypeId} {l : List Slot} {k : Nat} (h : Blk w g t (cellsOf l).toArray) (hk : k < l.length) (u : Bool) (d : ByteArray) :
    Blk ((w.setCell ⟨g, k * 2, none⟩ (.bool u)).setCell ⟨g, k * 2 + 1, none⟩ (.string d)) g t (cellsOf (l.set k ⟨u, d⟩)).toArray := by
  have := (h.set_ (k * 2) (.bool u)).set_ (k * 2 + 1) (.string d)
  rw [← cellsOf_set ⟨u, d⟩ hk]
  simpa using this
theorem Slots.grown {w w' : World} {a : Option Addr} {n : Nat} {zs : List Slot} (h : Slots w a n zs) (hk : ∀ p : Addr, p.block < w.heap.size → w'.cell? p = w.cell? p) (hs : w.heap.size ≤ w'.heap.size) : Slots w' a n zs := by
  obtain ⟨h1, h2, h3⟩ := h
  refine ⟨h1, h2, fun hn => ?_⟩
  obtain ⟨b, off, ha, hlt, hc⟩ := h3 hn
  exact ⟨b, off, ha, Nat.lt_of_lt_of_le hlt hs, fun i hi => ⟨(hk ⟨b, off + i * 2, none⟩ hlt).trans (hc i hi).1, (hk ⟨b, off + i * 2 + 1, none⟩ hlt).trans (hc i hi).2⟩⟩
/-- a store into a block that the row does not lie in -/
theorem Slots.setCell {w : World} {a : Option Addr} {n : Nat} {zs : List Slot} (h : Slots w a n zs) {g i : Nat} (v : Value) (hne : ∀ b off, a = some ⟨b, off, none⟩ → 0 < n → b ≠ g) : Slots (w.setCell ⟨g, i, none⟩ v) a n zs := by
  obtain ⟨h1, h2, h3⟩ := h
  refine ⟨h1, h2, fun hn => ?_⟩
  obtain ⟨b, off, ha, hlt, hc⟩ := h3 hn
  have hb := hne b off ha hn
  refine ⟨b, off, ha, by simpa using hlt, fun i hi => ?_⟩
  rw [World.cell?_setCell_other _ _ _ _ (fun e => hb (by cases e; rfl)), World.cell?_setCell_other _ _ _ _ (fun e => hb (by cases e; rfl))]
  exact hc i hi
end Go.Proofs.Ytjffjmffoffblaa.Slab
namespace Go.Proofs.Ytjffjmffoffblaa.Slab
set_option maxRecDepth 100000
open Go.RowKit Go.Sort

/-- the world behind Put's boxes -/
structure PutAt (w W : World) (lsn : Int) (a : Option Addr) (n c : Nat) (u : Bool) (d : ByteArray) (zs : List Slot) : Prop where
  p0 : W.cell? ⟨w.heap.size, 0, none⟩ = some (.int .i64 lsn)
  p1 : W.cell? ⟨w.heap.size, 1, none⟩ = some (.slice a n c)
  s0 : W.cell? ⟨w.heap.size + 1, 0, none⟩ = some (.bool u)
  s1 : W.cell? ⟨w.heap.size + 1, 1, none⟩ = some (.string d)
  r : Blk W (w.heap.size + 2) 27 #[.int .i64 0, .slice none 0 0]
  b : Below w.heap.size w W
  z : w.heap.size + 2 < W.heap.size
  o : Slots w a n zs
theorem PutAt.s {w W : World} {lsn : Int} {a : Option Addr} {n c : Nat} {u : Bool} {d : ByteArray} {zs : List Slot} (h : PutAt w W lsn a n c u d zs) : Slots W a n zs := h.o.below h.b
theorem put_at (w : World) (lsn : Int) (a : Option Addr) (n c : Nat) (u : Bool) (d : ByteArray) (zs : List Slot) (h : Slots w a n zs) : PutAt w (((w.alloc (.cells #[.int .i64 lsn, .slice a n c] 27)).alloc (.cells #[.bool u, .string d] 54)).alloc (.cells #[.int .i64 0, .slice none 0 0] 27)) lsn a n c u d zs := by
  have hb : Below w.heap.size w (((w.alloc (.cells #[.int .i64 lsn, .slice a n c] 27)).alloc (.cells #[.bool u, .string d] 54)).alloc (.cells #[.int .i64 0, .slice none 0 0] 27)) := (((Below.refl _ _).alloc (Nat.le_refl _) _).alloc (by simp) _).alloc (by simp; omega) _
  have t := two_cells w (.int .i64 lsn) (.slice a n c) (.bool u) (.string d) 27 54
  refine ⟨?_, ?_, ?_, ?_, ?_, hb, by simp, h⟩
  · rw [World.cell?_alloc_lt _ _ _ (by simp; omega)]; exact t.1
  · rw [World.cell?_alloc_lt _ _ _ (by simp; omega)]; exact t.2.1
  · rw [World.cell?_alloc_lt _ _ _ (by simp)]; exact t.2.2.1
  · rw [World.cell?_alloc_lt _ _ _ (by simp)]; exact t.2.2.2
  · have := Blk.new ((w.alloc (.cells #[.int .i64 lsn, .slice a n c] 27)).alloc (.cells #[.bool u, .string d] 54)) 27 #[.int .i64 0, .slice none 0 0]
    simpa using this
theorem PutAt.next {w W W' : World} {lsn : Int} {a : Option Addr} {n c : Nat} {u : Bool} {d : ByteArray} {zs : List Slot} (h : PutAt w W lsn a n c u d zs) (hb : Below W.heap.size W W') : PutAt w W' lsn a n c u d zs := by
  have hz := h.z
  refine ⟨(hb.cell (p := ⟨w.heap.size, 0, none⟩) (by simp; omega)).trans h.p0, (hb.cell (p := ⟨w.heap.size, 1, none⟩) (by simp; omega)).trans h.p1, (hb.cell (p := ⟨w.heap.size + 1, 0, none⟩) (by simp; omega)).trans h.s0, (hb.cell (p := ⟨w.heap.size + 1, 1, none⟩) (by simp; omega)).trans h.s1, h.r.below hb hz, h.b.trans (hb.mono h.b.size), Nat.lt_of_lt_of_le hz hb.size, h.o⟩
theorem PutAt.store {w W : World} {lsn : Int} {a : Option Addr} {n c : Nat} {u : Bool} {d : ByteArray} {zs : List Slot} (h : PutAt w W lsn a n c u d zs) {M : Nat} (hM : w.heap.size + 2 < M) (i : Nat) (v : Value) : PutAt w (W.setCell ⟨M, i, none⟩ v) lsn a n c u d zs := by
  have hne : ∀ g j, g ≤ w.heap.size + 2 → (⟨g, j, none⟩ : Addr) ≠ ⟨M, i, none⟩ := fun g j hg e => by cases e; omega
  refine ⟨?_, ?_, ?_, ?_, h.r.far (by simp; omega) v, h.b.setCell (p := ⟨M, i, none⟩) (by simp; omega) v, by simpa using h.z, h.o⟩
  · rw [World.cell?_setCell_other _ _ _ _ (hne _ _ (by omega)).symm]; exact h.p0
  · rw [World.cell?_setCell_other _ _ _ _ (hne _ _ (by omega)).symm]; exact h.p1
  · rw [World.cell?_setCell_other _ _ _ _ (hne _ _ (by omega)).symm]; exact h.s0
  · rw [World.cell?_setCell_other _ _ _ _ (hne _ _ (by omega)).symm]; exact h.s1
theorem put_arg {lsn slot : Int} {l : List Slot} {x : Slot} (h : goodB lsn l = false ∨ slot < 0 ∨ 32 ≤ slot ∨ (x.u = false ∧ ¬ x.d.size = 0)) : putCode lsn l slot x = 1 := by unfold putCode; rw [if_pos h]
theorem put_long {lsn slot : Int} {l : List Slot} {x : Slot} (h : ¬ (goodB lsn l = false ∨ slot < 0 ∨ 32 ≤ slot ∨ (x.u = false ∧ ¬ x.d.size = 0))) (h2 : 200 < x.d.size) : putCode lsn l slot x = 5 := by unfold putCode; rw [if_neg h, if_pos h2]
theorem put_full {lsn slot : Int} {l : List Slot} {x : Slot} (h : ¬ (goodB lsn l = false ∨ slot < 0 ∨ 32 ≤ slot ∨ (x.u = false ∧ ¬ x.d.size = 0))) (h2 : ¬ 200 < x.d.size) (h3 : 240 < 9 + sz (putL l slot.toNat x)) : putCode lsn l slot x = 22 := by unfold putCode; rw [if_neg h, if_neg h2, if_pos h3]
theorem put_ok {lsn slot : Int} {l : List Slot} {x : Slot} (h : ¬ (goodB lsn l = false ∨ slot < 0 ∨ 32 ≤ slot ∨ (x.u = false ∧ ¬ x.d.size = 0))) (h2 : ¬ 200 < x.d.size) (h3 : ¬ 240 < 9 + sz (putL l slot.toNat x)) : putCode lsn l slot x = 0 := by unfold putCode; rw [if_neg h, if_neg h2, if_neg h3]
theorem put_true {lsn slot : Int} {l : List Slot} {d : ByteArray} (h : goodB lsn l = true) (h0 : ¬ slot < 0) (h1 : ¬ 32 ≤ slot) : ¬ (goodB lsn l = false ∨ slot < 0 ∨ 32 ≤ slot ∨ ((⟨true, d⟩ : Slot).u = false ∧ ¬ (⟨true, d⟩ : Slot).d.size = 0)) := by
  rw [h]
  rintro (h2 | h2 | h2 | h2)
  · cases h2
  · exact h0 h2
  · exact h1 h2
  · cases h2.1
/-- an error's answer -/
theorem err_res {w w' : World} {lsn slot : Int} {l : List Slot} {x : Slot} {code : Int} (h : putCode lsn l slot x = code) (hc : code ≠ 0) (hb : Below w.heap.size w w') :
    PageRes (putN lsn l slot x) (putZ lsn l slot x) (putCode lsn l slot x) w (.returned (.tuple #[.agg #[.int .i64 0, .slice none 0 0], .int .i64 code])) w' := by
  unfold putN putZ
  rw [h, if_neg hc, if_neg hc]
  exact ⟨none, 0, 0, rfl, Slots.nil _ _, hb, fun _ _ _ h => by cases h⟩

set_option maxRecDepth 100000 in
set_option maxHeartbeats 4000000 in
theorem put_err (lsn : Int) (a : Option Addr) (n c : Nat) (zs : List Slot) (slot : Int) (u : Bool) (d : ByteArray) (w : World) (h : Slots w a n zs) (hn : n ≤ 1000000) (_hd : d.size ≤ 140737488351232)
    (he : (goodB lsn zs = false ∨ slot < 0 ∨ 32 ≤ slot ∨ (u = false ∧ ¬ d.size = 0)) ∨ 200 < d.size) :
    Calls Try.prog 96 #[.agg #[.int .i64 lsn, .slice a n c], .int .i64 slot, .agg #[.bool u, .string d]] w (PageRes (putN lsn zs slot ⟨u, d⟩) (putZ lsn zs slot ⟨u, d⟩) (putCode lsn zs slot ⟨u, d⟩) w) := by
  have H0 := put_at w lsn a n c u d zs h
  clear h
  cases hg : goodB lsn zs with
  | false =>
    have HC := Lib.hid (put_arg (slot := slot) (x := ⟨u, d⟩) (.inl hg))
    have HG := Lib.hid hg
    clear hg he
    go_enter Try.func96, Try.ntmps96
    go_wp2_with fail
    generalize hGen : ((w.alloc (.cells #[.int .i64 lsn, .slice a n c] 27)).alloc (.cells #[.bool u, .string d] 54)).alloc (.cells #[.int .i64 0, .slice none 0 0] 27) = W at H0 ⊢
    clear hGen
    refine (good_any lsn a n c zs _ H0.s (by omega)).mono ?_
    rw [HG.out]
    rintro e w1 ⟨rfl, b1⟩
    have H1 := H0.next b1
    have p0 := H1.p0
    have p1 := H1.p1
    have s0 := H1.s0
    have s1 := H1.s1
    have q0 := H1.r.cell 0
    have q1 := H1.r.cell 1
    have f0 := H1.r.frozen 0
    have f1 := H1.r.frozen 1
    go_wp2
    exact bodyPost_ret (v := .tuple #[.agg #[.int .i64 0, .slice none 0 0], .int .i64 1]) (by simp [results, Try.results96, go_sem, q0, q1]) rfl (err_res HC.out (by decide) ((H1.b.setCell (p := ⟨w.heap.size + 2, 0, none⟩) (by simp) _).setCell (p := ⟨w.heap.size + 2, 1, none⟩) (by simp) _))
  | true =>
    have HG := Lib.hid hg
    clear hg
    by_cases t0 : slot < 0
    · have HC := Lib.hid (put_arg (lsn := lsn) (slot := slot) (l := zs) (x := ⟨u, d⟩) (.inr (.inl t0)))
      clear he
      go_enter Try.func96, Try.ntmps96
      go_wp2_with fail
      generalize hGen : ((w.alloc (.cells #[.int .i64 lsn, .slice a n c] 27)).alloc (.cells #[.bool u, .string d] 54)).alloc (.cells #[.int .i64 0, .slice none 0 0] 27) = W at H0 ⊢
      clear hGen
      refine (good_any lsn a n c zs _ H0.s (by omega)).mono ?_
      rw [HG.out]
      rintro e w1 ⟨rfl, b1⟩
      have H1 := H0.next b1
      have p0 := H1.p0
      have p1 := H1.p1
      have s0 := H1.s0
      have s1 := H1.s1
      have q0 := H1.r.cell 0
      have q1 := H1.r.cell 1
      have f0 := H1.r.frozen 0
      have f1 := H1.r.frozen 1
      go_wp2
      exact bodyPost_ret (v := .tuple #[.agg #[.int .i64 0, .slice none 0 0], .int .i64 1]) (by simp [results, Try.results96, go_sem, q0, q1]) rfl (err_res HC.out (by decide) ((H1.b.setCell (p := ⟨w.heap.size + 2, 0, none⟩) (by simp) _).setCell (p := ⟨w.heap.size + 2, 1, none⟩) (by simp) _))
    · by_cases t1 : 32 ≤ slot
      · have HC := Lib.hid (put_arg (lsn := lsn) (slot := slot) (l := zs) (x := ⟨u, d⟩) (.inr (.inr (.inl t1))))
        clear he
        go_enter Try.func96, Try.ntmps96
        go_wp2_with fail
        generalize hGen : ((w.alloc (.cells #[.int .i64 lsn, .slice a n c] 27)).alloc (.cells #[.bool u, .string d] 54)).alloc (.cells #[.int .i64 0, .slice none 0 0] 27) = W at H0 ⊢
        clear hGen
        refine (good_any lsn a n c zs _ H0.s (by omega)).mono ?_
        rw [HG.out]
        rintro e w1 ⟨rfl, b1⟩
        have H1 := H0.next b1
        have p0 := H1.p0
        have p1 := H1.p1
        have s0 := H1.s0
        have s1 := H1.s1
        have q0 := H1.r.cell 0
        have q1 := H1.r.cell 1
        have f0 := H1.r.frozen 0
        have f1 := H1.r.frozen 1
        go_wp2
        exact bodyPost_ret (v := .tuple #[.agg #[.int .i64 0, .slice none 0 0], .int .i64 1]) (by simp [results, Try.results96, go_sem, q0, q1]) rfl (err_res HC.out (by decide) ((H1.b.setCell (p := ⟨w.heap.size + 2, 0, none⟩) (by simp) _).setCell (p := ⟨w.heap.size + 2, 1, none⟩) (by simp) _))
      · have tt : slot ≤ 31 := by omega
        cases u with
        | false =>
          by_cases t2 : d.size = 0
          · exfalso
            rw [HG.out] at he
            rcases he with (h1 | h1 | h1 | h1) | h1
            · cases h1
            · exact t0 h1
            · exact t1 h1
            · exact h1.2 t2
            · omega
          · have HC := Lib.hid (put_arg (lsn := lsn) (slot := slot) (l := zs) (x := ⟨false, d⟩) (.inr (.inr (.inr ⟨rfl, t2⟩))))
            have hl := list_ne t2
            clear he
            go_enter Try.func96, Try.ntmps96
            go_wp2_with fail
            generalize hGen : ((w.alloc (.cells #[.int .i64 lsn, .slice a n c] 27)).alloc (.cells #[.bool false, .string d] 54)).alloc (.cells #[.int .i64 0, .slice none 0 0] 27) = W at H0 ⊢
            clear hGen
            refine (good_any lsn a n c zs _ H0.s (by omega)).mono ?_
            rw [HG.out]
            rintro e w1 ⟨rfl, b1⟩
            have H1 := H0.next b1
            have p0 := H1.p0
            have p1 := H1.p1
            have s0 := H1.s0
            have s1 := H1.s1
            have q0 := H1.r.cell 0
            have q1 := H1.r.cell 1
            have f0 := H1.r.frozen 0
            have f1 := H1.r.frozen 1
            go_wp2
            exact bodyPost_ret (v := .tuple #[.agg #[.int .i64 0, .slice none 0 0], .int .i64 1]) (by simp [results, Try.results96, go_sem, q0, q1]) rfl (err_res HC.out (by decide) ((H1.b.setCell (p := ⟨w.heap.size + 2, 0, none⟩) (by simp) _).setCell (p := ⟨w.heap.size + 2, 1, none⟩) (by simp) _))
        | true =>
          have t3 : 200 < d.size := by
            rw [HG.out] at he
            rcases he with (h1 | h1 | h1 | h1) | h1
            · cases h1
            · exact absurd h1 t0
            · exact absurd h1 t1
            · cases h1.1
            · exact h1
          have HC := Lib.hid (put_long (lsn := lsn) (slot := slot) (l := zs) (x := ⟨true, d⟩) (put_true HG.out t0 t1) t3)
          clear he
          go_enter Try.func96, Try.ntmps96
          go_wp2_with fail
          generalize hGen : ((w.alloc (.cells #[.int .i64 lsn, .slice a n c] 27)).alloc (.cells #[.bool true, .string d] 54)).alloc (.cells #[.int .i64 0, .slice none 0 0] 27) = W at H0 ⊢
          clear hGen
          refine (good_any lsn a n c zs _ H0.s (by omega)).mono ?_
          rw [HG.out]
          rintro e w1 ⟨rfl, b1⟩
          have H1 := H0.next b1
          have p0 := H1.p0
          have p1 := H1.p1
          have s0 := H1.s0
          have s1 := H1.s1
          have q0 := H1.r.cell 0
          have q1 := H1.r.cell 1
          have f0 := H1.r.frozen 0
          have f1 := H1.r.frozen 1
          go_wp2
          exact bodyPost_ret (v := .tuple #[.agg #[.int .i64 0, .slice none 0 0], .int .i64 5]) (by simp [results, Try.results96, go_sem, q0, q1]) rfl (err_res HC.out (by decide) ((H1.b.setCell (p := ⟨w.heap.size + 2, 0, none⟩) (by simp) _).setCell (p := ⟨w.heap.size + 2, 1, none⟩) (by simp) _))

end Go.Proofs.Ytjffjmffoffblaa.Slab
namespace Go.Proofs.Ytjffjmffoffblaa.Slab
set_option maxRecDepth 100000
open Go.RowKit Go.Sort
theorem info_slot : (Try.prog.info? 54).map (fun i => (i.zero, i.size, i.bytes)) = some (some (.agg #[.bool false, .string ⟨#[]⟩]), 2, 24) := by kernel_rfl
theorem sizes_of_good {lsn : Int} {l : List Slot} (h : goodB lsn l = true) : ∀ x ∈ l, x.d.size ≤ 200 := by
  intro x hx
  have h1 : l.any wrongB = false := by simp [goodB] at h; simpa using h.1.2
  have := List.any_eq_false.1 h1 x hx
  simp [wrongB] at this; omega
theorem copy_two : (Try.prog.info? 54).map (·.size) = some 2 := by kernel_rfl
theorem ok_res {w w' : World} {lsn slot : Int} {l z : List Slot} {x : Slot} {n c bl : Nat} (h : putCode lsn l slot x = 0) (hz : putL l slot.toNat x = z) (hs : Slots w' (some ⟨bl, 0, none⟩) n z) (hb : Below w.heap.size w w') (hf : w.heap.size ≤ bl) :
    PageRes (putN lsn l slot x) (putZ lsn l slot x) (putCode lsn l slot x) w (.returned (.tuple #[.agg #[.int .i64 lsn, .slice (some ⟨bl, 0, none⟩) n c], .int .i64 0])) w' := by
  unfold putN putZ
  rw [if_pos h, if_pos h, h, hz]
  exact ⟨_, n, c, rfl, hs, hb, fun _ _ _ e => by cases e; exact hf⟩
/-- what the code does to the slots -/
def putG (l : List Slot) (k m : Nat) (x : Slot) : List Slot := (padL l m).set k x
theorem put_steps (l : List Slot) (k m : Nat) (x : Slot) (hm : max l.length (k + 1) = m) (hs : ∀ y ∈ l, y.d.size ≤ 200) (hx : x.d.size ≤ 200) :
    (putG l k m x).length = m ∧ (∀ y ∈ putG l k m x, y.d.size ≤ 200) ∧ putL l k x = (putG l k m x).take (usedN (putG l k m x)) ∧ usedN (putG l k m x) ≤ m := by
  subst hm
  have h1 : (putG l k (max l.length (k + 1)) x).length = max l.length (k + 1) := by unfold putG; rw [List.length_set, padL_length _ _ (by omega)]
  refine ⟨h1, set_sizes (padL_sizes hs) hx, rfl, ?_⟩
  have := usedN_le (putG l k (max l.length (k + 1)) x)
  omega
theorem blk_made {w : World} {g m base : Nat} (h : w.ownsRow base 54 2 (.slice (some ⟨g, 0, none⟩) m m) m (madeCells #[.bool false, .string ⟨#[]⟩] (m * 2)).toList) : Blk w g 54 (cellsOf (List.replicate m nos)).toArray := by
  rcases h.2 with ⟨h1, _⟩ | ⟨g', cap, cur, h1, _, hg, h2, _, hs, ht⟩
  · cases h1
  · cases h1
    rw [List.take_of_length_le (by simp [hs])] at ht
    have : cur = (cellsOf (List.replicate m nos)).toArray := by rw [← zero_cells]; exact Array.toList_inj.1 ht
    rw [this] at hg
    exact hg
theorem below_grown {w w' : World} (h : w.grownBy w' none) : Below w.heap.size w w' := ⟨h.os, h.tape, h.output, h.size, fun k hk => h.block k hk (by simp)⟩

set_option maxRecDepth 100000 in
set_option maxHeartbeats 8000000 in
theorem put_true_in (lsn : Int) (a : Option Addr) (n c : Nat) (zs : List Slot) (k m : Nat) (d : ByteArray) (w : World) (h : Slots w a n zs) (hg : goodB lsn zs = true) (hk : k < 32) (hd : d.size ≤ 200) (hkn : k + 1 ≤ n ∧ m ≤ n ∧ n ≤ m) :
    Calls Try.prog 96 #[.agg #[.int .i64 lsn, .slice a n c], .int .i64 (k : Int), .agg #[.bool true, .string d]] w (PageRes (putN lsn zs k ⟨true, d⟩) (putZ lsn zs k ⟨true, d⟩) (putCode lsn zs k ⟨true, d⟩) w) := by
  have hn : n ≤ 32 := by have := h.len; simp [goodB] at hg; omega
  have hng : ¬ (goodB lsn zs = false ∨ (k : Int) < 0 ∨ 32 ≤ (k : Int) ∨ ((⟨true, d⟩ : Slot).u = false ∧ ¬ (⟨true, d⟩ : Slot).d.size = 0)) := by
    rw [hg]
    rintro (h1 | h1 | h1 | h1)
    · cases h1
    · omega
    · omega
    · cases h1.1
  have hm1 : zs.length ≤ m := by rw [h.len]; omega
  have hm2 : k < m := by omega
  have hm3 : m ≤ 32 := by omega
  have hput := put_steps zs k m ⟨true, d⟩ (by rw [h.len]; omega) (sizes_of_good hg) hd
  have HP := Lib.hid hput
  have HNG := Lib.hid hng
  have HL := Lib.hid h.len
  have HCL : (cellsOf zs).length = Nat.min n m * 2 := by rw [cellsOf_length, h.len, show Nat.min n m = n from Nat.min_eq_left (by omega)]
  have HCL := Lib.hid HCL
  have H0 := put_at w lsn a n c true d zs h
  have HG := Lib.hid hg
  clear hg h hput hng
  obtain ⟨i0, hi, hz0, hz1, hz2⟩ := info_parts info_slot
  have hby : i0.bytes * m ≤ 281474976710656 := by rw [hz2]; omega
  have HMX : ¬ (n : Int) < (k : Int) + 1 := by omega
  go_enter Try.func96, Try.ntmps96
  go_wp2_with fail
  generalize hGen : ((w.alloc (.cells #[.int .i64 lsn, .slice a n c] 27)).alloc (.cells #[.bool true, .string d] 54)).alloc (.cells #[.int .i64 0, .slice none 0 0] 27) = W at H0 ⊢
  clear hGen
  refine (good_any lsn a n c zs _ H0.s (by omega)).mono ?_
  rw [HG.out]
  rintro e w1 ⟨rfl, b1⟩
  have H1 := H0.next b1
  have p0 := H1.p0
  have p1 := H1.p1
  have s0 := H1.s0
  have s1 := H1.s1
  have k0 : (0 : Int) ≤ (k : Int) := by omega
  have k1 : (k : Int) < 32 := by omega
  obtain ⟨G, hG⟩ : ∃ G, G = putG zs k m ⟨true, d⟩ := ⟨_, rfl⟩
  obtain ⟨v, hv⟩ : ∃ v, v = usedN G := ⟨_, rfl⟩
  have HGE := Lib.hid hG
  have HV := Lib.hid hv
  have hvm : v ≤ m := by have := HP.out.2.2.2; rw [hv, hG]; exact this
  have hsv : sz (G.take v) ≤ 1000000 := by
    have h1 := sz_take_le G v
    have h2 := sz_bound (l := G) (B := 200) (by rw [hG]; exact HP.out.2.1)
    have h3 : G.length ≤ 32 := by rw [hG, HP.out.1]; exact hm3
    omega
  have HTL : putL zs ((k : Int)).toNat ⟨true, d⟩ = G.take v := by rw [hv, hG]; exact HP.out.2.2.1
  have HTL := Lib.hid HTL
  clear hG hv
  have HB1 := Lib.hid (show w.heap.size + 2 < w1.heap.size from H1.z)
  have v0 : (0 : Int) ≤ (v : Int) := by omega
  have v1 : (v : Int) ≤ (m : Int) := by omega
  have k2 : (k : Int) < (m : Int) := by omega
  go_wp2_with (first
    | (at_make; refine wpList_make_full _ rfl _ _ 25 rfl w1.heap.size 54 i0 _ 2 Try.underlying25 hi hz0 hz1 .i64 .i64 _ _ m rfl rfl (by omega) (by omega) hby (by unfold maxLen; omega) (Nat.le_refl _) ?_; intro w2 hown2 hgrow2; have b2 := below_grown hgrow2; have H2 := H1.next b2; have p1b := H2.p1; have B2 := Lib.hid (show w2.heap[w1.heap.size]? = some (.cells (cellsOf (List.replicate m nos)).toArray 54 (0, 0)) from blk_made hown2); clear hown2 hgrow2)
    | (with_reducible refine wpList_copy_spliceK rfl (.tmp 43) (.tmp 45) 25 25 rfl 54 2 Try.underlying25 copy_two (by decide) (some ⟨w1.heap.size, 0, none⟩) a m m n c (by with_unfolding_all rfl) (by with_unfolding_all rfl) w1.heap.size 0 (cellsOf (List.replicate m nos)) 54 B2.out (cellsOf zs) HCL.out (fun hp => ⟨rfl, slots_src H2.s (by rw [cellsOf_length, HL.out] at hp; omega)⟩) (by simp only [cellsOf_length, List.length_replicate]; omega) (cellsOf_one zs) w1.heap.size w1 b2 (Nat.le_refl _) ?_
       intro w3 HB3 hb3 _
       have B3 := Lib.hid (show Blk w3 w1.heap.size 54 (cellsOf (padL zs m)).toArray by rw [← splice_pad zs m hm1]; exact HB3.out)
       have H3 := H1.next hb3
       have s0c := H3.s0
       have s1c := H3.s1
       have hpl : k < (padL zs m).length := by rw [padL_length zs m hm1]; exact hm2
       obtain ⟨y, hy⟩ : ∃ y, (padL zs m)[k]? = some y := ⟨_, List.getElem?_eq_getElem hpl⟩
       have x0 : w3.cell? ⟨w1.heap.size, k * 2, none⟩ = some (.bool y.u) := (B3.out.cell (k * 2)).trans (by rw [List.getElem?_toArray]; exact (cellsOf_get hy).1)
       have x1 : w3.cell? ⟨w1.heap.size, k * 2 + 1, none⟩ = some (.string y.d) := (B3.out.cell (k * 2 + 1)).trans (by rw [List.getElem?_toArray]; exact (cellsOf_get hy).2)
       have g0 := B3.out.frozen (k * 2)
       have g1 := B3.out.frozen (k * 2 + 1)
       have HPL := Lib.hid hpl
       clear hy hpl HB3)
    | (go_at_call 63
       have BG := Lib.hid (show Blk ((w3.setCell ⟨w1.heap.size, k * 2, none⟩ (.bool true)).setCell ⟨w1.heap.size, k * 2 + 1, none⟩ (.string d)) w1.heap.size 54 (cellsOf G).toArray by rw [HGE.out]; exact B3.out.put_slot HPL.out true d)
       have HS := Lib.hid (show Slots ((w3.setCell ⟨w1.heap.size, k * 2, none⟩ (.bool true)).setCell ⟨w1.heap.size, k * 2 + 1, none⟩ (.string d)) (some ⟨w1.heap.size, 0, none⟩) m G by have := slots_of_blk (l := G) (r := []) (by rw [List.append_nil]; exact BG.out) (fun x hx => by rw [HGE.out] at hx; have := HP.out.2.1 x hx; omega); rwa [show G.length = m by rw [HGE.out]; exact HP.out.1] at this)
       have HU := used_any (some ⟨w1.heap.size, 0, none⟩) m m G _ HS.out (by omega)
       rw [← HV.out] at HU
       refine HU.mono ?_
       rintro e w4 ⟨rfl, b4⟩
       have H4 := ((H3.store HB1.out (k * 2) (.bool true)).store HB1.out (k * 2 + 1) (.string d)).next b4
       have B4 := Lib.hid (BG.out.below b4 BG.out.lt)
       clear HU)
    | (go_at_call 66
       have HS5 := Lib.hid (show Slots w4 (some ⟨w1.heap.size, 0, none⟩) v (G.take v) by have := slots_of_blk (l := G.take v) (r := G.drop v) (by rw [List.take_append_drop]; exact B4.out) (fun x hx => by rw [HGE.out] at hx; have := HP.out.2.1 x (List.mem_of_mem_take hx); omega); rwa [List.length_take, show G.length = m by (rw [HGE.out]; exact HP.out.1), Nat.min_eq_left hvm] at this)
       refine (size_any (some ⟨w1.heap.size, 0, none⟩) v m (G.take v) _ HS5.out hsv (by omega)).mono ?_
       rintro e w5 ⟨rfl, b5⟩
       have H5 := H4.next b5
       have HS6 := Lib.hid (HS5.out.below b5)
       have p0e := H5.p0
       have q0 := H5.r.cell 0
       have q1 := H5.r.cell 1
       have f0 := H5.r.frozen 0
       have f1 := H5.r.frozen 1)
    | fail)
  · have ht : (240 : Int) < 9 + (sz (G.take v) : Int) := by assumption
    exact bodyPost_ret (v := .tuple #[.agg #[.int .i64 0, .slice none 0 0], .int .i64 22]) (by simp [results, Try.results96, go_sem, q0, q1]) rfl (err_res (put_full (x := ⟨true, d⟩) (by simpa using HNG.out) (by show ¬ 200 < ByteArray.size d; omega) (by rw [HTL.out]; omega)) (by decide) ((H5.b.setCell (p := ⟨w.heap.size + 2, 0, none⟩) (by simp) _).setCell (p := ⟨w.heap.size + 2, 1, none⟩) (by simp) _))
  · have ht : 9 + (sz (G.take v) : Int) ≤ 240 := by assumption
    exact bodyPost_ret (v := .tuple #[.agg #[.int .i64 lsn, .slice (some ⟨w1.heap.size, 0, none⟩) v m], .int .i64 0]) (by simp [results, Try.results96, go_sem, q0, q1]) rfl (ok_res (put_ok (x := ⟨true, d⟩) (by simpa using HNG.out) (by show ¬ 200 < ByteArray.size d; omega) (by rw [HTL.out]; omega)) HTL.out ((HS6.out.setCell _ (fun b off e _ => by cases e; have := HB1.out; omega)).setCell _ (fun b off e _ => by cases e; have := HB1.out; omega)) ((H5.b.setCell (p := ⟨w.heap.size + 2, 0, none⟩) (by simp) _).setCell (p := ⟨w.heap.size + 2, 1, none⟩) (by simp) _) (by have := HB1.out; omega))

set_option maxRecDepth 100000 in
set_option maxHeartbeats 8000000 in
theorem put_true_out (lsn : Int) (a : Option Addr) (n c : Nat) (zs : List Slot) (k m : Nat) (d : ByteArray) (w : World) (h : Slots w a n zs) (hg : goodB lsn zs = true) (hk : k < 32) (hd : d.size ≤ 200) (hkn : n < k + 1 ∧ m ≤ k + 1 ∧ k + 1 ≤ m) :
    Calls Try.prog 96 #[.agg #[.int .i64 lsn, .slice a n c], .int .i64 (k : Int), .agg #[.bool true, .string d]] w (PageRes (putN lsn zs k ⟨true, d⟩) (putZ lsn zs k ⟨true, d⟩) (putCode lsn zs k ⟨true, d⟩) w) := by
  have hn : n ≤ 32 := by have := h.len; simp [goodB] at hg; omega
  have hng : ¬ (goodB lsn zs = false ∨ (k : Int) < 0 ∨ 32 ≤ (k : Int) ∨ ((⟨true, d⟩ : Slot).u = false ∧ ¬ (⟨true, d⟩ : Slot).d.size = 0)) := by
    rw [hg]
    rintro (h1 | h1 | h1 | h1)
    · cases h1
    · omega
    · omega
    · cases h1.1
  have hm1 : zs.length ≤ m := by rw [h.len]; omega
  have hm2 : k < m := by omega
  have hm3 : m ≤ 32 := by omega
  have hput := put_steps zs k m ⟨true, d⟩ (by rw [h.len]; omega) (sizes_of_good hg) hd
  have HP := Lib.hid hput
  have HNG := Lib.hid hng
  have HL := Lib.hid h.len
  have HCL : (cellsOf zs).length = Nat.min n m * 2 := by rw [cellsOf_length, h.len, show Nat.min n m = n from Nat.min_eq_left (by omega)]
  have HCL := Lib.hid HCL
  have H0 := put_at w lsn a n c true d zs h
  have HG := Lib.hid hg
  clear hg h hput hng
  obtain ⟨i0, hi, hz0, hz1, hz2⟩ := info_parts info_slot
  have hby : i0.bytes * m ≤ 281474976710656 := by rw [hz2]; omega
  have HMX : (n : Int) < (k : Int) + 1 := by omega
  go_enter Try.func96, Try.ntmps96
  go_wp2_with fail
  generalize hGen : ((w.alloc (.cells #[.int .i64 lsn, .slice a n c] 27)).alloc (.cells #[.bool true, .string d] 54)).alloc (.cells #[.int .i64 0, .slice none 0 0] 27) = W at H0 ⊢
  clear hGen
  refine (good_any lsn a n c zs _ H0.s (by omega)).mono ?_
  rw [HG.out]
  rintro e w1 ⟨rfl, b1⟩
  have H1 := H0.next b1
  have p0 := H1.p0
  have p1 := H1.p1
  have s0 := H1.s0
  have s1 := H1.s1
  have k0 : (0 : Int) ≤ (k : Int) := by omega
  have k1 : (k : Int) < 32 := by omega
  obtain ⟨G, hG⟩ : ∃ G, G = putG zs k m ⟨true, d⟩ := ⟨_, rfl⟩
  obtain ⟨v, hv⟩ : ∃ v, v = usedN G := ⟨_, rfl⟩
  have HGE := Lib.hid hG
  have HV := Lib.hid hv
  have hvm : v ≤ m := by have := HP.out.2.2.2; rw [hv, hG]; exact this
  have hsv : sz (G.take v) ≤ 1000000 := by
    have h1 := sz_take_le G v
    have h2 := sz_bound (l := G) (B := 200) (by rw [hG]; exact HP.out.2.1)
    have h3 : G.length ≤ 32 := by rw [hG, HP.out.1]; exact hm3
    omega
  have HTL : putL zs ((k : Int)).toNat ⟨true, d⟩ = G.take v := by rw [hv, hG]; exact HP.out.2.2.1
  have HTL := Lib.hid HTL
  clear hG hv
  have HB1 := Lib.hid (show w.heap.size + 2 < w1.heap.size from H1.z)
  have v0 : (0 : Int) ≤ (v : Int) := by omega
  have v1 : (v : Int) ≤ (m : Int) := by omega
  have k2 : (k : Int) < (m : Int) := by omega
  go_wp2_with (first
    | (at_make; refine wpList_make_full _ rfl _ _ 25 rfl w1.heap.size 54 i0 _ 2 Try.underlying25 hi hz0 hz1 .i64 .i64 _ _ m rfl rfl (by omega) (by omega) hby (by unfold maxLen; omega) (Nat.le_refl _) ?_; intro w2 hown2 hgrow2; have b2 := below_grown hgrow2; have H2 := H1.next b2; have p1b := H2.p1; have B2 := Lib.hid (show w2.heap[w1.heap.size]? = some (.cells (cellsOf (List.replicate m nos)).toArray 54 (0, 0)) from blk_made hown2); clear hown2 hgrow2)
    | (with_reducible refine wpList_copy_spliceK rfl (.tmp 43) (.tmp 45) 25 25 rfl 54 2 Try.underlying25 copy_two (by decide) (some ⟨w1.heap.size, 0, none⟩) a m m n c (by with_unfolding_all rfl) (by with_unfolding_all rfl) w1.heap.size 0 (cellsOf (List.replicate m nos)) 54 B2.out (cellsOf zs) HCL.out (fun hp => ⟨rfl, slots_src H2.s (by rw [cellsOf_length, HL.out] at hp; omega)⟩) (by simp only [cellsOf_length, List.length_replicate]; omega) (cellsOf_one zs) w1.heap.size w1 b2 (Nat.le_refl _) ?_
       intro w3 HB3 hb3 _
       have B3 := Lib.hid (show Blk w3 w1.heap.size 54 (cellsOf (padL zs m)).toArray by rw [← splice_pad zs m hm1]; exact HB3.out)
       have H3 := H1.next hb3
       have s0c := H3.s0
       have s1c := H3.s1
       have hpl : k < (padL zs m).length := by rw [padL_length zs m hm1]; exact hm2
       obtain ⟨y, hy⟩ : ∃ y, (padL zs m)[k]? = some y := ⟨_, List.getElem?_eq_getElem hpl⟩
       have x0 : w3.cell? ⟨w1.heap.size, k * 2, none⟩ = some (.bool y.u) := (B3.out.cell (k * 2)).trans (by rw [List.getElem?_toArray]; exact (cellsOf_get hy).1)
       have x1 : w3.cell? ⟨w1.heap.size, k * 2 + 1, none⟩ = some (.string y.d) := (B3.out.cell (k * 2 + 1)).trans (by rw [List.getElem?_toArray]; exact (cellsOf_get hy).2)
       have g0 := B3.out.frozen (k * 2)
       have g1 := B3.out.frozen (k * 2 + 1)
       have HPL := Lib.hid hpl
       clear hy hpl HB3)
    | (go_at_call 63
       have BG := Lib.hid (show Blk ((w3.setCell ⟨w1.heap.size, k * 2, none⟩ (.bool true)).setCell ⟨w1.heap.size, k * 2 + 1, none⟩ (.string d)) w1.heap.size 54 (cellsOf G).toArray by rw [HGE.out]; exact B3.out.put_slot HPL.out true d)
       have HS := Lib.hid (show Slots ((w3.setCell ⟨w1.heap.size, k * 2, none⟩ (.bool true)).setCell ⟨w1.heap.size, k * 2 + 1, none⟩ (.string d)) (some ⟨w1.heap.size, 0, none⟩) m G by have := slots_of_blk (l := G) (r := []) (by rw [List.append_nil]; exact BG.out) (fun x hx => by rw [HGE.out] at hx; have := HP.out.2.1 x hx; omega); rwa [show G.length = m by rw [HGE.out]; exact HP.out.1] at this)
       have HU := used_any (some ⟨w1.heap.size, 0, none⟩) m m G _ HS.out (by omega)
       rw [← HV.out] at HU
       refine HU.mono ?_
       rintro e w4 ⟨rfl, b4⟩
       have H4 := ((H3.store HB1.out (k * 2) (.bool true)).store HB1.out (k * 2 + 1) (.string d)).next b4
       have B4 := Lib.hid (BG.out.below b4 BG.out.lt)
       clear HU)
    | (go_at_call 66
       have HS5 := Lib.hid (show Slots w4 (some ⟨w1.heap.size, 0, none⟩) v (G.take v) by have := slots_of_blk (l := G.take v) (r := G.drop v) (by rw [List.take_append_drop]; exact B4.out) (fun x hx => by rw [HGE.out] at hx; have := HP.out.2.1 x (List.mem_of_mem_take hx); omega); rwa [List.length_take, show G.length = m by (rw [HGE.out]; exact HP.out.1), Nat.min_eq_left hvm] at this)
       refine (size_any (some ⟨w1.heap.size, 0, none⟩) v m (G.take v) _ HS5.out hsv (by omega)).mono ?_
       rintro e w5 ⟨rfl, b5⟩
       have H5 := H4.next b5
       have HS6 := Lib.hid (HS5.out.below b5)
       have p0e := H5.p0
       have q0 := H5.r.cell 0
       have q1 := H5.r.cell 1
       have f0 := H5.r.frozen 0
       have f1 := H5.r.frozen 1)
    | fail)
  · have ht : (240 : Int) < 9 + (sz (G.take v) : Int) := by assumption
    exact bodyPost_ret (v := .tuple #[.agg #[.int .i64 0, .slice none 0 0], .int .i64 22]) (by simp [results, Try.results96, go_sem, q0, q1]) rfl (err_res (put_full (x := ⟨true, d⟩) (by simpa using HNG.out) (by show ¬ 200 < ByteArray.size d; omega) (by rw [HTL.out]; omega)) (by decide) ((H5.b.setCell (p := ⟨w.heap.size + 2, 0, none⟩) (by simp) _).setCell (p := ⟨w.heap.size + 2, 1, none⟩) (by simp) _))
  · have ht : 9 + (sz (G.take v) : Int) ≤ 240 := by assumption
    exact bodyPost_ret (v := .tuple #[.agg #[.int .i64 lsn, .slice (some ⟨w1.heap.size, 0, none⟩) v m], .int .i64 0]) (by simp [results, Try.results96, go_sem, q0, q1]) rfl (ok_res (put_ok (x := ⟨true, d⟩) (by simpa using HNG.out) (by show ¬ 200 < ByteArray.size d; omega) (by rw [HTL.out]; omega)) HTL.out ((HS6.out.setCell _ (fun b off e _ => by cases e; have := HB1.out; omega)).setCell _ (fun b off e _ => by cases e; have := HB1.out; omega)) ((H5.b.setCell (p := ⟨w.heap.size + 2, 0, none⟩) (by simp) _).setCell (p := ⟨w.heap.size + 2, 1, none⟩) (by simp) _) (by have := HB1.out; omega))

set_option maxRecDepth 100000 in
set_option maxHeartbeats 8000000 in
theorem put_false_in (lsn : Int) (a : Option Addr) (n c : Nat) (zs : List Slot) (k m : Nat) (w : World) (h : Slots w a n zs) (hg : goodB lsn zs = true) (hk : k < 32) (hkn : k + 1 ≤ n ∧ m ≤ n ∧ n ≤ m) :
    Calls Try.prog 96 #[.agg #[.int .i64 lsn, .slice a n c], .int .i64 (k : Int), .agg #[.bool false, .string ⟨#[]⟩]] w (PageRes (putN lsn zs k ⟨false, ⟨#[]⟩⟩) (putZ lsn zs k ⟨false, ⟨#[]⟩⟩) (putCode lsn zs k ⟨false, ⟨#[]⟩⟩) w) := by
  have hn : n ≤ 32 := by have := h.len; simp [goodB] at hg; omega
  have hng : ¬ (goodB lsn zs = false ∨ (k : Int) < 0 ∨ 32 ≤ (k : Int) ∨ ((⟨false, ⟨#[]⟩⟩ : Slot).u = false ∧ ¬ (⟨false, ⟨#[]⟩⟩ : Slot).d.size = 0)) := by
    rw [hg]
    rintro (h1 | h1 | h1 | h1)
    · cases h1
    · omega
    · omega
    · exact h1.2 rfl
  have hm1 : zs.length ≤ m := by rw [h.len]; omega
  have hm2 : k < m := by omega
  have hm3 : m ≤ 32 := by omega
  have hput := put_steps zs k m ⟨false, ⟨#[]⟩⟩ (by rw [h.len]; omega) (sizes_of_good hg) (by decide)
  have HP := Lib.hid hput
  have HNG := Lib.hid hng
  have HL := Lib.hid h.len
  have HCL : (cellsOf zs).length = Nat.min n m * 2 := by rw [cellsOf_length, h.len, show Nat.min n m = n from Nat.min_eq_left (by omega)]
  have HCL := Lib.hid HCL
  have H0 := put_at w lsn a n c false ⟨#[]⟩ zs h
  have HG := Lib.hid hg
  clear hg h hput hng
  obtain ⟨i0, hi, hz0, hz1, hz2⟩ := info_parts info_slot
  have hby : i0.bytes * m ≤ 281474976710656 := by rw [hz2]; omega
  have HMX : ¬ (n : Int) < (k : Int) + 1 := by omega
  go_enter Try.func96, Try.ntmps96
  go_wp2_with fail
  generalize hGen : ((w.alloc (.cells #[.int .i64 lsn, .slice a n c] 27)).alloc (.cells #[.bool false, .string ⟨#[]⟩] 54)).alloc (.cells #[.int .i64 0, .slice none 0 0] 27) = W at H0 ⊢
  clear hGen
  refine (good_any lsn a n c zs _ H0.s (by omega)).mono ?_
  rw [HG.out]
  rintro e w1 ⟨rfl, b1⟩
  have H1 := H0.next b1
  have p0 := H1.p0
  have p1 := H1.p1
  have s0 := H1.s0
  have s1 := H1.s1
  have k0 : (0 : Int) ≤ (k : Int) := by omega
  have k1 : (k : Int) < 32 := by omega
  obtain ⟨G, hG⟩ : ∃ G, G = putG zs k m ⟨false, ⟨#[]⟩⟩ := ⟨_, rfl⟩
  obtain ⟨v, hv⟩ : ∃ v, v = usedN G := ⟨_, rfl⟩
  have HGE := Lib.hid hG
  have HV := Lib.hid hv
  have hvm : v ≤ m := by have := HP.out.2.2.2; rw [hv, hG]; exact this
  have hsv : sz (G.take v) ≤ 1000000 := by
    have h1 := sz_take_le G v
    have h2 := sz_bound (l := G) (B := 200) (by rw [hG]; exact HP.out.2.1)
    have h3 : G.length ≤ 32 := by rw [hG, HP.out.1]; exact hm3
    omega
  have HTL : putL zs ((k : Int)).toNat ⟨false, ⟨#[]⟩⟩ = G.take v := by rw [hv, hG]; exact HP.out.2.2.1
  have HTL := Lib.hid HTL
  clear hG hv
  have HB1 := Lib.hid (show w.heap.size + 2 < w1.heap.size from H1.z)
  have v0 : (0 : Int) ≤ (v : Int) := by omega
  have v1 : (v : Int) ≤ (m : Int) := by omega
  have k2 : (k : Int) < (m : Int) := by omega
  go_wp2_with (first
    | (at_make; refine wpList_make_full _ rfl _ _ 25 rfl w1.heap.size 54 i0 _ 2 Try.underlying25 hi hz0 hz1 .i64 .i64 _ _ m rfl rfl (by omega) (by omega) hby (by unfold maxLen; omega) (Nat.le_refl _) ?_; intro w2 hown2 hgrow2; have b2 := below_grown hgrow2; have H2 := H1.next b2; have p1b := H2.p1; have B2 := Lib.hid (show w2.heap[w1.heap.size]? = some (.cells (cellsOf (List.replicate m nos)).toArray 54 (0, 0)) from blk_made hown2); clear hown2 hgrow2)
    | (with_reducible refine wpList_copy_spliceK rfl (.tmp 43) (.tmp 45) 25 25 rfl 54 2 Try.underlying25 copy_two (by decide) (some ⟨w1.heap.size, 0, none⟩) a m m n c (by with_unfolding_all rfl) (by with_unfolding_all rfl) w1.heap.size 0 (cellsOf (List.replicate m nos)) 54 B2.out (cellsOf zs) HCL.out (fun hp => ⟨rfl, slots_src H2.s (by rw [cellsOf_length, HL.out] at hp; omega)⟩) (by simp only [cellsOf_length, List.length_replicate]; omega) (cellsOf_one zs) w1.heap.size w1 b2 (Nat.le_refl _) ?_
       intro w3 HB3 hb3 _
       have B3 := Lib.hid (show Blk w3 w1.heap.size 54 (cellsOf (padL zs m)).toArray by rw [← splice_pad zs m hm1]; exact HB3.out)
       have H3 := H1.next hb3
       have s0c := H3.s0
       have s1c := H3.s1
       have hpl : k < (padL zs m).length := by rw [padL_length zs m hm1]; exact hm2
       obtain ⟨y, hy⟩ : ∃ y, (padL zs m)[k]? = some y := ⟨_, List.getElem?_eq_getElem hpl⟩
       have x0 : w3.cell? ⟨w1.heap.size, k * 2, none⟩ = some (.bool y.u) := (B3.out.cell (k * 2)).trans (by rw [List.getElem?_toArray]; exact (cellsOf_get hy).1)
       have x1 : w3.cell? ⟨w1.heap.size, k * 2 + 1, none⟩ = some (.string y.d) := (B3.out.cell (k * 2 + 1)).trans (by rw [List.getElem?_toArray]; exact (cellsOf_get hy).2)
       have g0 := B3.out.frozen (k * 2)
       have g1 := B3.out.frozen (k * 2 + 1)
       have HPL := Lib.hid hpl
       clear hy hpl HB3)
    | (go_at_call 63
       have BG := Lib.hid (show Blk ((w3.setCell ⟨w1.heap.size, k * 2, none⟩ (.bool false)).setCell ⟨w1.heap.size, k * 2 + 1, none⟩ (.string ⟨#[]⟩)) w1.heap.size 54 (cellsOf G).toArray by rw [HGE.out]; exact B3.out.put_slot HPL.out false ⟨#[]⟩)
       have HS := Lib.hid (show Slots ((w3.setCell ⟨w1.heap.size, k * 2, none⟩ (.bool false)).setCell ⟨w1.heap.size, k * 2 + 1, none⟩ (.string ⟨#[]⟩)) (some ⟨w1.heap.size, 0, none⟩) m G by have := slots_of_blk (l := G) (r := []) (by rw [List.append_nil]; exact BG.out) (fun x hx => by rw [HGE.out] at hx; have := HP.out.2.1 x hx; omega); rwa [show G.length = m by rw [HGE.out]; exact HP.out.1] at this)
       have HU := used_any (some ⟨w1.heap.size, 0, none⟩) m m G _ HS.out (by omega)
       rw [← HV.out] at HU
       refine HU.mono ?_
       rintro e w4 ⟨rfl, b4⟩
       have H4 := ((H3.store HB1.out (k * 2) (.bool false)).store HB1.out (k * 2 + 1) (.string ⟨#[]⟩)).next b4
       have B4 := Lib.hid (BG.out.below b4 BG.out.lt)
       clear HU)
    | (go_at_call 66
       have HS5 := Lib.hid (show Slots w4 (some ⟨w1.heap.size, 0, none⟩) v (G.take v) by have := slots_of_blk (l := G.take v) (r := G.drop v) (by rw [List.take_append_drop]; exact B4.out) (fun x hx => by rw [HGE.out] at hx; have := HP.out.2.1 x (List.mem_of_mem_take hx); omega); rwa [List.length_take, show G.length = m by (rw [HGE.out]; exact HP.out.1), Nat.min_eq_left hvm] at this)
       refine (size_any (some ⟨w1.heap.size, 0, none⟩) v m (G.take v) _ HS5.out hsv (by omega)).mono ?_
       rintro e w5 ⟨rfl, b5⟩
       have H5 := H4.next b5
       have HS6 := Lib.hid (HS5.out.below b5)
       have p0e := H5.p0
       have q0 := H5.r.cell 0
       have q1 := H5.r.cell 1
       have f0 := H5.r.frozen 0
       have f1 := H5.r.frozen 1)
    | fail)
  · have ht : (240 : Int) < 9 + (sz (G.take v) : Int) := by assumption
    exact bodyPost_ret (v := .tuple #[.agg #[.int .i64 0, .slice none 0 0], .int .i64 22]) (by simp [results, Try.results96, go_sem, q0, q1]) rfl (err_res (put_full (x := ⟨false, ⟨#[]⟩⟩) (by simpa using HNG.out) (by show ¬ 200 < ByteArray.size ⟨#[]⟩; decide) (by rw [HTL.out]; omega)) (by decide) ((H5.b.setCell (p := ⟨w.heap.size + 2, 0, none⟩) (by simp) _).setCell (p := ⟨w.heap.size + 2, 1, none⟩) (by simp) _))
  · have ht : 9 + (sz (G.take v) : Int) ≤ 240 := by assumption
    exact bodyPost_ret (v := .tuple #[.agg #[.int .i64 lsn, .slice (some ⟨w1.heap.size, 0, none⟩) v m], .int .i64 0]) (by simp [results, Try.results96, go_sem, q0, q1]) rfl (ok_res (put_ok (x := ⟨false, ⟨#[]⟩⟩) (by simpa using HNG.out) (by show ¬ 200 < ByteArray.size ⟨#[]⟩; decide) (by rw [HTL.out]; omega)) HTL.out ((HS6.out.setCell _ (fun b off e _ => by cases e; have := HB1.out; omega)).setCell _ (fun b off e _ => by cases e; have := HB1.out; omega)) ((H5.b.setCell (p := ⟨w.heap.size + 2, 0, none⟩) (by simp) _).setCell (p := ⟨w.heap.size + 2, 1, none⟩) (by simp) _) (by have := HB1.out; omega))

set_option maxRecDepth 100000 in
set_option maxHeartbeats 8000000 in
theorem put_false_out (lsn : Int) (a : Option Addr) (n c : Nat) (zs : List Slot) (k m : Nat) (w : World) (h : Slots w a n zs) (hg : goodB lsn zs = true) (hk : k < 32) (hkn : n < k + 1 ∧ m ≤ k + 1 ∧ k + 1 ≤ m) :
    Calls Try.prog 96 #[.agg #[.int .i64 lsn, .slice a n c], .int .i64 (k : Int), .agg #[.bool false, .string ⟨#[]⟩]] w (PageRes (putN lsn zs k ⟨false, ⟨#[]⟩⟩) (putZ lsn zs k ⟨false, ⟨#[]⟩⟩) (putCode lsn zs k ⟨false, ⟨#[]⟩⟩) w) := by
  have hn : n ≤ 32 := by have := h.len; simp [goodB] at hg; omega
  have hng : ¬ (goodB lsn zs = false ∨ (k : Int) < 0 ∨ 32 ≤ (k : Int) ∨ ((⟨false, ⟨#[]⟩⟩ : Slot).u = false ∧ ¬ (⟨false, ⟨#[]⟩⟩ : Slot).d.size = 0)) := by
    rw [hg]
    rintro (h1 | h1 | h1 | h1)
    · cases h1
    · omega
    · omega
    · exact h1.2 rfl
  have hm1 : zs.length ≤ m := by rw [h.len]; omega
  have hm2 : k < m := by omega
  have hm3 : m ≤ 32 := by omega
  have hput := put_steps zs k m ⟨false, ⟨#[]⟩⟩ (by rw [h.len]; omega) (sizes_of_good hg) (by decide)
  have HP := Lib.hid hput
  have HNG := Lib.hid hng
  have HL := Lib.hid h.len
  have HCL : (cellsOf zs).length = Nat.min n m * 2 := by rw [cellsOf_length, h.len, show Nat.min n m = n from Nat.min_eq_left (by omega)]
  have HCL := Lib.hid HCL
  have H0 := put_at w lsn a n c false ⟨#[]⟩ zs h
  have HG := Lib.hid hg
  clear hg h hput hng
  obtain ⟨i0, hi, hz0, hz1, hz2⟩ := info_parts info_slot
  have hby : i0.bytes * m ≤ 281474976710656 := by rw [hz2]; omega
  have HMX : (n : Int) < (k : Int) + 1 := by omega
  go_enter Try.func96, Try.ntmps96
  go_wp2_with fail
  generalize hGen : ((w.alloc (.cells #[.int .i64 lsn, .slice a n c] 27)).alloc (.cells #[.bool false, .string ⟨#[]⟩] 54)).alloc (.cells #[.int .i64 0, .slice none 0 0] 27) = W at H0 ⊢
  clear hGen
  refine (good_any lsn a n c zs _ H0.s (by omega)).mono ?_
  rw [HG.out]
  rintro e w1 ⟨rfl, b1⟩
  have H1 := H0.next b1
  have p0 := H1.p0
  have p1 := H1.p1
  have s0 := H1.s0
  have s1 := H1.s1
  have k0 : (0 : Int) ≤ (k : Int) := by omega
  have k1 : (k : Int) < 32 := by omega
  obtain ⟨G, hG⟩ : ∃ G, G = putG zs k m ⟨false, ⟨#[]⟩⟩ := ⟨_, rfl⟩
  obtain ⟨v, hv⟩ : ∃ v, v = usedN G := ⟨_, rfl⟩
  have HGE := Lib.hid hG
  have HV := Lib.hid hv
  have hvm : v ≤ m := by have := HP.out.2.2.2; rw [hv, hG]; exact this
  have hsv : sz (G.take v) ≤ 1000000 := by
    have h1 := sz_take_le G v
    have h2 := sz_bound (l := G) (B := 200) (by rw [hG]; exact HP.out.2.1)
    have h3 : G.length ≤ 32 := by rw [hG, HP.out.1]; exact hm3
    omega
  have HTL : putL zs ((k : Int)).toNat ⟨false, ⟨#[]⟩⟩ = G.take v := by rw [hv, hG]; exact HP.out.2.2.1
  have HTL := Lib.hid HTL
  clear hG hv
  have HB1 := Lib.hid (show w.heap.size + 2 < w1.heap.size from H1.z)
  have v0 : (0 : Int) ≤ (v : Int) := by omega
  have v1 : (v : Int) ≤ (m : Int) := by omega
  have k2 : (k : Int) < (m : Int) := by omega
  go_wp2_with (first
    | (at_make; refine wpList_make_full _ rfl _ _ 25 rfl w1.heap.size 54 i0 _ 2 Try.underlying25 hi hz0 hz1 .i64 .i64 _ _ m rfl rfl (by omega) (by omega) hby (by unfold maxLen; omega) (Nat.le_refl _) ?_; intro w2 hown2 hgrow2; have b2 := below_grown hgrow2; have H2 := H1.next b2; have p1b := H2.p1; have B2 := Lib.hid (show w2.heap[w1.heap.size]? = some (.cells (cellsOf (List.replicate m nos)).toArray 54 (0, 0)) from blk_made hown2); clear hown2 hgrow2)
    | (with_reducible refine wpList_copy_spliceK rfl (.tmp 43) (.tmp 45) 25 25 rfl 54 2 Try.underlying25 copy_two (by decide) (some ⟨w1.heap.size, 0, none⟩) a m m n c (by with_unfolding_all rfl) (by with_unfolding_all rfl) w1.heap.size 0 (cellsOf (List.replicate m nos)) 54 B2.out (cellsOf zs) HCL.out (fun hp => ⟨rfl, slots_src H2.s (by rw [cellsOf_length, HL.out] at hp; omega)⟩) (by simp only [cellsOf_length, List.length_replicate]; omega) (cellsOf_one zs) w1.heap.size w1 b2 (Nat.le_refl _) ?_
       intro w3 HB3 hb3 _
       have B3 := Lib.hid (show Blk w3 w1.heap.size 54 (cellsOf (padL zs m)).toArray by rw [← splice_pad zs m hm1]; exact HB3.out)
       have H3 := H1.next hb3
       have s0c := H3.s0
       have s1c := H3.s1
       have hpl : k < (padL zs m).length := by rw [padL_length zs m hm1]; exact hm2
       obtain ⟨y, hy⟩ : ∃ y, (padL zs m)[k]? = some y := ⟨_, List.getElem?_eq_getElem hpl⟩
       have x0 : w3.cell? ⟨w1.heap.size, k * 2, none⟩ = some (.bool y.u) := (B3.out.cell (k * 2)).trans (by rw [List.getElem?_toArray]; exact (cellsOf_get hy).1)
       have x1 : w3.cell? ⟨w1.heap.size, k * 2 + 1, none⟩ = some (.string y.d) := (B3.out.cell (k * 2 + 1)).trans (by rw [List.getElem?_toArray]; exact (cellsOf_get hy).2)
       have g0 := B3.out.frozen (k * 2)
       have g1 := B3.out.frozen (k * 2 + 1)
       have HPL := Lib.hid hpl
       clear hy hpl HB3)
    | (go_at_call 63
       have BG := Lib.hid (show Blk ((w3.setCell ⟨w1.heap.size, k * 2, none⟩ (.bool false)).setCell ⟨w1.heap.size, k * 2 + 1, none⟩ (.string ⟨#[]⟩)) w1.heap.size 54 (cellsOf G).toArray by rw [HGE.out]; exact B3.out.put_slot HPL.out false ⟨#[]⟩)
       have HS := Lib.hid (show Slots ((w3.setCell ⟨w1.heap.size, k * 2, none⟩ (.bool false)).setCell ⟨w1.heap.size, k * 2 + 1, none⟩ (.string ⟨#[]⟩)) (some ⟨w1.heap.size, 0, none⟩) m G by have := slots_of_blk (l := G) (r := []) (by rw [List.append_nil]; exact BG.out) (fun x hx => by rw [HGE.out] at hx; have := HP.out.2.1 x hx; omega); rwa [show G.length = m by rw [HGE.out]; exact HP.out.1] at this)
       have HU := used_any (some ⟨w1.heap.size, 0, none⟩) m m G _ HS.out (by omega)
       rw [← HV.out] at HU
       refine HU.mono ?_
       rintro e w4 ⟨rfl, b4⟩
       have H4 := ((H3.store HB1.out (k * 2) (.bool false)).store HB1.out (k * 2 + 1) (.string ⟨#[]⟩)).next b4
       have B4 := Lib.hid (BG.out.below b4 BG.out.lt)
       clear HU)
    | (go_at_call 66
       have HS5 := Lib.hid (show Slots w4 (some ⟨w1.heap.size, 0, none⟩) v (G.take v) by have := slots_of_blk (l := G.take v) (r := G.drop v) (by rw [List.take_append_drop]; exact B4.out) (fun x hx => by rw [HGE.out] at hx; have := HP.out.2.1 x (List.mem_of_mem_take hx); omega); rwa [List.length_take, show G.length = m by (rw [HGE.out]; exact HP.out.1), Nat.min_eq_left hvm] at this)
       refine (size_any (some ⟨w1.heap.size, 0, none⟩) v m (G.take v) _ HS5.out hsv (by omega)).mono ?_
       rintro e w5 ⟨rfl, b5⟩
       have H5 := H4.next b5
       have HS6 := Lib.hid (HS5.out.below b5)
       have p0e := H5.p0
       have q0 := H5.r.cell 0
       have q1 := H5.r.cell 1
       have f0 := H5.r.frozen 0
       have f1 := H5.r.frozen 1)
    | fail)
  · have ht : (240 : Int) < 9 + (sz (G.take v) : Int) := by assumption
    exact bodyPost_ret (v := .tuple #[.agg #[.int .i64 0, .slice none 0 0], .int .i64 22]) (by simp [results, Try.results96, go_sem, q0, q1]) rfl (err_res (put_full (x := ⟨false, ⟨#[]⟩⟩) (by simpa using HNG.out) (by show ¬ 200 < ByteArray.size ⟨#[]⟩; decide) (by rw [HTL.out]; omega)) (by decide) ((H5.b.setCell (p := ⟨w.heap.size + 2, 0, none⟩) (by simp) _).setCell (p := ⟨w.heap.size + 2, 1, none⟩) (by simp) _))
  · have ht : 9 + (sz (G.take v) : Int) ≤ 240 := by assumption
    exact bodyPost_ret (v := .tuple #[.agg #[.int .i64 lsn, .slice (some ⟨w1.heap.size, 0, none⟩) v m], .int .i64 0]) (by simp [results, Try.results96, go_sem, q0, q1]) rfl (ok_res (put_ok (x := ⟨false, ⟨#[]⟩⟩) (by simpa using HNG.out) (by show ¬ 200 < ByteArray.size ⟨#[]⟩; decide) (by rw [HTL.out]; omega)) HTL.out ((HS6.out.setCell _ (fun b off e _ => by cases e; have := HB1.out; omega)).setCell _ (fun b off e _ => by cases e; have := HB1.out; omega)) ((H5.b.setCell (p := ⟨w.heap.size + 2, 0, none⟩) (by simp) _).setCell (p := ⟨w.heap.size + 2, 1, none⟩) (by simp) _) (by have := HB1.out; omega))

theorem put_any (lsn : Int) (a : Option Addr) (n c : Nat) (zs : List Slot) (slot : Int) (u : Bool) (d : ByteArray) (w : World) (h : Slots w a n zs) (hn : n ≤ 1000000) (hd : d.size ≤ 140737488351232) :
    Calls Try.prog 96 #[.agg #[.int .i64 lsn, .slice a n c], .int .i64 slot, .agg #[.bool u, .string d]] w (PageRes (putN lsn zs slot ⟨u, d⟩) (putZ lsn zs slot ⟨u, d⟩) (putCode lsn zs slot ⟨u, d⟩) w) := by
  by_cases he : (goodB lsn zs = false ∨ slot < 0 ∨ 32 ≤ slot ∨ (u = false ∧ ¬ d.size = 0)) ∨ 200 < d.size
  · exact put_err lsn a n c zs slot u d w h hn hd he
  · rw [not_or, not_or, not_or, not_or] at he
    obtain ⟨⟨h1, h2, h3, h4⟩, h5⟩ := he
    have hg : goodB lsn zs = true := by simpa using h1
    obtain ⟨k, rfl⟩ := Int.eq_ofNat_of_zero_le (show 0 ≤ slot by omega)
    have hk : k < 32 := by omega
    cases u with
    | true =>
      by_cases hkn : k + 1 ≤ n
      · exact put_true_in lsn a n c zs k n d w h hg hk (by omega) ⟨hkn, Nat.le_refl _, Nat.le_refl _⟩
      · exact put_true_out lsn a n c zs k (k + 1) d w h hg hk (by omega) ⟨by omega, Nat.le_refl _, Nat.le_refl _⟩
    | false =>
      have h0 : d.size = 0 := by
        rcases Nat.eq_zero_or_pos d.size with h6 | h6
        · exact h6
        · exact absurd ⟨rfl, by omega⟩ h4
      obtain rfl := size_zero h0
      by_cases hkn : k + 1 ≤ n
      · exact put_false_in lsn a n c zs k n w h hg hk ⟨hkn, Nat.le_refl _, Nat.le_refl _⟩
      · exact put_false_out lsn a n c zs k (k + 1) w h hg hk ⟨by omega, Nat.le_refl _, Nat.le_refl _⟩
end Go.Proofs.Ytjffjmffoffblaa.Slab
namespace Go.Proofs.Ytjffjmffoffblaa
set_option maxRecDepth 100000
open Go.RowKit
/-- what lay in w lies as it lay, and these cells hold these values -/
def Hold (w W : World) (L : List (Addr × Value)) : Prop := Below w.heap.size w W ∧ ∀ x ∈ L, W.cell? x.1 = some x.2
section
variable {w W W' : World} {L : List (Addr × Value)}
theorem Hold.b (h : Hold w W L) : Below w.heap.size w W := h.1
theorem Hold.next (h : Hold w W L) (hb : Below W.heap.size W W') : Hold w W' L :=
  ⟨h.1.trans (hb.mono h.1.size), fun x hx => (hb.cell (World.block_lt_of_cell? _ _ (h.2 x hx))).trans (h.2 x hx)⟩
theorem Hold.drew (h : Hold w W L) (q : Nat) : Hold w (W.drewN q) L := ⟨⟨h.1.os, h.1.tape, h.1.output, h.1.size, h.1.block⟩, h.2⟩
theorem Hold.alloc (h : Hold w W L) (o : Obj) : Hold w (W.alloc o) L := h.next ((Below.refl _ _).alloc (Nat.le_refl _) _)
theorem Hold.cons (h : Hold w W L) {p : Addr} {v : Value} (hc : W.cell? p = some v) : Hold w W ((p, v) :: L) :=
  ⟨h.1, fun x hx => by rcases List.mem_cons.1 hx with rfl | hx; exact hc; exact h.2 x hx⟩
theorem Hold.nil (h : Below w.heap.size w W) : Hold w W [] := ⟨h, by simp⟩
variable {p0 p1 p2 p3 p4 p5 p6 p7 p8 p9 : Addr} {v0 v1 v2 v3 v4 v5 v6 v7 v8 v9 : Value}
end
end Go.Proofs.Ytjffjmffoffblaa
