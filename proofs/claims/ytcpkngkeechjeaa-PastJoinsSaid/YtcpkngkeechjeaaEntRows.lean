/- Entries in a row that came in, opened. -/
import Derived.Test.YtcpkngkeechjeaaEntOpen
import Derived.Test.YtcpkngkeechjeaaEntA
namespace Go.Proofs.Ytcpkngkeechjeaa.Ent
set_option maxRecDepth 100000
open Go.RowKit Go.Joins Go.ChangeShapes Go.WideShapes Go.Deep Go.Sort
open Go.Proofs.Ytcpkngkeechjeaa.Slab (weights_all_mem)
instance : Inhabited Ent := ⟨noE⟩
/-- an entry's cells from o on -/
def EntAt (w : World) (b o : Nat) (x : Ent) : Prop := ∀ (j : Nat) (v : Value), (entA x)[j]? = some v → w.cell? ⟨b, o + j, none⟩ = some v
def Ents (w : World) (a : Option Addr) (n : Nat) (zs : List Ent) : Prop :=
  zs.length = n ∧ (∀ x ∈ zs, SmallE x) ∧ (0 < n → ∃ b off, a = some ⟨b, off, none⟩ ∧ b < w.heap.size ∧ ∀ i, i < n → EntAt w b (off + i * 13) (zs.getD i noE))
theorem EntAt.next {w w' : World} {b o B : Nat} {x : Ent} (h : EntAt w b o x) (hb : Below B w w') (hB : b < B) : EntAt w' b o x := fun j v hv =>
  (hb.cell (p := ⟨b, o + j, none⟩) hB).trans (h j v hv)
theorem EntAt.cells {w : World} {b o : Nat} {x : Ent} (h : EntAt w b o x) :
    w.cell? ⟨b, o, none⟩ = some (.int .i64 x.kind) ∧ w.cell? ⟨b, o + 1, none⟩ = some (.int .i64 x.cl) ∧ w.cell? ⟨b, o + 2, none⟩ = some (.int .i64 x.ep) ∧ w.cell? ⟨b, o + 3, none⟩ = some (.int .i64 x.n) ∧
    w.cell? ⟨b, o + 4, none⟩ = some (.int .i64 x.lsn) ∧ w.cell? ⟨b, o + 5, none⟩ = some (.int .i64 x.prev) ∧ w.cell? ⟨b, o + 6, none⟩ = some (.int .i64 x.page) ∧ w.cell? ⟨b, o + 7, none⟩ = some (.int .i64 x.slot) ∧
    w.cell? ⟨b, o + 8, none⟩ = some (.bool x.wu) ∧ w.cell? ⟨b, o + 9, none⟩ = some (.string x.wd) ∧ w.cell? ⟨b, o + 10, none⟩ = some (.bool x.iu) ∧ w.cell? ⟨b, o + 11, none⟩ = some (.string x.id) ∧ w.cell? ⟨b, o + 12, none⟩ = some (.int .i64 x.next) :=
  ⟨h 0 _ rfl, h 1 _ rfl, h 2 _ rfl, h 3 _ rfl, h 4 _ rfl, h 5 _ rfl, h 6 _ rfl, h 7 _ rfl, h 8 _ rfl, h 9 _ rfl, h 10 _ rfl, h 11 _ rfl, h 12 _ rfl⟩
section
variable {H : Type} {enc : TypeId × Value → H} {w : World} {base : Nat} {spare : Nat → Bool} {held : Bool}
theorem open_ents_cells {fuel : Nat} {cs : List Value} {x : DataW H × List MemPlace} (h : DataW.trod enc Try.prog w base spare held fuel 22 cs = some x) (hw : ∀ n ∈ x.1.weights Try.prog 22, n ≤ reachBytes) :
    ∃ a n c zs, cs = [.slice a n c] ∧ Ents w a n zs := by
  rcases open_slice Try.underlying22 h with ⟨rfl, _⟩ | ⟨a, len, cap, m, n, D, Pl, hcs, hb, hl, hm, hmm, hx, hi⟩
  · exact ⟨none, 0, 0, [], rfl, rfl, by simp, fun h => absurd h (Nat.lt_irrefl 0)⟩
  · have hml : len ≤ m := by rw [hmm]; split <;> omega
    have hone : ∀ i, i < len → ∃ e : Ent, w.cells? base (a.add (i * 13)) 13 = some (entA e).toList ∧ SmallE e := by
      intro i hil
      obtain ⟨cs', hc, ht⟩ := hi i (by omega)
      have k2 : Try.prog.cellsOf 31 = 13 := by kernel_rfl
      rw [k2] at hc
      obtain ⟨s, rfl, hs⟩ := open_ent_cells ht (fun n hn => hw n (by
        rw [hx]
        simp only [DataW.weights, Try.underlying22]
        refine List.mem_cons_of_mem _ (List.mem_append.2 (.inl (weights_all_mem (d := D i) ?_ n hn)))
        exact List.mem_map.2 ⟨i, List.mem_range.2 hil, rfl⟩))
      exact ⟨s, hc, hs⟩
    obtain ⟨f, hf⟩ := choose_lt hone
    refine ⟨some a, len, cap, (List.range len).map f, hcs, by simp, ?_, fun hn => ?_⟩
    · intro y hy
      obtain ⟨i, hir, rfl⟩ := List.mem_map.1 hy
      exact (hf i (List.mem_range.1 hir)).2
    · obtain ⟨b, off, spot⟩ := a
      have hcell : ∀ i, i < len → ∀ (j : Nat) (v : Value), (entA (f i))[j]? = some v → w.cell? ((Addr.mk b off spot).add (i * 13 + j)) = some v := by
        intro i hil j v hv
        obtain ⟨_, _, hat⟩ := World.cells?_some (hf i hil).1
        have hj : j < (entA (f i)).toList.length := by
          have := (Array.getElem?_eq_some_iff.1 hv).1
          simpa using this
        have h0 := hat j hj
        rw [add_add] at h0
        rw [h0]
        rw [← hv]
        simp
      have hc0 := hcell 0 hn 0 _ rfl
      have hspot : spot = none := by
        have := World.cell?_spot hc0
        simpa [Addr.add] using this
      subst hspot
      refine ⟨b, off, rfl, ?_, fun i hil => ?_⟩
      · have := World.block_lt_of_cell? w _ hc0
        simpa [Addr.add] using this
      · have e : ((List.range len).map f).getD i noE = f i := by simp [List.getD, hil]
        rw [e]
        have ea : ∀ j, (Addr.mk b off none).add j = ⟨b, off + j, none⟩ := fun j => by unfold Addr.add; split <;> simp_all
        intro j v hv
        have := hcell i hil j v hv
        rw [ea, ← Nat.add_assoc] at this
        exact this
set_option maxRecDepth 100000 in
theorem open_ents {r : Reach} {b0 : Nat} {v : Value} {d : DataW H} {p : List MemPlace} (_hv : Value.okWide Try.prog w r b0 22 v) (h : DataW.Trod enc Try.prog w base spare held 22 v d p) (hw : ∀ n ∈ d.weights Try.prog 22, n ≤ reachBytes) :
    ∃ a n c zs, v = .slice a n c ∧ Ents w a n zs := by
  obtain ⟨a0, n0, c0, hv0⟩ := okWide_slice Try.underlying22 _hv
  obtain ⟨fuel, hf⟩ := h
  subst hv0
  obtain ⟨a, n, c, zs, he, hz⟩ := open_ents_cells (x := (d, p)) (by simpa [Value.cells] using hf) hw
  simp only [List.cons.injEq, and_true] at he
  exact ⟨a, n, c, zs, he, hz⟩
end
def cellsE (l : List Ent) : List Value := l.flatMap fun x => (entA x).toList
theorem cellsE_snoc (z : List Ent) (x : Ent) : cellsE z ++ (entA x).toList = cellsE (z ++ [x]) := by simp [cellsE]
theorem cellsE_length (l : List Ent) : (cellsE l).length = l.length * 13 := by
  induction l with
  | nil => rfl
  | cons x r ih => simp only [cellsE, List.flatMap_cons, List.length_append] at ih ⊢; rw [ih]; simp [entA]; omega
theorem cellsE_get : ∀ {l : List Ent} {i : Nat} {x : Ent}, l[i]? = some x → ∀ (j : Nat) (v : Value), (entA x)[j]? = some v → (cellsE l)[i * 13 + j]? = some v
  | y :: r, 0, x, h, j, v, hv => by
    simp at h; subst h
    have hj := (Array.getElem?_eq_some_iff.1 hv).1
    simp only [cellsE, List.flatMap_cons, Nat.zero_mul, Nat.zero_add]
    rw [List.getElem?_append_left (by simpa using hj)]
    simpa using hv
  | y :: r, i + 1, x, h, j, v, hv => by
    have ih := cellsE_get (l := r) (i := i) (by simpa using h) j v hv
    simp only [cellsE, List.flatMap_cons] at ih ⊢
    rw [List.getElem?_append_right (by simp [entA]; omega)]
    have e : (i + 1) * 13 + j - (entA y).toList.length = i * 13 + j := by simp [entA]; omega
    rw [e]; exact ih
theorem Ents.next {w w' : World} {a : Option Addr} {n : Nat} {zs : List Ent} (h : Ents w a n zs) (hb : Below w.heap.size w w') : Ents w' a n zs := by
  obtain ⟨h1, h2, h3⟩ := h
  refine ⟨h1, h2, fun hn => ?_⟩
  obtain ⟨b, off, ha, hlt, hc⟩ := h3 hn
  exact ⟨b, off, ha, Nat.lt_of_lt_of_le hlt hb.size, fun i hi => (hc i hi).next hb hlt⟩
theorem Ents.take {w : World} {a : Option Addr} {n : Nat} {zs : List Ent} (h : Ents w a n zs) {k : Nat} (hk : k ≤ n) : Ents w a k (zs.take k) := by
  obtain ⟨h1, h2, h3⟩ := h
  refine ⟨by rw [List.length_take, h1]; omega, fun x hx => h2 x (List.mem_of_mem_take hx), fun hn => ?_⟩
  obtain ⟨b, off, ha, hlt, hc⟩ := h3 (by omega)
  refine ⟨b, off, ha, hlt, fun i hi => ?_⟩
  have e : (zs.take k).getD i noE = zs.getD i noE := by simp [List.getD, hi]
  rw [e]; exact hc i (by omega)
theorem Ents.drop {w : World} {b off n : Nat} {zs : List Ent} (h : Ents w (some ⟨b, off, none⟩) n zs) {k : Nat} (hk : k ≤ n) : Ents w (some ⟨b, off + k * 13, none⟩) (n - k) (zs.drop k) := by
  obtain ⟨h1, h2, h3⟩ := h
  refine ⟨by rw [List.length_drop, h1], fun x hx => h2 x (List.mem_of_mem_drop hx), fun hn => ?_⟩
  obtain ⟨b', off', ha, hlt, hc⟩ := h3 (by omega)
  cases ha
  refine ⟨b, off + k * 13, rfl, hlt, fun i hi => ?_⟩
  have e : (zs.drop k).getD i noE = zs.getD (k + i) noE := by simp [List.getD]
  rw [e]
  have := hc (k + i) (by omega)
  rw [show off + k * 13 + i * 13 = off + (k + i) * 13 by omega]; exact this
theorem ents_of_blk {w : World} {g : Nat} {t : TypeId} {zs : List Ent} (h : w.heap[g]? = some (.cells (cellsE zs).toArray t (0, 0))) (hs : ∀ x ∈ zs, SmallE x) : Ents w (some ⟨g, 0, none⟩) zs.length zs := by
  refine ⟨rfl, hs, fun _ => ⟨g, 0, rfl, (Array.getElem?_eq_some_iff.1 h).1, fun i hi j v hv => ?_⟩⟩
  have hx : zs[i]? = some (zs.getD i noE) := by simp [List.getD, hi]
  have h1 := cellsE_get hx j v hv
  have h2 : w.cell? ⟨g, 0 + i * 13 + j, none⟩ = (cellsE zs).toArray[0 + i * 13 + j]? := by simp [World.cell?, h]
  rw [h2, Nat.zero_add]
  simpa using h1
end Go.Proofs.Ytcpkngkeechjeaa.Ent
