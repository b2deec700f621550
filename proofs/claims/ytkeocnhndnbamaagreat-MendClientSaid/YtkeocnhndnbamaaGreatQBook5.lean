/- Blocks that are known whole; what a call leaves of the blocks that another holds. Pages that came in, opened. All records of pages, as plain data: by rising numbers, each page's by rising slots. slab.Rows' iterator, whose caller keeps its two blocks (the caller may store into older blocks of its own). -/
import Derived.Test.YtkeocnhndnbamaaGreatRows
import Derived.WalkKit
import Derived.WalkSpells
import Derived.WalkLawsBesides
import Derived.BigQuiet
import Derived.Deep.QuietTactic
import Derived.IntWalk
import Derived.Lib.Hide
import Derived.WalkSmall
import Derived.Deep.Draws
import Derived.Laws.OwnMore
import Derived.Maps.AppendAt
import Derived.RangeFuncBox
import Derived.Tactics
import Derived.Below
import Derived.Test.YtkeocnhndnbamaaGreatQBook3
import Derived.Test.YtkeocnhndnbamaaGreatQBook4
namespace Go.Proofs.YtkeocnhndnbamaaGreat.Mem
set_option maxRecDepth 100000
open Go.RowKit
/-- a block that is known whole -/
def Blk (w : World) (g : Nat) (t : TypeId) (cs : Array Value) : Prop := w.heap[g]? = some (.cells cs t (0, 0))
section
variable {w w' : World} {g : Nat} {t : TypeId} {cs : Array Value}
theorem Blk.lt (h : Blk w g t cs) : g < w.heap.size := (Array.getElem?_eq_some_iff.1 h).1
theorem Blk.cell (h : Blk w g t cs) (i : Nat) : w.cell? ⟨g, i, none⟩ = cs[i]? := by unfold Blk at h; simp [World.cell?, h]
theorem Blk.frozen (h : Blk w g t cs) (i : Nat) : w.frozen? ⟨g, i, none⟩ = false := by unfold Blk at h; simp [World.frozen?, h]
theorem Blk.new (w : World) (t : TypeId) (cs : Array Value) : Blk (w.alloc (.cells cs t)) w.heap.size t cs := World.alloc_heap_new w _
theorem Blk.alloc (h : Blk w g t cs) (o : Obj) : Blk (w.alloc o) g t cs := (Below.heap_alloc w o g h.lt).trans h
theorem Blk.below {B : Nat} (h : Blk w g t cs) (hb : Below B w w') (hg : g < B) : Blk w' g t cs := (hb.block g hg).trans h
theorem Blk.set_ (h : Blk w g t cs) (i : Nat) (u : Value) : Blk (w.setCell ⟨g, i, none⟩ u) g t (cs.setIfInBounds i u) := by
  unfold Blk at h ⊢
  simp [World.setCell, Array.getElem?_modify, h]
theorem Blk.far (h : Blk w g t cs) {p : Addr} (hp : g ≠ p.block) (u : Value) : Blk (w.setCell p u) g t cs := (Below.heap_setCell w p u g hp).trans h
theorem Blk.drew (h : Blk w g t cs) (n : Nat) : Blk (w.drewN n) g t cs := h
theorem Blk.grown {row : Option Nat} (h : Blk w g t cs) (hb : w.grownBy w' row) (hg : some g ≠ row) : Blk w' g t cs := (hb.block g h.lt hg).trans h
end

/-- the blocks M are as they were -/
structure Keep (M : Nat → Prop) (w w' : World) : Prop where
  os : w'.os = w.os
  tape : w'.tape = w.tape
  output : w'.output = w.output
  size : w.heap.size ≤ w'.heap.size
  block : ∀ k, M k → w'.heap[k]? = w.heap[k]?
section
variable {M M' : Nat → Prop} {w w' w'' : World}
theorem Keep.refl (M : Nat → Prop) (w : World) : Keep M w w := ⟨rfl, rfl, rfl, Nat.le_refl _, fun _ _ => rfl⟩
theorem Keep.trans (h : Keep M w w') (h' : Keep M w' w'') : Keep M w w'' :=
  ⟨h'.os.trans h.os, h'.tape.trans h.tape, h'.output.trans h.output, Nat.le_trans h.size h'.size, fun k hk => (h'.block k hk).trans (h.block k hk)⟩
theorem Keep.mono (h : Keep M w w') (hm : ∀ k, M' k → M k) : Keep M' w w' := ⟨h.os, h.tape, h.output, h.size, fun k hk => h.block k (hm k hk)⟩
theorem Keep.of_below (h : Below w.heap.size w w') (hm : ∀ k, M k → k < w.heap.size) : Keep M w w' := ⟨h.os, h.tape, h.output, h.size, fun k hk => h.block k (hm k hk)⟩
theorem Keep.below (h : Keep M w w') {B : Nat} (hm : ∀ k, k < B → M k) : Below B w w' := ⟨h.os, h.tape, h.output, h.size, fun k hk => h.block k (hm k hk)⟩
theorem Keep.set_ (h : Keep M w w') {b : Nat} (hb : ¬ M b) (i : Nat) (v : Value) : Keep M w (w'.setCell ⟨b, i, none⟩ v) :=
  h.trans ⟨rfl, rfl, rfl, by simp, fun k hk => Below.heap_setCell w' ⟨b, i, none⟩ v k (fun e => hb ((show k = b from e) ▸ hk))⟩
theorem Keep.alloc (h : Keep M w w') (hm : ∀ k, M k → k < w'.heap.size) (o : Obj) : Keep M w (w'.alloc o) :=
  h.trans ⟨rfl, rfl, rfl, by simp, fun k hk => Below.heap_alloc w' o k (hm k hk)⟩
theorem Keep.grown (h : Keep M w w') {row : Option Nat} (hg : w'.grownBy w'' row) (hm : ∀ k, M k → k < w'.heap.size) (hr : ∀ k, row = some k → ¬ M k) : Keep M w w'' :=
  h.trans ⟨hg.os, hg.tape, hg.output, hg.size, fun k hk => hg.block k (hm k hk) (fun e => hr k e.symm hk)⟩
theorem Keep.drewN (h : Keep M w w') (q : Nat) : Keep M w (w'.drewN q) := ⟨h.os, h.tape, h.output, h.size, h.block⟩
theorem Keep.blk (h : Keep M w w') {g : Nat} {t : TypeId} {cs : Array Value} (hg : Blk w g t cs) (hm : M g) : Blk w' g t cs := (h.block g hm).trans hg
theorem Keep.cell (h : Keep M w w') {p : Addr} (hp : M p.block) : w'.cell? p = w.cell? p := World.cell?_of_block (w := w) (h.block p.block hp)
theorem Keep.frozen (h : Keep M w w') {p : Addr} (hp : M p.block) : w'.frozen? p = w.frozen? p := World.frozen?_of_block (w := w) (h.block p.block hp)
end

theorem own_same {w w' : World} {base n size : Nat} {t : TypeId} {v : Value} {xs : List Value} (h : w.ownsRow base t size v n xs) (hb : ∀ g, v.ownBlock = some g → w'.heap[g]? = w.heap[g]?) : w'.ownsRow base t size v n xs := by
  obtain ⟨hl, h0 | ⟨g, cap, cur, rfl, hg, hc, h1⟩⟩ := h
  · exact ⟨hl, .inl h0⟩
  · exact ⟨hl, .inr ⟨g, cap, cur, rfl, hg, (hb g rfl).trans hc, h1⟩⟩
theorem own_lt {w : World} {base n size g : Nat} {t : TypeId} {v : Value} {xs : List Value} (h : w.ownsRow base t size v n xs) (hg : v.ownBlock = some g) : g < w.heap.size := by
  obtain ⟨hl, ⟨rfl, _⟩ | ⟨g', cap, cur, rfl, _, hc, h1⟩⟩ := h
  · cases hg
  · cases hg; exact (Array.getElem?_eq_some_iff.1 hc).1
theorem own_below {w w' : World} {base n size : Nat} {t : TypeId} {v : Value} {xs : List Value} (h : w.ownsRow base t size v n xs) (hb : Below w.heap.size w w') : w'.ownsRow base t size v n xs :=
  own_same h fun g hg => hb.block g (own_lt h hg)
theorem own_set {w : World} {base n size b : Nat} {t : TypeId} {v : Value} {xs : List Value} (h : w.ownsRow base t size v n xs) (hb : v.ownBlock ≠ some b) (i : Nat) (u : Value) : (w.setCell ⟨b, i, none⟩ u).ownsRow base t size v n xs :=
  own_same h fun g hg => Below.heap_setCell w ⟨b, i, none⟩ u g (fun e => hb (by rw [hg]; exact congrArg some e))
theorem own_nil (w : World) (base : Nat) (t : TypeId) (size : Nat) : w.ownsRow base t size (.slice none 0 0) 0 [] := ⟨by simp, .inl ⟨rfl, rfl⟩⟩
/-- an own row has an address, or is nil -/
theorem own_shape {w : World} {base n size : Nat} {t : TypeId} {v : Value} {xs : List Value} (h : w.ownsRow base t size v n xs) : ∃ a c, v = .slice a n c := by
  rcases h.2 with ⟨rfl, rfl⟩ | ⟨g, cap, cur, rfl, _⟩
  · exact ⟨none, 0, rfl⟩
  · exact ⟨_, cap, rfl⟩
theorem own_pos {w : World} {base n size : Nat} {t : TypeId} {v : Value} {xs : List Value} (h : w.ownsRow base t size v n xs) (hn : 0 < n) : ∃ g cap, v = .slice (some ⟨g, 0, none⟩) n cap ∧ v.ownBlock = some g ∧ g < w.heap.size ∧ ∀ j, j < n * size → w.cell? ⟨g, j, none⟩ = xs[j]? := by
  obtain ⟨hl, ⟨rfl, h0⟩ | ⟨g, cap, cur, rfl, hg, hc, h1, h2, h3, h4⟩⟩ := h
  · omega
  · refine ⟨g, cap, rfl, rfl, (Array.getElem?_eq_some_iff.1 hc).1, fun j hj => ?_⟩
    have : w.cell? ⟨g, j, none⟩ = cur[j]? := by simp [World.cell?, hc]
    rw [this, ← h4, List.getElem?_take_of_lt hj]
    simp
end Go.Proofs.YtkeocnhndnbamaaGreat.Mem
namespace Go.Proofs.YtkeocnhndnbamaaGreat.Mend
set_option maxRecDepth 100000
open Go.RowKit Go.Sort Go.Joins Go.ChangeShapes Go.WideShapes Go.Deep
open Go.Proofs.YtkeocnhndnbamaaGreat.Mem
theorem fits_i64 {a : Int} (h : (Lit.int .i64 a).wf = true) : -9223372036854775808 ≤ a ∧ a ≤ 9223372036854775807 := by
  unfold Lit.wf at h; simp [IntKind.min, IntKind.max, IntKind.signed, IntKind.bits] at h; omega
structure Lf where
  n : Int
  l : Int
  z : List Slab.Slot
def lf0 : Lf := ⟨0, 0, []⟩
structure Ro where
  x : Lf
  a : Option Addr
  n : Nat
  c : Nat
instance : Inhabited Lf := ⟨lf0⟩
instance : Inhabited Ro := ⟨⟨lf0, none, 0, 0⟩⟩
/-- a row of pages that came in -/
def LeavesI (w : World) (a : Option Addr) (n : Nat) (ls : List Lf) : Prop :=
  ls.length = n ∧ (∀ x ∈ ls, -9223372036854775808 ≤ x.n ∧ x.n ≤ 9223372036854775807) ∧ (0 < n → ∃ b off, a = some ⟨b, off, none⟩ ∧ b < w.heap.size ∧ ∀ i, i < n → ∃ a' n' c', w.cell? ⟨b, off + i * 3, none⟩ = some (.int .i64 (ls.getD i lf0).n) ∧ w.cell? ⟨b, off + i * 3 + 1, none⟩ = some (.int .i64 (ls.getD i lf0).l) ∧
    w.cell? ⟨b, off + i * 3 + 2, none⟩ = some (.slice a' n' c') ∧ Slab.Slots w a' n' (ls.getD i lf0).z ∧ n' ≤ maxLen)
section
variable {w w' : World} {a : Option Addr} {n : Nat} {ls : List Lf}
theorem LeavesI.below (h : LeavesI w a n ls) (hb : Below w.heap.size w w') : LeavesI w' a n ls := by
  obtain ⟨h1, h2, h3⟩ := h
  refine ⟨h1, h2, fun hn => ?_⟩
  obtain ⟨b, off, ha, hlt, hc⟩ := h3 hn
  refine ⟨b, off, ha, Nat.lt_of_lt_of_le hlt hb.size, fun i hi => ?_⟩
  obtain ⟨a', n', c', c1, c2, c3, hs, hm⟩ := hc i hi
  exact ⟨a', n', c', (hb.cell (p := ⟨b, off + i * 3, none⟩) hlt).trans c1, (hb.cell (p := ⟨b, off + i * 3 + 1, none⟩) hlt).trans c2, (hb.cell (p := ⟨b, off + i * 3 + 2, none⟩) hlt).trans c3, hs.below hb, hm⟩
theorem LeavesI.at_ (h : LeavesI w a n ls) {i : Nat} (hi : i < n) : ∃ b off a' n' c' x, a = some ⟨b, off, none⟩ ∧ b < w.heap.size ∧ ls[i]? = some x ∧ w.cell? ⟨b, off + i * 3, none⟩ = some (.int .i64 x.n) ∧ w.cell? ⟨b, off + i * 3 + 1, none⟩ = some (.int .i64 x.l) ∧
    w.cell? ⟨b, off + i * 3 + 2, none⟩ = some (.slice a' n' c') ∧ Slab.Slots w a' n' x.z ∧ n' ≤ maxLen := by
  obtain ⟨h1, h2, h3⟩ := h
  obtain ⟨b, off, ha, hlt, hc⟩ := h3 (by omega)
  obtain ⟨a', n', c', c1, c2, c3, hs, hm⟩ := hc i hi
  have hl : i < ls.length := by omega
  have e : ls.getD i lf0 = ls[i] := by simp [List.getD, hl]
  rw [e] at c1 c2 hs
  exact ⟨b, off, a', n', c', _, ha, hlt, List.getElem?_eq_getElem hl, c1, c2, c3, hs, hm⟩
end
section
variable {H : Type} {enc : TypeId × Value → H} {w : World} {base : Nat} {spare : Nat → Bool} {held : Bool}
end
end Go.Proofs.YtkeocnhndnbamaaGreat.Mend
namespace Go.Proofs.YtkeocnhndnbamaaGreat.Mend
set_option maxRecDepth 100000
open Go.Proofs.YtkeocnhndnbamaaGreat.Slab (Slot nos atL Rw upTo upTo_miss upTo_lt upTo_len getD_out)
/-- a record: its page, its slot, its text -/
structure Rc where
  n : Int
  k : Nat
  d : ByteArray
def rcV (x : Rc) : List Value := [.int .i64 x.n, .int .i64 (x.k : Int), .string x.d]
def rowsZ (lsn : Int) (zs : List Slot) : List Slot := if Slab.goodB lsn zs = true then zs else []
theorem rowsZ_at (lsn : Int) (zs : List Slot) (i : Nat) : atL lsn zs (i : Int) = (rowsZ lsn zs).getD i nos := by
  unfold rowsZ
  cases hg : Slab.goodB lsn zs with
  | true => rw [if_pos rfl, Slab.atL_getD hg]
  | false => rw [if_neg (by simp), Slab.atL_bad hg]; rfl
theorem rowsZ_len {lsn : Int} {zs : List Slot} : (rowsZ lsn zs).length ≤ 32 := by
  unfold rowsZ
  split
  · rename_i h; have := (Slab.good_parts h).2.2.1; omega
  · simp
theorem upTo_more {Z : List Slot} (m : Nat) : upTo Z (Z.length + m) = upTo Z Z.length := by
  induction m with
  | zero => rfl
  | succ m ih => rw [← Nat.add_assoc, upTo_miss (by rw [getD_out (by omega)]; rfl), ih]
theorem upTo_rises {Z : List Slot} : ∀ k, (upTo Z k).Pairwise (fun x y => x.i < y.i)
  | 0 => List.Pairwise.nil
  | k + 1 => by
    rw [upTo, List.pairwise_append]
    refine ⟨upTo_rises k, ?_, fun x hx y hy => ?_⟩
    · unfold Slab.rowAt; split
      · exact List.pairwise_singleton _ _
      · exact List.Pairwise.nil
    · unfold Slab.rowAt at hy
      split at hy
      · simp at hy; rw [hy]; exact upTo_lt hx
      · cases hy
theorem upTo_has {Z : List Slot} : ∀ {k i : Nat} {d : ByteArray}, i < k → Z.getD i nos = ⟨true, d⟩ → ∃ x ∈ upTo Z k, x.i = i ∧ x.d = d
  | 0, i, d, h, _ => absurd h (Nat.not_lt_zero _)
  | k + 1, i, d, h, hg => by
    by_cases hk : i = k
    · subst hk
      exact ⟨⟨i, d, hg⟩, by rw [Slab.upTo_hit hg]; simp, rfl, rfl⟩
    · obtain ⟨x, hx, h1⟩ := upTo_has (k := k) (by omega) hg
      exact ⟨x, by rw [upTo]; exact List.mem_append_left _ hx, h1⟩
/-- a page's records -/
def recs (x : Lf) : List Rc := (upTo (rowsZ x.l x.z) (rowsZ x.l x.z).length).map fun r => ⟨x.n, r.i, r.d⟩
/-- .. below a slot -/
def recsTo (x : Lf) (k : Nat) : List Rc := (upTo (rowsZ x.l x.z) k).map fun r => ⟨x.n, r.i, r.d⟩
theorem recs_to (x : Lf) : recsTo x 32 = recs x := by
  unfold recsTo recs
  have h := rowsZ_len (lsn := x.l) (zs := x.z)
  obtain ⟨m, hm⟩ : ∃ m, 32 = (rowsZ x.l x.z).length + m := ⟨32 - (rowsZ x.l x.z).length, by omega⟩
  rw [hm, upTo_more]
theorem recs_len (x : Lf) : (recs x).length ≤ 32 := by
  unfold recs
  rw [List.length_map]
  exact Nat.le_trans (upTo_len _ _) rowsZ_len
theorem recs_mem {x : Lf} {r : Rc} : r ∈ recs x ↔ r.n = x.n ∧ atL x.l x.z (r.k : Int) = ⟨true, r.d⟩ := by
  unfold recs
  rw [List.mem_map, rowsZ_at]
  constructor
  · rintro ⟨y, hy, rfl⟩
    exact ⟨rfl, y.h⟩
  · rintro ⟨h1, h2⟩
    have hk : r.k < (rowsZ x.l x.z).length := by
      rcases Nat.lt_or_ge r.k (rowsZ x.l x.z).length with h | h
      · exact h
      · rw [getD_out h] at h2; cases h2
    obtain ⟨y, hy, e1, e2⟩ := upTo_has hk h2
    obtain ⟨n, k, d⟩ := r
    exact ⟨y, hy, by rw [e1, e2, ← h1]⟩
def numB (n : Int) : Bool := decide (0 ≤ n ∧ n < 1024)
/-- the first page of a number -/
def leafOf (ls : List Lf) (n : Int) : Option Lf := if numB n = true then ls.find? fun x => decide (x.n = n) else none
/-- the numbers of pages, rising -/
def numsL (ls : List Lf) : List Int := ((List.range 1024).filter fun i : Nat => ls.any fun x => decide (x.n = (i : Int))).map fun i : Nat => (i : Int)
theorem numsL_rise (ls : List Lf) : (numsL ls).Pairwise (fun x y => x < y) := by
  unfold numsL
  refine List.pairwise_map.2 ?_
  exact (List.pairwise_lt_range.filter _).imp fun {a b} h => by omega
theorem numsL_mem (ls : List Lf) (n : Int) : n ∈ numsL ls ↔ leafOf ls n ≠ none := by
  unfold numsL leafOf
  rw [List.mem_map]
  constructor
  · rintro ⟨i, hi, rfl⟩
    obtain ⟨h1, h2⟩ := List.mem_filter.1 hi
    have h1 := List.mem_range.1 h1
    rw [if_pos (by unfold numB; simp; omega)]
    intro h
    rw [List.find?_eq_none] at h
    obtain ⟨x, hx, h3⟩ := List.any_eq_true.1 h2
    exact h x hx h3
  · intro h
    by_cases hn : numB n = true
    · rw [if_pos hn] at h
      have hb : 0 ≤ n ∧ n < 1024 := by unfold numB at hn; simpa using hn
      refine ⟨n.toNat, List.mem_filter.2 ⟨List.mem_range.2 (by omega), ?_⟩, Int.toNat_of_nonneg hb.1⟩
      cases hf : ls.find? (fun x => decide (x.n = n)) with
      | none => exact absurd hf h
      | some x =>
        have h1 := List.mem_of_find?_eq_some hf
        have h2 := List.find?_some hf
        refine List.any_eq_true.2 ⟨x, h1, ?_⟩
        have h2 : x.n = n := by simpa using h2
        rw [h2]; exact decide_eq_true (Int.toNat_of_nonneg hb.1).symm
    · rw [if_neg hn] at h; exact absurd rfl h
theorem numsL_len (ls : List Lf) : (numsL ls).length ≤ 1024 := by
  unfold numsL
  rw [List.length_map]
  exact Nat.le_trans (List.length_filter_le _ _) (by simp)
def recsN (ls : List Lf) (n : Int) : List Rc := match leafOf ls n with
  | some x => recs x
  | none => []
theorem recsN_len (ls : List Lf) (n : Int) : (recsN ls n).length ≤ 32 := by
  unfold recsN
  split
  · exact recs_len _
  · simp
/-- all records -/
def rowsL (ls : List Lf) : List Rc := (numsL ls).flatMap (recsN ls)
theorem flat_len {α β : Type} (f : α → List β) (m : Nat) (hf : ∀ x, (f x).length ≤ m) : ∀ L : List α, (L.flatMap f).length ≤ L.length * m
  | [] => by simp
  | x :: r => by
    rw [List.flatMap_cons, List.length_append, List.length_cons, Nat.add_mul, Nat.one_mul]
    have := flat_len f m hf r
    have := hf x
    omega
def Before (x y : Rc) : Prop := x.n < y.n ∨ (x.n = y.n ∧ x.k < y.k)
theorem leafOf_n {ls : List Lf} {n : Int} {x : Lf} (h : leafOf ls n = some x) : x.n = n ∧ x ∈ ls ∧ numB n = true := by
  unfold leafOf at h
  split at h
  · rename_i hn
    exact ⟨by have := List.find?_some h; simpa using this, List.mem_of_find?_eq_some h, hn⟩
  · cases h
theorem recsN_n {ls : List Lf} {n : Int} {r : Rc} (h : r ∈ recsN ls n) : r.n = n := by
  unfold recsN at h
  split at h
  · rename_i x hx
    rw [(recs_mem.1 h).1]; exact (leafOf_n hx).1
  · cases h
theorem rowsL_rise (ls : List Lf) : (rowsL ls).Pairwise Before := by
  unfold rowsL
  have hr := numsL_rise ls
  generalize numsL ls = ks at hr
  induction ks with
  | nil => exact List.Pairwise.nil
  | cons n ks ih =>
    obtain ⟨h1, h2⟩ := List.pairwise_cons.1 hr
    rw [List.flatMap_cons, List.pairwise_append]
    refine ⟨?_, ih h2, fun x hx y hy => ?_⟩
    · unfold recsN
      split
      · rename_i x hx
        unfold recs
        exact List.pairwise_map.2 ((upTo_rises _).imp fun {a b} h => .inr ⟨rfl, h⟩)
      · exact List.Pairwise.nil
    · obtain ⟨m, hm, hy2⟩ := List.mem_flatMap.1 hy
      exact .inl (by rw [recsN_n hx, recsN_n hy2]; exact h1 m hm)
/-- .. in the pages' own order -/
def rowsP (ls : List Lf) : List Rc := (ls.filter fun x => numB x.n).flatMap recs
def Apart (ls : List Lf) : Prop := ls.Pairwise fun x y => x.n ≠ y.n
theorem find_apart : ∀ {ls : List Lf}, Apart ls → ∀ x ∈ ls, ls.find? (fun y => decide (y.n = x.n)) = some x
  | [], _, x, h => by cases h
  | y :: r, ha, x, h => by
    obtain ⟨h1, h2⟩ := List.pairwise_cons.1 ha
    by_cases e : y.n = x.n
    · rw [List.find?_cons_of_pos (by simpa using e)]
      rcases List.mem_cons.1 h with rfl | h
      · rfl
      · exact absurd e (h1 x h)
    · rw [List.find?_cons_of_neg (by simpa using e)]
      rcases List.mem_cons.1 h with rfl | h
      · exact absurd rfl e
      · exact find_apart h2 x h
theorem leafOf_apart {ls : List Lf} (ha : Apart ls) {x : Lf} (hx : x ∈ ls) (hn : numB x.n = true) : leafOf ls x.n = some x := by
  unfold leafOf
  rw [if_pos hn]; exact find_apart ha x hx
theorem rows_perm {ls : List Lf} (ha : Apart ls) : (rowsL ls).Perm (rowsP ls) := by
  have h1 : (numsL ls).Perm ((ls.filter fun x => numB x.n).map (·.n)) := by
    refine (List.perm_ext_iff_of_nodup ((numsL_rise ls).imp fun {a b} h => by omega) ?_).2 fun n => ?_
    · refine List.pairwise_map.2 ((List.Pairwise.filter _ ha).imp fun {a b} h => h)
    · rw [numsL_mem, List.mem_map]
      constructor
      · intro h
        cases hl : leafOf ls n with
        | none => exact absurd hl h
        | some x =>
          obtain ⟨e1, e2, e3⟩ := leafOf_n hl
          exact ⟨x, List.mem_filter.2 ⟨e2, by rw [e1]; exact e3⟩, e1⟩
      · rintro ⟨x, hx, rfl⟩
        obtain ⟨e1, e2⟩ := List.mem_filter.1 hx
        rw [leafOf_apart ha e1 e2]; simp
  have h2 := h1.flatMap_right (recsN ls)
  refine h2.trans ?_
  unfold rowsP
  rw [List.flatMap_map]
  refine List.Perm.of_eq ?_
  have : ∀ L : List Lf, (∀ x ∈ L, x ∈ ls ∧ numB x.n = true) → L.flatMap (fun x => recsN ls x.n) = L.flatMap recs := fun L => by
    induction L with
    | nil => intro _; rfl
    | cons x r ih =>
      intro h
      obtain ⟨e1, e2⟩ := h x List.mem_cons_self
      rw [List.flatMap_cons, List.flatMap_cons, ih fun y hy => h y (List.mem_cons_of_mem _ hy)]
      congr 1
      unfold recsN
      rw [leafOf_apart ha e1 e2]
  exact this _ fun x hx => List.mem_filter.1 hx
theorem rowsL_len (ls : List Lf) : (rowsL ls).length ≤ 32768 := by
  have h1 := flat_len (recsN ls) 32 (recsN_len ls) (numsL ls)
  have h2 := numsL_len ls
  unfold rowsL
  omega
/-- a slot has a record just if it is used -/
theorem rows_has {ls : List Lf} (ha : Apart ls) {x : Lf} (hx : x ∈ ls) (hn : numB x.n = true) (k : Nat) : (∃ r ∈ rowsL ls, r.n = x.n ∧ r.k = k ∧ r.d = (atL x.l x.z (k : Int)).d) ↔ (atL x.l x.z (k : Int)).u = true := by
  constructor
  · rintro ⟨r, hr, e1, rfl, e3⟩
    have h1 := (rows_perm ha).mem_iff.1 hr
    obtain ⟨y, hy, h2⟩ := List.mem_flatMap.1 h1
    obtain ⟨f1, f2⟩ := recs_mem.1 h2
    have : y = x := by
      have g1 := find_apart ha y (List.mem_filter.1 hy).1
      have g2 := find_apart ha x hx
      rw [← f1, e1, g2] at g1
      injection g1 with g1
      exact g1.symm
    subst this
    rw [f2]
  · intro hu
    refine ⟨⟨x.n, k, (atL x.l x.z (k : Int)).d⟩, (rows_perm ha).mem_iff.2 (List.mem_flatMap.2 ⟨x, List.mem_filter.2 ⟨hx, hn⟩, recs_mem.2 ⟨rfl, ?_⟩⟩), rfl, rfl, rfl⟩
    exact Slab.slot_used hu
/-- how many, up to a page and a slot -/
def cntR (ls : List Lf) (i : Nat) : Nat := (rowsP (ls.take i)).length
theorem cnt_next {ls : List Lf} {i : Nat} {x : Lf} (h : ls[i]? = some x) : cntR ls (i + 1) = cntR ls i + if numB x.n = true then (recs x).length else 0 := by
  unfold cntR rowsP
  rw [List.take_add_one, h, List.filter_append, List.flatMap_append, List.length_append]
  congr 1
  cases hn : numB x.n <;> simp [hn]
theorem cnt_all {ls : List Lf} (ha : Apart ls) : cntR ls ls.length = (rowsL ls).length := by
  unfold cntR
  rw [List.take_length, (rows_perm ha).length_eq]
theorem recsTo_next (x : Lf) (k : Nat) : (recsTo x (k + 1)).length = (recsTo x k).length + if (atL x.l x.z (k : Int)).u = true then 1 else 0 := by
  unfold recsTo
  rw [List.length_map, List.length_map, rowsZ_at, upTo, List.length_append]
  congr 1
  unfold Slab.rowAt
  by_cases hu : ((rowsZ x.l x.z).getD k nos).u = true
  · rw [dif_pos hu, if_pos hu]; rfl
  · rw [dif_neg hu, if_neg hu]; rfl
end Go.Proofs.YtkeocnhndnbamaaGreat.Mend
namespace Go.Proofs.YtkeocnhndnbamaaGreat.Mend
set_option maxRecDepth 100000
open Go.RowKit Go.Shelf Go.Sort
open Go.Proofs.YtkeocnhndnbamaaGreat.Slab (Slot Slots nos atL Rw upTo upTo_miss upTo_hit upTo_lt upTo_len getD_out encR abides_alloc)
attribute [local go_sem] Oper.semAt_some
def intK : Value → Nat
  | .int _ i => i.toNat
  | _ => 0
/-- the blocks M's cells stay -/
def KeepM (M : Nat → Prop) (A C : World) : Prop := A.heap.size ≤ C.heap.size ∧ ∀ k cs T q, M k → A.heap[k]? = some (.cells cs T q) → C.heap[k]? = some (.cells cs T q)
theorem keepM_t {M : Nat → Prop} {A C D : World} (h : KeepM M A C) (k : KeepM M C D) : KeepM M A D := ⟨Nat.le_trans h.1 k.1, fun j cs T q hj hc => k.2 j cs T q hj (h.2 j cs T q hj hc)⟩
theorem keepM_b {M : Nat → Prop} (W : World) (l : Nat) (o o' : Obj) (h : W.heap[l]? = some o) (ho : o.isCells = false) : KeepM M W (W.putObj l o') := by
  refine ⟨by simp [World.putObj], fun k cs T q _ hc => ?_⟩
  have hne : k ≠ l := fun e => by subst e; rw [h] at hc; cases hc; cases ho
  rw [World.putObj_heap_other hne]; exact hc
theorem keepM_below {M : Nat → Prop} {A C : World} (h : Below A.heap.size A C) : KeepM M A C := ⟨h.size, fun k _ _ _ _ hc => (h.block k (Array.getElem?_eq_some_iff.1 hc).1).trans hc⟩
theorem keepM_set {M : Nat → Prop} (w : World) {g : Nat} (hg : ¬ M g) (j : Nat) (v : Value) : KeepM M w (w.setCell ⟨g, j, none⟩ v) :=
  ⟨by simp, fun k _ _ _ hk hc => (Below.heap_setCell w ⟨g, j, none⟩ v k (show k ≠ g from fun e => hg (e ▸ hk))).trans hc⟩
theorem keepM_grown {M : Nat → Prop} {w w' : World} {row : Option Nat} (hg : w.grownBy w' row) (hr : ∀ g, row = some g → ¬ M g) : KeepM M w w' :=
  ⟨hg.size, fun k _ _ _ hk hc => (hg.block k (Array.getElem?_eq_some_iff.1 hc).1 (fun e => hr k e.symm hk)).trans hc⟩
theorem cells_of {w : World} {b i : Nat} {v : Value} (h : w.cell? ⟨b, i, none⟩ = some v) : ∃ cs T q, w.heap[b]? = some (.cells cs T q) := by
  cases hb : w.heap[b]? with
  | none => simp [World.cell?, hb] at h
  | some o =>
    cases o with
    | cells cs T q => exact ⟨cs, T, q, rfl⟩
    | _ => simp [World.cell?, hb] at h
theorem keepM_cell {M : Nat → Prop} {A C : World} (h : KeepM M A C) {b i : Nat} {v : Value} (hm : M b) (hc : A.cell? ⟨b, i, none⟩ = some v) : C.cell? ⟨b, i, none⟩ = some v := by
  obtain ⟨cs, T, q, hb⟩ := cells_of hc
  rw [← hc]
  exact World.cell?_of_block (w := A) ((h.2 b cs T q hm hb).trans hb.symm)
set_option maxRecDepth 100000 in
set_option maxHeartbeats 2000000 in
theorem rows2_in (F : Fence) (n : Nat) (hf : F.fn 67) (hro : F.round = none) (hn : 1 ≤ n) (l Bs len cap B0 : Nat) (a : Option Addr) (Z : List Slot) (M : Nat → Prop) (hlen : len ≤ 1000000) (J Jx : List (Rw Z) → World → Prop)
    (w1 W : World) (hM0 : M Bs) (hMa : ∀ b off, a = some ⟨b, off, none⟩ → 0 < len → M b) (hW : KeepM M w1 W) (hJ : AbidesFrom B0 J)
    (hY : ∀ pre x W, J pre W → pre.length < len → YieldAt F (n - 1) Tryz.prog l (encR x) W fun e W' =>
      (e = .returned (.bool true) ∧ J (pre ++ [x]) W' ∧ KeepM M W W') ∨ (e = .returned (.bool false) ∧ Jx (pre ++ [x]) W'))
    (hBs : w1.cell? ⟨Bs, 0, none⟩ = some (.slice a len cap)) (hS : Slots w1 a len Z) (h0 : J [] W) :
    CallsIn F n Tryz.prog 67 #[.func (.yield l) #[] #[], .pointer (some ⟨Bs, 0, none⟩)] W fun e W' => (∃ v, e = .returned v) ∧
      ((∃ ys, ys = upTo Z len ∧ J ys W') ∨ (∃ pre, (∃ m, m ≤ len ∧ pre = upTo Z m) ∧ Jx pre W')) := by
  have HS := Lib.hid hS
  clear hS
  have HY := Lib.hid hY
  clear hY
  have HW := Lib.hid hW
  have HM := Lib.hid hMa
  have HJ := Lib.hid hJ
  have hBW := keepM_cell hW hM0 hBs
  clear hW hMa hJ hBs
  refine callsIn_of_wp Tryz.func67 rfl hf ?_ hro
  simp only [Tryz.ntmps67, List.size_toArray, List.length_cons, List.length_nil, Nat.reduceAdd, Nat.reduceSub, Array.replicate_succ, Array.replicate_zero, List.push_toArray, List.append_toArray, List.nil_append, List.cons_append]
  gi_wp2
  gi_loopw [7] (fun i wr => ∃ k : Nat, k ≤ len ∧ i = .int .i64 (k : Int) ∧ J (upTo Z k) wr ∧ Hid (KeepM M w1 wr)) (fun i _ => len - (intK i))
  case atStart => exact ⟨0, Nat.zero_le _, rfl, h0, HW⟩
  case round =>
    obtain ⟨k, hk, rfl, hJs, HK⟩ := hrel
    clear h0
    by_cases hlt : k < len
    · obtain ⟨b, off, u, d, rfl, hb1, hg, c1, c2, hd⟩ := HS.out.at_ hlt
      have hbM := HM.out b off rfl (by omega)
      have c1' := keepM_cell HK.out hbM c1
      have c2' := keepM_cell HK.out hbM c2
      clear c1 c2 hbM
      have hgd : Z.getD k nos = ⟨u, d⟩ := by simp [List.getD, hg]
      have hJa := abides_alloc HJ.out (.cells #[.bool u, .string d] 41) hJs
      have HKa := Lib.hid (keepM_t HK.out (keepM_below ((Below.refl _ _).alloc (Nat.le_refl _) (.cells #[.bool u, .string d] 41))))
      clear hg
      cases hu : u with
      | true =>
        rw [hu] at c1' hJa HKa hgd
        obtain ⟨fn, tmps, assign, body, hy, hR⟩ := HY.out _ ⟨k, d, hgd⟩ _ hJa (by have := upTo_len Z k; omega)
        simp only [encR] at hy
        have HU := Lib.hid (upTo_hit hgd)
        clear hJs
        gi_wp2
        refine hR.mono ?_
        rintro e W3 (⟨rfl, hJ3, hk3⟩ | ⟨rfl, hJx3⟩)
        · have HK3 := Lib.hid (keepM_t HKa.out hk3)
          clear hk3
          gi_wp2
          go_roundw
          case rel => exact ⟨k + 1, by omega, by go_num, by rw [HU.out]; exact hJ3, HK3⟩
          case measure => simp [intK]; omega
        · gi_wp2
          refine bodyPost_ret (results_none rfl _ _ _) rfl ?_
          exact ⟨⟨_, rfl⟩, .inr ⟨_, ⟨k + 1, by omega, HU.out.symm⟩, hJx3⟩⟩
      | false =>
        rw [hu] at c1' hJa HKa hgd
        have HU := Lib.hid (upTo_miss (Z := Z) (k := k) (by rw [hgd]))
        clear hgd hJs
        gi_wp2
        refine ⟨fun _ h => (by cases h), ?_⟩
        gi_wp2
        go_roundw
        case rel => exact ⟨k + 1, by omega, by go_num, by rw [HU.out]; exact hJa, HKa⟩
        case measure => simp [intK]; omega
    · obtain rfl : k = len := by omega
      gi_wp2
      go_end0
      exact ⟨⟨_, rfl⟩, .inl ⟨_, rfl, hJs⟩⟩
theorem rows2_stops (F : Fence) (n : Nat) (hf : F.fn 67) (hro : F.round = none) (hn : 1 ≤ n) (Bs len cap : Nat) (a : Option Addr) (Z : List Slot) (M : Nat → Prop) (hlen : len ≤ 1000000) (w : World)
    (hM0 : M Bs) (hMa : ∀ b off, a = some ⟨b, off, none⟩ → 0 < len → M b) (hBs : w.cell? ⟨Bs, 0, none⟩ = some (.slice a len cap)) (hS : Slots w a len Z) :
    SeqStopsK F n Tryz.prog 67 #[.pointer (some ⟨Bs, 0, none⟩)] encR (KeepM M) (fun ys => ys = upTo Z len) (fun pre => ∃ m, m ≤ len ∧ pre = upTo Z m) len w := fun l J Jx W hW hJ _ hY h0 =>
  rows2_in F n hf hro hn l Bs len cap _ a Z M hlen J Jx w W hM0 hMa (keepM_below hW) hJ hY hBs hS h0
end Go.Proofs.YtkeocnhndnbamaaGreat.Mend
