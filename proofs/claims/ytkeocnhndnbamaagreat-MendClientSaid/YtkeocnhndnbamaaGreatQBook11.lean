/- What a log tells, in memory: three rows of a call's own beside each other. Append of whole rows to a row of a call's own. Logs that clients make, in memory: what the statements of layer 18 keep of them. M: the blocks of pages' rows and images, which nobody changes. Blocks of different types are different blocks. -/
import Derived.Test.YtkeocnhndnbamaaGreatQBook10
namespace Go.Proofs.YtkeocnhndnbamaaGreat.Past
set_option maxRecDepth 100000
open Go.RowKit Go.Sort
open Go.Proofs.YtkeocnhndnbamaaGreat.Mem
open Go.Proofs.YtkeocnhndnbamaaGreat.Ent (Ent)
/-! ### Rows of things of one size -/
section
variable {α : Type} {f : α → List Value} {m : Nat}
def cellsG (f : α → List Value) (L : List α) : List Value := L.flatMap f
theorem cellsG_snoc (L : List α) (x : α) : cellsG f L ++ f x = cellsG f (L ++ [x]) := by simp [cellsG]
theorem cellsG_len (hf : ∀ x, (f x).length = m) : ∀ L : List α, (cellsG f L).length = L.length * m
  | [] => by simp [cellsG]
  | x :: r => by
    have := cellsG_len hf r
    simp only [cellsG, List.flatMap_cons, List.length_append, List.length_cons] at this ⊢
    rw [this, hf, Nat.add_mul, Nat.one_mul, Nat.add_comm]
theorem cellsG_at (hf : ∀ x, (f x).length = m) : ∀ (L : List α) (i : Nat) (x : α), L[i]? = some x → ∀ j, j < m → (cellsG f L)[i * m + j]? = (f x)[j]?
  | [], i, x, h => by simp at h
  | a :: l, 0, x, h => by
    simp at h; subst h
    intro j hj
    simp only [cellsG, List.flatMap_cons, Nat.zero_mul, Nat.zero_add]
    rw [List.getElem?_append_left (by rw [hf]; exact hj)]
  | a :: l, i + 1, x, h => by
    have h1 := cellsG_at hf l i x (by simpa using h)
    intro j hj
    simp only [cellsG, List.flatMap_cons] at h1 ⊢
    rw [List.getElem?_append_right (by rw [hf, Nat.add_mul]; omega), hf, show (i + 1) * m + j - m = i * m + j by rw [Nat.add_mul]; omega]
    exact h1 j hj
theorem own_at (hf : ∀ x, (f x).length = m) {w : World} {B i : Nat} {t : TypeId} {v : Value} {L : List α} {x : α} (h : w.ownsRow B t m v L.length (cellsG f L)) (hi : L[i]? = some x) :
    ∃ g c, v = .slice (some ⟨g, 0, none⟩) L.length c ∧ v.ownBlock = some g ∧ g < w.heap.size ∧ i < L.length ∧ ∀ j u, j < m → (f x)[j]? = some u → w.cell? ⟨g, i * m + j, none⟩ = some u := by
  have hlt := (List.getElem?_eq_some_iff.1 hi).1
  obtain ⟨g, c, e, e2, e3, hc⟩ := own_pos h (by omega)
  refine ⟨g, c, e, e2, e3, hlt, fun j u hj hu => ?_⟩
  have h1 : i * m + j < L.length * m := by
    have := Nat.mul_le_mul_right m (show i + 1 ≤ L.length by omega)
    rw [Nat.add_mul] at this; omega
  rw [hc _ h1, cellsG_at hf L i x hi j hj, hu]
end
theorem view_info {P : Program} {t : TypeId} {z : Value} {s b : Nat} (h : (P.info? t).map (fun i => (i.zero, i.size, i.bytes)) = some (some z, s, b)) : ∃ i, P.info? t = some i ∧ i.zero = some z ∧ i.size = s ∧ i.bytes = b := by
  cases e : P.info? t with
  | none => rw [e] at h; cases h
  | some i => rw [e] at h; simp at h; exact ⟨i, rfl, h.1, h.2.1, h.2.2⟩
def AppRes (w w' : World) (B : Nat) (T : TypeId) (size : Nat) (v v' : Value) (n : Nat) (xs : List Value) : Prop :=
  w'.ownsRow B T size v' n xs ∧ w.grownBy w' v.ownBlock ∧ (v'.ownBlock = v.ownBlock ∨ v'.ownBlock = some w.heap.size)
section
variable {w : World} {B : Nat} {α : Type} {f : α → List Value}
theorem run_appG {T TL ty : TypeId} {z : Value} {size bytes : Nat} (ht : Tryz.prog.underlying TL = some (.slice T)) (hI : (Tryz.prog.info? T).map (fun i => (i.zero, i.size, i.bytes)) = some (some z, size, bytes)) (hzs : z.cells.size = size) (hsz : 0 < size) (hby : bytes ≤ 32)
    (hf : ∀ x, (f x).length = size) (h1 : ∀ x, ∀ u ∈ f x, u.oneCell' = true)
    {v : Value} {L : List α} (hown : w.ownsRow B T size v L.length (cellsG f L)) {vb : Nat} {y : α} (hb : Blk w vb T (f y).toArray) (hn : L.length ≤ 2000000) (hB : B ≤ w.heap.size) :
    ∃ v' w', (Builtin.append_ #[TL, TL] ty #[v, .slice (some ⟨vb, 0, none⟩) 1 1]).run Tryz.prog w = .ok v' w' ∧ AppRes w w' B T size v v' (L ++ [y]).length (cellsG f (L ++ [y])) := by
  obtain ⟨i0, hi, hz0, hz1, hz2⟩ := view_info hI
  have hbb : (L.length + 1) * bytes ≤ 140737488355328 := by
    have : (L.length + 1) * bytes ≤ 3000000 * 32 := Nat.mul_le_mul (by omega) hby
    omega
  obtain ⟨v', w', hr, h2, h3, _, h5⟩ := run_append_own_at (P := Tryz.prog) w B TL ty T i0 z size bytes ht hi hz0 hz1 hz2 hzs hsz v L.length (cellsG f L) hown ⟨vb, 0, none⟩ 1 1 (f y) (by rw [hf, Nat.one_mul])
    (fun j z hj => by rw [Addr.add_lit, hb.cell, Nat.zero_add]; simpa using hj) (h1 y) (by unfold maxLen; omega) hbb hB
  rw [cellsG_snoc] at h2
  exact ⟨v', w', hr, by rw [List.length_append]; exact h2, h3, h5⟩
theorem wpList_runG {ops : Array Oper} {rest : List Oper} {o : Oper} {a : Act} {Q : Exit → Act → World → Prop} {T : TypeId} (hgd : o.guard = none) (s x : Operand)
    (ho : o.op = .call { callee := .builtin .append, args := #[s, x], argTypes := #[T, T] }) {v u v' : Value} {w' : World} (hs : a.eval s = v) (hx : a.eval x = u)
    (hr : (Builtin.append_ #[T, T] o.type #[v, u]).run Tryz.prog w = .ok v' w') (hK : wpList Tryz.prog ops Q rest (a.put o.dst v') w') : wpList Tryz.prog ops Q (o :: rest) a w := by
  refine wpList_plain hgd fun K hK' => ?_
  unfold Oper.wp execOp
  simp only [ho, resolve, invoke, builtin, Sem.run_bind, Sem.run_pure, Result.andThen_ok, List.map_toArray, List.map_cons, List.map_nil, hs, hx, hr]
  exact hK' _ _ hK
end
def loV (x : T3 × Int) : List Value := [.int .i64 x.1.cl, .int .i64 x.1.ep, .int .i64 x.1.n, .int .i64 x.2]
def txV (x : T3) : List Value := [.int .i64 x.cl, .int .i64 x.ep, .int .i64 x.n]
def fiV (x : Int × Int) : List Value := [.int .i64 x.1, .int .i64 x.2]
theorem info_lo : (Tryz.prog.info? 123).map (fun i => (i.zero, i.size, i.bytes)) = some (some (.agg #[.int .i64 0, .int .i64 0, .int .i64 0, .int .i64 0]), 4, 32) := by kernel_rfl
theorem info_tx : (Tryz.prog.info? 56).map (fun i => (i.zero, i.size, i.bytes)) = some (some (.agg #[.int .i64 0, .int .i64 0, .int .i64 0]), 3, 24) := by kernel_rfl
theorem info_fi : (Tryz.prog.info? 157).map (fun i => (i.zero, i.size, i.bytes)) = some (some (.agg #[.int .i64 0, .int .i64 0]), 2, 16) := by kernel_rfl
section
variable {w : World} {ops : Array Oper} {rest : List Oper} {o : Oper} {a : Act} {Q : Exit → Act → World → Prop}
theorem wpList_appL (hgd : o.guard = none) (s x : Operand) (ho : o.op = .call { callee := .builtin .append, args := #[s, x], argTypes := #[116, 116] }) (B : Nat)
    (v : Value) (L : List (T3 × Int)) (hs : a.eval s = v) (y : T3 × Int) (hown : w.ownsRow B 123 4 v L.length (cellsG loV L)) (vb : Nat) (hx : a.eval x = .slice (some ⟨vb, 0, none⟩) 1 1) (hb : Blk w vb 123 #[.int .i64 y.1.cl, .int .i64 y.1.ep, .int .i64 y.1.n, .int .i64 y.2]) (hn : L.length ≤ 2000000) (hB : B ≤ w.heap.size)
    (hK : ∀ v' w', AppRes w w' B 123 4 v v' (L ++ [y]).length (cellsG loV (L ++ [y])) → wpList Tryz.prog ops Q rest (a.put o.dst v') w') : wpList Tryz.prog ops Q (o :: rest) a w := by
  obtain ⟨v', w', hr, h2⟩ := run_appG (ty := o.type) (f := loV) Tryz.underlying116 info_lo rfl (by decide) (by decide) (fun _ => rfl) (fun x u hu => by simp [loV] at hu; rcases hu with rfl | rfl | rfl | rfl <;> rfl) hown (y := y) hb hn hB
  exact wpList_runG hgd s x ho hs hx hr (hK v' w' h2)
theorem wpList_appT (hgd : o.guard = none) (s x : Operand) (ho : o.op = .call { callee := .builtin .append, args := #[s, x], argTypes := #[117, 117] }) (B : Nat)
    (v : Value) (L : List T3) (hs : a.eval s = v) (y : T3) (hown : w.ownsRow B 56 3 v L.length (cellsG txV L)) (vb : Nat) (hx : a.eval x = .slice (some ⟨vb, 0, none⟩) 1 1) (hb : Blk w vb 56 #[.int .i64 y.cl, .int .i64 y.ep, .int .i64 y.n]) (hn : L.length ≤ 2000000) (hB : B ≤ w.heap.size)
    (hK : ∀ v' w', AppRes w w' B 56 3 v v' (L ++ [y]).length (cellsG txV (L ++ [y])) → wpList Tryz.prog ops Q rest (a.put o.dst v') w') : wpList Tryz.prog ops Q (o :: rest) a w := by
  obtain ⟨v', w', hr, h2⟩ := run_appG (ty := o.type) (f := txV) Tryz.underlying117 info_tx rfl (by decide) (by decide) (fun _ => rfl) (fun x u hu => by simp [txV] at hu; rcases hu with rfl | rfl | rfl <;> rfl) hown (y := y) hb hn hB
  exact wpList_runG hgd s x ho hs hx hr (hK v' w' h2)
theorem wpList_appF (hgd : o.guard = none) (s x : Operand) (ho : o.op = .call { callee := .builtin .append, args := #[s, x], argTypes := #[118, 118] }) (B : Nat)
    (v : Value) (L : List (Int × Int)) (hs : a.eval s = v) (y : Int × Int) (hown : w.ownsRow B 157 2 v L.length (cellsG fiV L)) (vb : Nat) (hx : a.eval x = .slice (some ⟨vb, 0, none⟩) 1 1) (hb : Blk w vb 157 #[.int .i64 y.1, .int .i64 y.2]) (hn : L.length ≤ 2000000) (hB : B ≤ w.heap.size)
    (hK : ∀ v' w', AppRes w w' B 157 2 v v' (L ++ [y]).length (cellsG fiV (L ++ [y])) → wpList Tryz.prog ops Q rest (a.put o.dst v') w') : wpList Tryz.prog ops Q (o :: rest) a w := by
  obtain ⟨v', w', hr, h2⟩ := run_appG (ty := o.type) (f := fiV) Tryz.underlying118 info_fi rfl (by decide) (by decide) (fun _ => rfl) (fun x u hu => by simp [fiV] at hu; rcases hu with rfl | rfl <;> rfl) hown (y := y) hb hn hB
  exact wpList_runG hgd s x ho hs hx hr (hK v' w' h2)
end
/-! ### The three rows -/
structure Rows3 (w : World) (B : Nat) (sl dn pg : Value) (V : Vw) : Prop where
  lo : w.ownsRow B 123 4 sl V.los.length (cellsG loV V.los)
  tx : w.ownsRow B 56 3 dn V.dn.length (cellsG txV V.dn)
  fi : w.ownsRow B 157 2 pg V.pg.length (cellsG fiV V.pg)
  d1 : ∀ g, sl.ownBlock = some g → dn.ownBlock ≠ some g
  d2 : ∀ g, sl.ownBlock = some g → pg.ownBlock ≠ some g
  d3 : ∀ g, dn.ownBlock = some g → pg.ownBlock ≠ some g
/-- .. in a variable -/
structure VV (w : World) (B u : Nat) (sl dn pg : Value) (V : Vw) : Prop extends Rows3 w B sl dn pg V where
  blk : Blk w u 120 #[sl, dn, pg]
  lt : u < B
section
variable {w w' : World} {B u : Nat} {sl dn pg : Value} {V : Vw}
theorem Rows3.below (h : Rows3 w B sl dn pg V) (hb : Below w.heap.size w w') : Rows3 w' B sl dn pg V :=
  ⟨own_below h.lo hb, own_below h.tx hb, own_below h.fi hb, h.d1, h.d2, h.d3⟩
theorem VV.below (h : VV w B u sl dn pg V) (hb : Below w.heap.size w w') : VV w' B u sl dn pg V := ⟨h.toRows3.below hb, h.blk.below hb h.blk.lt, h.lt⟩
theorem Rows3.base {B' : Nat} (h : Rows3 w B sl dn pg V) (hB : B' ≤ B) : Rows3 w B' sl dn pg V := ⟨own_base h.lo hB, own_base h.tx hB, own_base h.fi hB, h.d1, h.d2, h.d3⟩
theorem rows3_nil (w : World) (B : Nat) : Rows3 w B (.slice none 0 0) (.slice none 0 0) (.slice none 0 0) v0 :=
  ⟨own_nil _ _ _ _, own_nil _ _ _ _, own_nil _ _ _ _, (fun _ e => nomatch e), (fun _ e => nomatch e), (fun _ e => nomatch e)⟩
theorem own_off {w : World} {B u n size : Nat} {t : TypeId} {v : Value} {xs : List Value} (h : w.ownsRow B t size v n xs) (hu : u < B) : v.ownBlock ≠ some u := fun e => by have := own_ge h e; omega
/-- the losers' row is another one, made newly -/
theorem VV.setLos (h : VV w B u sl dn pg V) {N : Nat} {sl' : Value} {L : List (T3 × Int)} (ho : w.ownsRow N 123 4 sl' L.length (cellsG loV L)) (hBN : B ≤ N) (hN : ∀ g, dn.ownBlock = some g ∨ pg.ownBlock = some g → g < N) :
    VV (w.setCell ⟨u, 0, none⟩ sl') B u sl' dn pg ⟨L, V.dn, V.pg⟩ where
  lo := own_set (own_base ho hBN) (own_off (own_base ho hBN) h.lt) _ _
  tx := own_set h.tx (own_off h.tx h.lt) _ _
  fi := own_set h.fi (own_off h.fi h.lt) _ _
  d1 := fun g e e2 => by have := own_ge ho e; have := hN g (.inl e2); omega
  d2 := fun g e e2 => by have := own_ge ho e; have := hN g (.inr e2); omega
  d3 := h.d3
  blk := h.blk.set_ 0 sl'
  lt := h.lt
/-- .. the pages' -/
theorem VV.setPg (h : VV w B u sl dn pg V) {N : Nat} {pg' : Value} {L : List (Int × Int)} (ho : w.ownsRow N 157 2 pg' L.length (cellsG fiV L)) (hBN : B ≤ N) (hN : ∀ g, dn.ownBlock = some g ∨ sl.ownBlock = some g → g < N) :
    VV (w.setCell ⟨u, 2, none⟩ pg') B u sl dn pg' ⟨V.los, V.dn, L⟩ where
  lo := own_set h.lo (own_off h.lo h.lt) _ _
  tx := own_set h.tx (own_off h.tx h.lt) _ _
  fi := own_set (own_base ho hBN) (own_off (own_base ho hBN) h.lt) _ _
  d1 := h.d1
  d2 := fun g e e2 => by have := own_ge ho e2; have := hN g (.inr e); omega
  d3 := fun g e e2 => by have := own_ge ho e2; have := hN g (.inl e); omega
  blk := h.blk.set_ 2 pg'
  lt := h.lt
/-- one more is done: appended in place, or in a new row -/
theorem VV.addDn (h : VV w B u sl dn pg V) {dn' : Value} {y : T3} (ha : AppRes w w' B 56 3 dn dn' (V.dn ++ [y]).length (cellsG txV (V.dn ++ [y]))) :
    VV (w'.setCell ⟨u, 1, none⟩ dn') B u sl dn' pg ⟨V.los, V.dn ++ [y], V.pg⟩ := by
  obtain ⟨ho, hg, hu⟩ := ha
  have hlo : w'.ownsRow B 123 4 sl V.los.length (cellsG loV V.los) := own_same h.lo fun g e => hg.block g (own_lt h.lo e) (fun e2 => h.d1 g e e2.symm)
  have hfi : w'.ownsRow B 157 2 pg V.pg.length (cellsG fiV V.pg) := own_same h.fi fun g e => hg.block g (own_lt h.fi e) (fun e2 => h.d3 g e2.symm e)
  have hb : Blk w' u 120 #[sl, dn, pg] := (hg.block u h.blk.lt (fun e => own_off h.tx h.lt e.symm)).trans h.blk
  exact {
    lo := own_set hlo (own_off hlo h.lt) _ _
    tx := own_set ho (own_off ho h.lt) _ _
    fi := own_set hfi (own_off hfi h.lt) _ _
    d1 := fun g e e2 => by
      rcases hu with e3 | e3
      · exact h.d1 g e (by rw [← e3]; exact e2)
      · rw [e3] at e2; injection e2 with e2; have := own_lt h.lo e; omega
    d2 := h.d2
    d3 := fun g e e2 => by
      rcases hu with e3 | e3
      · exact h.d3 g (by rw [← e3]; exact e) e2
      · rw [e3] at e; injection e with e; have := own_lt h.fi e2; omega
    blk := hb.set_ 1 dn'
    lt := h.lt }
end
end Go.Proofs.YtkeocnhndnbamaaGreat.Past
namespace Go.Proofs.YtkeocnhndnbamaaGreat.Past
set_option maxRecDepth 100000
open Go.RowKit Go.Sort
open Go.Proofs.YtkeocnhndnbamaaGreat.Mem
open Go.Proofs.YtkeocnhndnbamaaGreat.Ent (Ent goodB Ents EntAt SmallE noE entA cellsE cellsE_length cellsE_get)
theorem run_appW0 {P : Program} {w : World} (base : Nat) (t ty e : TypeId) (i : TypeInfo) (size : Nat) (ht : P.underlying t = some (.slice e)) (hi : P.info? e = some i)
    (v : Value) (n : Nat) (xs : List Value) (hown : w.ownsRow base e size v n xs) (a : Option Addr) (c : Nat) :
    (Builtin.append_ #[t, t] ty #[v, .slice a 0 c]).run P w = .ok v w := by
  rcases hown.2 with ⟨rfl, rfl⟩ | ⟨g, cap, cur, rfl, _, _, hnc, _⟩
  · cases a <;> simp [Builtin.append_, run_underlying ht, sizeOf, typeInfo, hi, Builtin.lenOf, Builtin.firstCells, loadCells, loadCellsFrom]
  · cases a <;> simp [Builtin.append_, run_underlying ht, sizeOf, typeInfo, hi, Builtin.lenOf, Builtin.firstCells, hnc, storeCells, loadCells, loadCellsFrom]
section
variable {w : World} {B : Nat}
theorem run_appW {T TL ty : TypeId} {z : Value} {size bytes : Nat} (ht : Tryz.prog.underlying TL = some (.slice T)) (hI : (Tryz.prog.info? T).map (fun i => (i.zero, i.size, i.bytes)) = some (some z, size, bytes)) (hzs : z.cells.size = size) (hsz : 0 < size) (hby : bytes ≤ 120)
    {v : Value} {n : Nat} {xs : List Value} (hown : w.ownsRow B T size v n xs) (a : Option Addr) (m c : Nat) (ys : List Value) (hl : ys.length = m * size)
    (hs : 0 < m → ∃ g, a = some g ∧ ∀ j u, ys[j]? = some u → w.cell? (g.add j) = some u) (h1 : ∀ u ∈ ys, u.oneCell' = true) (hn : n + m ≤ 1000000) (hB : B ≤ w.heap.size) :
    ∃ v' w', (Builtin.append_ #[TL, TL] ty #[v, .slice a m c]).run Tryz.prog w = .ok v' w' ∧ AppRes w w' B T size v v' (n + m) (xs ++ ys) := by
  obtain ⟨i0, hi, hz0, hz1, hz2⟩ := view_info hI
  rcases Nat.eq_zero_or_pos m with rfl | hm
  · have hy : ys = [] := List.eq_nil_of_length_eq_zero (by omega)
    subst hy
    refine ⟨v, w, run_appW0 B TL ty T i0 size ht hi v n xs hown a c, ?_, ⟨rfl, rfl, rfl, Nat.le_refl _, fun _ _ _ => rfl⟩, .inl rfl⟩
    rw [List.append_nil]
    exact hown
  · obtain ⟨g, rfl, hc⟩ := hs hm
    have hbb : (n + m) * bytes ≤ 140737488355328 := by
      have : (n + m) * bytes ≤ 1000000 * 120 := Nat.mul_le_mul hn hby
      omega
    obtain ⟨v', w', hr, h2, h3, _, h5⟩ := run_append_own_at (P := Tryz.prog) w B TL ty T i0 z size bytes ht hi hz0 hz1 hz2 hzs hsz v n xs hown g m c ys hl hc h1 (by unfold maxLen; omega) hbb hB
    exact ⟨v', w', hr, h2, h3, h5⟩
variable {ops : Array Oper} {rest : List Oper} {o : Oper} {a : Act} {Q : Exit → Act → World → Prop}
theorem wpList_wholeE (hgd : o.guard = none) (s x : Operand) (ho : o.op = .call { callee := .builtin .append, args := #[s, x], argTypes := #[29, 29] }) (B : Nat)
    (v : Value) (Z L : List Ent) (hs : a.eval s = v) (hown : w.ownsRow B 58 13 v Z.length (cellsE Z)) (ad : Option Addr) (m c : Nat) (hx : a.eval x = .slice ad m c) (hE : Ents w ad m L) (hn : Z.length + m ≤ 1000000) (hB : B ≤ w.heap.size)
    (hK : ∀ v' w', AppRes w w' B 58 13 v v' (Z ++ L).length (cellsE (Z ++ L)) → wpList Tryz.prog ops Q rest (a.put o.dst v') w') : wpList Tryz.prog ops Q (o :: rest) a w := by
  have hl := hE.1
  obtain ⟨v', w', hr, h2⟩ := run_appW (ty := o.type) (z := .agg #[.int .i64 0, .int .i64 0, .int .i64 0, .int .i64 0, .int .i64 0, .int .i64 0, .int .i64 0, .int .i64 0, .bool false, .string ⟨#[]⟩, .bool false, .string ⟨#[]⟩, .int .i64 0]) Tryz.underlying29 infoE rfl (by decide) (by decide) hown ad m c (cellsE L) (by rw [cellsE_length, hl]) (fun hm => by
      obtain ⟨b, off, rfl, hb, hc⟩ := hE.2.2 hm
      refine ⟨_, rfl, fun j u hj => ?_⟩
      have hlt := (List.getElem?_eq_some_iff.1 hj).1
      rw [cellsE_length] at hlt
      have hi : j / 13 < m := by rw [← hl]; exact Nat.div_lt_of_lt_mul (by omega)
      have hx : L[j / 13]? = some (L.getD (j / 13) noE) := by simp [List.getD, hl ▸ hi]
      have hm2 : (entA (L.getD (j / 13) noE))[j % 13]? = some ((entA (L.getD (j / 13) noE))[j % 13]'(Nat.mod_lt _ (by decide))) := Array.getElem?_eq_getElem _
      have h3 := cellsE_get hx (j % 13) _ hm2
      rw [show j / 13 * 13 + j % 13 = j by omega, hj] at h3
      have h4 := hc (j / 13) hi (j % 13) _ hm2
      rw [show off + j / 13 * 13 + j % 13 = off + j by omega] at h4
      rw [Addr.add_lit, h4, h3])
    (fun u hu => by
      obtain ⟨y, -, hy⟩ := List.mem_flatMap.1 hu
      simp [entA] at hy
      rcases hy with rfl | rfl | rfl | rfl | rfl | rfl | rfl | rfl | rfl | rfl | rfl | rfl | rfl <;> rfl) hn hB
  refine wpList_runG hgd s x ho hs hx hr (hK v' w' ?_)
  rw [List.length_append, hl]
  unfold cellsE at h2 ⊢
  rw [List.flatMap_append]
  exact h2
theorem wpList_wholeT (hgd : o.guard = none) (s x : Operand) (ho : o.op = .call { callee := .builtin .append, args := #[s, x], argTypes := #[117, 117] }) (B : Nat)
    (v : Value) (Z L : List T3) (hs : a.eval s = v) (hown : w.ownsRow B 56 3 v Z.length (cellsG txV Z)) (u : Value) (B2 : Nat) (hx : a.eval x = u) (hE : w.ownsRow B2 56 3 u L.length (cellsG txV L)) (hn : Z.length + L.length ≤ 1000000) (hB : B ≤ w.heap.size)
    (hK : ∀ v' w', AppRes w w' B 56 3 v v' (Z ++ L).length (cellsG txV (Z ++ L)) → wpList Tryz.prog ops Q rest (a.put o.dst v') w') : wpList Tryz.prog ops Q (o :: rest) a w := by
  obtain ⟨ad, c, rfl⟩ := own_shape hE
  obtain ⟨v', w', hr, h2⟩ := run_appW (ty := o.type) Tryz.underlying117 info_tx rfl (by decide) (by decide) hown ad L.length c (cellsG txV L) (cellsG_len (m := 3) (fun _ => rfl) L) (fun hm => by
      obtain ⟨g, c', e, -, -, hc⟩ := own_pos hE hm
      injection e with e1 e2 e3
      subst e1
      refine ⟨_, rfl, fun j u hj => ?_⟩
      have hlt := (List.getElem?_eq_some_iff.1 hj).1
      rw [cellsG_len (m := 3) (fun _ => rfl)] at hlt
      rw [Addr.add_lit, Nat.zero_add, hc j hlt, hj])
    (fun u hu => by
      obtain ⟨y, -, hy⟩ := List.mem_flatMap.1 hu
      simp [txV] at hy
      rcases hy with rfl | rfl | rfl <;> rfl) hn hB
  refine wpList_runG hgd s x ho hs hx hr (hK v' w' ?_)
  rw [List.length_append]
  unfold cellsG at h2 ⊢
  rw [List.flatMap_append]
  exact h2
end
end Go.Proofs.YtkeocnhndnbamaaGreat.Past
namespace Go.Proofs.YtkeocnhndnbamaaGreat.Mend
set_option maxRecDepth 100000
open Go.RowKit Go.Sort
open Go.Proofs.YtkeocnhndnbamaaGreat.Mem
open Go.Proofs.YtkeocnhndnbamaaGreat.Slab (Slot)
open Go.Proofs.YtkeocnhndnbamaaGreat.Ent (Ent SmallE cellsE)
open Go.Proofs.YtkeocnhndnbamaaGreat.Past (AppRes)
/-- a page's slots, in the blocks M -/
def SlotsM (M : Nat → Prop) (w : World) (a : Option Addr) (n : Nat) (z : List Slot) : Prop := Slab.Slots w a n z ∧ n ≤ 1000000 ∧ ∀ b off e, a = some ⟨b, off, e⟩ → 0 < n → M b
section
variable {M M' : Nat → Prop} {w w' : World} {a : Option Addr} {n : Nat} {z : List Slot}
theorem SlotsM.keep (h : SlotsM M w a n z) (hk : Keep M w w') : SlotsM M w' a n z := by
  obtain ⟨⟨h1, h2, h3⟩, hn, hm⟩ := h
  refine ⟨⟨h1, h2, fun hn => ?_⟩, hn, hm⟩
  obtain ⟨b, off, ha, hlt, hc⟩ := h3 hn
  have hb := hm b off none ha hn
  refine ⟨b, off, ha, Nat.lt_of_lt_of_le hlt hk.size, fun i hi => ?_⟩
  obtain ⟨c1, c2⟩ := hc i hi
  exact ⟨(hk.cell (p := ⟨b, off + i * 2, none⟩) hb).trans c1, (hk.cell (p := ⟨b, off + i * 2 + 1, none⟩) hb).trans c2⟩
theorem SlotsM.mono (h : SlotsM M w a n z) (hm : ∀ k, M k → M' k) : SlotsM M' w a n z := ⟨h.1, h.2.1, fun b off e ha hn => hm b (h.2.2 b off e ha hn)⟩
end
/-- four pages in a row, in the blocks M -/
def NowR (M : Nat → Prop) (w : World) (v : Value) (nw : Pgs) : Prop :=
  ∃ g c, v = .slice (some ⟨g, 0, none⟩) 4 c ∧ M g ∧ g < w.heap.size ∧ ∀ i : Nat, i < 4 → ∃ a m d, w.cell? ⟨g, i * 3, none⟩ = some (.int .i64 (i : Int)) ∧ w.cell? ⟨g, i * 3 + 1, none⟩ = some (.int .i64 (nw i).1) ∧
    w.cell? ⟨g, i * 3 + 2, none⟩ = some (.slice a m d) ∧ SlotsM M w a m (nw i).2
section
variable {M M' : Nat → Prop} {w w' : World} {v : Value} {nw : Pgs}
theorem NowR.keep (h : NowR M w v nw) (hk : Keep M w w') : NowR M w' v nw := by
  obtain ⟨g, c, e, hm, hlt, hc⟩ := h
  refine ⟨g, c, e, hm, Nat.lt_of_lt_of_le hlt hk.size, fun i hi => ?_⟩
  obtain ⟨a, m, d, c1, c2, c3, hs⟩ := hc i hi
  exact ⟨a, m, d, (hk.cell (p := ⟨g, i * 3, none⟩) hm).trans c1, (hk.cell (p := ⟨g, i * 3 + 1, none⟩) hm).trans c2, (hk.cell (p := ⟨g, i * 3 + 2, none⟩) hm).trans c3, hs.keep hk⟩
theorem NowR.mono (h : NowR M w v nw) (hm : ∀ k, M k → M' k) : NowR M' w v nw := by
  obtain ⟨g, c, e, h1, hlt, hc⟩ := h
  refine ⟨g, c, e, hm g h1, hlt, fun i hi => ?_⟩
  obtain ⟨a, m, d, c1, c2, c3, hs⟩ := hc i hi
  exact ⟨a, m, d, c1, c2, c3, hs.mono hm⟩
end
def pastA (lv nv av : Value) (p : PD) : Array Value := #[lv, nv, av, .int .i64 (p.owner 0), .int .i64 (p.owner 1), .int .i64 (p.owner 2), .int .i64 (p.owner 3),
  .int .i64 (p.txn 0), .int .i64 (p.txn 1), .int .i64 (p.txn 2), .int .i64 (p.txn 3), .int .i64 (p.txn 4), .int .i64 (p.last 0), .int .i64 (p.last 1), .int .i64 (p.last 2), .int .i64 (p.last 3), .int .i64 (p.last 4)]
structure PM (w : World) (B u : Nat) (M : Nat → Prop) (lv nv av : Value) (p : PD) : Prop where
  blk : Blk w u 34 (pastA lv nv av p)
  list : w.ownsRow B 58 13 lv p.list.length (cellsE p.list)
  small : ∀ x ∈ p.list, SmallE x
  now : NowR M w nv p.now
  all : ∃ vs : List Value, vs.length = p.all.length ∧ w.ownsRow B 30 1 av p.all.length vs ∧ ∀ (k : Nat) (v : Value) (nw : Pgs), vs[k]? = some v → p.all[k]? = some nw → NowR M w v nw
  mu : ¬ M u
  ml : ∀ g, lv.ownBlock = some g → ¬ M g
  ma : ∀ g, av.ownBlock = some g → ¬ M g
  mlt : ∀ g, M g → g < w.heap.size
section
variable {w w' : World} {B u : Nat} {M : Nat → Prop} {lv nv av : Value} {p : PD}
theorem PM.below (h : PM w B u M lv nv av p) (hb : Below w.heap.size w w') : PM w' B u M lv nv av p := by
  have hk : Keep M w w' := Keep.of_below hb h.mlt
  obtain ⟨vs, v1, v2, v3⟩ := h.all
  exact ⟨h.blk.below hb h.blk.lt, own_below h.list hb, h.small, h.now.keep hk, ⟨vs, v1, own_below v2 hb, fun k v nw e1 e2 => (v3 k v nw e1 e2).keep hk⟩, h.mu, h.ml, h.ma, fun g hg => Nat.lt_of_lt_of_le (h.mlt g hg) hb.size⟩
theorem PM.txn (h : PM w B u M lv nv av p) {k : Nat} (hk : k < 5) : w.cell? ⟨u, 7 + k, none⟩ = some (.int .i64 (p.txn k)) := by
  rw [h.blk.cell]
  rcases (show k = 0 ∨ k = 1 ∨ k = 2 ∨ k = 3 ∨ k = 4 by omega) with rfl | rfl | rfl | rfl | rfl <;> rfl
theorem PM.last (h : PM w B u M lv nv av p) {k : Nat} (hk : k < 5) : w.cell? ⟨u, 12 + k, none⟩ = some (.int .i64 (p.last k)) := by
  rw [h.blk.cell]
  rcases (show k = 0 ∨ k = 1 ∨ k = 2 ∨ k = 3 ∨ k = 4 by omega) with rfl | rfl | rfl | rfl | rfl <;> rfl
theorem PM.owner (h : PM w B u M lv nv av p) {k : Nat} (hk : k < 4) : w.cell? ⟨u, 3 + k, none⟩ = some (.int .i64 (p.owner k)) := by
  rw [h.blk.cell]
  rcases (show k = 0 ∨ k = 1 ∨ k = 2 ∨ k = 3 by omega) with rfl | rfl | rfl | rfl <;> rfl
set_option maxRecDepth 100000 in
theorem txn_any (h : PM w B u M lv nv av p) {k : Nat} (hk : k < 5) :
    Calls Tryz.prog 17 #[.pointer (some ⟨u, 0, none⟩), .int .i64 (k : Int)] w fun e w' => e = .returned (.agg #[.int .i64 (k : Int), .int .i64 1, .int .i64 (p.txn k)]) ∧ Below w.heap.size w w' := by
  have ht := (h.below (Ent.below_box w (.cells #[.int .i64 0, .int .i64 0, .int .i64 0] 56))).txn hk
  have hb := Ent.below_box w (.cells #[.int .i64 0, .int .i64 0, .int .i64 0] 56)
  go_enter Tryz.func17, Tryz.ntmps17
  go_wp2
  exact bodyPost_ret (v := .agg #[.int .i64 (k : Int), .int .i64 1, .int .i64 (p.txn k)]) (by simp [results, Tryz.results17, go_sem]) rfl ⟨rfl, Ent.below_box w _⟩
theorem PM.page (h : PM w B u M lv nv av p) {i : Nat} (hi : i < 4) : ∃ g c a m d, nv = .slice (some ⟨g, 0, none⟩) 4 c ∧ M g ∧ w.cell? ⟨g, i * 3, none⟩ = some (.int .i64 (i : Int)) ∧ w.cell? ⟨g, i * 3 + 1, none⟩ = some (.int .i64 (p.now i).1) ∧
    w.cell? ⟨g, i * 3 + 2, none⟩ = some (.slice a m d) ∧ SlotsM M w a m (p.now i).2 := by
  obtain ⟨g, c, e, hm, -, hc⟩ := h.now
  obtain ⟨a, m, d, c1, c2, c3, hs⟩ := hc i hi
  exact ⟨g, c, a, m, d, e, hm, c1, c2, c3, hs⟩
set_option maxRecDepth 100000 in
theorem lsn_any (h : PM w B u M lv nv av p) {k i : Nat} (hk : k < 5) (hi : i < 4) (hl : 0 ≤ p.last k ∧ p.last k ≤ 1000000) (hn : 0 ≤ (p.now i).1 ∧ (p.now i).1 ≤ 1000000) :
    Calls Tryz.prog 20 #[.pointer (some ⟨u, 0, none⟩), .int .i64 (k : Int), .int .i64 (i : Int)] w fun e w' => e = .returned (.int .i64 (lsnP p k i)) ∧ Below w.heap.size w w' := by
  have h12 := h.last hk
  obtain ⟨g, c, a, m, d, rfl, -, -, c1, -, -⟩ := h.page hi
  have hnv : w.cell? ⟨u, 1, none⟩ = some (.slice (some ⟨g, 0, none⟩) 4 c) := by rw [h.blk.cell]; rfl
  have hlt : decide ((i : Int) < 4) = true := decide_eq_true (by omega)
  have hdef : lsnP p k i = max (p.last k) (p.now i).1 + 1 := rfl
  obtain ⟨X, hX⟩ : ∃ X, p.last k = X := ⟨_, rfl⟩
  obtain ⟨Y, hY⟩ : ∃ Y, (p.now i).1 = Y := ⟨_, rfl⟩
  rw [hX, hY] at hdef
  rw [hX] at h12 hl
  rw [hY] at c1 hn
  rw [hdef]
  have hw : IntKind.i64.wrap (max X Y + 1) = max X Y + 1 := by rw [IntKind.wrap_i64]; omega
  clear h hX hY hdef
  go_enter Tryz.func20, Tryz.ntmps20
  go_upto_region 1 with (fail)
  go_quiet (fail)
  have hmx : (if X < Y then Y else X) = max X Y := by split <;> omega
  try rw [hmx]
  go_wp2
  go_ret
  exact ⟨rfl, ⟨rfl, rfl, rfl, Nat.le_refl _, fun _ _ => rfl⟩⟩
theorem below_go {W a b : World} (h : Below W.heap.size W a) (k : Below a.heap.size a b) : Below W.heap.size W b := h.trans (k.mono h.size)
def intN : Value → Nat
  | .int _ i => i.toNat
  | _ => 0
/-- whether a client's transaction has begun -/
theorem begun_next {L : List Ent} {i : Nat} {x : Ent} (t : Past.T3) (h : L[i]? = some x) : (L.take (i + 1)).any (fun y => decide (Past.txE y = t)) = ((L.take i).any (fun y => decide (Past.txE y = t)) || decide (Past.txE x = t)) := by
  rw [List.take_add_one, h, List.any_append]; simp
set_option maxRecDepth 100000 in
set_option maxHeartbeats 4000000 in
theorem begun_any (h : PM w B u M lv nv av p) {k : Nat} (hk : k < 5) (hlen : p.list.length ≤ 1000000) :
    Calls Tryz.prog 68 #[.pointer (some ⟨u, 0, none⟩), .int .i64 (k : Int)] w fun e w' => e = .returned (.bool (begunP p k)) ∧ Below w.heap.size w w' := by
  obtain ⟨la, lc, rfl⟩ := own_shape h.list
  have HB := Lib.hid (show begunP p k = p.list.any fun y => decide (Past.txE y = ⟨(k : Int), 1, p.txn k⟩) from rfl)
  have HH := Lib.hid h
  clear h
  go_enter Tryz.func68, Tryz.ntmps68
  go_wp2
  go_loopw [5] (fun iv wr => ∃ j : Nat, j ≤ p.list.length ∧ iv = .int .i64 (j : Int) ∧ Hid (Below w.heap.size w wr ∧ (p.list.take j).any (fun y => decide (Past.txE y = ⟨(k : Int), 1, p.txn k⟩)) = false)) (fun iv _ => p.list.length - intN iv)
  case atStart => exact ⟨0, Nat.zero_le _, rfl, Lib.hid ⟨Below.refl _ _, by simp⟩⟩
  case round =>
    obtain ⟨j, hj, rfl, H⟩ := hrel
    have HR := Lib.hid (HH.out.below H.out.1)
    have l0 : wr.cell? ⟨u, 0, none⟩ = some (.slice la p.list.length lc) := by rw [HR.out.blk.cell]; rfl
    by_cases hjl : j < p.list.length
    · have hy : p.list[j]? = some (p.list[j]'hjl) := List.getElem?_eq_getElem hjl
      generalize p.list[j]'hjl = y at hy
      have hd : decide ((j : Int) < (p.list.length : Int)) = true := decide_eq_true (by omega)
      obtain ⟨a2, c2, e2, hE, -⟩ := Past.ents_own HR.out.list HR.out.small
      injection e2 with e3 e4 e5
      subst e3 e5
      obtain ⟨b, off, rfl, -, hat, -, -⟩ := Past.ents_mem hE hy
      obtain ⟨_, s1, s2, s3, _⟩ := hat.cells
      have q0 := cell_regrown l0
      have q1 := cell_regrown s1
      have q2 := cell_regrown s2
      have q3 := cell_regrown s3
      have cT : ∀ dd os, Calls Tryz.prog 17 #[.pointer (some ⟨u, 0, none⟩), .int .i64 (k : Int)] (grow (redrawn wr dd) os) fun e w'' => e = .returned (.agg #[.int .i64 (k : Int), .int .i64 1, .int .i64 (p.txn k)]) ∧ ∃ p : Regrown, w'' = grow (redrawn wr p.d) p.os := fun dd os => Calls.regrown_of (txn_any (HR.out.below (below_regrown _ _ _)) hk)
      have hq := fun W => Past.run_eq_txn (Past.txE y) ⟨(k : Int), 1, p.txn k⟩ W
      have hgd := fun (A B : Operand) xs ys W => Past.run_guard_txn .eql A B xs ys W
      have HN := Lib.hid (begun_next ⟨(k : Int), 1, p.txn k⟩ hy)
      have HS := Lib.hid (Past.sameT_eq (Past.txE y) ⟨(k : Int), 1, p.txn k⟩)
      obtain ⟨sb, hsb⟩ : ∃ sb, Past.sameT (Past.txE y) ⟨(k : Int), 1, p.txn k⟩ = sb := ⟨_, rfl⟩
      rw [hsb] at HS
      rw [hsb] at hq
      clear hsb
      unfold Past.txE at hq
      dsimp only at hq
      clear e4 hE hat s1 s2 s3 hy
      go_upto_region 4 with (fail)
      refine wp_region_quiet_below (by kernel_rfl) (by kernel_rfl) ?_
      repeat (go_big_quiet_step ((with_reducible exact cT _ _)))
      refine wpQuiet_nil ?_
      intro _ hw'
      obtain ⟨⟨dq, osq⟩, hw''⟩ := hw'
      subst hw''
      have b5 := below_regrown wr dq osq
      generalize grow (redrawn wr dq) osq = w5 at b5 ⊢
      have HB5 := Lib.hid (below_go H.out.1 b5)
      clear b5 cT q0 q1 q2 q3
      cases sb with
      | true =>
        go_wp2
        go_ret
        refine ⟨?_, HB5.out⟩
        rw [HB.out]
        have : (p.list.take (j + 1)).any (fun y => decide (Past.txE y = ⟨(k : Int), 1, p.txn k⟩)) = true := by rw [HN.out, ← HS.out]; simp
        rw [List.any_eq_true] at this
        obtain ⟨z, hz, hz2⟩ := this
        have h2 : p.list.any (fun y => decide (Past.txE y = ⟨(k : Int), 1, p.txn k⟩)) = true := List.any_eq_true.2 ⟨z, List.mem_of_mem_take hz, hz2⟩
        rw [h2]
        rfl
      | false =>
        go_wp2
        go_roundw
        case rel => exact ⟨j + 1, by omega, by go_num, Lib.hid ⟨HB5.out, by rw [HN.out, H.out.2, ← HS.out]; rfl⟩⟩
        case measure => simp [intN]; omega
    · obtain rfl : j = p.list.length := by omega
      have hd : decide ((p.list.length : Int) < (p.list.length : Int)) = false := decide_eq_false (by omega)
      go_wp2
      go_ret
      refine ⟨?_, H.out.1⟩
      have := H.out.2
      rw [List.take_length] at this
      rw [HB.out, this]
      rfl
end
end Go.Proofs.YtkeocnhndnbamaaGreat.Mend
namespace Go.Proofs.YtkeocnhndnbamaaGreat.Mend
set_option maxRecDepth 100000
open Go.RowKit Go.Sort
open Go.Proofs.YtkeocnhndnbamaaGreat.Mem
theorem own_ty {w : World} {B size n k : Nat} {t t' : TypeId} {v : Value} {xs : List Value} {cs : Array Value} (h : w.ownsRow B t size v n xs) (hk : Blk w k t' cs) (hne : t' ≠ t) : v.ownBlock ≠ some k := fun e => by
  obtain ⟨_, ⟨rfl, _⟩ | ⟨gg, cap, cur, rfl, _, hb, _⟩⟩ := h
  · cases e
  · simp [Value.ownBlock] at e
    subst e
    unfold Blk at hk
    rw [hb] at hk
    cases hk
    exact hne rfl
theorem own_cells {w : World} {B size n k : Nat} {t : TypeId} {v : Value} {xs : List Value} (h : w.ownsRow B t size v n xs) (e : v.ownBlock = some k) : ∃ cs fr, w.heap[k]? = some (.cells cs t fr) := by
  obtain ⟨_, ⟨rfl, _⟩ | ⟨gg, cap, cur, rfl, _, hb, _⟩⟩ := h
  · cases e
  · simp [Value.ownBlock] at e
    subst e
    exact ⟨_, _, hb⟩
theorem own_own {w : World} {B B' size size' n n' : Nat} {t t' : TypeId} {v v' : Value} {xs xs' : List Value} (h : w.ownsRow B t size v n xs) (h' : w.ownsRow B' t' size' v' n' xs') (hne : t' ≠ t) : ∀ g, v.ownBlock = some g → v'.ownBlock ≠ some g := fun g e e' => by
  obtain ⟨cs, fr, h1⟩ := own_cells h e
  obtain ⟨cs', fr', h2⟩ := own_cells h' e'
  rw [h1] at h2
  cases h2
  exact hne rfl
end Go.Proofs.YtkeocnhndnbamaaGreat.Mend
