/- What a log tells, in memory: three rows of a call's own beside each other. -/
import Derived.Test.YtcpkngkeechjeaaPastOwn
namespace Go.Proofs.Ytcpkngkeechjeaa.Past
set_option maxRecDepth 100000
open Go.RowKit Go.Sort
open Go.Proofs.Ytcpkngkeechjeaa.Mem
open Go.Proofs.Ytcpkngkeechjeaa.Ent (Ent)
/-! ### Rows of things of one size -/
section
variable {α : Type} {f : α → List Value} {m : Nat}
def cellsG (f : α → List Value) (L : List α) : List Value := L.flatMap f
theorem cellsG_snoc (L : List α) (x : α) : cellsG f L ++ f x = cellsG f (L ++ [x]) := by simp [cellsG]
theorem cellsG_len (hf : ∀ x, (f x).length = m) : ∀ L : List α, (cellsG f L).length = L.length * m
  | [] => by simp [cellsG]
  | x :: r => by
    have := cellsG_len hf r
    simp only [cellsG, List.flatMap_cons, List.length_append, List.length_cons] at this ⊢
    rw [this, hf, Nat.add_mul, Nat.one_mul, Nat.add_comm]
theorem cellsG_at (hf : ∀ x, (f x).length = m) : ∀ (L : List α) (i : Nat) (x : α), L[i]? = some x → ∀ j, j < m → (cellsG f L)[i * m + j]? = (f x)[j]?
  | [], i, x, h => by simp at h
  | a :: l, 0, x, h => by
    simp at h; subst h
    intro j hj
    simp only [cellsG, List.flatMap_cons, Nat.zero_mul, Nat.zero_add]
    rw [List.getElem?_append_left (by rw [hf]; exact hj)]
  | a :: l, i + 1, x, h => by
    have h1 := cellsG_at hf l i x (by simpa using h)
    intro j hj
    simp only [cellsG, List.flatMap_cons] at h1 ⊢
    rw [List.getElem?_append_right (by rw [hf, Nat.add_mul]; omega), hf, show (i + 1) * m + j - m = i * m + j by rw [Nat.add_mul]; omega]
    exact h1 j hj
theorem own_at (hf : ∀ x, (f x).length = m) {w : World} {B i : Nat} {t : TypeId} {v : Value} {L : List α} {x : α} (h : w.ownsRow B t m v L.length (cellsG f L)) (hi : L[i]? = some x) :
    ∃ g c, v = .slice (some ⟨g, 0, none⟩) L.length c ∧ v.ownBlock = some g ∧ g < w.heap.size ∧ i < L.length ∧ ∀ j u, j < m → (f x)[j]? = some u → w.cell? ⟨g, i * m + j, none⟩ = some u := by
  have hlt := (List.getElem?_eq_some_iff.1 hi).1
  obtain ⟨g, c, e, e2, e3, hc⟩ := own_pos h (by omega)
  refine ⟨g, c, e, e2, e3, hlt, fun j u hj hu => ?_⟩
  have h1 : i * m + j < L.length * m := by
    have := Nat.mul_le_mul_right m (show i + 1 ≤ L.length by omega)
    rw [Nat.add_mul] at this; omega
  rw [hc _ h1, cellsG_at hf L i x hi j hj, hu]
end
theorem view_info {P : Program} {t : TypeId} {z : Value} {s b : Nat} (h : (P.info? t).map (fun i => (i.zero, i.size, i.bytes)) = some (some z, s, b)) : ∃ i, P.info? t = some i ∧ i.zero = some z ∧ i.size = s ∧ i.bytes = b := by
  cases e : P.info? t with
  | none => rw [e] at h; cases h
  | some i => rw [e] at h; simp at h; exact ⟨i, rfl, h.1, h.2.1, h.2.2⟩
def AppRes (w w' : World) (B : Nat) (T : TypeId) (size : Nat) (v v' : Value) (n : Nat) (xs : List Value) : Prop :=
  w'.ownsRow B T size v' n xs ∧ w.grownBy w' v.ownBlock ∧ (v'.ownBlock = v.ownBlock ∨ v'.ownBlock = some w.heap.size)
section
variable {w : World} {B : Nat} {α : Type} {f : α → List Value}
theorem run_appG {T TL ty : TypeId} {z : Value} {size bytes : Nat} (ht : Try.prog.underlying TL = some (.slice T)) (hI : (Try.prog.info? T).map (fun i => (i.zero, i.size, i.bytes)) = some (some z, size, bytes)) (hzs : z.cells.size = size) (hsz : 0 < size) (hby : bytes ≤ 32)
    (hf : ∀ x, (f x).length = size) (h1 : ∀ x, ∀ u ∈ f x, u.oneCell' = true)
    {v : Value} {L : List α} (hown : w.ownsRow B T size v L.length (cellsG f L)) {vb : Nat} {y : α} (hb : Blk w vb T (f y).toArray) (hn : L.length ≤ 2000000) (hB : B ≤ w.heap.size) :
    ∃ v' w', (Builtin.append_ #[TL, TL] ty #[v, .slice (some ⟨vb, 0, none⟩) 1 1]).run Try.prog w = .ok v' w' ∧ AppRes w w' B T size v v' (L ++ [y]).length (cellsG f (L ++ [y])) := by
  obtain ⟨i0, hi, hz0, hz1, hz2⟩ := view_info hI
  have hbb : (L.length + 1) * bytes ≤ 140737488355328 := by
    have : (L.length + 1) * bytes ≤ 3000000 * 32 := Nat.mul_le_mul (by omega) hby
    omega
  obtain ⟨v', w', hr, h2, h3, _, h5⟩ := run_append_own_at (P := Try.prog) w B TL ty T i0 z size bytes ht hi hz0 hz1 hz2 hzs hsz v L.length (cellsG f L) hown ⟨vb, 0, none⟩ 1 1 (f y) (by rw [hf, Nat.one_mul])
    (fun j z hj => by rw [Addr.add_lit, hb.cell, Nat.zero_add]; simpa using hj) (h1 y) (by unfold maxLen; omega) hbb hB
  rw [cellsG_snoc] at h2
  exact ⟨v', w', hr, by rw [List.length_append]; exact h2, h3, h5⟩
theorem wpList_runG {ops : Array Oper} {rest : List Oper} {o : Oper} {a : Act} {Q : Exit → Act → World → Prop} {T : TypeId} (hgd : o.guard = none) (s x : Operand)
    (ho : o.op = .call { callee := .builtin .append, args := #[s, x], argTypes := #[T, T] }) {v u v' : Value} {w' : World} (hs : a.eval s = v) (hx : a.eval x = u)
    (hr : (Builtin.append_ #[T, T] o.type #[v, u]).run Try.prog w = .ok v' w') (hK : wpList Try.prog ops Q rest (a.put o.dst v') w') : wpList Try.prog ops Q (o :: rest) a w := by
  refine wpList_plain hgd fun K hK' => ?_
  unfold Oper.wp execOp
  simp only [ho, resolve, invoke, builtin, Sem.run_bind, Sem.run_pure, Result.andThen_ok, List.map_toArray, List.map_cons, List.map_nil, hs, hx, hr]
  exact hK' _ _ hK
end
def loV (x : T3 × Int) : List Value := [.int .i64 x.1.cl, .int .i64 x.1.ep, .int .i64 x.1.n, .int .i64 x.2]
def txV (x : T3) : List Value := [.int .i64 x.cl, .int .i64 x.ep, .int .i64 x.n]
def fiV (x : Int × Int) : List Value := [.int .i64 x.1, .int .i64 x.2]
theorem info_lo : (Try.prog.info? 43).map (fun i => (i.zero, i.size, i.bytes)) = some (some (.agg #[.int .i64 0, .int .i64 0, .int .i64 0, .int .i64 0]), 4, 32) := by kernel_rfl
theorem info_tx : (Try.prog.info? 24).map (fun i => (i.zero, i.size, i.bytes)) = some (some (.agg #[.int .i64 0, .int .i64 0, .int .i64 0]), 3, 24) := by kernel_rfl
theorem info_fi : (Try.prog.info? 45).map (fun i => (i.zero, i.size, i.bytes)) = some (some (.agg #[.int .i64 0, .int .i64 0]), 2, 16) := by kernel_rfl
section
variable {w : World} {ops : Array Oper} {rest : List Oper} {o : Oper} {a : Act} {Q : Exit → Act → World → Prop}
theorem wpList_appL (hgd : o.guard = none) (s x : Operand) (ho : o.op = .call { callee := .builtin .append, args := #[s, x], argTypes := #[33, 33] }) (B : Nat)
    (v : Value) (L : List (T3 × Int)) (hs : a.eval s = v) (y : T3 × Int) (hown : w.ownsRow B 43 4 v L.length (cellsG loV L)) (vb : Nat) (hx : a.eval x = .slice (some ⟨vb, 0, none⟩) 1 1) (hb : Blk w vb 43 #[.int .i64 y.1.cl, .int .i64 y.1.ep, .int .i64 y.1.n, .int .i64 y.2]) (hn : L.length ≤ 2000000) (hB : B ≤ w.heap.size)
    (hK : ∀ v' w', AppRes w w' B 43 4 v v' (L ++ [y]).length (cellsG loV (L ++ [y])) → wpList Try.prog ops Q rest (a.put o.dst v') w') : wpList Try.prog ops Q (o :: rest) a w := by
  obtain ⟨v', w', hr, h2⟩ := run_appG (ty := o.type) (f := loV) Try.underlying33 info_lo rfl (by decide) (by decide) (fun _ => rfl) (fun x u hu => by simp [loV] at hu; rcases hu with rfl | rfl | rfl | rfl <;> rfl) hown (y := y) hb hn hB
  exact wpList_runG hgd s x ho hs hx hr (hK v' w' h2)
theorem wpList_appT (hgd : o.guard = none) (s x : Operand) (ho : o.op = .call { callee := .builtin .append, args := #[s, x], argTypes := #[34, 34] }) (B : Nat)
    (v : Value) (L : List T3) (hs : a.eval s = v) (y : T3) (hown : w.ownsRow B 24 3 v L.length (cellsG txV L)) (vb : Nat) (hx : a.eval x = .slice (some ⟨vb, 0, none⟩) 1 1) (hb : Blk w vb 24 #[.int .i64 y.cl, .int .i64 y.ep, .int .i64 y.n]) (hn : L.length ≤ 2000000) (hB : B ≤ w.heap.size)
    (hK : ∀ v' w', AppRes w w' B 24 3 v v' (L ++ [y]).length (cellsG txV (L ++ [y])) → wpList Try.prog ops Q rest (a.put o.dst v') w') : wpList Try.prog ops Q (o :: rest) a w := by
  obtain ⟨v', w', hr, h2⟩ := run_appG (ty := o.type) (f := txV) Try.underlying34 info_tx rfl (by decide) (by decide) (fun _ => rfl) (fun x u hu => by simp [txV] at hu; rcases hu with rfl | rfl | rfl <;> rfl) hown (y := y) hb hn hB
  exact wpList_runG hgd s x ho hs hx hr (hK v' w' h2)
theorem wpList_appF (hgd : o.guard = none) (s x : Operand) (ho : o.op = .call { callee := .builtin .append, args := #[s, x], argTypes := #[35, 35] }) (B : Nat)
    (v : Value) (L : List (Int × Int)) (hs : a.eval s = v) (y : Int × Int) (hown : w.ownsRow B 45 2 v L.length (cellsG fiV L)) (vb : Nat) (hx : a.eval x = .slice (some ⟨vb, 0, none⟩) 1 1) (hb : Blk w vb 45 #[.int .i64 y.1, .int .i64 y.2]) (hn : L.length ≤ 2000000) (hB : B ≤ w.heap.size)
    (hK : ∀ v' w', AppRes w w' B 45 2 v v' (L ++ [y]).length (cellsG fiV (L ++ [y])) → wpList Try.prog ops Q rest (a.put o.dst v') w') : wpList Try.prog ops Q (o :: rest) a w := by
  obtain ⟨v', w', hr, h2⟩ := run_appG (ty := o.type) (f := fiV) Try.underlying35 info_fi rfl (by decide) (by decide) (fun _ => rfl) (fun x u hu => by simp [fiV] at hu; rcases hu with rfl | rfl <;> rfl) hown (y := y) hb hn hB
  exact wpList_runG hgd s x ho hs hx hr (hK v' w' h2)
end
/-! ### The three rows -/
structure Rows3 (w : World) (B : Nat) (sl dn pg : Value) (V : Vw) : Prop where
  lo : w.ownsRow B 43 4 sl V.los.length (cellsG loV V.los)
  tx : w.ownsRow B 24 3 dn V.dn.length (cellsG txV V.dn)
  fi : w.ownsRow B 45 2 pg V.pg.length (cellsG fiV V.pg)
  d1 : ∀ g, sl.ownBlock = some g → dn.ownBlock ≠ some g
  d2 : ∀ g, sl.ownBlock = some g → pg.ownBlock ≠ some g
  d3 : ∀ g, dn.ownBlock = some g → pg.ownBlock ≠ some g
/-- .. in a variable -/
structure VV (w : World) (B u : Nat) (sl dn pg : Value) (V : Vw) : Prop extends Rows3 w B sl dn pg V where
  blk : Blk w u 37 #[sl, dn, pg]
  lt : u < B
section
variable {w w' : World} {B u : Nat} {sl dn pg : Value} {V : Vw}
theorem Rows3.below (h : Rows3 w B sl dn pg V) (hb : Below w.heap.size w w') : Rows3 w' B sl dn pg V :=
  ⟨own_below h.lo hb, own_below h.tx hb, own_below h.fi hb, h.d1, h.d2, h.d3⟩
theorem VV.below (h : VV w B u sl dn pg V) (hb : Below w.heap.size w w') : VV w' B u sl dn pg V := ⟨h.toRows3.below hb, h.blk.below hb h.blk.lt, h.lt⟩
theorem Rows3.base {B' : Nat} (h : Rows3 w B sl dn pg V) (hB : B' ≤ B) : Rows3 w B' sl dn pg V := ⟨own_base h.lo hB, own_base h.tx hB, own_base h.fi hB, h.d1, h.d2, h.d3⟩
theorem rows3_nil (w : World) (B : Nat) : Rows3 w B (.slice none 0 0) (.slice none 0 0) (.slice none 0 0) v0 :=
  ⟨own_nil _ _ _ _, own_nil _ _ _ _, own_nil _ _ _ _, (fun _ e => nomatch e), (fun _ e => nomatch e), (fun _ e => nomatch e)⟩
theorem own_off {w : World} {B u n size : Nat} {t : TypeId} {v : Value} {xs : List Value} (h : w.ownsRow B t size v n xs) (hu : u < B) : v.ownBlock ≠ some u := fun e => by have := own_ge h e; omega
/-- the losers' row is another one, made newly -/
theorem VV.setLos (h : VV w B u sl dn pg V) {N : Nat} {sl' : Value} {L : List (T3 × Int)} (ho : w.ownsRow N 43 4 sl' L.length (cellsG loV L)) (hBN : B ≤ N) (hN : ∀ g, dn.ownBlock = some g ∨ pg.ownBlock = some g → g < N) :
    VV (w.setCell ⟨u, 0, none⟩ sl') B u sl' dn pg ⟨L, V.dn, V.pg⟩ where
  lo := own_set (own_base ho hBN) (own_off (own_base ho hBN) h.lt) _ _
  tx := own_set h.tx (own_off h.tx h.lt) _ _
  fi := own_set h.fi (own_off h.fi h.lt) _ _
  d1 := fun g e e2 => by have := own_ge ho e; have := hN g (.inl e2); omega
  d2 := fun g e e2 => by have := own_ge ho e; have := hN g (.inr e2); omega
  d3 := h.d3
  blk := h.blk.set_ 0 sl'
  lt := h.lt
/-- .. the pages' -/
theorem VV.setPg (h : VV w B u sl dn pg V) {N : Nat} {pg' : Value} {L : List (Int × Int)} (ho : w.ownsRow N 45 2 pg' L.length (cellsG fiV L)) (hBN : B ≤ N) (hN : ∀ g, dn.ownBlock = some g ∨ sl.ownBlock = some g → g < N) :
    VV (w.setCell ⟨u, 2, none⟩ pg') B u sl dn pg' ⟨V.los, V.dn, L⟩ where
  lo := own_set h.lo (own_off h.lo h.lt) _ _
  tx := own_set h.tx (own_off h.tx h.lt) _ _
  fi := own_set (own_base ho hBN) (own_off (own_base ho hBN) h.lt) _ _
  d1 := h.d1
  d2 := fun g e e2 => by have := own_ge ho e2; have := hN g (.inr e); omega
  d3 := fun g e e2 => by have := own_ge ho e2; have := hN g (.inl e); omega
  blk := h.blk.set_ 2 pg'
  lt := h.lt
/-- one more is done: appended in place, or in a new row -/
theorem VV.addDn (h : VV w B u sl dn pg V) {dn' : Value} {y : T3} (ha : AppRes w w' B 24 3 dn dn' (V.dn ++ [y]).length (cellsG txV (V.dn ++ [y]))) :
    VV (w'.setCell ⟨u, 1, none⟩ dn') B u sl dn' pg ⟨V.los, V.dn ++ [y], V.pg⟩ := by
  obtain ⟨ho, hg, hu⟩ := ha
  have hlo : w'.ownsRow B 43 4 sl V.los.length (cellsG loV V.los) := own_same h.lo fun g e => hg.block g (own_lt h.lo e) (fun e2 => h.d1 g e e2.symm)
  have hfi : w'.ownsRow B 45 2 pg V.pg.length (cellsG fiV V.pg) := own_same h.fi fun g e => hg.block g (own_lt h.fi e) (fun e2 => h.d3 g e2.symm e)
  have hb : Blk w' u 37 #[sl, dn, pg] := (hg.block u h.blk.lt (fun e => own_off h.tx h.lt e.symm)).trans h.blk
  exact {
    lo := own_set hlo (own_off hlo h.lt) _ _
    tx := own_set ho (own_off ho h.lt) _ _
    fi := own_set hfi (own_off hfi h.lt) _ _
    d1 := fun g e e2 => by
      rcases hu with e3 | e3
      · exact h.d1 g e (by rw [← e3]; exact e2)
      · rw [e3] at e2; injection e2 with e2; have := own_lt h.lo e; omega
    d2 := h.d2
    d3 := fun g e e2 => by
      rcases hu with e3 | e3
      · exact h.d3 g (by rw [← e3]; exact e) e2
      · rw [e3] at e; injection e with e; have := own_lt h.fi e2; omega
    blk := hb.set_ 1 dn'
    lt := h.lt }
end
end Go.Proofs.Ytcpkngkeechjeaa.Past
