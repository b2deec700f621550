/- Rows of numbers and of edges in memory; many rows of one's own side by side. -/
import Derived.Test.YthodggkpkjfggaaArr
import Derived.Test.YthodggkpkjfggaaKnotGraph
import Derived.Test.YthodggkpkjfggaaKnotDfs
import Derived.Laws.AppendOwn
import Derived.StillTailTactics
import Derived.Deep.RegionHeld3
import Derived.Deep.RegionLaw
import Derived.Lib.QuietBelow
import Derived.Deep.CutBlock
import Derived.Deep.DeepCutAuto
import Derived.WalkSpells
import Derived.Laws.MakeOwn
namespace Go.Proofs.Ythodggkpkjfggaa.Knot
set_option maxRecDepth 100000
open Go.RowKit
open Go.Proofs.Ythodggkpkjfggaa.Mem
theorem below_box (w : World) (o : Obj) : Below w.heap.size w (w.alloc o) := (Below.refl _ _).alloc (Nat.le_refl _) o
theorem quiet_cell {w : World} {a : Addr} {v : Value} (h : w.cell? a = some v) (q : Nat) : (w.drewN q).cell? a = some v := h
theorem info_int : (Try.prog.info? 3).map (fun i => (i.zero, i.size, i.bytes)) = some (some (.int .i64 0), 1, 8) := by kernel_rfl
theorem info_rows : (Try.prog.info? 26).map (fun i => (i.zero, i.size, i.bytes)) = some (some (.slice none 0 0), 1, 24) := by kernel_rfl
theorem info_bool : (Try.prog.info? 4).map (fun i => (i.zero, i.size, i.bytes)) = some (some (.bool false), 1, 1) := by kernel_rfl
/-- make of a row of n -/
theorem run_makeN (W : World) {TL T : TypeId} {z : Value} {bytes : Nat} (ht : Try.prog.underlying TL = some (.slice T)) (hI : (Try.prog.info? T).map (fun i => (i.zero, i.size, i.bytes)) = some (some z, 1, bytes)) (hz1 : z.cells = #[z]) (hby : bytes ≤ 32) (n : Nat) (hn : n ≤ 1000000) :
    (Instr.makeSlice TL (.int .i64 (n : Int)) (.int .i64 (n : Int))).run Try.prog W = .ok (.slice (some ⟨W.heap.size, 0, none⟩) n n) (W.alloc (.cells (madeCells #[z] n) T)) := by
  obtain ⟨i0, hi, hz0, hs, hb⟩ := info_parts hI
  have hbb : (i0.bytes : Int) * (n : Int) ≤ 281474976710656 := by
    rw [hb]
    have : bytes * n ≤ 32 * 1000000 := Nat.mul_le_mul hby hn
    have h2 : ((bytes * n : Nat) : Int) ≤ 32000000 := by omega
    rw [Int.natCast_mul] at h2
    omega
  have := run_make W TL T i0 z ht hi hz0 .i64 .i64 (n : Int) (n : Int) (by omega) (Int.le_refl _) hbb (by omega)
  rw [hs, hz1, Int.toNat_natCast, Nat.mul_one] at this
  exact this
def iv (zs : List Int) : List Value := zs.map (Value.int .i64)
theorem iv_len (zs : List Int) : (iv zs).length = zs.length := by simp [iv]
theorem iv_app (A B : List Int) : iv (A ++ B) = iv A ++ iv B := by simp [iv]
theorem iv_at {zs : List Int} {i : Nat} {z : Int} (h : zs[i]? = some z) : (iv zs)[i]? = some (.int .i64 z) := by simp [iv, h]
/-- a row of numbers that can be read -/
def IR (w : World) (v : Value) (zs : List Int) : Prop :=
  ∃ a c, v = .slice a zs.length c ∧ zs.length ≤ c ∧ (0 < zs.length → ∃ b off, a = some ⟨b, off, none⟩ ∧ b < w.heap.size ∧ ∀ i z, zs[i]? = some z → w.cell? ⟨b, off + i, none⟩ = some (.int .i64 z))
section
variable {w w' : World} {v : Value} {zs : List Int}
theorem IR.shape (h : IR w v zs) : ∃ a c, v = .slice a zs.length c := by obtain ⟨a, c, e, _⟩ := h; exact ⟨a, c, e⟩
theorem IR.below (h : IR w v zs) (hb : Below w.heap.size w w') : IR w' v zs := by
  obtain ⟨a, c, e, h1, h2⟩ := h
  refine ⟨a, c, e, h1, fun hn => ?_⟩
  obtain ⟨b, off, e1, h3, h4⟩ := h2 hn
  exact ⟨b, off, e1, Nat.lt_of_lt_of_le h3 hb.size, fun i z hz => (hb.cell (p := ⟨b, off + i, none⟩) h3).trans (h4 i z hz)⟩
theorem IR.drewN (h : IR w v zs) (q : Nat) : IR (w.drewN q) v zs := h
theorem IR.nil (w : World) : IR w (.slice none 0 0) [] := ⟨none, 0, rfl, Nat.le_refl _, fun h => absurd h (Nat.lt_irrefl _)⟩
theorem IR.of_own {B : Nat} (h : w.ownsRow B 3 1 v zs.length (iv zs)) : IR w v zs := by
  rcases h.2 with ⟨rfl, h0⟩ | ⟨g, c, cur, rfl, _, hc, h1, h2, h3, h4⟩
  · obtain rfl := List.eq_nil_of_length_eq_zero h0
    exact IR.nil w
  · refine ⟨_, c, rfl, h1, fun hn => ⟨g, 0, rfl, (Array.getElem?_eq_some_iff.1 hc).1, fun i z hz => ?_⟩⟩
    have hlt := (List.getElem?_eq_some_iff.1 hz).1
    rw [Blk.cell (show Blk w g _ _ from hc), Nat.zero_add, ← Array.getElem?_toList]
    have := iv_at hz
    rw [← h4, List.getElem?_take_of_lt (by omega)] at this
    exact this
theorem IR.at_ (h : IR w v zs) {i : Nat} {z : Int} (hz : zs[i]? = some z) : ∃ b off c, v = .slice (some ⟨b, off, none⟩) zs.length c ∧ zs.length ≤ c ∧ b < w.heap.size ∧ w.cell? ⟨b, off + i, none⟩ = some (.int .i64 z) := by
  obtain ⟨a, c, e, h1, h2⟩ := h
  have hlt := (List.getElem?_eq_some_iff.1 hz).1
  obtain ⟨b, off, rfl, h3, h4⟩ := h2 (by omega)
  exact ⟨b, off, c, e, h1, h3, h4 i z hz⟩
end
/-- a row of numbers that lies above B -/
def IRb (w : World) (B : Nat) (v : Value) (zs : List Int) : Prop :=
  ∃ a c, v = .slice a zs.length c ∧ zs.length ≤ c ∧ (0 < zs.length → ∃ b off, a = some ⟨b, off, none⟩ ∧ B ≤ b ∧ b < w.heap.size ∧ ∀ i z, zs[i]? = some z → w.cell? ⟨b, off + i, none⟩ = some (.int .i64 z))
section
variable {w w' : World} {B : Nat} {v : Value} {zs : List Int}
theorem IRb.ir (h : IRb w B v zs) : IR w v zs := by
  obtain ⟨a, c, e, h1, h2⟩ := h
  refine ⟨a, c, e, h1, fun hn => ?_⟩
  obtain ⟨b, off, e1, _, h3, h4⟩ := h2 hn
  exact ⟨b, off, e1, h3, h4⟩
theorem IRb.of_own (h : w.ownsRow B 3 1 v zs.length (iv zs)) : IRb w B v zs := by
  obtain ⟨a, c, e, h1, h2⟩ := IR.of_own h
  refine ⟨a, c, e, h1, fun hn => ?_⟩
  obtain ⟨b, off, e1, h3, h4⟩ := h2 hn
  refine ⟨b, off, e1, ?_, h3, h4⟩
  rcases h.2 with ⟨e2, h0⟩ | ⟨g, cap, cur, e2, hg, _⟩
  · omega
  · rw [e] at e2; injection e2 with e2 _ _; rw [e1] at e2; injection e2 with e2; injection e2 with e2 _ _; omega
theorem IRb.kept (h : IRb w B v zs) (hs : ∀ b, B ≤ b → b < w.heap.size → w'.heap[b]? = w.heap[b]?) (hz : w.heap.size ≤ w'.heap.size) : IRb w' B v zs := by
  obtain ⟨a, c, e, h1, h2⟩ := h
  refine ⟨a, c, e, h1, fun hn => ?_⟩
  obtain ⟨b, off, e1, h5, h3, h4⟩ := h2 hn
  exact ⟨b, off, e1, h5, Nat.lt_of_lt_of_le h3 hz, fun i z hz => (World.cell?_of_block (w := w) (a := ⟨b, off + i, none⟩) (hs b h5 h3)).trans (h4 i z hz)⟩
end
/-! edges -/
def ec (e : Ed) : Array Value := #[.int .i64 e.f, .int .i64 e.t]
def ev (L : List Ed) : List Value := L.flatMap fun e => [.int .i64 e.f, .int .i64 e.t]
theorem ev_cons (e : Ed) (L : List Ed) : ev (e :: L) = .int .i64 e.f :: .int .i64 e.t :: ev L := by simp [ev]
theorem ev_len : ∀ L : List Ed, (ev L).length = L.length * 2
  | [] => rfl
  | e :: L => by rw [ev_cons]; simp [ev_len L]; omega
theorem ev_app (A B : List Ed) : ev (A ++ B) = ev A ++ ev B := by simp [ev]
theorem ev_at : ∀ (L : List Ed) (i : Nat) (e : Ed), L[i]? = some e → (ev L)[i * 2]? = some (.int .i64 e.f) ∧ (ev L)[i * 2 + 1]? = some (.int .i64 e.t)
  | [], i, e, h => by simp at h
  | x :: L, 0, e, h => by simp at h; subst h; simp [ev]
  | x :: L, i + 1, e, h => by
    have := ev_at L i e (by simpa using h)
    rw [ev_cons]
    have e2 : (i + 1) * 2 = i * 2 + 1 + 1 := by omega
    rw [e2]
    exact this
/-- a row of edges that can be read -/
def ER (w : World) (v : Value) (L : List Ed) : Prop :=
  ∃ a c, v = .slice a L.length c ∧ L.length ≤ c ∧ (0 < L.length → ∃ b, a = some ⟨b, 0, none⟩ ∧ b < w.heap.size ∧ ∀ i e, L[i]? = some e → w.cell? ⟨b, i * 2, none⟩ = some (.int .i64 e.f) ∧ w.cell? ⟨b, i * 2 + 1, none⟩ = some (.int .i64 e.t))
section
variable {w w' : World} {v : Value} {L : List Ed}
theorem ER.shape (h : ER w v L) : ∃ a c, v = .slice a L.length c := by obtain ⟨a, c, e, _⟩ := h; exact ⟨a, c, e⟩
theorem ER.below (h : ER w v L) (hb : Below w.heap.size w w') : ER w' v L := by
  obtain ⟨a, c, e, h1, h2⟩ := h
  refine ⟨a, c, e, h1, fun hn => ?_⟩
  obtain ⟨b, e1, h3, h4⟩ := h2 hn
  exact ⟨b, e1, Nat.lt_of_lt_of_le h3 hb.size, fun i z hz => ⟨(hb.cell (p := ⟨b, i * 2, none⟩) h3).trans (h4 i z hz).1, (hb.cell (p := ⟨b, i * 2 + 1, none⟩) h3).trans (h4 i z hz).2⟩⟩
theorem ER.drewN (h : ER w v L) (q : Nat) : ER (w.drewN q) v L := h
theorem ER.nil (w : World) : ER w (.slice none 0 0) [] := ⟨none, 0, rfl, Nat.le_refl _, fun h => absurd h (Nat.lt_irrefl _)⟩
theorem ER.of_own {B : Nat} {T : TypeId} (h : w.ownsRow B T 2 v L.length (ev L)) : ER w v L := by
  rcases h.2 with ⟨rfl, h0⟩ | ⟨g, c, cur, rfl, _, hc, h1, h2, h3, h4⟩
  · obtain rfl := List.eq_nil_of_length_eq_zero h0
    exact ER.nil w
  · refine ⟨_, c, rfl, h1, fun hn => ⟨g, rfl, (Array.getElem?_eq_some_iff.1 hc).1, fun i z hz => ?_⟩⟩
    have hlt := (List.getElem?_eq_some_iff.1 hz).1
    obtain ⟨k1, k2⟩ := ev_at L i z hz
    rw [← h4, List.getElem?_take_of_lt (by omega)] at k1 k2
    rw [Blk.cell (show Blk w g _ _ from hc), Blk.cell (show Blk w g _ _ from hc), ← Array.getElem?_toList, ← Array.getElem?_toList]
    exact ⟨k1, k2⟩
theorem ER.at_ (h : ER w v L) {i : Nat} {e : Ed} (hz : L[i]? = some e) : ∃ b c, v = .slice (some ⟨b, 0, none⟩) L.length c ∧ L.length ≤ c ∧ b < w.heap.size ∧ w.cell? ⟨b, i * 2, none⟩ = some (.int .i64 e.f) ∧ w.cell? ⟨b, i * 2 + 1, none⟩ = some (.int .i64 e.t) := by
  obtain ⟨a, c, e, h1, h2⟩ := h
  have hlt := (List.getElem?_eq_some_iff.1 hz).1
  obtain ⟨b, rfl, h3, h4⟩ := h2 (by omega)
  exact ⟨b, c, e, h1, h3, h4 i _ hz⟩
end
theorem own_ge {w : World} {B n size : Nat} {t : TypeId} {v : Value} {xs : List Value} (h : w.ownsRow B t size v n xs) (g : Nat) (hg : v.ownBlock = some g) : B ≤ g := by
  obtain ⟨_, ⟨rfl, _⟩ | ⟨g', cap, cur, rfl, hb, _⟩⟩ := h
  · cases hg
  · cases hg; exact hb
theorem own_len {w : World} {B n size c : Nat} {a : Option Addr} {m : Nat} {t : TypeId} {xs : List Value} (h : w.ownsRow B t size (.slice a m c) n xs) : m = n := by
  obtain ⟨a', c', e⟩ := own_shape h
  injection e
/-- what an append leaves -/
def AppRes (w w' : World) (B : Nat) (T : TypeId) (size : Nat) (v v' : Value) (n : Nat) (xs : List Value) : Prop :=
  w'.ownsRow B T size v' n xs ∧ w.grownBy w' v.ownBlock ∧ (v'.ownBlock = v.ownBlock ∨ v'.ownBlock = some w.heap.size)
section
variable {w : World} {B : Nat}
/-- append of what lies in a block of its own, to an own row -/
theorem run_app {T TL ty : TypeId} {z : Value} {size bytes : Nat} (ht : Try.prog.underlying TL = some (.slice T)) (hI : (Try.prog.info? T).map (fun i => (i.zero, i.size, i.bytes)) = some (some z, size, bytes)) (hzs : z.cells.size = size) (hsz : 0 < size) (hby : bytes ≤ 32)
    {v : Value} {n : Nat} {xs : List Value} (hown : w.ownsRow B T size v n xs) {vb m : Nat} {cs : Array Value} (hb : Blk w vb T cs) (hl : cs.size = m * size) (h1 : ∀ u ∈ cs.toList, u.oneCell' = true) (hn : n + m ≤ 3000000) (hB : B ≤ w.heap.size) :
    ∃ v' w', (Builtin.append_ #[TL, TL] ty #[v, .slice (some ⟨vb, 0, none⟩) m m]).run Try.prog w = .ok v' w' ∧ AppRes w w' B T size v v' (n + m) (xs ++ cs.toList) := by
  obtain ⟨i0, hi, hz0, hz1, hz2⟩ := info_parts hI
  have hbb : (n + m) * bytes ≤ 140737488355328 := by
    have : (n + m) * bytes ≤ 3000000 * 32 := Nat.mul_le_mul hn hby
    omega
  obtain ⟨v', w', hr, h2, h3, _, h5⟩ := run_append_own_at (P := Try.prog) w B TL ty T i0 z size bytes ht hi hz0 hz1 hz2 hzs hsz v n xs hown ⟨vb, 0, none⟩ m m cs.toList (by simpa using hl)
    (fun j z hj => by rw [Addr.add_lit, hb.cell, Nat.zero_add, ← Array.getElem?_toList]; exact hj) h1 (by unfold maxLen; omega) hbb hB
  exact ⟨v', w', hr, h2, h3, h5⟩
theorem wpList_run {ops : Array Oper} {rest : List Oper} {o : Oper} {a : Act} {Q : Exit → Act → World → Prop} {T : TypeId} (hgd : o.guard = none) (s x : Operand)
    (ho : o.op = .call { callee := .builtin .append, args := #[s, x], argTypes := #[T, T] }) {v u v' : Value} {w' : World} (hs : a.eval s = v) (hx : a.eval x = u)
    (hr : (Builtin.append_ #[T, T] o.type #[v, u]).run Try.prog w = .ok v' w') (hK : wpList Try.prog ops Q rest (a.put o.dst v') w') : wpList Try.prog ops Q (o :: rest) a w := by
  refine wpList_plain hgd fun K hK' => ?_
  unfold Oper.wp execOp
  simp only [ho, resolve, invoke, builtin, Sem.run_bind, Sem.run_pure, Result.andThen_ok, List.map_toArray, List.map_cons, List.map_nil, hs, hx, hr]
  exact hK' _ _ hK
/-- append, as a step of a drawn region, where its run is known -/
theorem step_run {P : Program} {ops : Array Oper} {o : Oper} {a : Act} {w : World} {K : Act → World → Prop} {Q : Exit → Act → World → Prop} {E : Prop}
    (hg : o.guard = none) (d x : Operand) (dT sT : TypeId) (hop : o.op = Op.call { callee := Callee.builtin Builtin.append, args := #[d, x], argTypes := #[dT, sT] })
    (v u : Value) (hd : a.eval d = v) (hx : a.eval x = u) {v' : Value} {w' : World} (hr : (Builtin.append_ #[dT, sT] o.type #[v, u]).run P w = .ok v' w') (hK : K (a.put o.dst v') w') :
    if Region.wanted o (yielded ops a.tmps) = true then Oper.wp P o a w K Q else E := by
  have hw : Region.wanted o (yielded ops a.tmps) = true := by simp [Region.wanted, hg]
  rw [if_pos hw]
  unfold Oper.wp
  simp [execOp, hop, resolve, invoke, builtin, hd, hx, hr, Result.andThen]
  exact hK
/-- one number is appended -/
theorem wpList_int1 {W : World} {ops : Array Oper} {rest : List Oper} {o : Oper} {a : Act} {Q : Exit → Act → World → Prop} (hgd : o.guard = none) (s x : Operand)
    (ho : o.op = .call { callee := .builtin .append, args := #[s, x], argTypes := #[26, 26] })
    (v : Value) (zs : List Int) (hs : a.eval s = v) (vb : Nat) (z : Int) (hx : a.eval x = .slice (some ⟨vb, 0, none⟩) 1 1) (hP : Below W.heap.size W w ∧ Blk w vb 3 #[.int .i64 z])
    (hown : W.ownsRow B 3 1 v zs.length (iv zs)) (hn : zs.length ≤ 2000000) (hB : B ≤ W.heap.size)
    (hK : ∀ v' w', Below W.heap.size W w → AppRes w w' B 3 1 v v' (zs ++ [z]).length (iv (zs ++ [z])) → wpList Try.prog ops Q rest (a.put o.dst v') w') : wpList Try.prog ops Q (o :: rest) a w := by
  have hown2 : w.ownsRow B 3 1 v zs.length (iv zs) := own_same hown fun g hg => hP.1.block g (own_lt hown hg)
  obtain ⟨v', w', hr, h2⟩ := run_app (ty := o.type) Try.underlying26 info_int rfl (by decide) (by decide) hown2 hP.2 (m := 1) rfl (fun u hu => by simp at hu; subst hu; rfl) (by omega) (Nat.le_trans hB hP.1.size)
  refine wpList_run hgd s x ho hs hx hr (hK v' w' hP.1 ?_)
  rw [List.length_append, iv_app]; exact h2
theorem step_int1 {W : World} {ops : Array Oper} {o : Oper} {a : Go.Act} {K : Go.Act → World → Prop} {Q : Exit → Go.Act → World → Prop} {E : Prop} (hg : o.guard = none) (s x : Operand)
    (hop : o.op = .call { callee := .builtin .append, args := #[s, x], argTypes := #[26, 26] })
    (v : Value) (zs : List Int) (hs : a.eval s = v) (vb : Nat) (z : Int) (hx : a.eval x = .slice (some ⟨vb, 0, none⟩) 1 1) (hP : Below W.heap.size W w ∧ Blk w vb 3 #[.int .i64 z])
    (hown : W.ownsRow B 3 1 v zs.length (iv zs)) (hn : zs.length ≤ 2000000) (hB : B ≤ W.heap.size)
    (hK : ∀ v' w', Below W.heap.size W w → AppRes w w' B 3 1 v v' (zs ++ [z]).length (iv (zs ++ [z])) → K (a.put o.dst v') w') :
    if Region.wanted o (yielded ops a.tmps) = true then Oper.wp Try.prog o a w K Q else E := by
  have hown2 : w.ownsRow B 3 1 v zs.length (iv zs) := own_same hown fun g hg => hP.1.block g (own_lt hown hg)
  obtain ⟨v', w', hr, h2⟩ := run_app (ty := o.type) Try.underlying26 info_int rfl (by decide) (by decide) hown2 hP.2 (m := 1) rfl (fun u hu => by simp at hu; subst hu; rfl) (by omega) (Nat.le_trans hB hP.1.size)
  refine step_run hg s x 26 26 hop v (.slice (some ⟨vb, 0, none⟩) 1 1) hs hx hr (hK v' w' hP.1 ?_)
  rw [List.length_append, iv_app]; exact h2
end
/-! many rows of one's own, none of which lies in a block of another one -/
structure RF (W : World) (B : Nat) (X : Nat → Prop) (N : Nat) (v : Nat → Value) (xs : Nat → List Int) : Prop where
  own : ∀ k, k < N → W.ownsRow B 3 1 (v k) (xs k).length (iv (xs k))
  sep : ∀ j k, j < N → k < N → j ≠ k → ∀ b, (v j).ownBlock = some b → (v k).ownBlock ≠ some b
  off : ∀ k, k < N → ∀ b, (v k).ownBlock = some b → ¬ X b
section
variable {W W' w1 w2 : World} {B N : Nat} {X X' : Nat → Prop} {v : Nat → Value} {xs : Nat → List Int}
theorem RF.lt (h : RF W B X N v xs) {k : Nat} (hk : k < N) {b : Nat} (hb : (v k).ownBlock = some b) : b < W.heap.size := own_lt (h.own k hk) hb
theorem RF.same (h : RF W B X N v xs) (hs : ∀ k, k < N → ∀ b, (v k).ownBlock = some b → W'.heap[b]? = W.heap[b]?) : RF W' B X N v xs :=
  ⟨fun k hk => own_same (h.own k hk) (hs k hk), h.sep, h.off⟩
theorem RF.below (h : RF W B X N v xs) (hb : Below W.heap.size W W') : RF W' B X N v xs := h.same fun _ hk b e => hb.block b (h.lt hk e)
/-- a cell elsewhere is written -/
theorem RF.set_ (h : RF W B X N v xs) {g : Nat} (hg : X g) (i : Nat) (u : Value) : RF (W.setCell ⟨g, i, none⟩ u) B X N v xs :=
  h.same fun k hk b e => Below.heap_setCell W ⟨g, i, none⟩ u b (fun e' => h.off k hk b e (by rw [show b = g from e']; exact hg))
theorem RF.reX (h : RF W B X N v xs) (hX : ∀ b, b < W.heap.size → X' b → X b) : RF W B X' N v xs :=
  ⟨h.own, h.sep, fun k hk b e hb => h.off k hk b e (hX b (h.lt hk e) hb)⟩
theorem RF.less (h : RF W B X N v xs) {M : Nat} (hM : M ≤ N) : RF W B X M v xs :=
  ⟨fun k hk => h.own k (by omega), fun j k hj hk => h.sep j k (by omega) (by omega), fun k hk => h.off k (by omega)⟩
theorem RF.ext (h : RF W B X N v xs) {v' : Nat → Value} {xs' : Nat → List Int} (hv : ∀ k, k < N → v' k = v k) (hx : ∀ k, k < N → xs' k = xs k) : RF W B X N v' xs' :=
  ⟨fun k hk => by rw [hv k hk, hx k hk]; exact h.own k hk, fun j k hj hk hjk b e => by rw [hv j hj] at e; rw [hv k hk]; exact h.sep j k hj hk hjk b e, fun k hk b e => by rw [hv k hk] at e; exact h.off k hk b e⟩
/-- one row is another one now, in its block or in a new one -/
theorem RF.put_ (h : RF W B X N v xs) (hX : ∀ b, X b → b < W.heap.size) {k : Nat} (hk : k < N) {u : Value} {zs : List Int}
    (ho : W'.ownsRow B 3 1 u zs.length (iv zs)) (hu : ∀ b, u.ownBlock = some b → (v k).ownBlock = some b ∨ W.heap.size ≤ b) (hs : ∀ b, b < W.heap.size → (v k).ownBlock ≠ some b → W'.heap[b]? = W.heap[b]?) :
    RF W' B X N (put1 v k u) (put1 xs k zs) := by
  refine ⟨fun j hj => ?_, fun j l hj hl hjl b h1 h2 => ?_, fun j hj b h1 => ?_⟩
  · unfold put1
    by_cases e : j = k
    · rw [if_pos e, if_pos e]; exact ho
    · rw [if_neg e, if_neg e]
      exact own_same (h.own j hj) fun b hb => hs b (h.lt hj hb) (fun e1 => h.sep j k hj hk e b hb e1)
  · unfold put1 at h1 h2
    split at h1
    · split at h2
      · omega
      · rcases hu b h1 with e | e
        · exact h.sep k l hk hl (by omega) b e h2
        · have := h.lt hl h2; omega
    · split at h2
      · rcases hu b h2 with e | e
        · exact h.sep j k hj hk (by omega) b h1 e
        · have := h.lt hj h1; omega
      · exact h.sep j l hj hl hjl b h1 h2
  · unfold put1 at h1
    split at h1
    · rcases hu b h1 with e | e
      · exact h.off k hk b e
      · intro hb; have := hX b hb; omega
    · exact h.off j hj b h1
/-- a row has grown by an append -/
theorem RF.app (h : RF W B X N v xs) (hX : ∀ b, X b → b < W.heap.size) {k : Nat} (hk : k < N) {u : Value} {zs : List Int} (hb : Below W.heap.size W w1) (ha : AppRes w1 w2 B 3 1 (v k) u zs.length (iv zs)) :
    RF w2 B X N (put1 v k u) (put1 xs k zs) ∧ (∀ b, b < W.heap.size → (v k).ownBlock ≠ some b → w2.heap[b]? = W.heap[b]?) := by
  obtain ⟨ho, hg, hu⟩ := ha
  have hs : ∀ b, b < W.heap.size → (v k).ownBlock ≠ some b → w2.heap[b]? = W.heap[b]? := fun b h1 h2 => (hg.block b (Nat.lt_of_lt_of_le h1 hb.size) (fun e => h2 e.symm)).trans (hb.block b h1)
  refine ⟨h.put_ hX hk ho (fun b e => ?_) hs, hs⟩
  rcases hu with e1 | e1
  · exact .inl (by rw [← e1]; exact e)
  · rw [e1] at e; injection e with e; exact .inr (by have := hb.size; omega)
/-- one row more, with no block of its own yet -/
theorem RF.more (h : RF W B X N v xs) (hv : v N = .slice none 0 0) (hx : xs N = []) : RF W B X (N + 1) v xs := by
  have hn : ∀ b, (v N).ownBlock ≠ some b := fun b e => by rw [hv] at e; simp [Value.ownBlock] at e
  refine ⟨fun k hk => ?_, fun j k hj hk hjk b h1 h2 => ?_, fun k hk b e => ?_⟩
  · by_cases e : k = N
    · subst e; rw [hv, hx]; exact own_nil _ _ _ _
    · exact h.own k (by omega)
  · by_cases e : j = N
    · subst e; exact hn b h1
    · by_cases e' : k = N
      · subst e'; exact hn b h2
      · exact h.sep j k (by omega) (by omega) hjk b h1 h2
  · by_cases e' : k = N
    · subst e'; exact absurd e (hn b)
    · exact h.off k (by omega) b e
end
end Go.Proofs.Ythodggkpkjfggaa.Knot
