/- slices.Backward over writes that wait. -/
import Derived.Test.YtnnppdjgmjgjhaaDoorPlateFate
import Derived.RangeFuncNested
import Derived.RangeFuncLeaves
import Derived.Shelf.Abstract
import Derived.OwnWalkIn
import Derived.TacticsInMore
import Derived.LoopNIn
import Derived.LoopIn
namespace Go.Proofs.YtnnppdjgmjgjhaaDoor.Plate
set_option maxRecDepth 100000
open Go.RowKit Go.Shelf
open Go.Proofs.YtnnppdjgmjgjhaaDoor.Mem hiding Keep
attribute [local go_sem] Oper.semAt_some

theorem last_none {n : Nat} {l : List Wr} (h : ∀ x ∈ l, x.n ≠ n) : lastOf n l = none := by
  induction l with
  | nil => rfl
  | cons x r ih =>
    rw [lastOf, ih fun y hy => h y (List.mem_cons_of_mem _ hy)]
    simp [h x List.mem_cons_self]
theorem last_some {n : Nat} {l : List Wr} {k : Nat} {x : Wr} (h : l[k]? = some x) (hu : x.n = n) (hr : ∀ y ∈ l.drop (k + 1), y.n ≠ n) : lastOf n l = some x.d := by
  induction l generalizing k with
  | nil => simp at h
  | cons y r ih =>
    cases k with
    | zero =>
      simp at h; subst h
      rw [lastOf, last_none (by simpa using hr)]
      simp [hu]
    | succ k =>
      rw [lastOf, ih (k := k) (by simpa using h) (by simpa using hr)]
/-- a row of writes -/
def Wrs (w : World) (a : Option Addr) (n : Nat) (q : List Wr) : Prop :=
  q.length = n ∧ (0 < n → ∃ b off, a = some ⟨b, off, none⟩ ∧ b < w.heap.size ∧ ∀ i, i < n → w.cell? ⟨b, off + i * 2, none⟩ = some (.int .i64 ((q.getD i now).n : Int)) ∧ w.cell? ⟨b, off + i * 2 + 1, none⟩ = some (.string (q.getD i now).d))
theorem Wrs.len {w : World} {a : Option Addr} {n : Nat} {q : List Wr} (h : Wrs w a n q) : q.length = n := h.1
theorem Wrs.below {w w' : World} {a : Option Addr} {n : Nat} {q : List Wr} (h : Wrs w a n q) (hb : Below w.heap.size w w') : Wrs w' a n q := by
  obtain ⟨h1, h3⟩ := h
  refine ⟨h1, fun hn => ?_⟩
  obtain ⟨b, off, ha, hlt, hc⟩ := h3 hn
  exact ⟨b, off, ha, Nat.lt_of_lt_of_le hlt hb.size, fun i hi => ⟨(hb.cell (p := ⟨b, off + i * 2, none⟩) hlt).trans (hc i hi).1, (hb.cell (p := ⟨b, off + i * 2 + 1, none⟩) hlt).trans (hc i hi).2⟩⟩
theorem Wrs.at_ {w : World} {a : Option Addr} {n k : Nat} {q : List Wr} (h : Wrs w a n q) (hk : k < n) :
    ∃ b off m d, a = some ⟨b, off, none⟩ ∧ b < w.heap.size ∧ q[k]? = some ⟨m, d⟩ ∧ w.cell? ⟨b, off + k * 2, none⟩ = some (.int .i64 (m : Int)) ∧ w.cell? ⟨b, off + k * 2 + 1, none⟩ = some (.string d) := by
  obtain ⟨h1, h3⟩ := h
  obtain ⟨b, off, ha, hlt, hc⟩ := h3 (by omega)
  exact ⟨b, off, (q.getD k now).n, (q.getD k now).d, ha, hlt, by simp [List.getD, show k < q.length by omega], (hc k hk).1, (hc k hk).2⟩
theorem PA.wrs {w : World} {p sb : Nat} {a : Option Addr} {n c : Nat} {M : Nat → Prop} {S : PS} (h : PA w p sb (.slice a n c) M S) : Wrs w a S.q.length S.q := by
  refine ⟨rfl, fun hn => ?_⟩
  obtain ⟨g, cap, e, -, hg, hc⟩ := own_pos h.own hn
  simp only [Value.slice.injEq] at e
  obtain ⟨rfl, -, -⟩ := e
  refine ⟨g, 0, rfl, hg, fun i hi => ?_⟩
  have hx : S.q[i]? = some (S.q.getD i now) := by simp [List.getD, hi]
  obtain ⟨g1, g2⟩ := wcells_get hx
  rw [Nat.zero_add]
  exact ⟨(hc _ (by omega)).trans g1, (hc _ (by omega)).trans g2⟩

/-- a place and what is there -/
structure Nth where
  i : Nat
  x : Wr
  h : i ≤ 1000000
def nth (zs : List Wr) (j : Nat) : Nth := ⟨min j 1000000, zs.getD j now, by omega⟩
def enth (x : Nth) : Array Value := #[.int .i64 (x.i : Int), .agg #[.int .i64 (x.x.n : Int), .string x.x.d]]
/-- what has come when m places are still to come -/
def bk (zs : List Wr) (m : Nat) : List Nth := (List.range (zs.length - m)).map fun j => nth zs (zs.length - 1 - j)
theorem bk_all (zs : List Wr) : bk zs zs.length = [] := by simp [bk]
theorem bk_next (zs : List Wr) (j : Nat) (h : j < zs.length) : bk zs j = bk zs (j + 1) ++ [nth zs j] := by
  unfold bk
  have e : zs.length - j = (zs.length - (j + 1)) + 1 := by omega
  rw [e, List.range_succ, List.map_append]
  congr 2
  simp only [List.map_cons, List.map_nil]
  congr 2; omega
theorem nth_of {zs : List Wr} {j : Nat} {x : Wr} (h : zs[j]? = some x) (hj : j ≤ 1000000) : nth zs j = ⟨j, x, hj⟩ := by
  unfold nth
  have e : zs.getD j now = x := by simp [List.getD, h]
  have e2 : min j 1000000 = j := by omega
  congr 1
theorem bk_mem {zs : List Wr} {m : Nat} (p : Nat) (hp : ∀ x ∈ bk zs m, x.x.n ≠ p) : ∀ y ∈ zs.drop m, y.n ≠ p := by
  intro y hy
  obtain ⟨i, hi, rfl⟩ := List.mem_iff_getElem.1 hy
  simp only [List.length_drop] at hi
  have := hp (nth zs (m + i)) (by
    unfold bk
    refine List.mem_map.2 ⟨zs.length - 1 - (m + i), by simp; omega, ?_⟩
    congr 1; omega)
  simp only [nth] at this
  rw [List.getElem_drop]
  have e : zs.getD (m + i) now = zs[m + i]'(by omega) := by simp [List.getD, show m + i < zs.length by omega]
  rw [e] at this
  exact this

/-- what lies below n, and the cell of block B, are kept -/
def Kp (n B : Nat) (W W' : World) : Prop := Below n W W' ∧ ∀ v, W.cell? ⟨B, 0, none⟩ = some v → W'.cell? ⟨B, 0, none⟩ = some v
theorem Kp.refl (n B : Nat) (W : World) : Kp n B W W := ⟨Below.refl _ _, fun _ h => h⟩
theorem Kp.trans {n B : Nat} {X Y Z : World} (h : Kp n B X Y) (k : Kp n B Y Z) : Kp n B X Z := ⟨h.1.trans k.1, fun v hv => k.2 v (h.2 v hv)⟩
theorem cell_putObj {W : World} {l B : Nat} {o o' : Obj} {v : Value} (h : W.heap[l]? = some o) (hc : o.isCells = false) (hv : W.cell? ⟨B, 0, none⟩ = some v) : (W.putObj l o').cell? ⟨B, 0, none⟩ = some v :=
  cell_kept hv (grownBy_putObj' W l o') (fun r e => by cases e; exact ⟨o, h, hc⟩)
theorem Kp.putObj {n B : Nat} {w : World} (hn : n ≤ w.heap.size) (W : World) (l : Nat) (o o' : Obj) (hl : w.heap.size ≤ l) (h : W.heap[l]? = some o) (hc : o.isCells = false) (hk : o.isWalk = false) : Kp n B W (W.putObj l o') :=
  ⟨belowK_b hn W l o o' hl h hc hk, fun _ hv => cell_putObj h hc hv⟩

set_option maxRecDepth 100000 in
set_option maxHeartbeats 1000000 in
theorem backward1_in (F : Fence) (n : Nat) (hf : F.fn 56) (hro : F.round = none) (hn : 1 ≤ n) (l Bs n₀ len cap : Nat) (a : Option Addr) (zs : List Wr) (hlen : len ≤ 1000000) (J Jx : List Nth → World → Prop)
    (W : World) (hb : 0 < len → ∀ b off, a = some ⟨b, off, none⟩ → b < n₀)
    (hY : ∀ pre x W, J pre W → pre.length < len → YieldAt F (n - 1) Tryd.prog l (enth x) W fun e W' =>
      (e = .returned (.bool true) ∧ J (pre ++ [x]) W' ∧ Kp n₀ Bs W W') ∨ (e = .returned (.bool false) ∧ Jx (pre ++ [x]) W'))
    (hBs : W.cell? ⟨Bs, 0, none⟩ = some (.slice a len cap)) (hS : Wrs W a len zs) (h0 : J [] W) :
    CallsIn F n Tryd.prog 56 #[.func (.yield l) #[] #[], .pointer (some ⟨Bs, 0, none⟩)] W fun e W' => (∃ v, e = .returned v) ∧
      ((∃ ys, ys = bk zs 0 ∧ J ys W') ∨ (∃ pre, (∃ m, m < len ∧ pre = bk zs m) ∧ Jx pre W')) := by
  have HS := Lib.hid hS
  clear hS
  have HY := Lib.hid hY
  clear hY
  refine callsIn_of_wp Tryd.func56 rfl hf ?_ hro
  simp only [Tryd.ntmps56, List.size_toArray, List.length_cons, List.length_nil, Nat.reduceAdd, Nat.reduceSub, Array.replicate_succ, Array.replicate_zero, List.push_toArray, List.append_toArray, List.nil_append, List.cons_append]
  gi_wp2
  gi_loopw [3] (fun i wr => ∃ m : Nat, m ≤ len ∧ i = .int .i64 ((m : Int) - 1) ∧ J (bk zs m) wr ∧ Kp n₀ Bs W wr)
    (fun i _ => (intOf i + 1).toNat)
  case atStart => exact ⟨len, Nat.le_refl _, rfl, by rw [← HS.out.len, bk_all]; exact h0, Kp.refl _ _ _⟩
  case round =>
    obtain ⟨m, hm, hi, hJs, hnx⟩ := hrel
    have hcx := hnx.2 _ hBs
    cases m with
    | zero =>
      obtain rfl := hi
      gi_wp2
      go_end0
      exact ⟨⟨_, rfl⟩, .inl ⟨_, rfl, hJs⟩⟩
    | succ j =>
      have hi' : u3 = Value.int .i64 (j : Int) := by rw [hi]; congr 1; omega
      subst hi'
      clear hi
      obtain ⟨b, off, u, d, rfl, hb1, hg, c1, c2⟩ := HS.out.at_ (k := j) (by omega)
      have hbn := hb (by omega) b off rfl
      have c1' := (hnx.1.cell (p := ⟨b, off + j * 2, none⟩) hbn).trans c1
      have c2' := (hnx.1.cell (p := ⟨b, off + j * 2 + 1, none⟩) hbn).trans c2
      clear c1 c2
      have hlj : (bk zs (j + 1)).length < len := by simp [bk, HS.out.len]; omega
      obtain ⟨fn, tmps, assign, body, hy, hR⟩ := HY.out _ ⟨j, ⟨u, d⟩, by omega⟩ wr hJs hlj
      have HG := Lib.hid hg
      clear hg
      dsimp only [enth] at hy
      gi_wp2
      refine hR.mono ?_
      have HN : bk zs j = bk zs (j + 1) ++ [⟨j, ⟨u, d⟩, by omega⟩] := by rw [bk_next zs j (by rw [HS.out.len]; omega), nth_of HG.out (by omega)]
      rintro e W3 (⟨rfl, hJ3, hk3⟩ | ⟨rfl, hJx3⟩)
      · gi_wp2
        go_roundw
        case rel => exact ⟨j, by omega, rfl, by rw [HN]; exact hJ3, hnx.trans hk3⟩
        case measure => simp [intOf]
      · gi_wp2
        refine bodyPost_ret (results_none rfl _ _ _) rfl ?_
        exact ⟨⟨_, rfl⟩, .inr ⟨_, ⟨j, by omega, HN.symm⟩, hJx3⟩⟩

set_option maxHeartbeats 1000000 in
theorem backward_in (F : Fence) (n : Nat) (hf : F.fn 36) (hro : F.round = none) (a : Option Addr) (len cap : Nat) (w : World) :
    CallsIn F n Tryd.prog 36 #[.slice a len cap] w fun e w' => e = .returned (.func (.func 56) #[] #[.pointer (some ⟨w.heap.size, 0, none⟩)]) ∧ w' = w.alloc (.cells #[.slice a len cap] 60) := by
  refine callsIn_of_wp Tryd.func36 rfl hf ?_ hro
  simp only [Tryd.ntmps36, List.size_toArray, List.length_cons, List.length_nil, Nat.reduceAdd, Nat.reduceSub, Array.replicate_succ, Array.replicate_zero, List.push_toArray, List.append_toArray, List.nil_append, List.cons_append]
  gi_wp2
  go_ret
  exact ⟨rfl, rfl⟩
theorem backward_stops (F : Fence) (n : Nat) (hf : F.fn 56) (hro : F.round = none) (hn : 1 ≤ n) (Bs n₀ len cap : Nat) (a : Option Addr) (zs : List Wr) (hlen : len ≤ 1000000) (w : World)
    (hb : 0 < len → ∀ b off, a = some ⟨b, off, none⟩ → b < n₀) (hBs : w.cell? ⟨Bs, 0, none⟩ = some (.slice a len cap)) (hBl : Bs < w.heap.size) (hS : Wrs w a len zs) :
    SeqStopsK F n Tryd.prog 56 #[.pointer (some ⟨Bs, 0, none⟩)] enth (Kp n₀ Bs) (fun ys => ys = bk zs 0) (fun pre => ∃ m, m < len ∧ pre = bk zs m) len w := fun l J Jx W hW _ _ hY h0 =>
  backward1_in F n hf hro hn l Bs n₀ len cap a zs hlen J Jx W hb hY ((hW.cell (p := ⟨Bs, 0, none⟩) hBl).trans hBs) (hS.below hW) h0
end Go.Proofs.YtnnppdjgmjgjhaaDoor.Plate
