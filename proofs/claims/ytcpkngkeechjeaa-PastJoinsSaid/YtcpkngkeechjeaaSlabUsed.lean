/- The walk of slab.used, which goes over slices.Backward. -/
import Derived.Test.YtcpkngkeechjeaaSlabSize
import Derived.RangeFuncNested
import Derived.RangeFuncLeaves
import Derived.Shelf.Abstract
import Derived.OwnWalkIn
import Derived.TacticsInMore
import Derived.LoopNIn
import Derived.LoopIn
namespace Go.Proofs.Ytcpkngkeechjeaa.Slab
set_option maxRecDepth 100000
open Go.RowKit Go.Shelf
attribute [local go_sem] Oper.semAt_some

theorem usedN_none {l : List Slot} (h : ∀ x ∈ l, x.u = false) : usedN l = 0 := by
  induction l with
  | nil => rfl
  | cons x r ih =>
    rw [usedN, if_pos (ih fun y hy => h y (List.mem_cons_of_mem _ hy)), h x List.mem_cons_self]; rfl
theorem usedN_last {l : List Slot} {k : Nat} {x : Slot} (h : l[k]? = some x) (hu : x.u = true) (hr : ∀ y ∈ l.drop (k + 1), y.u = false) : usedN l = k + 1 := by
  induction l generalizing k with
  | nil => simp at h
  | cons y r ih =>
    cases k with
    | zero =>
      simp at h; subst h
      rw [usedN, if_pos (usedN_none (by simpa using hr)), hu]; rfl
    | succ k =>
      have := ih (k := k) (by simpa using h) (by simpa using hr)
      rw [usedN, if_neg (by omega), this]

/-- a place and what is there -/
structure Nth where
  i : Nat
  x : Slot
  h : i ≤ 1000000
def nth (zs : List Slot) (j : Nat) : Nth := ⟨min j 1000000, zs.getD j nos, by omega⟩
def enth (x : Nth) : Array Value := #[.int .i64 (x.i : Int), .agg #[.bool x.x.u, .string x.x.d]]
/-- what has come when m places are still to come -/
def bk (zs : List Slot) (m : Nat) : List Nth := (List.range (zs.length - m)).map fun j => nth zs (zs.length - 1 - j)
theorem bk_all (zs : List Slot) : bk zs zs.length = [] := by simp [bk]
theorem bk_next (zs : List Slot) (j : Nat) (h : j < zs.length) : bk zs j = bk zs (j + 1) ++ [nth zs j] := by
  unfold bk
  have e : zs.length - j = (zs.length - (j + 1)) + 1 := by omega
  rw [e, List.range_succ, List.map_append]
  congr 2
  simp only [List.map_cons, List.map_nil]
  congr 2; omega
theorem nth_of {zs : List Slot} {j : Nat} {x : Slot} (h : zs[j]? = some x) (hj : j ≤ 1000000) : nth zs j = ⟨j, x, hj⟩ := by
  unfold nth
  have e : zs.getD j nos = x := by simp [List.getD, h]
  have e2 : min j 1000000 = j := by omega
  congr 1
theorem bk_mem {zs : List Slot} {m : Nat} (p : Bool) (hp : ∀ x ∈ bk zs m, x.x.u = p) : ∀ y ∈ zs.drop m, y.u = p := by
  intro y hy
  obtain ⟨i, hi, rfl⟩ := List.mem_iff_getElem.1 hy
  simp only [List.length_drop] at hi
  have := hp (nth zs (m + i)) (by
    unfold bk
    refine List.mem_map.2 ⟨zs.length - 1 - (m + i), by simp; omega, ?_⟩
    congr 1; omega)
  simp only [nth] at this
  rw [List.getElem_drop]
  have e : zs.getD (m + i) nos = zs[m + i]'(by omega) := by simp [List.getD, show m + i < zs.length by omega]
  rw [e] at this
  exact this

/-- what lies below n, and the cell of block B, are kept -/
def Keep (n B : Nat) (W W' : World) : Prop := Below n W W' ∧ ∀ v, W.cell? ⟨B, 0, none⟩ = some v → W'.cell? ⟨B, 0, none⟩ = some v
theorem Keep.refl (n B : Nat) (W : World) : Keep n B W W := ⟨Below.refl _ _, fun _ h => h⟩
theorem Keep.trans {n B : Nat} {X Y Z : World} (h : Keep n B X Y) (k : Keep n B Y Z) : Keep n B X Z := ⟨h.1.trans k.1, fun v hv => k.2 v (h.2 v hv)⟩
theorem cell_putObj {W : World} {l B : Nat} {o o' : Obj} {v : Value} (h : W.heap[l]? = some o) (hc : o.isCells = false) (hv : W.cell? ⟨B, 0, none⟩ = some v) : (W.putObj l o').cell? ⟨B, 0, none⟩ = some v :=
  cell_kept hv (grownBy_putObj' W l o') (fun r e => by cases e; exact ⟨o, h, hc⟩)
theorem Keep.putObj {n B : Nat} {w : World} (hn : n ≤ w.heap.size) (W : World) (l : Nat) (o o' : Obj) (hl : w.heap.size ≤ l) (h : W.heap[l]? = some o) (hc : o.isCells = false) (hk : o.isWalk = false) : Keep n B W (W.putObj l o') :=
  ⟨belowK_b hn W l o o' hl h hc hk, fun _ hv => cell_putObj h hc hv⟩

set_option maxRecDepth 100000 in
set_option maxHeartbeats 1000000 in
theorem backward1_in (F : Fence) (n : Nat) (hf : F.fn 88) (hro : F.round = none) (hn : 1 ≤ n) (l Bs n₀ len cap : Nat) (a : Option Addr) (zs : List Slot) (hlen : len ≤ 1000000) (J Jx : List Nth → World → Prop)
    (W : World) (hb : 0 < len → ∀ b off, a = some ⟨b, off, none⟩ → b < n₀)
    (hY : ∀ pre x W, J pre W → pre.length < len → YieldAt F (n - 1) Try.prog l (enth x) W fun e W' =>
      (e = .returned (.bool true) ∧ J (pre ++ [x]) W' ∧ Keep n₀ Bs W W') ∨ (e = .returned (.bool false) ∧ Jx (pre ++ [x]) W'))
    (hBs : W.cell? ⟨Bs, 0, none⟩ = some (.slice a len cap)) (hS : Slots W a len zs) (h0 : J [] W) :
    CallsIn F n Try.prog 88 #[.func (.yield l) #[] #[], .pointer (some ⟨Bs, 0, none⟩)] W fun e W' => (∃ v, e = .returned v) ∧
      ((∃ ys, ys = bk zs 0 ∧ J ys W') ∨ (∃ pre, (∃ m, m < len ∧ pre = bk zs m) ∧ Jx pre W')) := by
  have HS := Lib.hid hS
  clear hS
  have HY := Lib.hid hY
  clear hY
  refine callsIn_of_wp Try.func88 rfl hf ?_ hro
  simp only [Try.ntmps88, List.size_toArray, List.length_cons, List.length_nil, Nat.reduceAdd, Nat.reduceSub, Array.replicate_succ, Array.replicate_zero, List.push_toArray, List.append_toArray, List.nil_append, List.cons_append]
  gi_wp2
  gi_loopw [3] (fun i wr => ∃ m : Nat, m ≤ len ∧ i = .int .i64 ((m : Int) - 1) ∧ J (bk zs m) wr ∧ Keep n₀ Bs W wr)
    (fun i _ => (intOf i + 1).toNat)
  case atStart => exact ⟨len, Nat.le_refl _, rfl, by rw [← HS.out.len, bk_all]; exact h0, Keep.refl _ _ _⟩
  case round =>
    obtain ⟨m, hm, hi, hJs, hnx⟩ := hrel
    have hcx := hnx.2 _ hBs
    cases m with
    | zero =>
      obtain rfl := hi
      gi_wp2
      go_end0
      exact ⟨⟨_, rfl⟩, .inl ⟨_, rfl, hJs⟩⟩
    | succ j =>
      have hi' : u3 = Value.int .i64 (j : Int) := by rw [hi]; congr 1; omega
      subst hi'
      clear hi
      obtain ⟨b, off, u, d, rfl, hb1, hg, c1, c2, hd⟩ := HS.out.at_ (k := j) (by omega)
      have hbn := hb (by omega) b off rfl
      have c1' := (hnx.1.cell (p := ⟨b, off + j * 2, none⟩) hbn).trans c1
      have c2' := (hnx.1.cell (p := ⟨b, off + j * 2 + 1, none⟩) hbn).trans c2
      clear c1 c2
      have hlj : (bk zs (j + 1)).length < len := by simp [bk, HS.out.len]; omega
      obtain ⟨fn, tmps, assign, body, hy, hR⟩ := HY.out _ ⟨j, ⟨u, d⟩, by omega⟩ wr hJs hlj
      have HG := Lib.hid hg
      clear hg
      dsimp only [enth] at hy
      gi_wp2
      refine hR.mono ?_
      have HN : bk zs j = bk zs (j + 1) ++ [⟨j, ⟨u, d⟩, by omega⟩] := by rw [bk_next zs j (by rw [HS.out.len]; omega), nth_of HG.out (by omega)]
      rintro e W3 (⟨rfl, hJ3, hk3⟩ | ⟨rfl, hJx3⟩)
      · gi_wp2
        go_roundw
        case rel => exact ⟨j, by omega, rfl, by rw [HN]; exact hJ3, hnx.trans hk3⟩
        case measure => simp [intOf]
      · gi_wp2
        refine bodyPost_ret (results_none rfl _ _ _) rfl ?_
        exact ⟨⟨_, rfl⟩, .inr ⟨_, ⟨j, by omega, HN.symm⟩, hJx3⟩⟩

set_option maxHeartbeats 1000000 in
theorem backward_in (F : Fence) (n : Nat) (hf : F.fn 84) (hro : F.round = none) (a : Option Addr) (len cap : Nat) (w : World) :
    CallsIn F n Try.prog 84 #[.slice a len cap] w fun e w' => e = .returned (.func (.func 88) #[] #[.pointer (some ⟨w.heap.size, 0, none⟩)]) ∧ w' = w.alloc (.cells #[.slice a len cap] 88) := by
  refine callsIn_of_wp Try.func84 rfl hf ?_ hro
  simp only [Try.ntmps84, List.size_toArray, List.length_cons, List.length_nil, Nat.reduceAdd, Nat.reduceSub, Array.replicate_succ, Array.replicate_zero, List.push_toArray, List.append_toArray, List.nil_append, List.cons_append]
  gi_wp2
  go_ret
  exact ⟨rfl, rfl⟩
theorem backward_stops (F : Fence) (n : Nat) (hf : F.fn 88) (hro : F.round = none) (hn : 1 ≤ n) (Bs n₀ len cap : Nat) (a : Option Addr) (zs : List Slot) (hlen : len ≤ 1000000) (w : World)
    (hb : 0 < len → ∀ b off, a = some ⟨b, off, none⟩ → b < n₀) (hBs : w.cell? ⟨Bs, 0, none⟩ = some (.slice a len cap)) (hBl : Bs < w.heap.size) (hS : Slots w a len zs) :
    SeqStopsK F n Try.prog 88 #[.pointer (some ⟨Bs, 0, none⟩)] enth (Keep n₀ Bs) (fun ys => ys = bk zs 0) (fun pre => ∃ m, m < len ∧ pre = bk zs m) len w := fun l J Jx W hW _ _ hY h0 =>
  backward1_in F n hf hro hn l Bs n₀ len cap a zs hlen J Jx W hb hY ((hW.cell (p := ⟨Bs, 0, none⟩) hBl).trans hBs) (hS.below hW) h0

set_option maxRecDepth 100000 in
set_option maxHeartbeats 2000000 in
theorem used_in (F : Fence) (n : Nat) (h36 : F.fn 72) (h53 : F.fn 84) (h60 : F.fn 88) (hro : F.round = none) (hn : 3 ≤ n)
    (a : Option Addr) (len cap : Nat) (zs : List Slot) (hlen : len ≤ 1000000) (w : World) (hS : Slots w a len zs) :
    CallsIn F n Try.prog 72 #[.slice a len cap] w fun e W' => e = .returned (.int .i64 (usedN zs : Nat)) ∧ Below w.heap.size w W' := by
  have h1 : 1 ≤ n := by omega
  have HS := Lib.hid hS
  clear hS
  refine callsIn_of_wp_marks Try.func72 rfl h36 ?_ hro
  simp only [Try.ntmps72, List.size_toArray, List.length_cons, List.length_nil, Nat.reduceAdd, Nat.reduceSub, Array.replicate_succ, Array.replicate_zero, List.push_toArray, List.append_toArray, List.nil_append, List.cons_append]
  gi_wp2_with (gi_at_call 84; refine (backward_in F (n - 1) h53 hro _ _ _ _).mono ?_; rintro e w' ⟨rfl, rfl⟩)
  have bR := Boxed.new w 3 (.int .i64 0)
  have bN := Boxed.new (w.alloc (.cells #[.int .i64 0] 3)) 88 (.slice a len cap)
  rw [World.size_alloc] at bN
  have hB0 : Below w.heap.size w ((w.alloc (.cells #[.int .i64 0] 3)).alloc (.cells #[.slice a len cap] 88)) := ((Below.refl _ w).alloc (Nat.le_refl _) _).alloc (by simp) _
  have bR' := bR.alloc (.cells #[.slice a len cap] 88)
  have hsz : ((w.alloc (.cells #[.int .i64 0] 3)).alloc (.cells #[.slice a len cap] 88)).heap.size = w.heap.size + 2 := by simp
  obtain ⟨W0, hW0⟩ : ∃ W0, (w.alloc (.cells #[.int .i64 0] 3)).alloc (.cells #[.slice a len cap] 88) = W0 := ⟨_, rfl⟩
  rw [hW0] at bN bR' hB0 hsz ⊢
  clear hW0 bR
  have hbn : 0 < len → ∀ b off, a = some ⟨b, off, none⟩ → b < w.heap.size := by
    intro h b off e
    obtain ⟨b', off', e', hlt, _⟩ := HS.out.2.2 h
    rw [e] at e'; cases e'; exact hlt
  refine wpIn_rangeFunc_ownH hro h1 (gf := 88) (lb := #[.pointer (some ⟨w.heap.size + 1, 0, none⟩)]) rfl h60 (enters_of Try.func88 (by kernel_rfl) rfl)
    (backward_stops F (n - 1) h60 hro (by omega) (w.heap.size + 1) w.heap.size len cap a zs hlen W0 hbn bN.cell (by omega) (HS.out.below hB0)) (fun h k => h.trans k) (Keep.putObj (by omega)) (Below.refl _ _) (fun _ => rfl)
    (fun pre W => ((∀ x ∈ pre, x.x.u = false) ∧ Boxed W w.heap.size 3 (.int .i64 0)) ∧ Below w.heap.size w W)
    (fun c pre W => (c = .ret ∧ ∃ ini last, pre = ini ++ [last] ∧ (∀ x ∈ ini, x.x.u = false) ∧ last.x.u = true ∧ Boxed W w.heap.size 3 (.int .i64 ((last.i : Int) + 1))) ∧ Below w.heap.size w W)
    (OwnFrom.and (OwnFrom.and (ownFrom_pure _ _) (Own.from (boxed_own _ _ _) _)) (ownFrom_below (Nat.le_refl _) (by omega)))
    (fun c => OwnFrom.and (Own.from (fun s A B row hs hg hr => by obtain ⟨hc, ini, last, e1, e2, e3, e4⟩ := hs; exact ⟨hc, ini, last, e1, e2, e3, boxed_own _ _ (fun (_ : Unit) => Value.int .i64 ((last.i : Int) + 1)) () A B row e4 hg hr⟩) _) (ownFrom_below (Nat.le_refl _) (by omega)))
    ⟨⟨by simp, bR'⟩, hB0⟩
    (fun x a' W => ∃ Bx : Nat, W.heap[Bx]? = some (.cells #[.bool x.x.u, .string x.x.d] 29 (0, 0)) ∧ a' = { tmps := #[.slice a len cap, undef, .pointer (some ⟨w.heap.size, 0, none⟩), .int .i64 (x.i : Int), .pointer (some ⟨Bx, 0, none⟩), .slice a len cap, .func (.func 88) #[] #[.pointer (some ⟨w.heap.size + 1, 0, none⟩)], .int .i64 (x.i : Int), .agg #[.bool x.x.u, .string x.x.d], undef, undef, undef, undef], defers := [] })
    ?hAx ?assign ?body ?done ?stop
  case hAx =>
    intro x a' _ X Y row hs hg hr
    obtain ⟨Bx, g2, g3⟩ := hs
    exact ⟨Bx, (hg.block Bx (Array.getElem?_eq_some_iff.1 g2).1 (fun e => by obtain ⟨_, o, ho, hc⟩ := hr Bx e.symm; rw [g2] at ho; cases ho; cases hc)).trans g2, g3⟩
  case assign =>
    rintro l pre x W K ⟨⟨hp, hbx⟩, hB⟩ hK
    dsimp only [enth]
    gi_wp2
    exact hK _ _ ((KeepsOthers.alloc _ _).from _) ⟨(Below.refl _ W).alloc hB.size _, fun v hv => (World.cell?_alloc_lt W _ _ (World.block_lt_of_cell? W _ hv)).trans hv⟩ ⟨⟨hp, hbx.alloc _⟩, hB.alloc hB.size _⟩ ⟨W.heap.size, World.alloc_heap_new W _, rfl⟩
  case body =>
    rintro l pre x a' W hl ⟨r, hr⟩ ⟨⟨hp, hbx⟩, hB⟩ ⟨Bx, hbX, rfl⟩ hlt
    have c0 : W.cell? ⟨Bx, 0, none⟩ = some (.bool x.x.u) := by simp [World.cell?, hbX]
    have hcr := hbx.cell
    have hfr := hbx.frozen
    have hx := x.h
    cases hu : x.x.u with
    | true =>
      rw [hu] at c0
      gi_wp2
      exact ⟨(KeepsOthers.setCell _ _ _).from _, ⟨rfl, pre, x, rfl, hp, hu, hbx.set _⟩, hB.setCell (p := ⟨w.heap.size, 0, none⟩) (Nat.le_refl _) _⟩
    | false =>
      rw [hu] at c0
      gi_wp2
      exact ⟨KeepsFrom.refl _ _, Keep.refl _ _ _, ⟨fun y hy => (List.mem_append.1 hy).elim (hp y) (fun e => by simp at e; subst e; exact hu), hbx⟩, hB⟩
  case done =>
    rintro D ys W hD rfl ⟨⟨hp, hbx⟩, hB⟩ hK
    have hcr := hbx.cell
    have hfr := hbx.frozen
    gi_wp2
    have hK' := (KeepsOthers.setCell W ⟨w.heap.size, 0, none⟩ (.int .i64 0)).same D _ hK rfl
    refine ⟨by simp, .inl ⟨_, _, rfl, run_takeDeferred hK', ?_⟩⟩
    have hc5 := cell_kept (World.cell?_setCell_same' W ⟨w.heap.size, 0, none⟩ (.int .i64 0) (by rw [hcr]; rfl)) (grownBy_putObj' _ D (.deferred none)) (fun r e => by cases e; exact ⟨_, hK', rfl⟩)
    have hz : usedN zs = 0 := usedN_none (bk_mem (m := 0) false hp)
    refine ⟨.int .i64 0, ?_, by rw [hz]; rfl, (hB.setCell (p := ⟨w.heap.size, 0, none⟩) (Nat.le_refl _) _).trans (belowK_b (w := w) (Nat.le_refl _) _ D _ _ (by omega) hK' rfl rfl)⟩
    simp [results, Try.results72, go_sem, hc5]
  case stop =>
    rintro D c pre W hD ⟨m, hm, rfl⟩ ⟨⟨rfl, ini, last, e1, e2, e3, hbx⟩, hB⟩ hK
    have hcr := hbx.cell
    gi_wp2
    refine ⟨by simp, .inl ⟨_, _, rfl, run_takeDeferred hK, ?_⟩⟩
    have hc5 := cell_kept hcr (grownBy_putObj' _ D (.deferred none)) (fun r e => by cases e; exact ⟨_, hK, rfl⟩)
    have hml : m < zs.length := by rw [HS.out.len]; exact hm
    rw [bk_next zs m hml] at e1
    obtain ⟨rfl, e5⟩ := List.append_inj' e1 rfl
    have hg : zs[m]? = some zs[m] := List.getElem?_eq_getElem hml
    rw [nth_of hg (by omega)] at e5
    obtain rfl := (List.cons.inj e5).1
    have hz : usedN zs = m + 1 := usedN_last hg e3 (bk_mem false e2)
    refine ⟨.int .i64 ((m : Int) + 1), ?_, by rw [hz]; rfl, hB.trans (belowK_b (w := w) (Nat.le_refl _) W D _ _ (by omega) hK rfl rfl)⟩
    simp [results, Try.results72, go_sem, hc5]
theorem used_any (a : Option Addr) (len cap : Nat) (zs : List Slot) (w : World) (h : Slots w a len zs) (hlen : len ≤ 1000000) :
    Calls Try.prog 72 #[.slice a len cap] w fun e w' => e = .returned (.int .i64 (usedN zs : Nat)) ∧ Below w.heap.size w w' :=
  (callsIn_wide (n := 6)).1 (used_in Fence.wide 6 trivial trivial trivial rfl (by omega) a len cap zs hlen w h)
end Go.Proofs.Ytcpkngkeechjeaa.Slab
