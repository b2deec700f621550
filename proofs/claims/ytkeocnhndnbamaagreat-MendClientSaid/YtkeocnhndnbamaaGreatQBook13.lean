/- slices.SortedFunc(maps.Keys(m), compare) at names: the names, rising. slices.Collect(maps.Keys(m)) at names: each once. slices.SortedFunc(maps.Keys(m), compare): the names, rising; slices.Sorted(maps.Keys(m)): the pages, rising. -/
import Derived.Test.YtkeocnhndnbamaaGreatQBook12
import Derived.Test.YtkeocnhndnbamaaGreatQBook11
import Derived.Sort.MapsRangeIn
import Derived.RangeFuncFrom
import Derived.RangeFuncBox
import Derived.WalkKit
import Derived.OwnWalkIn
import Derived.TacticsInMore
import Derived.RegionIn
import Derived.LoopNIn
import Derived.LoopIn
import Derived.RangeFuncNested
import Derived.Test.YtkeocnhndnbamaaGreatShelf2
import Derived.Test.YtkeocnhndnbamaaGreatShelf4
import Derived.Test.YtkeocnhndnbamaaGreatQLatchMap
namespace Go.Proofs.YtkeocnhndnbamaaGreat.Past
set_option maxRecDepth 100000
open Go.RowKit Go.Sort
open Go.Proofs.YtkeocnhndnbamaaGreat.Mem
open Go.Maps
attribute [local go_sem] Oper.semAt_some
def encKT (t : T3) : Array Value := #[.agg #[.int .i64 t.cl, .int .i64 t.ep, .int .i64 t.n]]
theorem abides_allocT {β : Type} {B : Nat} {J : β → World → Prop} (h : AbidesFrom B J) {s : β} {W : World} (o : Obj) (hs : J s W) : J s (W.alloc o) :=
  h s W _ none hs (World.grownBy_alloc W o none) (fun _ e => by cases e)
set_option maxRecDepth 100000 in
set_option maxHeartbeats 2000000 in
theorem keysT_in (F : Fence) (n : Nat) (hf : F.fn 86) (hro : F.round = none) (hn : 1 ≤ n) (l Bm b nn : Nat) (D0 : DataW Value) (J Jx : List T3 → World → Prop)
    (W : World) (hJ : AbidesFrom W.heap.size J)
    (hY : ∀ pre x W, J pre W → pre.length < Maps.size D0 → YieldAt F (n - 1) Tryz.prog l (encKT x) W fun e W' =>
      (e = .returned (.bool true) ∧ J (pre ++ [x]) W' ∧ KeepsWalks W W') ∨ (e = .returned (.bool false) ∧ Jx (pre ++ [x]) W'))
    (hm : W.cell? ⟨Bm, 0, none⟩ = some (.map (some b))) (hown : W.ownsMap Tryz.prog 56 RVT b nn D0) (h0 : J [] W) :
    CallsIn F n Tryz.prog 86 #[.func (.yield l) #[] #[], .pointer (some ⟨Bm, 0, none⟩)] W fun e W' => (∃ v, e = .returned v) ∧
      ((∃ ss : List T3, (ss.Nodup ∧ (∀ x ∈ ss, SmT x) ∧ ∀ x, SmT x → (x ∈ ss ↔ has D0 (litT x) = true)) ∧ J ss W') ∨ (∃ pre : List T3, True ∧ Jx pre W')) := by
  have HY := Lib.hid hY
  clear hY
  refine callsIn_of_wp Tryz.func86 rfl hf ?_ hro
  simp only [Tryz.ntmps86, List.size_toArray, List.length_cons, List.length_nil, Nat.reduceAdd, Nat.reduceSub, Array.replicate_succ, Array.replicate_zero, List.push_toArray, List.append_toArray, List.nil_append, List.cons_append]
  gi_wp2_with (first
    | (gi_at_range; refine wpListIn_range_own _ rfl _ 144 rfl 56 153 lawT Tryz.underlying144 _ b nn _ rfl hown ?_; intro w0 hrg0 hg0 hs0)
    | gi_in)
  go_frame
  gi_loopw [3] (fun _ wr => ∃ (left : Lit → Bool) (cnt : Nat) (ss : List T3), wr.ranges Tryz.prog 56 RVT b W.heap.size nn D0 left cnt ∧ ss.length + cnt ≤ Maps.size D0 ∧ Come D0 left ss ∧ J ss wr)
    (fun _ wr => wr.rangeLeft b W.heap.size)
  case atStart =>
    exact ⟨_, _, [], hrg0, by simp, come_start D0, hJ [] W w0 none h0 hg0 (fun r e => by cases e)⟩
  case round =>
    obtain ⟨left, cnt, ss, hrg, hcs, hC, hJs⟩ := hrel
    gi_wp2_with (first
      | (gi_at_next; refine wpListIn_next_ranges _ rfl _ rfl 56 lawT RVT (fun t : T3 => .agg #[.int .i64 t.cl, .int .i64 t.ep, .int .i64 t.n]) id (fun key kl hk => by obtain ⟨x, hx, _⟩ := keyT_inv hk; exact ⟨x, hx⟩) (fun v _ _ => ⟨v, rfl⟩) b W.heap.size nn _ _ _ rfl hrg ?_ ?_)
      | gi_in)
    · intro hc0 hl0
      gi_wp2
      go_end0
      exact ⟨⟨_, rfl⟩, .inl ⟨ss, ⟨hC.1, hC.2.1, fun x hx => by rw [hC.2.2 x hx, hl0]; simp⟩, hJs⟩⟩
    · intro x c kl yd yp w2 cnt2 hkey hlk hv hat hrg2 hlt hg2 hs2 hen
      obtain ⟨x', ex, hsm, rfl⟩ := keyT_inv hkey
      obtain rfl : x = x' := by injection ex with ex; simp at ex; exact t3_eq.2 ex
      have hJ2 : J ss w2 := hJ ss wr w2 (some W.heap.size) hJs hg2 (fun r e => by cases e; exact ⟨Nat.le_refl _, hrg.iter_walk⟩)
      have hJ3 := abides_allocT hJ (.cells #[.int .i64 x.cl, .int .i64 x.ep, .int .i64 x.n] 56) hJ2
      have hC2 := come_step hC hsm hlk hat
      obtain ⟨fn, tmps, assign, body, hy, hR⟩ := HY.out ss x _ hJ3 (by omega)
      have hrg3 := hrg2.alloc (.cells #[.int .i64 x.cl, .int .i64 x.ep, .int .i64 x.n] 56)
      have c0 : (w2.alloc (.cells #[.int .i64 x.cl, .int .i64 x.ep, .int .i64 x.n] 56)).cell? ⟨w2.heap.size, 0, none⟩ = some (.int .i64 x.cl) := (Blk.new w2 _ _).cell 0
      have c1 : (w2.alloc (.cells #[.int .i64 x.cl, .int .i64 x.ep, .int .i64 x.n] 56)).cell? ⟨w2.heap.size, 1, none⟩ = some (.int .i64 x.ep) := (Blk.new w2 _ _).cell 1
      have c2 : (w2.alloc (.cells #[.int .i64 x.cl, .int .i64 x.ep, .int .i64 x.n] 56)).cell? ⟨w2.heap.size, 2, none⟩ = some (.int .i64 x.n) := (Blk.new w2 _ _).cell 2
      have HC2 := Lib.hid hC2
      have HR3 := Lib.hid hrg3
      have HLT := Lib.hid hlt
      clear hs2 hC2 hJ3 hJ2 hkey hlk hat hv hC hrg3
      simp only [encKT] at hy
      gi_wp2
      refine hR.mono ?_
      rintro e W3 (⟨rfl, hJ3, hk3⟩ | ⟨rfl, hJx3⟩)
      · gi_wp2
        have hrg4 := HR3.out.of_walks hk3
        go_roundw
        case rel => exact ⟨_, cnt2, ss ++ [x], hrg4, by have := HLT.out; simp; omega, HC2.out, hJ3⟩
        case measure => rw [hrg4.left_eq, hrg.left_eq]; exact HLT.out
      · gi_wp2
        refine bodyPost_ret (results_none rfl _ _ _) rfl ?_
        exact ⟨⟨_, rfl⟩, .inr ⟨ss ++ [x], trivial, hJx3⟩⟩
end Go.Proofs.YtkeocnhndnbamaaGreat.Past
namespace Go.Proofs.YtkeocnhndnbamaaGreat.Past
set_option maxRecDepth 100000
open Go.RowKit Go.Sort
open Go.Proofs.YtkeocnhndnbamaaGreat.Mem
open Go.Maps
attribute [local go_sem] Oper.semAt_some
/-- what has come is the names of f, each once -/
def Names (f : T3 → Option Value) (ss : List T3) : Prop := ss.Nodup ∧ ∀ x, x ∈ ss ↔ f x ≠ none
theorem keysT_stops (Bm b nn : Nat) {f : T3 → Option Value} (w : World) (h : MapT w b nn f) (hBm : Bm < w.heap.size) (hm : w.cell? ⟨Bm, 0, none⟩ = some (.map (some b))) :
    SeqStopsK Fence.wide 5 Tryz.prog 86 #[.pointer (some ⟨Bm, 0, none⟩)] encKT KeepsWalks (Names f) (fun _ => True) nn w := by
  obtain ⟨D0, hown, h2, h3⟩ := h
  intro l J Jx W hW hJ _ hY h0
  have hown' : W.ownsMap Tryz.prog 56 RVT b nn D0 := by
    have hbl := hown.lt
    obtain ⟨es, clock, hb, Ft, hs, hD⟩ := hown
    exact ⟨es, clock, (hW.block b hbl).trans hb, Ft, hs, hD⟩
  refine (keysT_in Fence.wide 5 trivial rfl (by omega) l Bm b nn D0 J Jx W hJ (fun pre x W1 hj hl => hY pre x W1 hj (Nat.lt_of_lt_of_le hl hown.size_le)) ((hW.cell (p := ⟨Bm, 0, none⟩) hBm).trans hm) hown' h0).mono ?_
  rintro e W' ⟨hv, ⟨ss, ⟨s1, s2, s3⟩, hj⟩ | ⟨pre, -, hj⟩⟩
  · refine ⟨hv, .inl ⟨ss, ⟨s1, fun x => ?_⟩, hj⟩⟩
    constructor
    · intro hx
      have := (s3 x (s2 x hx)).1 hx
      rw [(h2 x (s2 x hx)).1] at this
      intro e
      rw [e] at this
      cases this
    · intro hx
      refine (s3 x (h3 x hx)).2 ?_
      rw [(h2 x (h3 x hx)).1]
      cases e : f x with
      | none => exact absurd e hx
      | some _ => rfl
  · exact ⟨hv, .inr ⟨pre, trivial, hj⟩⟩
theorem keysT_any (mb : Option Nat) (w : World) : Calls Tryz.prog 72 #[.map mb] w fun e w' =>
    e = .returned (.func (.func 86) #[] #[.pointer (some ⟨w.heap.size, 0, none⟩)]) ∧ w' = w.alloc (.cells #[.map mb] 144) := by
  have hmf : ∀ (fn : Fn) (first cap : Array Value) (w : World), (Instr.makeFunc fn first cap).run Tryz.prog w = .ok (.func fn first cap) w := fun _ _ _ _ => rfl
  go_enter Tryz.func72, Tryz.ntmps72
  go_wp2
  go_ret
  exact ⟨rfl, rfl⟩
theorem cell_three {W : World} {t : TypeId} (v0 v1 v2 : Value) : ∀ j u, [v0, v1, v2][j]? = some u → (W.alloc (.cells #[v0, v1, v2] t)).cell? ((Addr.mk W.heap.size 0 none).add j) = some u := fun j u h => by
  have h1 := (Blk.new W t #[v0, v1, v2]).cell j
  have h2 : (Addr.mk W.heap.size 0 none).add j = ⟨W.heap.size, j, none⟩ := by unfold Addr.add; split <;> simp_all
  rw [h2, h1, ← Array.getElem?_toList]
  exact h
/-- between two rounds -/
structure ColI (w : World) (B : Nat) (ss : List T3) (W : World) : Prop where
  row : ∃ v, Boxed W B 117 v ∧ W.ownsRow w.heap.size 56 3 v ss.length (cellsG txV ss) ∧ True
  bel : Below w.heap.size w W
theorem colI_own {w : World} {B Bz : Nat} (h : w.heap.size ≤ Bz) : OwnFrom Bz (ColI w B) := fun s W W' row hs hg hr => by
  refine ⟨holdsRow_own w.heap.size B 117 56 3 (fun ss : List T3 => ss.length) (fun ss => cellsG txV ss) (fun _ _ => True) s W W' row hs.row hg (fun r e => (hr r e).2), ?_⟩
  exact hs.bel.grown hg hs.bel.size fun k e => Nat.le_trans h (hr k e).1
def NamesRes (f : T3 → Option Value) (w : World) (e : Ending) (w' : World) : Prop :=
  ∃ v ss, e = .returned v ∧ Names f ss ∧ w'.ownsRow w.heap.size 56 3 v ss.length (cellsG txV ss) ∧ Below w.heap.size w w'
set_option maxRecDepth 100000 in
set_option maxHeartbeats 4000000 in
theorem appendSeqT_any (Bm b nn : Nat) {f : T3 → Option Value} (w : World) (h : MapT w b nn f) (hBm : Bm < w.heap.size) (hm : w.cell? ⟨Bm, 0, none⟩ = some (.map (some b))) (hn : nn ≤ 1000000) :
    Calls Tryz.prog 103 #[.slice none 0 0, .func (.func 86) #[] #[.pointer (some ⟨Bm, 0, none⟩)]] w (NamesRes f w) := by
  obtain ⟨i0, hi, hz0, hz1, hz2⟩ := view_info info_tx
  have hVb := Ent.below_box w (.cells #[.slice none 0 0] 117)
  have hVx := Boxed.new w 117 (.slice none 0 0)
  have hMV := Lib.hid (h.same (hVb.block b h.lt))
  have hcV := Lib.hid ((hVb.cell (p := ⟨Bm, 0, none⟩) hBm).trans hm)
  have hVs : (w.alloc (.cells #[.slice none 0 0] 117)).heap.size = w.heap.size + 1 := by simp
  clear h hm
  refine (callsIn_wide (n := 6)).1 ?_
  refine callsIn_of_wp_marks Tryz.func103 rfl trivial ?_ rfl
  refine wpIn_wide.2 ?_
  simp only [Tryz.ntmps103, List.size_toArray, List.length_cons, List.length_nil, Nat.reduceAdd, Nat.reduceSub, Array.replicate_succ, Array.replicate_zero, List.push_toArray, List.append_toArray, List.nil_append, List.cons_append]
  go_wp2_with fail
  generalize hGen : w.alloc (.cells #[.slice none 0 0] 117) = V at hVb hVx hMV hcV hVs ⊢
  clear hGen
  refine (wpIn_wide (n := 6)).1 ?_
  apply wpIn_rangeFunc_ownH (F := Fence.wide) (n := 6) rfl (by omega) (gf := 86) (lb := #[.pointer (some ⟨Bm, 0, none⟩)]) rfl trivial (enters_of Tryz.func86 (by kernel_rfl) rfl)
    (keysT_stops Bm b nn V hMV.out (by omega) hcV.out)
    (fun h k => h.trans k) (fun W l o o' _ h _ hw => KeepsWalks.putObj o' h hw) (Below.refl _ _) (fun _ => rfl)
    (ColI w w.heap.size) (fun _ _ _ => False) (colI_own (by omega)) (fun _ _ _ _ _ hs _ _ => hs)
    ⟨⟨_, hVx, own_nil _ _ _ _, trivial⟩, hVb⟩
    (fun x a' X => ∃ Bx, Blk X Bx 56 #[.int .i64 x.cl, .int .i64 x.ep, .int .i64 x.n] ∧ a' = { tmps := #[.slice none 0 0, .func (.func 86) #[] #[.pointer (some ⟨Bm, 0, none⟩)], .pointer (some ⟨w.heap.size, 0, none⟩), undef, .slice none 0 0, .pointer (some ⟨Bx, 0, none⟩), .func (.func 86) #[] #[.pointer (some ⟨Bm, 0, none⟩)], .agg #[.int .i64 x.cl, .int .i64 x.ep, .int .i64 x.n], undef, undef, undef, undef, undef], defers := [] })
    (fun x a' s A B row h hg hr => by
      obtain ⟨Bx, h1, h2⟩ := h
      refine ⟨Bx, (hg.block Bx h1.lt fun e => ?_).trans h1, h2⟩
      obtain ⟨-, o, ho, hc⟩ := hr Bx e.symm
      unfold Blk at h1
      rw [h1] at ho
      cases ho
      cases hc)
  case hassign =>
    intro l pre x X K hj hK
    have HK := Lib.hid (hK _ (X.alloc (.cells #[.int .i64 x.cl, .int .i64 x.ep, .int .i64 x.n] 56)) ((KeepsOthers.alloc _ _).from _) (KeepsWalks.alloc _ _) (colI_own (Bz := V.heap.size) (by omega) pre X _ none hj (World.grownBy_alloc _ _ _) (fun r e => by cases e)) ⟨X.heap.size, Blk.new X _ _, rfl⟩)
    clear hK hj
    dsimp only [encKT]
    gi_wp2
    exact HK.out
  case hbody =>
    rintro l pre x a' X - - ⟨⟨v, hbx, hrow, -⟩, hbel⟩ ⟨Bx, hBx, rfl⟩ hlt
    obtain ⟨c0, c1, c2⟩ := tx_cells hBx
    have b0 := hbx.cell
    have hs1 := hbel.size
    have HBX := Lib.hid hbx
    have HROW := Lib.hid hrow
    have HBEL := Lib.hid hbel
    clear hbx hrow hbel hBx
    gi_wp2_with (gi_at_builtin; refine wpListIn_append_own _ rfl _ _ 117 rfl w.heap.size 56 i0 (.agg #[.int .i64 0, .int .i64 0, .int .i64 0]) 3 24 Tryz.underlying117 hi hz0 hz1 hz2 rfl (by decide) _ pre.length (cellsG txV pre) rfl (HROW.out.alloc _) ⟨X.heap.size, 0, none⟩ 1 1 (txV x) rfl rfl (cell_three _ _ _) (by intro u hu; simp [txV] at hu; rcases hu with rfl | rfl | rfl <;> rfl) (by unfold maxLen; omega) (by omega) (by simp; omega) ?_; intro v' w1 hown' hgrow _; rw [cellsG_snoc] at hown'; obtain ⟨g', cap', rfl⟩ := ownsRow_succ hown'; obtain ⟨k1, k2, k3, k4, k5⟩ := Boxed.appended HBX.out (by decide) HROW.out hs1 (Nat.le_refl _) hown' hgrow; have b1 := k1.cell; have f1 := k1.frozen; have HF := Lib.hid (show KeepsFrom V.heap.size X _ ∧ KeepsWalks X _ ∧ ColI w w.heap.size (pre ++ [x]) _ from ⟨k4.from _, k4.walks, ⟨_, k2, by rw [List.length_append]; exact k3, trivial⟩, HBEL.out.trans k5⟩); clear k1 k2 k3 k4 k5 hown' hgrow HBX HROW HBEL b0 c0 c1 c2)
    exact HF.out
  case hdone =>
    rintro D ss W hD hS ⟨⟨v, hbx, hrow, -⟩, hbel⟩ hK
    have b0 := hbx.cell
    have HROW := Lib.hid hrow
    have HBEL := Lib.hid hbel
    have hKl : D < W.heap.size := (Array.getElem?_eq_some_iff.1 hK).1
    have hwD : w.heap.size ≤ D := by omega
    have hrun := run_takeDeferred (P := Tryz.prog) hK
    obtain ⟨va, vc, rfl⟩ := own_shape hrow
    clear hrow hbel hbx
    go_wp2
    refine ⟨by simp, .inl ⟨_, _, rfl, hrun, ?_⟩⟩
    refine ⟨_, results_tmp rfl _ _ _, _, ss, rfl, hS, ownsRow_putObj HROW.out _ hK rfl, HBEL.out.grown (grownBy_putObj' _ _ _) HBEL.out.size (fun k e => by cases e; exact hwD)⟩
  case hstop =>
    rintro D c pre W hD _ hx _
    exact hx.elim
end Go.Proofs.YtkeocnhndnbamaaGreat.Past
namespace Go.Proofs.YtkeocnhndnbamaaGreat.Past
set_option maxRecDepth 100000
open Go.RowKit Go.Sort Go.Maps Go.Shelf
open Go.Proofs.YtkeocnhndnbamaaGreat.Mem
instance : Inhabited T3 := ⟨⟨0, 0, 0⟩⟩
theorem swoT : Go.Sort.SWO (ltOf cmpT) where
  irrefl x := by show decide (cmpT x x < 0) = false; rw [cmpT_lt]; exact order_less.irr x
  trans x y z h1 h2 := by
    have h1 : decide (cmpT x y < 0) = true := h1
    have h2 : decide (cmpT y z < 0) = true := h2
    show decide (cmpT x z < 0) = true
    rw [cmpT_lt] at *
    exact order_less.tra _ _ _ h1 h2
  ntrans x y z h1 h2 := by
    have h1 : decide (cmpT x y < 0) = false := h1
    have h2 : decide (cmpT y z < 0) = false := h2
    show decide (cmpT x z < 0) = false
    rw [cmpT_lt] at *
    have n1 : ¬ lessT x y = true := by rw [h1]; simp
    have n2 : ¬ lessT y z = true := by rw [h2]; simp
    cases h3 : lessT x z with
    | false => rfl
    | true =>
      rw [less_iff] at n1 n2 h3
      omega
theorem isAggT (w : World) : (isAgg 56).run Tryz.prog w = .ok true w := by kernel_rfl
theorem sizeOfT (w : World) : (Go.sizeOf 56).run Tryz.prog w = .ok 3 w := by kernel_rfl
/-- a row that is worked on in place -/
def RwT (w : World) (g c : Nat) (A : List T3) : Prop := ∃ cur, Blk w g 56 cur ∧ cur.size = c * 3 ∧ A.length ≤ c ∧ cur.toList.take (A.length * 3) = cellsG txV A
theorem RwT.lt {w : World} {g c : Nat} {A : List T3} (h : RwT w g c A) : g < w.heap.size := by obtain ⟨cur, h1, _⟩ := h; exact h1.lt
theorem tx_len (x : T3) : (txV x).length = 3 := rfl
theorem flatT_get (L : List T3) (t : Nat) (ht : t < L.length * 3) : (Go.Sort.flatK txV 3 L.toArray)[t]? = (cellsG txV L)[t]? := by
  have h2 : t / 3 < L.length := by omega
  have hx : L[t / 3]? = some L[t / 3] := List.getElem?_eq_getElem h2
  have hj := cellsG_at (f := txV) (m := 3) tx_len L (t / 3) _ hx (t % 3) (by omega)
  have e : t / 3 * 3 + t % 3 = t := by omega
  rw [e] at hj
  rw [hj]
  simp only [Go.Sort.flatK, Array.getElem?_map]
  have hr : (Array.range (L.toArray.size * 3))[t]? = some t := by simp [ht]
  rw [hr]
  simp only [Option.map_some]
  have hi : L.toArray[t / 3]! = L[t / 3] := by simp [h2]
  rw [hi]
  generalize L[t / 3] = x
  rcases (show t % 3 = 0 ∨ t % 3 = 1 ∨ t % 3 = 2 by omega) with h | h | h <;> rw [h] <;> simp [txV]
theorem flatT_list (L : List T3) : (Go.Sort.flatK txV 3 L.toArray).toList = cellsG txV L := by
  apply List.ext_getElem?
  intro t
  by_cases ht : t < L.length * 3
  · rw [Array.getElem?_toList, flatT_get L t ht]
  · rw [List.getElem?_eq_none (by simp; omega), List.getElem?_eq_none (by rw [cellsG_len (m := 3) tx_len]; omega)]
theorem holdsT {w : World} {g c : Nat} {L : List T3} (h : RwT w g c L) : Go.Sort.HoldsK txV 3 w g 0 L.toArray := by
  obtain ⟨cur, h1, h2, h3, h4⟩ := h
  intro j hj
  have hj' : j < L.length * 3 := by simpa using hj
  refine ⟨?_, h1.frozen _⟩
  have e : (Go.Sort.flatK txV 3 L.toArray)[j]! = (Go.Sort.flatK txV 3 L.toArray)[j]'hj := getElem!_pos (Go.Sort.flatK txV 3 L.toArray) j hj
  rw [Nat.zero_add, h1.cell, ← Array.getElem?_toList, e]
  have h5 : (cur.toList.take (L.length * 3))[j]? = (cellsG txV L)[j]? := by rw [h4]
  rw [List.getElem?_take_of_lt hj'] at h5
  rw [h5, ← flatT_get L j hj', Array.getElem?_eq_getElem hj]
  rfl
theorem sortedT_row {w : World} {g c n : Nat} {L L' : List T3} {os : Array Obj} (h : RwT w g c L) (hl : L'.length = L.length) : RwT (sortWorldK txV 3 w g 0 n L'.toArray os) g c L' := by
  obtain ⟨cur, h1, h2, h3, h4⟩ := h
  refine ⟨Go.Sort.putCells id 0 (Go.Sort.flatK txV 3 L'.toArray) cur, ?_, by simpa [Go.Sort.putCells] using h2, by omega, ?_⟩
  · unfold Blk sortWorldK
    rw [Go.Sort.heap_grow_old _ _ (by simpa [Go.Sort.putRowK, Go.Sort.putRow, Go.Sort.mapBlock, Go.Sort.ahead] using h1.lt)]
    simp [Go.Sort.putRowK, Go.Sort.putRow, Go.Sort.mapBlock, Go.Sort.ahead, Array.getElem?_modify, show w.heap[g]? = _ from h1, Go.Sort.onCells]
  · rw [← flatT_list L']
    apply List.ext_getElem?
    intro j
    by_cases hj : j < L'.length * 3
    · rw [List.getElem?_take_of_lt hj, Array.getElem?_toList, Array.getElem?_toList]
      simp [Go.Sort.putCells, show j < cur.size by omega, hj]
    · rw [List.getElem?_take_eq_none (by omega), List.getElem?_eq_none (by simp; omega)]
theorem sortedT_grown {w : World} {g n : Nat} {L' : List T3} {os : Array Obj} : w.grownBy (sortWorldK txV 3 w g 0 n L'.toArray os) (some g) := by
  refine ⟨rfl, rfl, rfl, by simp [sortWorldK, Go.Sort.putRowK, Go.Sort.putRow, Go.Sort.mapBlock, Go.Sort.ahead, Go.Sort.grow], fun k hk hne => ?_⟩
  unfold sortWorldK
  rw [Go.Sort.heap_grow_old _ _ (by simpa [Go.Sort.putRowK, Go.Sort.putRow, Go.Sort.mapBlock, Go.Sort.ahead] using hk)]
  have : g ≠ k := fun e => hne (by rw [e])
  simp [Go.Sort.putRowK, Go.Sort.putRow, Go.Sort.mapBlock, Go.Sort.ahead, Array.getElem?_modify, this]
theorem cmpLaysT (blk off size : Nat) (w : World) : CmpLays Tryz.prog 73 #[] txV 3 cmpT blk off size w := fun _ _ _ _ x y => compare_any x y _
def SortTRes (B : Nat) (L : List T3) (v : Value) (w : World) (e : Ending) (w' : World) : Prop :=
  e = .returned (.tuple #[]) ∧ ∃ L' : List T3, L'.length = L.length ∧ (∀ x, x ∈ L' ↔ x ∈ L) ∧ L'.Nodup ∧ L'.Pairwise (fun a b => lessT a b = true) ∧ w'.ownsRow B 56 3 v L'.length (cellsG txV L') ∧ Below B w w'
theorem sortT_any (B : Nat) (v : Value) (L : List T3) (w : World) (h : w.ownsRow B 56 3 v L.length (cellsG txV L)) (hl : L.length ≤ 1000000) (hnd : L.Nodup) :
    Calls Tryz.prog 85 #[v, .func (.func 73) #[] #[]] w (SortTRes B L v w) := by
  rcases h.2 with ⟨rfl, h0⟩ | ⟨g, cap, cur, rfl, hbase, hb, h1, h2, h3, h4⟩
  · obtain rfl := List.eq_nil_of_length_eq_zero h0
    refine (Tryz.sortE_none none 0 _ w).mono ?_
    rintro e w' ⟨rfl, rfl⟩
    exact ⟨rfl, [], rfl, fun x => Iff.rfl, List.nodup_nil, List.Pairwise.nil, own_nil _ _ _ _, Below.refl _ _⟩
  · have hR : RwT w g cap L := ⟨cur, hb, h3, h1, h4⟩
    have eg : ∀ args w, (callFunc 73 args).run Tryz.prog w = .ok (.enter 73 args) w := enters_of Tryz.func73 (by kernel_rfl) rfl
    have hcon := AnyQ.slices_SortFunc Tryz.sortE 3 isAggT sizeOfT txV tx_len (fun x v hv => by simp [txV] at hv; rcases hv with rfl | rfl | rfl <;> rfl) cmpT swoT 73 #[] g 0 cap L.toArray w eg (cmpLaysT _ _ _ _) (holdsT hR) hR.lt (by simp; omega)
    refine Calls.mono hcon ?_
    rintro e w' ⟨rfl, d', n, os, hp, hs, rfl⟩
    have hsz : d'.toList.length = L.length := by simpa using hp.1
    have hd : d' = d'.toList.toArray := by simp
    have hRow := sortedT_row (n := n) (os := os) hR hsz
    have hG := sortedT_grown (w := w) (g := g) (n := n) (L' := d'.toList) (os := os)
    rw [← hd] at hRow hG
    have hperm : d'.toList.Perm L := by
      have h5 := hp.2.2
      have e1 : d'.extract 0 L.toArray.size = d' := by
        apply Array.ext_getElem?; intro i
        rw [Array.getElem?_extract]
        by_cases hi : i < L.length
        · rw [if_pos (by rw [hp.1]; simpa using hi)]; simp
        · rw [if_neg (by rw [hp.1]; simpa using hi), Array.getElem?_eq_none (by rw [hp.1]; simpa using hi)]
      have e2 : L.toArray.extract 0 L.toArray.size = L.toArray := by simp
      rw [e1, e2] at h5
      exact h5
    have hnd' : d'.toList.Nodup := hperm.nodup_iff.2 hnd
    have hrise : d'.toList.Pairwise (fun a b => lessT a b = true) := by
      rw [List.pairwise_iff_getElem]
      intro i j hi hj hij
      have h6 := hs i j (Nat.zero_le _) hij (by simpa [hsz] using hj)
      have g1 : d'[i]! = d'.toList[i] := by simp [getElem!_pos, show i < d'.size by simpa using hi]
      have g2 : d'[j]! = d'.toList[j] := by simp [getElem!_pos, show j < d'.size by simpa using hj]
      rw [g1, g2] at h6
      have h6 : decide (cmpT d'.toList[j] d'.toList[i] < 0) = false := h6
      rw [cmpT_lt] at h6
      have hne : d'.toList[i] ≠ d'.toList[j] := by
        have := (List.pairwise_iff_getElem.1 hnd') i j hi hj hij
        exact this
      rcases order_less.tri d'.toList[i] d'.toList[j] with h7 | h7 | h7
      · exact h7
      · exact absurd h7 hne
      · rw [h6] at h7; cases h7
    refine ⟨rfl, d'.toList, hsz, fun x => hperm.mem_iff, hnd', hrise, ?_, ⟨hG.os, hG.tape, hG.output, Nat.le_trans (Nat.le_refl _) hG.size, fun k hk => ?_⟩⟩
    · obtain ⟨cur', hc1, hc2, hc3, hc4⟩ := hRow
      exact ⟨cellsG_len (m := 3) tx_len _, .inr ⟨g, cap, cur', by rw [hsz], hbase, hc1, hc3, h2, hc2, hc4⟩⟩
    · exact hG.block k (by have := hR.lt; omega) (fun e => by injection e with e; omega)
/-- a row of names that rises, of a call's own -/
def TxRes (f : T3 → Option Value) (w : World) (e : Ending) (w' : World) : Prop :=
  ∃ v ss, e = .returned v ∧ (∀ x, x ∈ ss ↔ f x ≠ none) ∧ ss.Pairwise (fun a b => lessT a b = true) ∧ w'.ownsRow w.heap.size 56 3 v ss.length (cellsG txV ss) ∧ Below w.heap.size w w'
theorem sameT_lit {a b : T3} (h : (litT a).sameKey (litT b) = true) : litT a = litT b := by
  unfold litT at h ⊢
  generalize keyBytes [.int .i64 a.cl, .int .i64 a.ep, .int .i64 a.n] = x at h ⊢
  generalize keyBytes [.int .i64 b.cl, .int .i64 b.ep, .int .i64 b.n] = y at h ⊢
  simp only [Lit.sameKey] at h
  rw [eq_of_beq h]
open Classical in
theorem nodup_le : ∀ (xs ks : List Lit), xs.Nodup → (∀ x ∈ xs, x ∈ ks) → xs.length ≤ ks.length
  | [], ks, _, _ => Nat.zero_le _
  | x :: xs, ks, hn, hb => by
    obtain ⟨h1, h2⟩ := List.nodup_cons.1 hn
    have hx := hb x List.mem_cons_self
    have h := nodup_le xs (ks.erase x) h2 (fun y hy => by
      have h3 : y ≠ x := fun e => h1 (e ▸ hy)
      exact (List.mem_erase_of_ne h3).2 (hb y (List.mem_cons_of_mem _ hy)))
    rw [List.length_erase, if_pos (by simpa using hx)] at h
    have := List.length_pos_of_mem hx
    simp only [List.length_cons]
    omega
set_option maxHeartbeats 1000000 in
theorem namesT_len {f : T3 → Option Value} {ss : List T3} {w : World} {b n : Nat} (h : MapT w b n f) (hs : Names f ss) : ss.length ≤ n := by
  obtain ⟨D, hown, h2, h3⟩ := h
  obtain ⟨es, clock, hb, Ft, hsz, hD⟩ := hown
  have hk : ∀ x ∈ ss, litT x ∈ ((es.toList.map (WideElems.rg Tryz.prog 56 RVT)).foldr DataW.insert []).map (·.1) := fun x hx => by
    have hf := (hs.2 x).1 hx
    have h4 := (h2 x (h3 x hf)).1
    rw [hD] at h4
    have h5 : (f x).isSome = true := by cases e : f x with
      | none => exact absurd e hf
      | some _ => rfl
    rw [h5] at h4
    obtain ⟨p, hp, hq⟩ := List.any_eq_true.1 h4
    refine List.mem_map.2 ⟨p, hp, ?_⟩
    have hp2 := mem_sorted.1 hp
    obtain ⟨y, hy, rfl⟩ := List.mem_map.1 hp2
    obtain ⟨z, hz⟩ := Ft.reads y hy
    obtain ⟨t, _, _, ht⟩ := keyT_inv (WideElems.rd_key hz)
    have e : (WideElems.rg Tryz.prog 56 RVT y).1 = litT t := by rw [WideElems.rg_of hz]; exact ht
    rw [e] at hq ⊢
    exact sameT_lit hq
  have hnd : (ss.map litT).Nodup := by
    unfold List.Nodup
    rw [List.pairwise_map]
    exact hs.1.imp_of_mem fun {a c} ha hc hne e => hne (litT_inj (h3 a ((hs.2 a).1 ha)) (h3 c ((hs.2 c).1 hc)) e)
  have h6 := nodup_le (ss.map litT) _ hnd (fun l hl => by obtain ⟨x, hx, rfl⟩ := List.mem_map.1 hl; exact hk x hx)
  rw [List.length_map, List.length_map, length_sorted, List.length_map] at h6
  rw [Array.length_toList] at h6
  exact Nat.le_trans h6 hsz
set_option maxRecDepth 100000 in
set_option maxHeartbeats 1000000 in
theorem sortedT_any (b nn : Nat) {f : T3 → Option Value} (w : World) (h : MapT w b nn f) (hn : nn ≤ 1000000) :
    Calls Tryz.prog 71 #[.func (.func 86) #[] #[.pointer (some ⟨w.heap.size, 0, none⟩)], .func (.func 73) #[] #[]] (w.alloc (.cells #[.map (some b)] 144)) (TxRes f (w.alloc (.cells #[.map (some b)] 144))) := by
  have hb := Ent.below_box w (.cells #[.map (some b)] 144)
  have hM := h.same (hb.block b h.lt)
  have hc := (Blk.new w 144 #[.map (some b)]).cell 0
  have hl := Ent.alloc_lt w (.cells #[.map (some b)] 144)
  generalize w.alloc (.cells #[.map (some b)] 144) = W at hM hc hl ⊢
  generalize w.heap.size = Bm at hc hl ⊢
  have HA := Lib.hid (appendSeqT_any Bm b nn W hM hl hc hn)
  have HL := Lib.hid (fun ss => namesT_len (ss := ss) hM)
  clear hM hc h hb
  have HC : Hid (Calls Tryz.prog 84 #[.func (.func 86) #[] #[.pointer (some ⟨Bm, 0, none⟩)]] W (NamesRes f W)) := by
    refine Lib.hid ?_
    go_enter Tryz.func84, Tryz.ntmps84
    go_wp2_with fail
    refine HA.out.mono ?_
    rintro e w1 ⟨v, ss, rfl, h1, h2, h3⟩
    obtain ⟨a, c, rfl⟩ := own_shape h2
    have H := Lib.hid (show NamesRes f W (.returned (.slice a ss.length c)) w1 from ⟨_, ss, rfl, h1, h2, h3⟩)
    clear h1 h2 h3
    go_wp2
    go_ret
    exact H.out
  clear HA
  go_enter Tryz.func71, Tryz.ntmps71
  go_wp2_with fail
  refine HC.out.mono ?_
  rintro e w1 ⟨v, ss, rfl, h1, h2, h3⟩
  have hlen := HL.out ss h1
  have HS := Lib.hid (sortT_any W.heap.size v ss w1 h2 (by omega) h1.1)
  have HM := Lib.hid h1.2
  have HB := Lib.hid h3
  obtain ⟨a, c, rfl⟩ := own_shape h2
  clear h1 h2 h3 HC HL hlen
  go_wp2_with fail
  refine HS.out.mono ?_
  rintro e w2 ⟨rfl, L', s1, s2, s3, s4, s5, s6⟩
  have H := Lib.hid (show TxRes f W (.returned (.slice a ss.length c)) w2 from ⟨_, L', rfl, fun x => (s2 x).trans (HM.out x), s4, by exact s5, HB.out.trans s6⟩)
  clear s1 s2 s3 s4 s5 s6 HS
  go_wp2
  go_ret
  exact H.out
/-! ### pages -/
theorem sortsI (m : Nat) : AnyZI.SortsIn Tryz.prog Tryz.sortedI_ren Fence.wide m :=
  ⟨fun blk off cap ss W hH hblk hsz => callsIn_wide.2 (AnyM.slices_Sort_int Tryz.sortI blk off cap ss W hH hblk hsz),
   fun p cap W => callsIn_wide.2 (AnyM.slices_Sort_int_none Tryz.sortI p cap W)⟩
theorem keysP_any (mb : Option Nat) (W : World) : Calls Tryz.prog 74 #[.map mb] W fun e w' =>
    e = .returned (.func (.func 89) #[] #[.pointer (some ⟨W.heap.size, 0, none⟩)]) ∧ w' = W.alloc (.cells #[.map mb] 88) :=
  (callsIn_wide (n := 5)).1 (AnyZI.keys_in Tryz.keysH Fence.wide 5 trivial rfl mb W)
/-- the keys of a map, as an own row -/
def KeysRes (ks : List Int) (w : World) (e : Ending) (w' : World) : Prop :=
  ∃ v, e = .returned v ∧ w'.ownsRow w.heap.size 3 1 v ks.length (ks.map (Value.int .i64)) ∧ Below w.heap.size w w'
open Go.Proofs.YtkeocnhndnbamaaGreat.Latch in
theorem sortedP_any {w : World} {b n : Nat} {f : Int → Option Value} {ks : List Int} (h : MapN w b n f) (hn : n ≤ 1000000) (hu : ks.Pairwise (fun x y => x < y)) (hk : ∀ x, x ∈ ks ↔ f x ≠ none) :
    Calls Tryz.prog 38 #[.func (.func 89) #[] #[.pointer (some ⟨w.heap.size, 0, none⟩)]] (w.alloc (.cells #[.map (some b)] 88)) (KeysRes ks (w.alloc (.cells #[.map (some b)] 88))) := by
  obtain ⟨D0, hown, h2, h3⟩ := h
  have hbl := hown.lt
  have hsz := hown.size_le
  have hmax : Maps.size D0 ≤ maxLen := by unfold maxLen; omega
  have hbytes : Maps.size D0 * 8 ≤ 140737488355328 := by omega
  have hseq : SeqGives Fence.wide 2 Tryz.prog 89 #[.pointer (some ⟨w.heap.size, 0, none⟩)] encZ (fun ss => ss.Perm (intKeys D0)) (Maps.size D0) (w.alloc (.cells #[.map (some b)] 88)) :=
    AnyZI.keys_gives (ρ := Tryz.keysH_ren) { Tryz.keysH with } Fence.wide _ trivial rfl (by omega) w.heap.size b n D0 _ (by simp) (by simp) (by
      obtain ⟨es, clock, hb, Ft, hs, hD⟩ := hown
      exact ⟨es, clock, (Below.heap_alloc _ _ b hbl).trans hb, Ft, hs, hD⟩)
  have cS := AnyZI.sorted_in Tryz.sortedI Fence.wide 5 trivial trivial trivial trivial rfl (by omega) (sortsI _) (enters_of Tryz.func65 (by kernel_rfl) rfl) 89 #[.pointer (some ⟨w.heap.size, 0, none⟩)] trivial (enters_of Tryz.func89 (by kernel_rfl) rfl) _ _ hmax hbytes _ hseq
  change CallsIn _ _ Tryz.prog 38 _ _ _ at cS
  refine ((callsIn_wide (n := 5)).1 cS).mono ?_
  rintro e w' ⟨v, ss, rfl, hS, hrow, _, hb⟩
  obtain ⟨i1, i2, _⟩ := owns_ints hown
  have hm := merge_eq (ss := ss) (ks := ks) (hS.nodup_iff.2 i1) hu fun x => by
    rw [hS.mem_iff, i2, hk]
    constructor
    · rintro ⟨s, hh⟩ e
      rw [(h2 x s).1, e] at hh
      cases hh
    · intro hx
      refine ⟨h3 x hx, ?_⟩
      rw [(h2 x (h3 x hx)).1]
      cases e : f x with
      | none => exact absurd e hx
      | some _ => rfl
  have hl : ss.length = ks.length := by rw [← hm]; simp
  rw [hm, hl] at hrow
  exact ⟨v, rfl, hrow, hb⟩
end Go.Proofs.YtkeocnhndnbamaaGreat.Past
