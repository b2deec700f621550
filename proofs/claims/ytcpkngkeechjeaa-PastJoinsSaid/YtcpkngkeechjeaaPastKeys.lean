/- slices.SortedFunc(maps.Keys(m), compare) at names: the names, rising. -/
import Derived.Test.YtcpkngkeechjeaaPastMapT
import Derived.Test.YtcpkngkeechjeaaPastCmp
import Derived.Test.YtcpkngkeechjeaaPastView
import Derived.Sort.MapsRangeIn
import Derived.RangeFuncFrom
import Derived.RangeFuncBox
import Derived.WalkKit
import Derived.OwnWalkIn
import Derived.TacticsInMore
import Derived.RegionIn
import Derived.LoopNIn
import Derived.LoopIn
namespace Go.Proofs.Ytcpkngkeechjeaa.Past
set_option maxRecDepth 100000
open Go.RowKit Go.Sort
open Go.Proofs.Ytcpkngkeechjeaa.Mem
open Go.Maps
attribute [local go_sem] Oper.semAt_some
def encKT (t : T3) : Array Value := #[.agg #[.int .i64 t.cl, .int .i64 t.ep, .int .i64 t.n]]
theorem abides_allocT {β : Type} {B : Nat} {J : β → World → Prop} (h : AbidesFrom B J) {s : β} {W : World} (o : Obj) (hs : J s W) : J s (W.alloc o) :=
  h s W _ none hs (World.grownBy_alloc W o none) (fun _ e => by cases e)
set_option maxRecDepth 100000 in
set_option maxHeartbeats 2000000 in
theorem keysT_in (F : Fence) (n : Nat) (hf : F.fn 38) (hro : F.round = none) (hn : 1 ≤ n) (l Bm b nn : Nat) (D0 : DataW Value) (J Jx : List T3 → World → Prop)
    (W : World) (hJ : AbidesFrom W.heap.size J)
    (hY : ∀ pre x W, J pre W → pre.length < Maps.size D0 → YieldAt F (n - 1) Try.prog l (encKT x) W fun e W' =>
      (e = .returned (.bool true) ∧ J (pre ++ [x]) W' ∧ KeepsWalks W W') ∨ (e = .returned (.bool false) ∧ Jx (pre ++ [x]) W'))
    (hm : W.cell? ⟨Bm, 0, none⟩ = some (.map (some b))) (hown : W.ownsMap Try.prog 24 RVT b nn D0) (h0 : J [] W) :
    CallsIn F n Try.prog 38 #[.func (.yield l) #[] #[], .pointer (some ⟨Bm, 0, none⟩)] W fun e W' => (∃ v, e = .returned v) ∧
      ((∃ ss : List T3, (ss.Nodup ∧ (∀ x ∈ ss, SmT x) ∧ ∀ x, SmT x → (x ∈ ss ↔ has D0 (litT x) = true)) ∧ J ss W') ∨ (∃ pre : List T3, True ∧ Jx pre W')) := by
  have HY := Lib.hid hY
  clear hY
  refine callsIn_of_wp Try.func38 rfl hf ?_ hro
  simp only [Try.ntmps38, List.size_toArray, List.length_cons, List.length_nil, Nat.reduceAdd, Nat.reduceSub, Array.replicate_succ, Array.replicate_zero, List.push_toArray, List.append_toArray, List.nil_append, List.cons_append]
  gi_wp2_with (first
    | (gi_at_range; refine wpListIn_range_own _ rfl _ 53 rfl 24 63 lawT Try.underlying53 _ b nn _ rfl hown ?_; intro w0 hrg0 hg0 hs0)
    | gi_in)
  go_frame
  gi_loopw [3] (fun _ wr => ∃ (left : Lit → Bool) (cnt : Nat) (ss : List T3), wr.ranges Try.prog 24 RVT b W.heap.size nn D0 left cnt ∧ ss.length + cnt ≤ Maps.size D0 ∧ Come D0 left ss ∧ J ss wr)
    (fun _ wr => wr.rangeLeft b W.heap.size)
  case atStart =>
    exact ⟨_, _, [], hrg0, by simp, come_start D0, hJ [] W w0 none h0 hg0 (fun r e => by cases e)⟩
  case round =>
    obtain ⟨left, cnt, ss, hrg, hcs, hC, hJs⟩ := hrel
    gi_wp2_with (first
      | (gi_at_next; refine wpListIn_next_ranges _ rfl _ rfl 24 lawT RVT (fun t : T3 => .agg #[.int .i64 t.cl, .int .i64 t.ep, .int .i64 t.n]) id (fun key kl hk => by obtain ⟨x, hx, _⟩ := keyT_inv hk; exact ⟨x, hx⟩) (fun v _ _ => ⟨v, rfl⟩) b W.heap.size nn _ _ _ rfl hrg ?_ ?_)
      | gi_in)
    · intro hc0 hl0
      gi_wp2
      go_end0
      exact ⟨⟨_, rfl⟩, .inl ⟨ss, ⟨hC.1, hC.2.1, fun x hx => by rw [hC.2.2 x hx, hl0]; simp⟩, hJs⟩⟩
    · intro x c kl yd yp w2 cnt2 hkey hlk hv hat hrg2 hlt hg2 hs2 hen
      obtain ⟨x', ex, hsm, rfl⟩ := keyT_inv hkey
      obtain rfl : x = x' := by injection ex with ex; simp at ex; exact t3_eq.2 ex
      have hJ2 : J ss w2 := hJ ss wr w2 (some W.heap.size) hJs hg2 (fun r e => by cases e; exact ⟨Nat.le_refl _, hrg.iter_walk⟩)
      have hJ3 := abides_allocT hJ (.cells #[.int .i64 x.cl, .int .i64 x.ep, .int .i64 x.n] 24) hJ2
      have hC2 := come_step hC hsm hlk hat
      obtain ⟨fn, tmps, assign, body, hy, hR⟩ := HY.out ss x _ hJ3 (by omega)
      have hrg3 := hrg2.alloc (.cells #[.int .i64 x.cl, .int .i64 x.ep, .int .i64 x.n] 24)
      have c0 : (w2.alloc (.cells #[.int .i64 x.cl, .int .i64 x.ep, .int .i64 x.n] 24)).cell? ⟨w2.heap.size, 0, none⟩ = some (.int .i64 x.cl) := (Blk.new w2 _ _).cell 0
      have c1 : (w2.alloc (.cells #[.int .i64 x.cl, .int .i64 x.ep, .int .i64 x.n] 24)).cell? ⟨w2.heap.size, 1, none⟩ = some (.int .i64 x.ep) := (Blk.new w2 _ _).cell 1
      have c2 : (w2.alloc (.cells #[.int .i64 x.cl, .int .i64 x.ep, .int .i64 x.n] 24)).cell? ⟨w2.heap.size, 2, none⟩ = some (.int .i64 x.n) := (Blk.new w2 _ _).cell 2
      have HC2 := Lib.hid hC2
      have HR3 := Lib.hid hrg3
      have HLT := Lib.hid hlt
      clear hs2 hC2 hJ3 hJ2 hkey hlk hat hv hC hrg3
      simp only [encKT] at hy
      gi_wp2
      refine hR.mono ?_
      rintro e W3 (⟨rfl, hJ3, hk3⟩ | ⟨rfl, hJx3⟩)
      · gi_wp2
        have hrg4 := HR3.out.of_walks hk3
        go_roundw
        case rel => exact ⟨_, cnt2, ss ++ [x], hrg4, by have := HLT.out; simp; omega, HC2.out, hJ3⟩
        case measure => rw [hrg4.left_eq, hrg.left_eq]; exact HLT.out
      · gi_wp2
        refine bodyPost_ret (results_none rfl _ _ _) rfl ?_
        exact ⟨⟨_, rfl⟩, .inr ⟨ss ++ [x], trivial, hJx3⟩⟩
end Go.Proofs.Ytcpkngkeechjeaa.Past
