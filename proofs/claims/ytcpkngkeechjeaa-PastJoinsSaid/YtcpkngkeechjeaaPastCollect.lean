/- slices.Collect(maps.Keys(m)) at names: each once. -/
import Derived.Test.YtcpkngkeechjeaaPastKeys
import Derived.RangeFuncNested
namespace Go.Proofs.Ytcpkngkeechjeaa.Past
set_option maxRecDepth 100000
open Go.RowKit Go.Sort
open Go.Proofs.Ytcpkngkeechjeaa.Mem
open Go.Maps
attribute [local go_sem] Oper.semAt_some
/-- what has come is the names of f, each once -/
def Names (f : T3 → Option Value) (ss : List T3) : Prop := ss.Nodup ∧ ∀ x, x ∈ ss ↔ f x ≠ none
theorem keysT_stops (Bm b nn : Nat) {f : T3 → Option Value} (w : World) (h : MapT w b nn f) (hBm : Bm < w.heap.size) (hm : w.cell? ⟨Bm, 0, none⟩ = some (.map (some b))) :
    SeqStopsK Fence.wide 5 Try.prog 38 #[.pointer (some ⟨Bm, 0, none⟩)] encKT KeepsWalks (Names f) (fun _ => True) nn w := by
  obtain ⟨D0, hown, h2, h3⟩ := h
  intro l J Jx W hW hJ _ hY h0
  have hown' : W.ownsMap Try.prog 24 RVT b nn D0 := by
    have hbl := hown.lt
    obtain ⟨es, clock, hb, Ft, hs, hD⟩ := hown
    exact ⟨es, clock, (hW.block b hbl).trans hb, Ft, hs, hD⟩
  refine (keysT_in Fence.wide 5 trivial rfl (by omega) l Bm b nn D0 J Jx W hJ (fun pre x W1 hj hl => hY pre x W1 hj (Nat.lt_of_lt_of_le hl hown.size_le)) ((hW.cell (p := ⟨Bm, 0, none⟩) hBm).trans hm) hown' h0).mono ?_
  rintro e W' ⟨hv, ⟨ss, ⟨s1, s2, s3⟩, hj⟩ | ⟨pre, -, hj⟩⟩
  · refine ⟨hv, .inl ⟨ss, ⟨s1, fun x => ?_⟩, hj⟩⟩
    constructor
    · intro hx
      have := (s3 x (s2 x hx)).1 hx
      rw [(h2 x (s2 x hx)).1] at this
      intro e
      rw [e] at this
      cases this
    · intro hx
      refine (s3 x (h3 x hx)).2 ?_
      rw [(h2 x (h3 x hx)).1]
      cases e : f x with
      | none => exact absurd e hx
      | some _ => rfl
  · exact ⟨hv, .inr ⟨pre, trivial, hj⟩⟩
theorem keysT_any (mb : Option Nat) (w : World) : Calls Try.prog 24 #[.map mb] w fun e w' =>
    e = .returned (.func (.func 38) #[] #[.pointer (some ⟨w.heap.size, 0, none⟩)]) ∧ w' = w.alloc (.cells #[.map mb] 53) := by
  have hmf : ∀ (fn : Fn) (first cap : Array Value) (w : World), (Instr.makeFunc fn first cap).run Try.prog w = .ok (.func fn first cap) w := fun _ _ _ _ => rfl
  go_enter Try.func24, Try.ntmps24
  go_wp2
  go_ret
  exact ⟨rfl, rfl⟩
theorem cell_three {W : World} {t : TypeId} (v0 v1 v2 : Value) : ∀ j u, [v0, v1, v2][j]? = some u → (W.alloc (.cells #[v0, v1, v2] t)).cell? ((Addr.mk W.heap.size 0 none).add j) = some u := fun j u h => by
  have h1 := (Blk.new W t #[v0, v1, v2]).cell j
  have h2 : (Addr.mk W.heap.size 0 none).add j = ⟨W.heap.size, j, none⟩ := by unfold Addr.add; split <;> simp_all
  rw [h2, h1, ← Array.getElem?_toList]
  exact h
/-- between two rounds -/
structure ColI (w : World) (B : Nat) (ss : List T3) (W : World) : Prop where
  row : ∃ v, Boxed W B 34 v ∧ W.ownsRow w.heap.size 24 3 v ss.length (cellsG txV ss) ∧ True
  bel : Below w.heap.size w W
theorem colI_own {w : World} {B Bz : Nat} (h : w.heap.size ≤ Bz) : OwnFrom Bz (ColI w B) := fun s W W' row hs hg hr => by
  refine ⟨holdsRow_own w.heap.size B 34 24 3 (fun ss : List T3 => ss.length) (fun ss => cellsG txV ss) (fun _ _ => True) s W W' row hs.row hg (fun r e => (hr r e).2), ?_⟩
  exact hs.bel.grown hg hs.bel.size fun k e => Nat.le_trans h (hr k e).1
def NamesRes (f : T3 → Option Value) (w : World) (e : Ending) (w' : World) : Prop :=
  ∃ v ss, e = .returned v ∧ Names f ss ∧ w'.ownsRow w.heap.size 24 3 v ss.length (cellsG txV ss) ∧ Below w.heap.size w w'
set_option maxRecDepth 100000 in
set_option maxHeartbeats 4000000 in
theorem appendSeqT_any (Bm b nn : Nat) {f : T3 → Option Value} (w : World) (h : MapT w b nn f) (hBm : Bm < w.heap.size) (hm : w.cell? ⟨Bm, 0, none⟩ = some (.map (some b))) (hn : nn ≤ 1000000) :
    Calls Try.prog 45 #[.slice none 0 0, .func (.func 38) #[] #[.pointer (some ⟨Bm, 0, none⟩)]] w (NamesRes f w) := by
  obtain ⟨i0, hi, hz0, hz1, hz2⟩ := view_info info_tx
  have hVb := Ent.below_box w (.cells #[.slice none 0 0] 34)
  have hVx := Boxed.new w 34 (.slice none 0 0)
  have hMV := Lib.hid (h.same (hVb.block b h.lt))
  have hcV := Lib.hid ((hVb.cell (p := ⟨Bm, 0, none⟩) hBm).trans hm)
  have hVs : (w.alloc (.cells #[.slice none 0 0] 34)).heap.size = w.heap.size + 1 := by simp
  clear h hm
  refine (callsIn_wide (n := 6)).1 ?_
  refine callsIn_of_wp_marks Try.func45 rfl trivial ?_ rfl
  refine wpIn_wide.2 ?_
  simp only [Try.ntmps45, List.size_toArray, List.length_cons, List.length_nil, Nat.reduceAdd, Nat.reduceSub, Array.replicate_succ, Array.replicate_zero, List.push_toArray, List.append_toArray, List.nil_append, List.cons_append]
  go_wp2_with fail
  generalize hGen : w.alloc (.cells #[.slice none 0 0] 34) = V at hVb hVx hMV hcV hVs ⊢
  clear hGen
  refine (wpIn_wide (n := 6)).1 ?_
  apply wpIn_rangeFunc_ownH (F := Fence.wide) (n := 6) rfl (by omega) (gf := 38) (lb := #[.pointer (some ⟨Bm, 0, none⟩)]) rfl trivial (enters_of Try.func38 (by kernel_rfl) rfl)
    (keysT_stops Bm b nn V hMV.out (by omega) hcV.out)
    (fun h k => h.trans k) (fun W l o o' _ h _ hw => KeepsWalks.putObj o' h hw) (Below.refl _ _) (fun _ => rfl)
    (ColI w w.heap.size) (fun _ _ _ => False) (colI_own (by omega)) (fun _ _ _ _ _ hs _ _ => hs)
    ⟨⟨_, hVx, own_nil _ _ _ _, trivial⟩, hVb⟩
    (fun x a' X => ∃ Bx, Blk X Bx 24 #[.int .i64 x.cl, .int .i64 x.ep, .int .i64 x.n] ∧ a' = { tmps := #[.slice none 0 0, .func (.func 38) #[] #[.pointer (some ⟨Bm, 0, none⟩)], .pointer (some ⟨w.heap.size, 0, none⟩), undef, .slice none 0 0, .pointer (some ⟨Bx, 0, none⟩), .func (.func 38) #[] #[.pointer (some ⟨Bm, 0, none⟩)], .agg #[.int .i64 x.cl, .int .i64 x.ep, .int .i64 x.n], undef, undef, undef, undef, undef], defers := [] })
    (fun x a' s A B row h hg hr => by
      obtain ⟨Bx, h1, h2⟩ := h
      refine ⟨Bx, (hg.block Bx h1.lt fun e => ?_).trans h1, h2⟩
      obtain ⟨-, o, ho, hc⟩ := hr Bx e.symm
      unfold Blk at h1
      rw [h1] at ho
      cases ho
      cases hc)
  case hassign =>
    intro l pre x X K hj hK
    have HK := Lib.hid (hK _ (X.alloc (.cells #[.int .i64 x.cl, .int .i64 x.ep, .int .i64 x.n] 24)) ((KeepsOthers.alloc _ _).from _) (KeepsWalks.alloc _ _) (colI_own (Bz := V.heap.size) (by omega) pre X _ none hj (World.grownBy_alloc _ _ _) (fun r e => by cases e)) ⟨X.heap.size, Blk.new X _ _, rfl⟩)
    clear hK hj
    dsimp only [encKT]
    gi_wp2
    exact HK.out
  case hbody =>
    rintro l pre x a' X - - ⟨⟨v, hbx, hrow, -⟩, hbel⟩ ⟨Bx, hBx, rfl⟩ hlt
    obtain ⟨c0, c1, c2⟩ := tx_cells hBx
    have b0 := hbx.cell
    have hs1 := hbel.size
    have HBX := Lib.hid hbx
    have HROW := Lib.hid hrow
    have HBEL := Lib.hid hbel
    clear hbx hrow hbel hBx
    gi_wp2_with (gi_at_builtin; refine wpListIn_append_own _ rfl _ _ 34 rfl w.heap.size 24 i0 (.agg #[.int .i64 0, .int .i64 0, .int .i64 0]) 3 24 Try.underlying34 hi hz0 hz1 hz2 rfl (by decide) _ pre.length (cellsG txV pre) rfl (HROW.out.alloc _) ⟨X.heap.size, 0, none⟩ 1 1 (txV x) rfl rfl (cell_three _ _ _) (by intro u hu; simp [txV] at hu; rcases hu with rfl | rfl | rfl <;> rfl) (by unfold maxLen; omega) (by omega) (by simp; omega) ?_; intro v' w1 hown' hgrow _; rw [cellsG_snoc] at hown'; obtain ⟨g', cap', rfl⟩ := ownsRow_succ hown'; obtain ⟨k1, k2, k3, k4, k5⟩ := Boxed.appended HBX.out (by decide) HROW.out hs1 (Nat.le_refl _) hown' hgrow; have b1 := k1.cell; have f1 := k1.frozen; have HF := Lib.hid (show KeepsFrom V.heap.size X _ ∧ KeepsWalks X _ ∧ ColI w w.heap.size (pre ++ [x]) _ from ⟨k4.from _, k4.walks, ⟨_, k2, by rw [List.length_append]; exact k3, trivial⟩, HBEL.out.trans k5⟩); clear k1 k2 k3 k4 k5 hown' hgrow HBX HROW HBEL b0 c0 c1 c2)
    exact HF.out
  case hdone =>
    rintro D ss W hD hS ⟨⟨v, hbx, hrow, -⟩, hbel⟩ hK
    have b0 := hbx.cell
    have HROW := Lib.hid hrow
    have HBEL := Lib.hid hbel
    have hKl : D < W.heap.size := (Array.getElem?_eq_some_iff.1 hK).1
    have hwD : w.heap.size ≤ D := by omega
    have hrun := run_takeDeferred (P := Try.prog) hK
    obtain ⟨va, vc, rfl⟩ := own_shape hrow
    clear hrow hbel hbx
    go_wp2
    refine ⟨by simp, .inl ⟨_, _, rfl, hrun, ?_⟩⟩
    refine ⟨_, results_tmp rfl _ _ _, _, ss, rfl, hS, ownsRow_putObj HROW.out _ hK rfl, HBEL.out.grown (grownBy_putObj' _ _ _) HBEL.out.size (fun k e => by cases e; exact hwD)⟩
  case hstop =>
    rintro D c pre W hD _ hx _
    exact hx.elim
end Go.Proofs.Ytcpkngkeechjeaa.Past
