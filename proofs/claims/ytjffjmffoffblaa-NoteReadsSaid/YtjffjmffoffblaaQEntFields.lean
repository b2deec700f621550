/- The walk of entry.fields: pointers to an entry's fields, in order. -/
import Derived.Test.YtjffjmffoffblaaQEntGood
import Derived.StillTailTactics
import Derived.Deep.RegionWith
import Derived.Deep.Cut
import Derived.Deep.RegionLawGrows
import Derived.Deep.AppendLies
namespace Go.Proofs.Ytjffjmffoffblaa.Ent
set_option maxRecDepth 100000
open Go.RowKit
open Go.Proofs.Ytjffjmffoffblaa.Slab (Blk)
open Go.Proofs.Ytjffjmffoffblaa.Nib (below_next below_drew)

def ptrs (g : Nat) (l : List Nat) : List Value := l.map fun i => .pointer (some ⟨g, i, none⟩)
/-- a row of pointers in memory -/
def PRow (w : World) (b : Nat) (vs : List Value) : Prop := ∃ (cs : Array Value) (T : TypeId) (fr : Nat × Nat), w.heap[b]? = some (.cells cs T fr) ∧ (T = 124 ∨ T = 125) ∧ ∀ (i : Nat) (v : Value), vs[i]? = some v → cs[i]? = some v
theorem PRow.get {w : World} {b : Nat} {vs : List Value} (h : PRow w b vs) {i : Nat} {v : Value} (hv : vs[i]? = some v) : w.cell? ⟨b, i, none⟩ = some v := by
  obtain ⟨cs, T, fr, h1, _, h2⟩ := h
  have := h2 i v hv
  simp [World.cell?, h1, this]
theorem PRow.lt {w : World} {b : Nat} {vs : List Value} (h : PRow w b vs) : b < w.heap.size := by
  obtain ⟨cs, T, fr, h1, _, _⟩ := h
  exact (Array.getElem?_eq_some_iff.1 h1).1
theorem PRow.same {w w' : World} {b : Nat} {vs : List Value} (h : PRow w b vs) (he : w'.heap[b]? = w.heap[b]?) : PRow w' b vs := by
  obtain ⟨cs, T, fr, h1, h2, h3⟩ := h
  exact ⟨cs, T, fr, he.trans h1, h2, h3⟩

def ShortRes (g : Nat) (w : World) (e : Ending) (w' : World) : Prop :=
  ∃ b cap, e = .returned (.tuple #[.slice (some ⟨b, 0, none⟩) 5 cap, .slice none 0 0]) ∧ w.heap.size ≤ b ∧ PRow w' b (ptrs g [1, 2, 3, 4, 5]) ∧ Below w.heap.size w w'
def LongRes (g : Nat) (w : World) (e : Ending) (w' : World) : Prop :=
  ∃ b cap b' cap', e = .returned (.tuple #[.slice (some ⟨b, 0, none⟩) 8 cap, .slice (some ⟨b', 0, none⟩) 2 cap']) ∧ w.heap.size ≤ b ∧ w.heap.size ≤ b' ∧ PRow w' b (ptrs g [1, 2, 3, 4, 5, 6, 7, 12]) ∧ PRow w' b' (ptrs g [8, 10]) ∧ Below w.heap.size w w'
theorem prow_blk {w : World} {b : Nat} {vs : List Value} (h : Blk w b 124 vs.toArray) : PRow w b vs := ⟨_, _, _, h, .inl rfl, fun i v hv => by simpa using hv⟩
theorem prow_blk2 {w : World} {b : Nat} {vs : List Value} (h : Blk w b 125 vs.toArray) : PRow w b vs := ⟨_, _, _, h, .inr rfl, fun i v hv => by simpa using hv⟩
theorem prow_next {w w' : World} {b : Nat} {vs : List Value} (h : PRow w b vs) (hb : Below w.heap.size w w') : PRow w' b vs := h.same (hb.block b h.lt)
theorem drew_below (w : World) : Below w.heap.size w w.drew := below_drewN (Below.refl _ _) 1

set_option maxRecDepth 100000 in
set_option maxHeartbeats 800000 in
theorem fields_short (g : Nat) (k : Int) (w : World) (hc : w.cell? ⟨g, 0, none⟩ = some (.int .i64 k)) (h1 : (k != 1) = true) (h2 : (k != 2) = true) :
    Calls Try.prog 75 #[.pointer (some ⟨g, 0, none⟩)] w (ShortRes g w) := by
  go_enter Try.func75, Try.ntmps75
  go_wp2
  go_still_tail 18, (by kernel_rfl)
  change wpList _ _ _ _ _ w.drew
  have hb := drew_below w
  have hc1 : w.drew.cell? ⟨g, 0, none⟩ = some (.int .i64 k) := hc
  generalize w.drew = w1 at hb hc1
  have hlt := World.block_lt_of_cell? _ _ hc1
  have hc2 : (w1.alloc (.cells #[.pointer (some ⟨g, 1, none⟩), .pointer (some ⟨g, 2, none⟩), .pointer (some ⟨g, 3, none⟩), .pointer (some ⟨g, 4, none⟩), .pointer (some ⟨g, 5, none⟩)] 124)).cell? ⟨g, 0, none⟩ = some (.int .i64 k) := by rw [World.cell?_alloc_lt _ _ _ hlt]; exact hc1
  go_wp2
  refine bodyPost_ret (v := .tuple #[.slice (some ⟨w1.heap.size, 0, none⟩) 5 5, .slice none 0 0]) (by simp [results, Try.results75, go_sem]) rfl ?_
  exact ⟨_, _, rfl, hb.size, prow_blk (Blk.new w1 124 #[.pointer (some ⟨g, 1, none⟩), .pointer (some ⟨g, 2, none⟩), .pointer (some ⟨g, 3, none⟩), .pointer (some ⟨g, 4, none⟩), .pointer (some ⟨g, 5, none⟩)]), below_next hb (below_box _ _)⟩
theorem blk_drew {w : World} {g : Nat} {t : TypeId} {cs : Array Value} (h : Blk w g t cs) : Blk w.drew g t cs := h
theorem add_at (b j : Nat) : (Addr.mk b 0 none).add j = ⟨b, j, none⟩ := by unfold Addr.add; split <;> simp_all
theorem infoPI : (Try.prog.info? 124).map (fun i => (i.zero, i.size, i.bytes)) = some (some (.pointer none), 1, 8) := by kernel_rfl
theorem step_app {ops : Array Oper} {o : Oper} {a : Act} {w : World} {K : Act → World → Prop} {Q : Exit → Act → World → Prop} {E : Prop}
    (hg : o.guard = none) (s x : Operand) (hop : o.op = Op.call { callee := Callee.builtin Builtin.append, args := #[s, x], argTypes := #[119, 119] }) (g b gn : Nat)
    (hs : a.eval s = .slice (some ⟨b, 0, none⟩) 5 5) (hx : a.eval x = .slice (some ⟨gn, 0, none⟩) 3 3)
    (hB : Blk w b 124 (ptrs g [1, 2, 3, 4, 5]).toArray) (hN : Blk w gn 124 (ptrs g [6, 7, 12]).toArray)
    (hK : ∀ (g' cap : Nat) (w' : World), PRow w' g' (ptrs g [1, 2, 3, 4, 5, 6, 7, 12]) → w.heap.size ≤ g' → Below w.heap.size w w' → K (a.put o.dst (.slice (some ⟨g', 0, none⟩) 8 cap)) w') :
    if Region.wanted o (yielded ops a.tmps) = true then Oper.wp Try.prog o a w K Q else E := by
  obtain ⟨i0, hi, hz0, hz1, hz2⟩ := info_parts infoPI
  refine step_append_grows hg s x 119 hop 124 i0 (.pointer none) 1 8 Try.underlying119 hi hz0 hz1 hz2 rfl (by decide) (some ⟨b, 0, none⟩) 5 5 (ptrs g [1, 2, 3, 4, 5]) hs (fun h => by cases h) rfl ?_
    ⟨gn, 0, none⟩ 3 3 (ptrs g [6, 7, 12]) hx rfl ?_ ?_ (by decide) (by decide) (by decide) ?_
  · intro b' hb' j u hj
    cases hb'
    rw [add_at]
    exact (prow_blk hB).get hj
  · intro j u hj
    rw [add_at]
    exact (prow_blk hN).get hj
  · intro u hu
    simp [ptrs] at hu
    rcases hu with rfl | rfl | rfl <;> rfl
  · intro v' w' hown hgrow
    rcases hown.2 with ⟨_, h0⟩ | ⟨g', cap, cur, rfl, hge, hblk, hrest⟩
    · exact absurd h0 (by decide)
    · refine hK g' cap w' ⟨_, _, _, hblk, .inl rfl, ?_⟩ hge (Slab.below_grown hgrow)
      intro i v hv
      have h1 := hown.cells (g := g') rfl i v hv
      rw [add_at] at h1
      have h2 := Blk.cell (show Blk w' g' 124 cur from hblk) i
      exact h2.symm.trans h1

set_option maxRecDepth 100000 in
set_option maxHeartbeats 4000000 in
theorem fields_long (g : Nat) (k : Int) (w : World) (hc : w.cell? ⟨g, 0, none⟩ = some (.int .i64 k)) (hk : ((k != 1) = true ∧ (k != 2) = false) ∨ ((k != 1) = false)) :
    Calls Try.prog 75 #[.pointer (some ⟨g, 0, none⟩)] w (LongRes g w) := by
  rcases hk with ⟨h1, h2⟩ | h1
  all_goals
    go_enter Try.func75, Try.ntmps75
    go_wp2
    go_still_tail 18, (by kernel_rfl)
    change wpList _ _ _ _ _ w.drew
    have hb := drew_below w
    have hc1 : w.drew.cell? ⟨g, 0, none⟩ = some (.int .i64 k) := hc
    generalize w.drew = w1 at hb hc1
    have hlt := World.block_lt_of_cell? _ _ hc1
    have hc2 : (w1.alloc (.cells #[.pointer (some ⟨g, 1, none⟩), .pointer (some ⟨g, 2, none⟩), .pointer (some ⟨g, 3, none⟩), .pointer (some ⟨g, 4, none⟩), .pointer (some ⟨g, 5, none⟩)] 124)).cell? ⟨g, 0, none⟩ = some (.int .i64 k) := by rw [World.cell?_alloc_lt _ _ _ hlt]; exact hc1
    go_upto_region 4 with (fail)
    have hb2 := below_next hb (below_box w1 (.cells #[.pointer (some ⟨g, 1, none⟩), .pointer (some ⟨g, 2, none⟩), .pointer (some ⟨g, 3, none⟩), .pointer (some ⟨g, 4, none⟩), .pointer (some ⟨g, 5, none⟩)] 124))
    have hB := Blk.new w1 124 #[.pointer (some ⟨g, 1, none⟩), .pointer (some ⟨g, 2, none⟩), .pointer (some ⟨g, 3, none⟩), .pointer (some ⟨g, 4, none⟩), .pointer (some ⟨g, 5, none⟩)]
    have hW := alloc_lt w1 (.cells #[.pointer (some ⟨g, 1, none⟩), .pointer (some ⟨g, 2, none⟩), .pointer (some ⟨g, 3, none⟩), .pointer (some ⟨g, 4, none⟩), .pointer (some ⟨g, 5, none⟩)] 124)
    have hw1 := hb.size
    clear hb hc hc1 hc2 hlt
    generalize hGen : w1.alloc (.cells #[.pointer (some ⟨g, 1, none⟩), .pointer (some ⟨g, 2, none⟩), .pointer (some ⟨g, 3, none⟩), .pointer (some ⟨g, 4, none⟩), .pointer (some ⟨g, 5, none⟩)] 124) = W at hb2 hB hW ⊢
    clear hGen
    generalize hGen : w1.heap.size = b at hB hW hw1 ⊢
    clear hGen
    have HB := Lib.hid hB
    have HB2 := Lib.hid hb2
    clear hB hb2
    have hP3 := Blk.new W 124 #[.pointer (some ⟨g, 6, none⟩), .pointer (some ⟨g, 7, none⟩), .pointer (some ⟨g, 12, none⟩)]
    have HP3 := Lib.hid hP3
    have HP3b := Lib.hid (hP3.alloc (.cells #[.pointer (some ⟨g, 8, none⟩), .pointer (some ⟨g, 10, none⟩)] 125))
    have hP2 := Blk.new W 125 #[.pointer (some ⟨g, 8, none⟩), .pointer (some ⟨g, 10, none⟩)]
    have hP3c := Blk.new (W.alloc (.cells #[.pointer (some ⟨g, 8, none⟩), .pointer (some ⟨g, 10, none⟩)] 125)) 124 #[.pointer (some ⟨g, 6, none⟩), .pointer (some ⟨g, 7, none⟩), .pointer (some ⟨g, 12, none⟩)]
    rw [World.size_alloc] at hP3c
    have HP3c := Lib.hid hP3c
    have HP2a := Lib.hid hP2
    have HP2b := Lib.hid (hP2.alloc (.cells #[.pointer (some ⟨g, 6, none⟩), .pointer (some ⟨g, 7, none⟩), .pointer (some ⟨g, 12, none⟩)] 124))
    have hP2c := Blk.new (W.alloc (.cells #[.pointer (some ⟨g, 6, none⟩), .pointer (some ⟨g, 7, none⟩), .pointer (some ⟨g, 12, none⟩)] 124)) 125 #[.pointer (some ⟨g, 8, none⟩), .pointer (some ⟨g, 10, none⟩)]
    rw [World.size_alloc] at hP2c
    have HP2c := Lib.hid hP2c
    clear hP3 hP2 hP3c hP2c
    go_region_law (first
      | (refine step_app rfl (.tmp 37) (.tmp 47) rfl g b W.heap.size (by with_unfolding_all rfl) (by with_unfolding_all rfl) ?hB ?hN ?_
         case hB => first | exact HB.out.alloc _ | exact (HB.out.alloc _).alloc _
         case hN => first | exact HP3.out | exact HP3b.out
         intro g' cap' w' hp hge hb')
      | (refine step_app rfl (.tmp 37) (.tmp 47) rfl g b (W.heap.size + 1) (by with_unfolding_all rfl) (by with_unfolding_all rfl) ?hB ?hN ?_
         case hB => exact (HB.out.alloc _).alloc _
         case hN => exact HP3c.out
         intro g' cap' w' hp hge hb'))
    all_goals go_wp2
    all_goals first
      | (refine bodyPost_ret (v := .tuple #[.slice (some ⟨g', 0, none⟩) 8 cap', .slice (some ⟨w'.heap.size, 0, none⟩) 2 2]) (by simp [results, Try.results75, go_sem]) rfl ?_
         have h1 := hb'.size
         have h2 := HB2.out.size
         refine ⟨g', cap', w'.heap.size, 2, rfl, by simp at hge; omega, by simp at h1; omega, prow_next hp (below_box _ _), prow_blk2 (Blk.new w' 125 #[.pointer (some ⟨g, 8, none⟩), .pointer (some ⟨g, 10, none⟩)]), ?_⟩
         exact below_next (below_next ((below_next HB2.out (below_box _ _)).drew) hb') (below_box _ _))
      | (refine bodyPost_ret (v := .tuple #[.slice (some ⟨g', 0, none⟩) 8 cap', .slice (some ⟨W.heap.size + 1, 0, none⟩) 2 2]) (by simp [results, Try.results75, go_sem]) rfl ?_
         have h1 := hb'.size
         have h2 := HB2.out.size
         refine ⟨g', cap', W.heap.size + 1, 2, rfl, by simp at hge; omega, by simp at h1; omega, hp, prow_blk2 ((blk_drew HP2c.out).below hb' (by simp <;> omega)), ?_⟩
         exact below_next ((below_next (below_next HB2.out (below_box _ _)) (below_box _ _)).drew) hb')
      | (refine bodyPost_ret (v := .tuple #[.slice (some ⟨g', 0, none⟩) 8 cap', .slice (some ⟨W.heap.size, 0, none⟩) 2 2]) (by simp [results, Try.results75, go_sem]) rfl ?_
         have h1 := hb'.size
         have h2 := HB2.out.size
         refine ⟨g', cap', W.heap.size, 2, rfl, by simp at hge; omega, by simp at h1; omega, hp, prow_blk2 ((blk_drew HP2b.out).below hb' (by simp <;> omega)), ?_⟩
         exact below_next ((below_next (below_next HB2.out (below_box _ _)) (below_box _ _)).drew) hb')
end Go.Proofs.Ytjffjmffoffblaa.Ent
