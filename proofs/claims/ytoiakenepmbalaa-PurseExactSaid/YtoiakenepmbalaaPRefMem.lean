/- The document's own purse in memory: Of, Sum, set, Ask, Take. -/
import Derived.Test.YtoiakenepmbalaaPRefMath
import Derived.Test.YtoiakenepmbalaaPurseRow
import Derived.Maps.AppendAt
namespace Go.Proofs.Ytoiakenepmbalaa.PRef
set_option maxRecDepth 100000
open Go.RowKit
open Go.Proofs.Ytoiakenepmbalaa.Mem
open Go.Proofs.Ytoiakenepmbalaa.Purse
structure UA (w : World) (u : Nat) (v : Value) (L : List Due) : Prop where
  blk : Blk w u 29 #[v]
  own : w.ownsRow 0 40 2 v L.length (cellsP L)
  n0 : v.ownBlock ≠ some u
section
variable {w w' : World} {u : Nat} {v : Value} {L : List Due}
theorem UA.below (h : UA w u v L) (hb : Below w.heap.size w w') : UA w' u v L := ⟨h.blk.below hb h.blk.lt, own_below h.own hb, h.n0⟩
theorem UA.keep {M : Nat → Prop} (h : UA w u v L) (k : Keep M w w') (hu : M u) (hv : ∀ g, v.ownBlock = some g → M g) : UA w' u v L := ⟨k.blk h.blk hu, own_same h.own (fun g hg => k.block g (hv g hg)), h.n0⟩
theorem UA.row (h : UA w u v L) {i : Nat} {x : Due} (hx : L[i]? = some x) : ∃ g c, v = .slice (some ⟨g, 0, none⟩) L.length c ∧ L.length ≤ c ∧ i < L.length ∧ g < w.heap.size ∧ w.cell? ⟨g, i * 2, none⟩ = some (.int .i64 x.1) ∧ w.cell? ⟨g, i * 2 + 1, none⟩ = some (.int .i64 x.2) := by
  have hlt := (List.getElem?_eq_some_iff.1 hx).1
  rcases h.own.2 with ⟨_, h0⟩ | ⟨g, c, cur, rfl, _, hg, hnc, _, hcs, ht⟩
  · omega
  · refine ⟨g, c, rfl, hnc, hlt, (Array.getElem?_eq_some_iff.1 hg).1, ?_⟩
    obtain ⟨c1, c2⟩ := cells_at L i x hx
    rw [← ht, List.getElem?_take_of_lt (by omega), Array.getElem?_toList] at c1 c2
    exact ⟨(Blk.cell (show Blk w g _ _ from hg) _).trans c1, (Blk.cell (show Blk w g _ _ from hg) _).trans c2⟩
end
theorem of_in {L : List Due} (hs : L.Pairwise (fun a b => a.1 < b.1)) : ∀ x ∈ L, ofL L x.1 = x.2 := by
  induction L with
  | nil => intro x hx; cases hx
  | cons y r ih =>
    rw [List.pairwise_cons] at hs
    intro x hx
    simp only [ofL]
    rcases List.mem_cons.1 hx with rfl | hx
    · rw [if_neg (by omega), if_pos rfl]
    · rw [if_pos (hs.1 x hx)]; exact ih hs.2 x hx
theorem total_take_next {L : List Due} {i : Nat} {x : Due} (h : L[i]? = some x) : total (L.take (i + 1)) = total (L.take i) + x.2 := by
  rw [List.take_add_one, h]
  generalize L.take i = p
  induction p with
  | nil => simp [total]
  | cons y r ih => simp only [List.cons_append, total, ih]; omega
theorem total_take_le {L : List Due} (hp : ∀ x ∈ L, 1 ≤ x.2) : ∀ i, total (L.take i) ≤ total L := by
  induction L with
  | nil => intro i; simp [total]
  | cons y r ih =>
    intro i
    have h1 := hp y List.mem_cons_self
    have hr : ∀ z ∈ r, 1 ≤ z.2 := fun z hz => hp z (List.mem_cons_of_mem _ hz)
    cases i with
    | zero => have := total_nn r hr; simp only [List.take_zero, total]; omega
    | succ i => have := ih hr i; simp only [List.take_succ_cons, total]; omega
set_option maxRecDepth 100000 in
set_option maxHeartbeats 1000000 in
theorem of_any (u : Nat) (v : Value) (L : List Due) (k : Int) (w : World) (h : UA w u v L) (hs : L.Pairwise (fun a b => a.1 < b.1)) (hn : L.length ≤ 1000000) :
    Calls Try.prog 14 #[.pointer (some ⟨u, 0, none⟩), .int .i64 k] w fun e w' => e = .returned (.int .i64 (ofL L k)) ∧ w = w' := by
  have c0 := h.blk.cell 0
  obtain ⟨av, cv, rfl⟩ := own_shape h.own
  have H := Lib.hid h
  have HS := Lib.hid hs
  clear h hs
  generalize hof : ofL L k = o
  have HO := Lib.hid hof
  clear hof
  go_enter Try.func14, Try.ntmps14
  go_wp2
  go_loopw [5] (fun i wr => ∃ j : Nat, j ≤ L.length ∧ i = .int .i64 (j : Int) ∧ wr = w ∧ Hid (∀ t x, t < j → L[t]? = some x → x.1 ≠ k)) (fun i _ => L.length - (intOf i).toNat)
  case atStart => exact ⟨0, Nat.zero_le _, rfl, rfl, Lib.hid (fun t x ht => absurd ht (Nat.not_lt_zero _))⟩
  case round =>
    obtain ⟨j, hj, rfl, rfl, HJ⟩ := hrel
    by_cases hlt : j < L.length
    · have hx : L[j]? = some L[j] := List.getElem?_eq_getElem hlt
      generalize L[j] = x at hx
      obtain ⟨g, c, e, hc, _, _, d0, d1⟩ := H.out.row hx
      injection e with e1 e2 e3
      subst e1; subst e3
      have HX := Lib.hid hx
      clear hx
      obtain ⟨xk, xn⟩ := x
      simp only at d0 d1
      by_cases hk : xk = k
      · subst hk
        obtain rfl : o = xn := HO.out.symm.trans (of_in HS.out (xk, xn) (List.mem_of_getElem? HX.out))
        go_wp2
        go_ret
        exact ⟨rfl, rfl⟩
      · have hk2 : (xk == k) = false := by rw [beq_eq_false_iff_ne]; exact hk
        have HK := Lib.hid hk
        clear hk
        go_wp2
        go_roundw
        case rel => exact ⟨j + 1, by omega, by go_num, (by first | rfl | trivial), Lib.hid (fun t y ht hy => by
          rcases Nat.lt_or_ge t j with h | h
          · exact HJ.out t y h hy
          · obtain rfl : t = j := by omega
            have e2 : some (xk, xn) = some y := HX.out.symm.trans hy
            cases e2
            exact HK.out)⟩
        case measure => simp [intOf]; omega
    · obtain rfl : j = L.length := by omega
      obtain rfl : o = 0 := HO.out.symm.trans (ofL_absent L k (fun x hx => by
        obtain ⟨t, ht, e⟩ := List.getElem_of_mem hx
        exact HJ.out t x ht (by rw [List.getElem?_eq_getElem ht, e])))
      go_wp2
      go_ret
      exact ⟨rfl, rfl⟩
set_option maxRecDepth 100000 in
set_option maxHeartbeats 1000000 in
theorem sum_any (u : Nat) (v : Value) (L : List Due) (w : World) (h : UA w u v L) (hw : wfL L) (hn : L.length ≤ 1000000) :
    Calls Try.prog 16 #[.pointer (some ⟨u, 0, none⟩)] w fun e w' => e = .returned (.int .i64 (total L)) ∧ w = w' := by
  have c0 := h.blk.cell 0
  obtain ⟨av, cv, rfl⟩ := own_shape h.own
  have H := Lib.hid h
  have HS := Lib.hid hw
  clear h hw
  generalize hof : total L = o
  have HO := Lib.hid hof
  clear hof
  go_enter Try.func16, Try.ntmps16
  go_wp2
  go_loopw [3, 4] (fun s i wr => ∃ j : Nat, j ≤ L.length ∧ i = .int .i64 (j : Int) ∧ s = .int .i64 (total (L.take j)) ∧ wr = w) (fun _ i _ => L.length - (intOf i).toNat)
  case atStart => exact ⟨0, Nat.zero_le _, rfl, rfl, rfl⟩
  case round =>
    obtain ⟨j, hj, rfl, rfl, rfl⟩ := hrel
    by_cases hlt : j < L.length
    · have hx : L[j]? = some L[j] := List.getElem?_eq_getElem hlt
      generalize L[j] = x at hx
      obtain ⟨g, c, e, hc, _, _, d0, d1⟩ := H.out.row hx
      injection e with e1 e2 e3
      subst e1; subst e3
      obtain ⟨xk, xn⟩ := x
      simp only at d0 d1
      have hxn := HS.out.pos (xk, xn) (List.mem_of_getElem? hx)
      simp only at hxn
      have ht1 := total_take_next hx
      have ht2 := total_take_le HS.out.pos (j + 1)
      have ht3 := total_nn (L.take j) (fun y hy => HS.out.pos y (List.mem_of_mem_take hy))
      have hsm := HS.out.sum
      have hwt : IntKind.i64.wrap (total (L.take j) + xn) = total (L.take j) + xn := by rw [IntKind.wrap_i64]; simp only at ht1; omega
      have HT := Lib.hid ht1
      clear hx ht1 ht2 ht3 hsm hxn
      generalize total (L.take j) = s at hwt HT
      go_wp2
      go_roundw
      case rel => exact ⟨j + 1, by omega, by go_num, by rw [HT.out], (by first | rfl | trivial)⟩
      case measure => simp [intOf]; omega
    · obtain rfl : j = L.length := by omega
      rw [List.take_length, HO.out]
      go_wp2
      go_ret
      exact ⟨rfl, rfl⟩
theorem info_part : (Try.prog.info? 40).map (fun i => (i.zero, i.size, i.bytes)) = some (some (.agg #[.int .i64 0, .int .i64 0]), 2, 16) := by kernel_rfl
/-- one part appended to an own row -/
theorem wpList_app {w : World} {ops : Array Oper} {rest : List Oper} {o : Oper} {a : Act} {Q : Exit → Act → World → Prop} (hgd : o.guard = none) (s x : Operand)
    (ho : o.op = .call { callee := .builtin .append, args := #[s, x], argTypes := #[27, 27] }) (B : Nat)
    (v : Value) (L : List Due) (hs : a.eval s = v) (hown : w.ownsRow B 40 2 v L.length (cellsP L)) (vb : Nat) (y : Due) (hx : a.eval x = .slice (some ⟨vb, 0, none⟩) 1 1)
    (hb : Blk w vb 40 #[.int .i64 y.1, .int .i64 y.2]) (hn : L.length ≤ 3000000) (hB : B ≤ w.heap.size)
    (h : ∀ v' w', w'.ownsRow B 40 2 v' (L ++ [y]).length (cellsP (L ++ [y])) → Below B w w' → wpList Try.prog ops Q rest (a.put o.dst v') w') : wpList Try.prog ops Q (o :: rest) a w := by
  obtain ⟨i0, hi, hz0, hz1, hz2⟩ := info_parts info_part
  refine wpList_append_own_at w hgd s x 27 ho B 40 i0 (.agg #[.int .i64 0, .int .i64 0]) 2 16 Try.underlying27 hi hz0 hz1 hz2 rfl (by decide) v L.length (cellsP L) hs hown ⟨vb, 0, none⟩ 1 1 [.int .i64 y.1, .int .i64 y.2] hx rfl (fun j z hj => ?_) (fun z hz => ?_) (by unfold maxLen; omega) (by omega) hB ?_
  · rw [Addr.add_lit, hb.cell, Nat.zero_add, ← Array.getElem?_toList]; exact hj
  · simp at hz; rcases hz with rfl | rfl <;> rfl
  · intro v' w' h1 h2 _ _
    refine h v' w' ?_ ((Below.refl B w).grown h2 hB (fun k e => ?_))
    · rw [List.length_append, cells_app]; exact h1
    · rcases hown.2 with ⟨rfl, _⟩ | ⟨g', c, cur, rfl, hg', _⟩
      · cases e
      · cases e; exact hg'
theorem own_new (w : World) (t : TypeId) (size : Nat) : (w.alloc (.cells #[] t)).ownsRow w.heap.size t size (.slice (some ⟨w.heap.size, 0, none⟩) 0 0) 0 [] :=
  ⟨by simp, .inr ⟨w.heap.size, 0, #[], rfl, Nat.le_refl _, World.alloc_heap_new _ _, Nat.le_refl _, by decide, by simp, by simp⟩⟩
end Go.Proofs.Ytoiakenepmbalaa.PRef
