/- The walk of (*Plate).Read. -/
import Derived.Test.YtnnppdjgmjgjhaaDoorPlateBack
namespace Go.Proofs.YtnnppdjgmjgjhaaDoor.Plate
set_option maxRecDepth 100000
open Go.RowKit Go.Shelf
open Go.Proofs.YtnnppdjgmjgjhaaDoor.Mem hiding Keep
attribute [local go_sem] Oper.semAt_some

theorem Below.drewN' {B : Nat} {w w' : World} (h : Below B w w') (n : Nat) : Below B w (w'.drewN n) := ⟨h.os, h.tape, h.output, h.size, h.block⟩
theorem read_off {S : PS} {n : Int} (h : S.off = true) : readE S n = 10 ∧ readD S n = ⟨#[]⟩ := by unfold readE readD; simp [h]
theorem read_out {S : PS} {n : Int} (h : S.off = false) (h1 : inS S n = false) : readE S n = 1 ∧ readD S n = ⟨#[]⟩ := by unfold readE readD; simp [h, h1]
theorem read_wait {S : PS} {m : Nat} {d : ByteArray} (h : S.off = false) (h1 : inS S (m : Int) = true) (h2 : lastOf m S.q = some d) : readE S (m : Int) = 0 ∧ readD S (m : Int) = d := by unfold readE readD; simp [h, h1, h2]
theorem read_torn {S : PS} {m : Nat} (h : S.off = false) (h1 : inS S (m : Int) = true) (h2 : lastOf m S.q = none) (h3 : (S.sec m).t = true) : readE S (m : Int) = 20 ∧ readD S (m : Int) = ⟨#[]⟩ := by unfold readE readD; simp [h, h1, h2, h3]
theorem read_sec {S : PS} {m : Nat} (h : S.off = false) (h1 : inS S (m : Int) = true) (h2 : lastOf m S.q = none) (h3 : (S.sec m).t = false) : readE S (m : Int) = 0 ∧ readD S (m : Int) = (S.sec m).d := by unfold readE readD; simp [h, h1, h2, h3]

set_option maxRecDepth 100000 in
set_option maxHeartbeats 2000000 in
theorem read_nil (w : World) :
    Calls Tryd.prog 18 #[.pointer none, .int .i64 0] w fun e w' => e = .returned (.tuple #[.string ⟨#[]⟩, .int .i64 2]) ∧ Below w.heap.size w w' := by
  have b1 := ((Boxed.new (w.alloc (.cells #[.int .i64 0] 3)) 9 (.string ⟨#[]⟩))).alloc (.cells #[.int .i64 0] 29)
  have b2 := Boxed.new ((w.alloc (.cells #[.int .i64 0] 3)).alloc (.cells #[.string ⟨#[]⟩] 9)) 29 (.int .i64 0)
  have hB : Below w.heap.size w (((w.alloc (.cells #[.int .i64 0] 3)).alloc (.cells #[.string ⟨#[]⟩] 9)).alloc (.cells #[.int .i64 0] 29)) := (((Below.refl _ w).alloc (Nat.le_refl _) _).alloc (by simp) _).alloc (by simp; omega) _
  rw [World.size_alloc] at b1
  rw [World.size_alloc, World.size_alloc] at b2
  go_enter Tryd.func18, Tryd.ntmps18
  go_wp2_with fail
  generalize hGen : ((w.alloc (.cells #[.int .i64 0] 3)).alloc (.cells #[.string ⟨#[]⟩] 9)).alloc (.cells #[.int .i64 0] 29) = W at b1 b2 hB ⊢
  clear hGen
  refine (ready_nil _).mono ?_
  rintro e w1 ⟨rfl, rfl⟩
  have hc1 := b1.cell
  have hc2 := b2.cell
  have hf1 := b1.frozen
  have hf2 := b2.frozen
  go_wp2
  have hx1 := ((b1.set (.string ⟨#[]⟩)).other (B' := w.heap.size + 1 + 1) (by omega) (.int .i64 2)).cell
  have hx2 := ((b2.other (B' := w.heap.size + 1) (by omega) (.string ⟨#[]⟩)).set (.int .i64 2)).cell
  refine bodyPost_ret (v := .tuple #[.string ⟨#[]⟩, .int .i64 2]) (by simp [results, Tryd.results18, go_sem, hx1, hx2]) rfl ⟨rfl, (hB.setCell (p := ⟨w.heap.size + 1, 0, none⟩) (by simp) _).setCell (p := ⟨w.heap.size + 1 + 1, 0, none⟩) (by simp; omega) _⟩

set_option maxRecDepth 100000 in
set_option maxHeartbeats 4000000 in
theorem read_any (w : World) (p sb : Nat) (qv : Value) (M : Nat → Prop) (S : PS) (n : Int) (h : PA w p sb qv M S) (hq : S.q.length ≤ 1000000) :
    Calls Tryd.prog 18 #[.pointer (some ⟨p, 0, none⟩), .int .i64 n] w fun e w' => e = .returned (.tuple #[.string (readD S n), .int .i64 (readE S n)]) ∧ Below w.heap.size w w' := by
  have b0 := ((Boxed.new w 3 (.int .i64 n)).alloc (.cells #[.string ⟨#[]⟩] 9)).alloc (.cells #[.int .i64 0] 29)
  have b1 := ((Boxed.new (w.alloc (.cells #[.int .i64 n] 3)) 9 (.string ⟨#[]⟩))).alloc (.cells #[.int .i64 0] 29)
  have b2 := Boxed.new ((w.alloc (.cells #[.int .i64 n] 3)).alloc (.cells #[.string ⟨#[]⟩] 9)) 29 (.int .i64 0)
  have hB : Below w.heap.size w (((w.alloc (.cells #[.int .i64 n] 3)).alloc (.cells #[.string ⟨#[]⟩] 9)).alloc (.cells #[.int .i64 0] 29)) := (((Below.refl _ w).alloc (Nat.le_refl _) _).alloc (by simp) _).alloc (by simp; omega) _
  rw [World.size_alloc] at b1
  rw [World.size_alloc, World.size_alloc] at b2
  have hsz : (((w.alloc (.cells #[.int .i64 n] 3)).alloc (.cells #[.string ⟨#[]⟩] 9)).alloc (.cells #[.int .i64 0] 29)).heap.size = w.heap.size + 3 := by simp
  have hW := h.below hB
  have HPW := Lib.hid h
  have hr := ready_any _ p sb qv M S hW
  have hh := has_any _ p sb qv M S n hW
  have HS := Lib.hid hsz
  clear h hsz
  cases ho : S.off with
  | true =>
    rw [ho, if_pos rfl] at hr
    have HR := Lib.hid hr
    have HE := Lib.hid (read_off (n := n) ho)
    clear hr hh ho hW
    go_enter Tryd.func18, Tryd.ntmps18
    go_wp2_with fail
    generalize hGen : ((w.alloc (.cells #[.int .i64 n] 3)).alloc (.cells #[.string ⟨#[]⟩] 9)).alloc (.cells #[.int .i64 0] 29) = W at b0 b1 b2 hB HR HS ⊢
    clear hGen
    refine HR.out.mono ?_
    rintro e w1 ⟨rfl, rfl⟩
    have hc1 := b1.cell
    have hc2 := b2.cell
    have hf1 := b1.frozen
    have hf2 := b2.frozen
    go_wp2
    have hx1 := ((b1.set (.string ⟨#[]⟩)).other (B' := w.heap.size + 1 + 1) (by omega) (.int .i64 10)).cell
    have hx2 := ((b2.other (B' := w.heap.size + 1) (by omega) (.string ⟨#[]⟩)).set (.int .i64 10)).cell
    rw [HE.out.1, HE.out.2]
    refine bodyPost_ret (v := .tuple #[.string ⟨#[]⟩, .int .i64 10]) (by simp [results, Tryd.results18, go_sem, hx1, hx2]) rfl ⟨rfl, (hB.setCell (p := ⟨w.heap.size + 1, 0, none⟩) (by simp) _).setCell (p := ⟨w.heap.size + 1 + 1, 0, none⟩) (by simp; omega) _⟩
  | false =>
    rw [ho, if_neg (by decide)] at hr
    have HR := Lib.hid hr
    cases hin : inS S n with
    | false =>
      rw [hin] at hh
      have HH := Lib.hid hh
      have HE := Lib.hid (read_out (n := n) ho hin)
      clear hr hh ho hin hW
      go_enter Tryd.func18, Tryd.ntmps18
      go_wp2_with fail
      generalize hGen : ((w.alloc (.cells #[.int .i64 n] 3)).alloc (.cells #[.string ⟨#[]⟩] 9)).alloc (.cells #[.int .i64 0] 29) = W at b0 b1 b2 hB HR HH HS ⊢
      clear hGen
      refine HR.out.mono ?_
      rintro e w1 ⟨rfl, rfl⟩
      have hc0 := b0.cell
      have hc1 := b1.cell
      have hc2 := b2.cell
      have hf1 := b1.frozen
      have hf2 := b2.frozen
      go_wp2_with fail
      refine HH.out.mono ?_
      rintro e w1 ⟨rfl, rfl⟩
      go_wp2
      have hx1 := ((b1.set (.string ⟨#[]⟩)).other (B' := w.heap.size + 1 + 1) (by omega) (.int .i64 1)).cell
      have hx2 := ((b2.other (B' := w.heap.size + 1) (by omega) (.string ⟨#[]⟩)).set (.int .i64 1)).cell
      rw [HE.out.1, HE.out.2]
      refine bodyPost_ret (v := .tuple #[.string ⟨#[]⟩, .int .i64 1]) (by simp [results, Tryd.results18, go_sem, hx1, hx2]) rfl ⟨rfl, (hB.setCell (p := ⟨w.heap.size + 1, 0, none⟩) (by simp) _).setCell (p := ⟨w.heap.size + 1 + 1, 0, none⟩) (by simp; omega) _⟩
    | true =>
      rw [hin] at hh
      have HH := Lib.hid hh
      have hn : n.toNat < S.N ∧ ((n.toNat : Nat) : Int) = n := by unfold inS at hin; simp at hin; omega
      obtain ⟨m, rfl⟩ : ∃ m : Nat, n = (m : Int) := ⟨n.toNat, by omega⟩
      have hm : m < S.N := by have := hn.1; simpa using this
      have HM := Lib.hid hm
      obtain ⟨a, c, rfl⟩ := own_shape hW.own
      obtain ⟨len, hlen⟩ : ∃ len, len = S.q.length := ⟨_, rfl⟩
      have HWR0 := Lib.hid HPW.out.wrs
      have HWR := Lib.hid hW.wrs
      rw [← hlen] at HWR0 HWR HPW hq
      obtain ⟨-, c1, -⟩ := hW.get
      rw [← hlen] at c1
      have HLEN := Lib.hid hlen
      have HO := Lib.hid ho
      have HIN := Lib.hid hin
      clear hr hh ho hin hW hn hm hlen
      refine (callsIn_wide (n := 6)).1 ?_
      refine callsIn_of_wp_marks Tryd.func18 rfl trivial ?_ rfl
      refine wpIn_wide.2 ?_
      simp only [Tryd.ntmps18, List.size_toArray, List.length_cons, List.length_nil, Nat.reduceAdd, Nat.reduceSub, Array.replicate_succ, Array.replicate_zero, List.push_toArray, List.append_toArray, List.nil_append, List.cons_append]
      go_wp2_with fail
      generalize hGen : ((w.alloc (.cells #[.int .i64 (m : Int)] 3)).alloc (.cells #[.string ⟨#[]⟩] 9)).alloc (.cells #[.int .i64 0] 29) = W at b0 b1 b2 hB HR HH HS HWR c1 ⊢
      clear hGen
      refine HR.out.mono ?_
      rintro e w1 ⟨rfl, rfl⟩
      have hc0 := b0.cell
      go_wp2_with fail
      refine HH.out.mono ?_
      rintro e w1 ⟨rfl, rfl⟩
      go_wp2_with fail
      refine ((callsIn_wide (n := 6)).1 (backward_in Fence.wide 6 trivial rfl a len c _)).mono ?_
      rintro e w1 ⟨rfl, rfl⟩
      have b0' := b0.alloc (.cells #[.slice a len c] 60)
      have b1' := b1.alloc (.cells #[.slice a len c] 60)
      have b2' := b2.alloc (.cells #[.slice a len c] 60)
      have bN := Boxed.new W 60 (.slice a len c)
      have hB' := hB.alloc hB.size (.cells #[.slice a len c] 60)
      have hWB : Below W.heap.size W (W.alloc (.cells #[.slice a len c] 60)) := (Below.refl _ _).alloc (Nat.le_refl _) _
      have hwr := HWR.out.below hWB
      have hsz := HS.out
      rw [hsz] at bN
      have hsz' : (W.alloc (.cells #[.slice a len c] 60)).heap.size = w.heap.size + 4 := by simp [hsz]
      have hbn : 0 < len → ∀ b off, a = some ⟨b, off, none⟩ → b < w.heap.size := by
        intro h b off e
        obtain ⟨b', off', e', hlt, _⟩ := HWR0.out.2 h
        rw [e] at e'; cases e'; exact hlt
      rw [hsz]
      clear b0 b1 b2 hB HR HH HWR hWB c1 hc0 HS hsz
      generalize hGen : W.alloc (.cells #[.slice a len c] 60) = V at b0' b1' b2' bN hB' hwr hsz' ⊢
      clear hGen W
      have HWR := Lib.hid hwr
      clear hwr
      go_wp2_with fail
      refine (wpIn_wide (n := 6)).1 ?_
      refine wpIn_rangeFunc_ownH (F := Fence.wide) (n := 6) rfl (by omega) (gf := 56) (lb := #[.pointer (some ⟨w.heap.size + 3, 0, none⟩)]) rfl trivial (enters_of Tryd.func56 (by kernel_rfl) rfl)
        (backward_stops Fence.wide 5 trivial rfl (by omega) (w.heap.size + 3) w.heap.size len c a S.q (by omega) V hbn bN.cell (by omega) HWR.out) (fun h k => h.trans k) (Kp.putObj (by omega)) (Below.refl _ _) (fun _ => rfl)
        (fun pre X => ((((∀ x ∈ pre, x.x.n ≠ m) ∧ Boxed X w.heap.size 3 (.int .i64 (m : Int))) ∧ Boxed X (w.heap.size + 1) 9 (.string ⟨#[]⟩)) ∧ Boxed X (w.heap.size + 1 + 1) 29 (.int .i64 0)) ∧ Below w.heap.size w X)
        (fun c pre X => (c = .ret ∧ ∃ ini last, pre = ini ++ [last] ∧ (∀ x ∈ ini, x.x.n ≠ m) ∧ last.x.n = m ∧ Boxed X (w.heap.size + 1) 9 (.string last.x.d) ∧ Boxed X (w.heap.size + 1 + 1) 29 (.int .i64 0)) ∧ Below w.heap.size w X)
        (OwnFrom.and (OwnFrom.and (OwnFrom.and (OwnFrom.and (ownFrom_pure _ _) (Own.from (boxed_own _ _ _) _)) (Own.from (boxed_own _ _ _) _)) (Own.from (boxed_own _ _ _) _)) (ownFrom_below (Nat.le_refl _) (by omega)))
        (fun c => OwnFrom.and (Own.from (fun s A B row hs hg hr => by
          obtain ⟨hc, ini, last, e1, e2, e3, e4, e5⟩ := hs
          exact ⟨hc, ini, last, e1, e2, e3, boxed_own _ _ (fun (_ : Unit) => Value.string last.x.d) () A B row e4 hg hr, boxed_own _ _ (fun (_ : Unit) => Value.int .i64 0) () A B row e5 hg hr⟩) _) (ownFrom_below (Nat.le_refl _) (by omega)))
        ⟨⟨⟨⟨by simp, b0'⟩, b1'⟩, b2'⟩, hB'⟩
        (fun x a' X => ∃ Bx : Nat, X.heap[Bx]? = some (.cells #[.int .i64 (x.x.n : Int), .string x.x.d] 76 (0, 0)) ∧ a' = { tmps := #[.pointer (some ⟨p, 0, none⟩), .int .i64 (m : Int), undef, .pointer (some ⟨w.heap.size, 0, none⟩), .pointer (some ⟨w.heap.size + 1, 0, none⟩), .pointer (some ⟨w.heap.size + 1 + 1, 0, none⟩), .int .i64 0, undef, .pointer (some ⟨Bx, 0, none⟩), .pointer (some ⟨p, 0, none⟩), .int .i64 0, .int .i64 0, .bool false, undef, .pointer (some ⟨p, 0, none⟩), .int .i64 (m : Int), .bool true, .bool false, .pointer (some ⟨p, 0, none⟩), .pointer (some ⟨p, 0, none⟩), .pointer (some ⟨p, 1, none⟩), .slice a len c, .func (.func 56) #[] #[.pointer (some ⟨w.heap.size + 3, 0, none⟩)], .int .i64 (x.i : Int), .agg #[.int .i64 (x.x.n : Int), .string x.x.d], undef, undef, undef, undef, undef, undef, undef, undef, undef, undef, undef, undef, undef, undef, undef, undef, undef, undef, undef, undef, undef, undef], defers := [] })
        ?hAx ?assign ?body ?done ?stop
      case hAx =>
        intro x a' _ X Y row hs hg hr
        obtain ⟨Bx, g2, g3⟩ := hs
        exact ⟨Bx, (hg.block Bx (Array.getElem?_eq_some_iff.1 g2).1 (fun e => by obtain ⟨_, o, ho, hc⟩ := hr Bx e.symm; rw [g2] at ho; cases ho; cases hc)).trans g2, g3⟩
      case assign =>
        rintro l pre x W K ⟨⟨⟨⟨hp, hb0⟩, hb1⟩, hb2⟩, hB⟩ hK
        dsimp only [enth]
        gi_wp2
        exact hK _ _ ((KeepsOthers.alloc _ _).from _) ⟨(Below.refl _ W).alloc hB.size _, fun v hv => (World.cell?_alloc_lt W _ _ (World.block_lt_of_cell? W _ hv)).trans hv⟩ ⟨⟨⟨⟨hp, hb0.alloc _⟩, hb1.alloc _⟩, hb2.alloc _⟩, hB.alloc hB.size _⟩ ⟨W.heap.size, World.alloc_heap_new W _, rfl⟩
      case body =>
        rintro l pre x a' W hl ⟨r, hr⟩ ⟨⟨⟨⟨hp, hb0⟩, hb1⟩, hb2⟩, hB⟩ ⟨Bx, hbX, rfl⟩ hlt
        have d0 : W.cell? ⟨Bx, 0, none⟩ = some (.int .i64 (x.x.n : Int)) := by simp [World.cell?, hbX]
        have d1 : W.cell? ⟨Bx, 1, none⟩ = some (.string x.x.d) := by simp [World.cell?, hbX]
        have hc0 := hb0.cell
        have hc1 := hb1.cell
        have hc2 := hb2.cell
        have hf1 := hb1.frozen
        have hf2 := hb2.frozen
        by_cases hu : x.x.n = m
        · rw [hu] at d0
          gi_wp2
          exact ⟨((KeepsOthers.setCell _ _ _).trans (KeepsOthers.setCell _ _ _)).from _, ⟨rfl, pre, x, rfl, hp, hu, (hb1.set _).other (B' := w.heap.size + 1 + 1) (by omega) _, (hb2.other (B' := w.heap.size + 1) (by omega) _).set _⟩, (hB.setCell (p := ⟨w.heap.size + 1, 0, none⟩) (by simp) _).setCell (p := ⟨w.heap.size + 1 + 1, 0, none⟩) (by simp; omega) _⟩
        · have hu' : ((x.x.n : Int) == (m : Int)) = false := by rw [beq_eq_false_iff_ne]; omega
          gi_wp2
          exact ⟨KeepsFrom.refl _ _, Kp.refl _ _ _, ⟨⟨⟨fun y hy => (List.mem_append.1 hy).elim (hp y) (fun e => by simp at e; subst e; exact hu), hb0⟩, hb1⟩, hb2⟩, hB⟩
      case done =>
        rintro D ys W hD rfl ⟨⟨⟨⟨hp, hb0⟩, hb1⟩, hb2⟩, hB⟩ hK
        have hnone : lastOf m S.q = none := last_none (by simpa using bk_mem (m := 0) m hp)
        have hPX := HPW.out.below hB
        obtain ⟨c0, -⟩ := hPX.get
        obtain ⟨s0, s1, -, -⟩ := hPX.sec.get HM.out
        have hm := HM.out
        have hc0 := hb0.cell
        have hc1 := hb1.cell
        have hc2 := hb2.cell
        have hf1 := hb1.frozen
        have hf2 := hb2.frozen
        have hB1 : w.heap.size ≤ D := by omega
        cases ht : (S.sec m).t with
        | true =>
          have HE := Lib.hid (read_torn HO.out HIN.out hnone ht)
          rw [ht] at s1
          generalize S.N = N at *
          clear hPX hp ht hnone
          go_wp2_with fail
          go_quiet (fail)
          go_wp2
          have hKd := ((KeepsOthers.setCell (W.drewN (nq)) ⟨w.heap.size + 1, 0, none⟩ (.string ⟨#[]⟩)).trans (KeepsOthers.setCell _ ⟨w.heap.size + 1 + 1, 0, none⟩ (.int .i64 20))).same D _ (show (W.drewN (nq)).heap[D]? = _ from hK) rfl
          have y1 := ((show Boxed (W.drewN (nq)) (w.heap.size + 1) 9 (.string ⟨#[]⟩) from hb1).set (.string ⟨#[]⟩)).other (B' := w.heap.size + 1 + 1) (by omega) (.int .i64 20)
          have y2 := ((show Boxed (W.drewN (nq)) (w.heap.size + 1 + 1) 29 (.int .i64 0) from hb2).other (B' := w.heap.size + 1) (by omega) (.string ⟨#[]⟩)).set (.int .i64 20)
          have yB := ((Below.drewN' hB (nq)).setCell (p := ⟨w.heap.size + 1, 0, none⟩) (by simp) (.string ⟨#[]⟩)).setCell (p := ⟨w.heap.size + 1 + 1, 0, none⟩) (by simp; omega) (.int .i64 20)
          refine ⟨by simp, .inl ⟨_, _, rfl, run_takeDeferred hKd, ?_⟩⟩
          have hx1 := cell_kept y1.cell (grownBy_putObj' _ D (.deferred none)) (fun r e => by cases e; exact ⟨_, hKd, rfl⟩)
          have hx2 := cell_kept y2.cell (grownBy_putObj' _ D (.deferred none)) (fun r e => by cases e; exact ⟨_, hKd, rfl⟩)
          rw [HE.out.1, HE.out.2]
          refine ⟨.tuple #[.string ⟨#[]⟩, .int .i64 20], by simp [results, Tryd.results18, go_sem, hx1, hx2], rfl, yB.trans (belowK_b (w := w) (Nat.le_refl _) _ D _ _ (by omega) hKd rfl rfl)⟩
        | false =>
          have HE := Lib.hid (read_sec HO.out HIN.out hnone ht)
          rw [ht] at s1
          obtain ⟨d, hd⟩ : ∃ d, d = (S.sec m).d := ⟨_, rfl⟩
          rw [← hd] at HE s0
          generalize S.N = N at *
          clear hPX hp ht hnone hd
          go_wp2_with fail
          go_quiet (fail)
          go_wp2_with fail
          go_region
          go_wp2
          have hKd := ((KeepsOthers.setCell (W.drewN (nq + 1)) ⟨w.heap.size + 1, 0, none⟩ (.string d)).trans (KeepsOthers.setCell _ ⟨w.heap.size + 1 + 1, 0, none⟩ (.int .i64 0))).same D _ (show (W.drewN (nq + 1)).heap[D]? = _ from hK) rfl
          have y1 := ((show Boxed (W.drewN (nq + 1)) (w.heap.size + 1) 9 (.string ⟨#[]⟩) from hb1).set (.string d)).other (B' := w.heap.size + 1 + 1) (by omega) (.int .i64 0)
          have y2 := ((show Boxed (W.drewN (nq + 1)) (w.heap.size + 1 + 1) 29 (.int .i64 0) from hb2).other (B' := w.heap.size + 1) (by omega) (.string d)).set (.int .i64 0)
          have yB := ((Below.drewN' hB (nq + 1)).setCell (p := ⟨w.heap.size + 1, 0, none⟩) (by simp) (.string d)).setCell (p := ⟨w.heap.size + 1 + 1, 0, none⟩) (by simp; omega) (.int .i64 0)
          refine ⟨by simp, .inl ⟨_, _, rfl, run_takeDeferred hKd, ?_⟩⟩
          have hx1 := cell_kept y1.cell (grownBy_putObj' _ D (.deferred none)) (fun r e => by cases e; exact ⟨_, hKd, rfl⟩)
          have hx2 := cell_kept y2.cell (grownBy_putObj' _ D (.deferred none)) (fun r e => by cases e; exact ⟨_, hKd, rfl⟩)
          rw [HE.out.1, HE.out.2]
          refine ⟨.tuple #[.string d, .int .i64 0], by simp [results, Tryd.results18, go_sem, hx1, hx2], rfl, yB.trans (belowK_b (w := w) (Nat.le_refl _) _ D _ _ (by omega) hKd rfl rfl)⟩
      case stop =>
        rintro D c pre W hD ⟨k, hk, rfl⟩ ⟨⟨rfl, ini, last, e1, e2, e3, hb1, hb2⟩, hB⟩ hK
        have hk6 : k ≤ 1000000 := Nat.le_of_lt (Nat.lt_of_lt_of_le hk hq)
        refine wpIn_wide.2 ?_
        have hml : k < S.q.length := by rw [← HLEN.out]; exact hk
        rw [bk_next S.q k hml] at e1
        obtain ⟨rfl, e5⟩ := List.append_inj' e1 rfl
        have hg : S.q[k]? = some S.q[k] := List.getElem?_eq_getElem hml
        rw [nth_of hg hk6] at e5
        obtain rfl := (List.cons.inj e5).1
        have hl : lastOf m S.q = some (S.q[k]).d := last_some hg e3 (bk_mem m e2)
        have HE := Lib.hid (read_wait HO.out HIN.out hl)
        have HB1 := Lib.hid hb1
        have HB2 := Lib.hid hb2
        clear hl e1 e2 e3 e5 hg hb1 hb2
        go_wp2
        refine ⟨by simp, .inl ⟨_, _, rfl, run_takeDeferred hK, ?_⟩⟩
        have hx1 := cell_kept HB1.out.cell (grownBy_putObj' _ D (.deferred none)) (fun r e => by cases e; exact ⟨_, hK, rfl⟩)
        have hx2 := cell_kept HB2.out.cell (grownBy_putObj' _ D (.deferred none)) (fun r e => by cases e; exact ⟨_, hK, rfl⟩)
        rw [HE.out.1, HE.out.2]
        refine ⟨.tuple #[.string (S.q[k]).d, .int .i64 0], by simp [results, Tryd.results18, go_sem, hx1, hx2], rfl, hB.trans (belowK_b (w := w) (Nat.le_refl _) W D _ _ (by omega) hK rfl rfl)⟩
end Go.Proofs.YtnnppdjgmjgjhaaDoor.Plate
