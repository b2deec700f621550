/- What the statements of knot share: edges, awake, left. -/
import Derived.Test.YthodggkpkjfggaaKnotRef3
import Derived.Test.YthodggkpkjfggaaKnotGreat
import Derived.Test.YthodggkpkjfggaaKnotPairs
namespace Go.Proofs.Ythodggkpkjfggaa.Knot
set_option maxRecDepth 100000
open Go.RowKit
open Go.Proofs.Ythodggkpkjfggaa.Mem
section
variable {w : World} {B : Nat}
theorem step_e1 {W : World} {ops : Array Oper} {o : Oper} {a : Go.Act} {K : Go.Act → World → Prop} {Q : Exit → Go.Act → World → Prop} {E : Prop} (hg : o.guard = none) (s x : Operand)
    (hop : o.op = .call { callee := .builtin .append, args := #[s, x], argTypes := #[37, 37] }) (hty : o.type = 37)
    (v : Value) (A : List Ed) (hs : a.eval s = v) (vb : Nat) (e : Ed) (hx : a.eval x = .slice (some ⟨vb, 0, none⟩) 1 1) (hP : Below W.heap.size W w ∧ Blk w vb 52 (ec e))
    (hown : W.ownsRow B 52 2 v A.length (ev A)) (hn : A.length ≤ 2000000) (hB : B ≤ W.heap.size)
    (hK : ∀ v' w', Below W.heap.size W w → AppRes w w' B 52 2 v v' (A ++ [e]).length (ev (A ++ [e])) → K (a.put o.dst v') w') :
    if Region.wanted o (yielded ops a.tmps) = true then Oper.wp Try.prog o a w K Q else E := by
  obtain ⟨v', w', hr, h2⟩ := run_edge (own_below hown hP.1) hP.2 hn (Nat.le_trans hB hP.1.size)
  exact step_run hg s x _ _ hop v (.slice (some ⟨vb, 0, none⟩) 1 1) hs hx (by rw [hty]; exact hr) (hK v' w' hP.1 h2)
theorem step_e2 {W : World} {ops : Array Oper} {o : Oper} {a : Go.Act} {K : Go.Act → World → Prop} {Q : Exit → Go.Act → World → Prop} {E : Prop} (hg : o.guard = none) (s x : Operand)
    (hop : o.op = .call { callee := .builtin .append, args := #[s, x], argTypes := #[41, 41] }) (hty : o.type = 41)
    (v : Value) (A : List Ed) (hs : a.eval s = v) (vb : Nat) (e : Ed) (hx : a.eval x = .slice (some ⟨vb, 0, none⟩) 1 1) (hP : Below W.heap.size W w ∧ Blk w vb 80 (ec e))
    (hown : W.ownsRow B 80 2 v A.length (ev A)) (hn : A.length ≤ 2000000) (hB : B ≤ W.heap.size)
    (hK : ∀ v' w', Below W.heap.size W w → AppRes w w' B 80 2 v v' (A ++ [e]).length (ev (A ++ [e])) → K (a.put o.dst v') w') :
    if Region.wanted o (yielded ops a.tmps) = true then Oper.wp Try.prog o a w K Q else E := by
  obtain ⟨v', w', hr, h2⟩ := run_edge2 (own_below hown hP.1) hP.2 hn (Nat.le_trans hB hP.1.size)
  exact step_run hg s x _ _ hop v (.slice (some ⟨vb, 0, none⟩) 1 1) hs hx (by rw [hty]; exact hr) (hK v' w' hP.1 h2)
end
/-- both rows of edges -/
structure EE (W : World) (B : Nat) (va vb : Value) (L : List Ed) : Prop where
  a : W.ownsRow B 52 2 va L.length (ev L)
  b : W.ownsRow B 80 2 vb L.length (ev L)
def EdgesRes (L : List Ed) (w : World) (e : Ending) (w' : World) : Prop := ∃ va vb, e = .returned (.tuple #[va, vb]) ∧ EE w' w.heap.size va vb L ∧ Below w.heap.size w w'
set_option maxRecDepth 100000 in
set_option maxHeartbeats 4000000 in
theorem edges_any (a : Option Addr) (n c : Nat) (L : List Ed) (w : World) (h : Prs w a n L) (hl : n ≤ 1000) :
    Calls Try.prog 16 #[.slice a n c] w (EdgesRes L w) := by
  have HL := Lib.hid h
  have HM := Lib.hid h.1
  clear h
  have ST : Hid ((((w.alloc (.cells #[] 52)).alloc (.cells #[] 80)).ownsRow w.heap.size 52 2 (.slice (some ⟨w.heap.size, 0, none⟩) 0 0) (L.take 0).length (ev (L.take 0)) ∧ ((w.alloc (.cells #[] 52)).alloc (.cells #[] 80)).ownsRow w.heap.size 80 2 (.slice (some ⟨w.heap.size + 1, 0, none⟩) 0 0) (L.take 0).length (ev (L.take 0))) ∧ Below w.heap.size w ((w.alloc (.cells #[] 52)).alloc (.cells #[] 80))) := Lib.hid (by
    have h1 := below_box w (.cells #[] 52)
    have h2 := below_box (w.alloc (.cells #[] 52)) (.cells #[] 80)
    have o1 := own_below (own_newE w w.heap.size 52 (Nat.le_refl _)) h2
    have o2 := own_newE (w.alloc (.cells #[] 52)) w.heap.size 80 h1.size
    have e1 : (w.alloc (.cells #[] 52)).heap.size = w.heap.size + 1 := by simp
    rw [e1] at o2
    exact ⟨⟨o1, o2⟩, h1.trans (h2.mono h1.size)⟩)
  go_enter Try.func16, Try.ntmps16
  go_wp2_with fail
  go_loopw [4, 5, 6] (fun t t2 i wr => ∃ j : Nat, j ≤ n ∧ i = .int .i64 (j : Int) ∧ (∃ a n c, t = .slice a n c) ∧ (∃ a n c, t2 = .slice a n c) ∧ Hid ((wr.ownsRow w.heap.size 52 2 t (L.take j).length (ev (L.take j)) ∧ wr.ownsRow w.heap.size 80 2 t2 (L.take j).length (ev (L.take j))) ∧ Below w.heap.size w wr)) (fun _ _ i _ => n - (intOf i).toNat)
  case atStart => exact ⟨0, Nat.zero_le _, rfl, ⟨_, _, _, rfl⟩, ⟨_, _, _, rfl⟩, ST⟩
  case round =>
    obtain ⟨j, hj, rfl, ⟨a3, n3, k3, rfl⟩, ⟨a4, n4, k4, rfl⟩, HK⟩ := hrel
    clear ST
    by_cases hjn : j < n
    · obtain ⟨e, he⟩ : ∃ e, L[j]? = some e := ⟨_, List.getElem?_eq_getElem (by rw [HM.out]; exact hjn)⟩
      obtain ⟨b, off, rfl, hbl, c0, c1⟩ := HL.out.at_ he
      have HTS := Lib.hid (take_snoc he)
      have HLN : Hid ((L.take j).length ≤ 2000000) := Lib.hid (by rw [List.length_take]; omega)
      have HZ0 : Hid (∀ W', Below w.heap.size w W' → W'.cell? ⟨b, off + j * 2, none⟩ = some (.int .i64 e.f) ∧ W'.cell? ⟨b, off + j * 2 + 1, none⟩ = some (.int .i64 e.t)) := Lib.hid fun W' hb => ⟨(hb.cell (p := ⟨b, off + j * 2, none⟩) hbl).trans c0, (hb.cell (p := ⟨b, off + j * 2 + 1, none⟩) hbl).trans c1⟩
      have HBB := Lib.hid HK.out.2
      have HZ : Hid (∀ W', Below wr.heap.size wr W' → W'.cell? ⟨b, off + j * 2, none⟩ = some (.int .i64 e.f) ∧ W'.cell? ⟨b, off + j * 2 + 1, none⟩ = some (.int .i64 e.t)) := Lib.hid fun W' hb => HZ0.out W' (HBB.out.trans (hb.mono HBB.out.size))
      have HO1 := Lib.hid HK.out.1.1
      have HO2 := Lib.hid HK.out.1.2
      have HSZ := Lib.hid HK.out.2.size
      obtain ⟨ef, et⟩ := e
      dsimp only at HZ HZ0
      have c0 := (HZ.out wr (Below.refl _ _)).1
      have c1 := (HZ.out wr (Below.refl _ _)).2
      clear he HK
      go_upto_region 6 with (fail)
      go_region_held3 (fun W' => W'.cell? ⟨b, off + j * 2, none⟩ = some (.int .i64 ef) ∧ W'.cell? ⟨b, off + j * 2 + 1, none⟩ = some (.int .i64 et)) (first | assumption | exact HZ.out _ (below_box _ _) | exact HZ.out _ ((below_box _ _).drew) | exact HZ.out _ ((Below.refl _ _).drew) | exact HZ.out _ (Below.refl _ _)) (first
        | (refine step_e1 (W := wr) (B := w.heap.size) rfl (.tmp 15) (.tmp 27) rfl rfl (.slice a3 n3 k3) (L.take j) (by simp [Act.eval]) wr.heap.size ⟨ef, et⟩ (by simp [Act.eval]) ?hp HO1.out HLN.out HSZ.out ?_; (case hp => first | exact ⟨(below_box wr _).drew, Blk.new wr _ _⟩ | exact ⟨below_box wr _, Blk.new wr _ _⟩); intro v5 w5 hb5 ha5; have HA5 := Lib.hid ha5; have HG5 : Hid (Below w.heap.size w w5 ∧ w5.ownsRow w.heap.size 80 2 (.slice a4 n4 k4) (L.take j).length (ev (L.take j))) := Lib.hid ⟨(HBB.out.trans (hb5.mono HBB.out.size)).grown ha5.2.1 (Nat.le_trans HBB.out.size hb5.size) (fun q hq => own_ge HO1.out q hq), own_same (own_below HO2.out hb5) fun q hq => ha5.2.1.block q (own_lt (own_below HO2.out hb5) hq) (fun e => own_types (own_below HO2.out hb5) (own_below HO1.out hb5) (by decide) q hq e.symm)⟩; have hz5 := HZ0.out _ HG5.out.1; clear hb5 ha5))
      obtain ⟨a5, k5, e5⟩ := own_shape HA5.out.1
      subst e5
      obtain ⟨l5, hl5⟩ : ∃ l5, (L.take j ++ [(⟨ef, et⟩ : Ed)]).length = l5 := ⟨_, rfl⟩
      have HO15 : Hid (w5.ownsRow w.heap.size 52 2 (.slice a5 l5 k5) (L.take j ++ [(⟨ef, et⟩ : Ed)]).length (ev (L.take j ++ [(⟨ef, et⟩ : Ed)]))) := Lib.hid (by rw [← hl5]; exact HA5.out.1)
      have HO25 := Lib.hid HG5.out.2
      have HBB5 := Lib.hid HG5.out.1
      have HSZ5 := Lib.hid HG5.out.1.size
      have HZ5 : Hid (∀ W', Below w5.heap.size w5 W' → W'.cell? ⟨b, off + j * 2, none⟩ = some (.int .i64 ef) ∧ W'.cell? ⟨b, off + j * 2 + 1, none⟩ = some (.int .i64 et)) := Lib.hid fun W' hb => HZ0.out W' (HBB5.out.trans (hb.mono HBB5.out.size))
      have c0 := (HZ5.out w5 (Below.refl _ _)).1
      have c1 := (HZ5.out w5 (Below.refl _ _)).2
      clear HA5 HG5 HZ HO1 HO2 HSZ HBB hz5
      rw [hl5]
      clear hl5
      go_upto_region 7 with (fail)
      go_region_held3 (fun W' => W'.cell? ⟨b, off + j * 2, none⟩ = some (.int .i64 ef) ∧ W'.cell? ⟨b, off + j * 2 + 1, none⟩ = some (.int .i64 et)) (first | assumption | exact HZ5.out _ (below_box _ _) | exact HZ5.out _ ((below_box _ _).drew) | exact HZ5.out _ ((Below.refl _ _).drew) | exact HZ5.out _ (Below.refl _ _)) (first
        | (refine step_e2 (W := w5) (B := w.heap.size) rfl (.tmp 29) (.tmp 41) rfl rfl (.slice a4 n4 k4) (L.take j) (by simp [Act.eval]) w5.heap.size ⟨ef, et⟩ (by simp [Act.eval]) ?hp HO25.out HLN.out HSZ5.out ?_; (case hp => first | exact ⟨(below_box w5 _).drew, Blk.new w5 _ _⟩ | exact ⟨below_box w5 _, Blk.new w5 _ _⟩); intro v6 w6 hb6 ha6; have HA6 := Lib.hid ha6; have HG6 : Hid (Below w.heap.size w w6 ∧ w6.ownsRow w.heap.size 52 2 (.slice a5 l5 k5) (L.take j ++ [(⟨ef, et⟩ : Ed)]).length (ev (L.take j ++ [(⟨ef, et⟩ : Ed)]))) := Lib.hid ⟨(HBB5.out.trans (hb6.mono HBB5.out.size)).grown ha6.2.1 (Nat.le_trans HBB5.out.size hb6.size) (fun q hq => own_ge HO25.out q hq), own_same (own_below HO15.out hb6) fun q hq => ha6.2.1.block q (own_lt (own_below HO15.out hb6) hq) (fun e => own_types (own_below HO15.out hb6) (own_below HO25.out hb6) (by decide) q hq e.symm)⟩; have hz6 := HZ0.out _ HG6.out.1; clear hb6 ha6))
      obtain ⟨a6, k6, e6⟩ := own_shape HA6.out.1
      have HN : Hid ((w6.ownsRow w.heap.size 52 2 (.slice a5 l5 k5) (L.take (j + 1)).length (ev (L.take (j + 1))) ∧ w6.ownsRow w.heap.size 80 2 v6 (L.take (j + 1)).length (ev (L.take (j + 1)))) ∧ Below w.heap.size w w6) := Lib.hid (by rw [HTS.out]; exact ⟨⟨HG6.out.2, HA6.out.1⟩, HG6.out.1⟩)
      subst e6
      generalize (L.take j ++ [(⟨ef, et⟩ : Ed)]).length = l6 at HN ⊢
      clear HA6 HG6 HZ5 HO15 HO25 HSZ5 HBB5 hz6 HZ0 c0 c1 HTS HLN
      go_wp2
      go_roundw
      case rel => exact ⟨j + 1, by omega, by go_num, ⟨_, _, _, rfl⟩, ⟨_, _, _, rfl⟩, HN⟩
      case measure => simp [intOf]; omega
    · obtain rfl : j = n := by omega
      have FIN : Hid (EdgesRes L w (.returned (.tuple #[.slice a3 n3 k3, .slice a4 n4 k4])) wr) := Lib.hid (by
        have h1 := HK.out.1
        rw [List.take_of_length_le (by rw [HM.out]; exact Nat.le_refl _)] at h1
        exact ⟨_, _, rfl, ⟨h1.1, h1.2⟩, HK.out.2⟩)
      clear HK
      go_wp2
      refine bodyPost_ret (results_tmp2 rfl _ _ _) rfl ?_
      exact FIN.out
/-! awake -/
def L3 : List Ed := [⟨1, 2⟩, ⟨2, 1⟩, ⟨3, 1⟩]
theorem l3_cyc (v : Int) : Cyc L3 v ↔ (v = 1 ∨ v = 2) := by
  have m1 : (⟨1, 2⟩ : Ed) ∈ L3 := by decide
  have m2 : (⟨2, 1⟩ : Ed) ∈ L3 := by decide
  constructor
  · rintro ⟨t, h1, h2⟩
    have hc := h2.closed (C := fun x => x = 1 ∨ x = 2) (fun e he hf => by
      simp [L3] at he
      rcases he with rfl | rfl | rfl <;> simp) (by
      simp [L3] at h1
      rcases h1 with ⟨_, rfl⟩ | ⟨_, rfl⟩ | ⟨_, rfl⟩ <;> simp)
    exact hc
  · rintro (rfl | rfl)
    · exact ⟨2, m1, .one m2⟩
    · exact ⟨1, m2, .one m1⟩
theorem l3_stuck : IsStuck L3 [1, 2] := ⟨by decide, fun v => by rw [l3_cyc]; simp⟩
theorem l3_vics : IsVics L3 [2] := ⟨by decide, fun v => by
  rw [List.mem_singleton]
  constructor
  · rintro rfl
    exact top_vic ((l3_cyc 2).2 (.inr rfl)) fun v hv => by rcases (l3_cyc v).1 hv with rfl | rfl <;> decide
  · intro hv
    rcases (l3_cyc v).1 hv.cyc with rfl | rfl
    · obtain ⟨t, h1, _⟩ := hv
      obtain ⟨h2, _, h3⟩ := mem_upTo.1 h1
      simp [L3] at h2
      dsimp only at h3
      omega
    · rfl⟩
set_option maxRecDepth 100000 in
set_option maxHeartbeats 4000000 in
theorem awake_any (w : World) : Calls Try.prog 15 #[] w fun e w' => e = .returned (.bool true) ∧ Below w.heap.size w w' := by
  obtain ⟨W0, hW0⟩ : ∃ W0, w.alloc (.cells #[.int .i64 1, .int .i64 2, .int .i64 2, .int .i64 1, .int .i64 3, .int .i64 1] 52) = W0 := ⟨_, rfl⟩
  have HB0 : Hid (Below w.heap.size w W0) := Lib.hid (by rw [← hW0]; exact below_box _ _)
  have HE : Hid (ER W0 (.slice (some ⟨w.heap.size, 0, none⟩) 3 3) L3) := Lib.hid (ER.of_own (B := 0) (T := 52) (by
    rw [← hW0]
    exact ⟨rfl, .inr ⟨w.heap.size, 3, _, rfl, Nat.zero_le _, Blk.new w _ _, Nat.le_refl _, by decide, rfl, rfl⟩⟩))
  have HW0 := Lib.hid hW0
  have H1 := Lib.hid (stuck_any _ L3 W0 HE.out (by decide))
  clear hW0
  go_enter Try.func15, Try.ntmps15
  go_upto_region 2 with (fail)
  rw [HW0.out]
  go_wp2_with fail
  refine H1.out.mono ?_
  rintro e w1 ⟨v1, R1, rfl, hS1, _, ho1, hb1⟩
  obtain rfl : R1 = [1, 2] := hS1.uniq l3_stuck
  have HO1 := Lib.hid ho1
  have HB1 := Lib.hid (HB0.out.trans (hb1.mono HB0.out.size))
  have HE1 := Lib.hid (HE.out.below hb1)
  have H2 := Lib.hid (victim_any _ L3 w1 HE1.out (by decide))
  obtain ⟨a1, c1, rfl⟩ := own_shape ho1
  clear hS1 ho1 hb1 H1 HE HB0 HW0
  go_wp2_with fail
  refine H2.out.mono ?_
  rintro e w2 ⟨⟨R2, hS2, rfl⟩, hb2⟩
  obtain rfl : R2 = [1, 2] := hS2.uniq l3_stuck
  have HB2 := Lib.hid (HB1.out.trans (hb2.mono HB1.out.size))
  have HE2 := Lib.hid (HE1.out.below hb2)
  have HO2 := Lib.hid (own_below HO1.out hb2)
  have H3 := Lib.hid (victims_any _ L3 w2 HE2.out (by decide))
  have e1 : ([1, 2] : List Int).getLastD 0 = 2 := rfl
  have e2 : decide (([1, 2] : List Int) ≠ []) = true := rfl
  rw [e1, e2]
  clear hS2 hb2 H2 HE1 HB1 HO1 e1 e2
  go_wp2_with fail
  refine H3.out.mono ?_
  rintro e w3 ⟨v3, R3, rfl, hS3, _, ho3, hb3⟩
  obtain rfl : R3 = [2] := hS3.uniq l3_vics
  have HB3 := Lib.hid (HB2.out.trans (hb3.mono HB2.out.size))
  have HO3 := Lib.hid (own_below HO2.out hb3)
  have H4 := Lib.hid (victim_any (.slice none 0 0) [] w3 (ER.nil _) (by decide))
  obtain ⟨a3, c3, rfl⟩ := own_shape ho3
  clear hS3 ho3 hb3 H3 HE2 HB2 HO2
  go_wp2_with fail
  refine H4.out.mono ?_
  rintro e w4 ⟨⟨R4, hS4, rfl⟩, hb4⟩
  obtain rfl : R4 = [] := hS4.uniq (stuck_none (by simp))
  have HB4 := Lib.hid (HB3.out.trans (hb4.mono HB3.out.size))
  have ho4 := IR.of_own (own_below HO3.out hb4)
  obtain ⟨b, off, c9, g1, -, -, d0⟩ := ho4.at_ (i := 0) (z := 1) rfl
  obtain ⟨b', off', c9', g2, -, -, d1⟩ := ho4.at_ (i := 1) (z := 2) rfl
  rw [g1] at g2
  injection g1 with g1 _ g3
  injection g2 with g2 _ _
  injection g2 with g2
  injection g2 with g2 g4 _
  subst g1; subst g3; subst g2; subst g4
  have d0 : w4.cell? ⟨b, off, none⟩ = some (.int .i64 1) := d0
  have e1 : ([] : List Int).getLastD 0 = 0 := rfl
  have e2 : decide (([] : List Int) ≠ []) = false := rfl
  rw [e1, e2]
  clear hS4 hb4 H4 HB3 HO3 ho4 e1 e2
  go_wp2
  go_ret
  exact ⟨rfl, HB4.out⟩
/-! left -/
def hits (V : List Int) (e : Ed) : Bool := decide (e.f ∈ V ∨ e.t ∈ V)
theorem hits_snoc (V : List Int) (e : Ed) (y : Int) : hits (V ++ [y]) e = (hits V e || (e.f == y) || (e.t == y)) := by
  rw [Bool.eq_iff_iff]
  simp [hits]
  constructor
  · rintro ((h | h) | (h | h)) <;> simp [h]
  · rintro ((( h | h) | h) | h) <;> simp [h]
def leftL (L : List Ed) (V : List Int) : List Ed := L.filter fun e => !hits V e
theorem mem_leftL {L : List Ed} {V : List Int} (e : Ed) : e ∈ leftL L V ↔ e ∈ L ∧ e.f ∉ V ∧ e.t ∉ V := by
  simp [leftL, hits]
theorem leftL_snoc (L : List Ed) (V : List Int) (e : Ed) : leftL (L ++ [e]) V = if hits V e then leftL L V else leftL L V ++ [e] := by
  unfold leftL
  rw [List.filter_append]
  cases hh : hits V e <;> simp [hh]
def LeftRes (L : List Ed) (V : List Int) (w : World) (e : Ending) (w' : World) : Prop := ∃ v, e = .returned v ∧ w'.ownsRow w.heap.size 52 2 v (leftL L V).length (ev (leftL L V)) ∧ Below w.heap.size w w'
set_option maxRecDepth 100000 in
set_option maxHeartbeats 8000000 in
theorem left_any (lv vv : Value) (L : List Ed) (V : List Int) (w : World) (h : ER w lv L) (hv : IR w vv V) (hl : L.length ≤ 1000) (hvl : V.length ≤ 1000) :
    Calls Try.prog 23 #[lv, vv] w (LeftRes L V w) := by
  have HL := Lib.hid h
  have HV := Lib.hid hv
  obtain ⟨al, cl, rfl⟩ := h.shape
  obtain ⟨av, cv, rfl⟩ := hv.shape
  obtain ⟨m, hm⟩ : ∃ m, L.length = m := ⟨_, rfl⟩
  have HM := Lib.hid hm
  obtain ⟨n, hn⟩ : ∃ n, V.length = n := ⟨_, rfl⟩
  have HN0 := Lib.hid hn
  rw [hm] at hl
  rw [hn] at hvl
  rw [hm, hn]
  clear h hv hm hn
  have ST : Hid ((w.alloc (.cells #[] 52)).ownsRow w.heap.size 52 2 (.slice (some ⟨w.heap.size, 0, none⟩) 0 0) (leftL (L.take 0) V).length (ev (leftL (L.take 0) V)) ∧ Below w.heap.size w (w.alloc (.cells #[] 52))) := Lib.hid ⟨by simpa [leftL] using own_newE w _ _ (Nat.le_refl _), below_box _ _⟩
  go_enter Try.func23, Try.ntmps23
  go_wp2_with fail
  go_loopw [5, 6] (fun t i wr => ∃ j : Nat, j ≤ m ∧ i = .int .i64 (j : Int) ∧ (∃ a n c, t = .slice a n c) ∧ Hid (wr.ownsRow w.heap.size 52 2 t (leftL (L.take j) V).length (ev (leftL (L.take j) V)) ∧ Below w.heap.size w wr)) (fun _ i _ => m - (intOf i).toNat)
  case atStart => exact ⟨0, Nat.zero_le _, rfl, ⟨_, _, _, rfl⟩, ST⟩
  case round =>
    obtain ⟨j, hj, rfl, ⟨a3, n3, k3, rfl⟩, HK⟩ := hrel
    clear ST
    by_cases hjm : j < m
    · obtain ⟨e, he⟩ : ∃ e, L[j]? = some e := ⟨_, List.getElem?_eq_getElem (by rw [HM.out]; exact hjm)⟩
      obtain ⟨bl, c9, g1, -, hbl, c0, c1⟩ := (HL.out.below HK.out.2).at_ he
      injection g1 with g1 g2 g3
      clear g2
      subst g1; subst g3
      have hTS := leftL_snoc (L.take j) V e
      rw [← take_snoc he] at hTS
      have HTS := Lib.hid hTS
      have HE := Lib.hid he
      have hd : decide ((j : Int) < (m : Int)) = true := by simp; omega
      have ST2 : Hid (false = hits (V.take 0) e) := Lib.hid (by simp [hits])
      have HK0 := HK
      obtain ⟨ef, et⟩ := e
      dsimp only at c0 c1
      have HC0 : Hid (wr.cell? ⟨bl, j * 2, none⟩ = some (.int .i64 ef) ∧ wr.cell? ⟨bl, j * 2 + 1, none⟩ = some (.int .i64 et)) := Lib.hid ⟨c0, c1⟩
      clear hTS HK he c0 c1
      go_wp2_with fail
      clear hd
      obtain ⟨W0, hW0⟩ : ∃ W0, W0 = wr := ⟨_, rfl⟩
      subst hW0
      go_loopw [7, 8] (fun d i wq => ∃ (q : Nat) (db : Bool), q ≤ n ∧ i = .int .i64 (q : Int) ∧ d = .bool db ∧ Hid (db = hits (V.take q) ⟨ef, et⟩) ∧ (∃ z, wq = W0.drewN z)) (fun _ i _ => n - (intOf i).toNat)
      case atStart => exact ⟨0, false, Nat.zero_le _, rfl, rfl, ST2, 0, rfl⟩
      case round =>
        clear ST2
        obtain ⟨q, db, hq, rfl, rfl, HQ, z, rfl⟩ := hrel
        by_cases hqn : q < n
        · obtain ⟨x, hx⟩ : ∃ x, V[q]? = some x := ⟨_, List.getElem?_eq_getElem (by rw [HN0.out]; exact hqn)⟩
          obtain ⟨bv, ov, c8, g1, -, -, d2⟩ := (HV.out.below HK0.out.2).at_ hx
          injection g1 with g1 g2 g3
          clear g2
          subst g1; subst g3
          have HTQ : Hid (hits (V.take (q + 1)) ⟨ef, et⟩ = (db || (ef == x) || (et == x))) := Lib.hid (by rw [take_snoc hx, hits_snoc, ← HQ.out])
          obtain ⟨W1, hW1⟩ : ∃ W1, W0.drewN z = W1 := ⟨_, rfl⟩
          have d0 : W1.cell? ⟨bl, j * 2, none⟩ = some (.int .i64 ef) := by rw [← hW1]; exact HC0.out.1
          have d1 : W1.cell? ⟨bl, j * 2 + 1, none⟩ = some (.int .i64 et) := by rw [← hW1]; exact HC0.out.2
          have d2 : W1.cell? ⟨bv, ov + q, none⟩ = some (.int .i64 x) := by rw [← hW1]; exact d2
          have HW1 := Lib.hid hW1
          rw [hW1]
          have FIN : Hid (∀ nq, W1.drewN nq = W0.drewN (z + nq)) := Lib.hid fun nq => by rw [← HW1.out]; exact World.drewN_drewN _ _ _
          clear hW1 hx HQ
          cases db with
          | true =>
            have HN : Hid (true = hits (V.take (q + 1)) ⟨ef, et⟩) := Lib.hid (by rw [HTQ.out]; rfl)
            clear HTQ
            go_upto_region 9 with (fail)
            go_quiet (fail)
            clear d0 d1 d2
            go_wp2
            go_roundw
            case rel => exact ⟨q + 1, true, by omega, by go_num, rfl, HN, z + nq, FIN.out nq⟩
            case measure => simp [intOf]; omega
          | false =>
            obtain ⟨b1, hb1⟩ : ∃ b1, (ef == x) = b1 := ⟨_, rfl⟩
            obtain ⟨b2, hb2⟩ : ∃ b2, (et == x) = b2 := ⟨_, rfl⟩
            rw [hb1, hb2] at HTQ
            have p1 : (ef != x) = !b1 := by rw [← hb1]; rfl
            have p2 : (et != x) = !b2 := by rw [← hb2]; rfl
            have r1 : decide (ef = x) = b1 := by rw [← hb1]; rfl
            have r2 : decide (et = x) = b2 := by rw [← hb2]; rfl
            cases b1 with
            | true =>
              have HN : Hid (true = hits (V.take (q + 1)) ⟨ef, et⟩) := Lib.hid (by rw [HTQ.out]; rfl)
              clear HTQ
              go_upto_region 9 with (fail)
              go_quiet (fail)
              clear d0 d1 d2 hb1 hb2 p1 p2 r1 r2
              go_wp2
              go_roundw
              case rel => exact ⟨q + 1, true, by omega, by go_num, rfl, HN, z + nq, FIN.out nq⟩
              case measure => simp [intOf]; omega
            | false =>
              have HN : Hid (b2 = hits (V.take (q + 1)) ⟨ef, et⟩) := Lib.hid (by rw [HTQ.out]; simp)
              clear HTQ
              go_upto_region 9 with (fail)
              go_quiet (fail)
              clear d0 d1 d2 hb1 hb2 p1 p2 r1 r2
              go_wp2
              go_roundw
              case rel => exact ⟨q + 1, b2, by omega, by go_num, rfl, HN, z + nq, FIN.out nq⟩
              case measure => simp [intOf]; omega
        · obtain rfl : q = n := by omega
          have hfull : db = hits V ⟨ef, et⟩ := by
            have := HQ.out
            rw [List.take_of_length_le (by rw [HN0.out]; exact Nat.le_refl _)] at this
            exact this
          obtain ⟨hO, hB⟩ := HK0.out
          obtain ⟨W1, hW1⟩ : ∃ W1, W0.drewN z = W1 := ⟨_, rfl⟩
          have hB1 : Below w.heap.size w W1 := by rw [← hW1]; exact hB.trans ((drew_below W0 z).mono hB.size)
          have hO1 : W1.ownsRow w.heap.size 52 2 (.slice a3 n3 k3) (leftL (L.take j) V).length (ev (leftL (L.take j) V)) := by rw [← hW1]; exact hO
          have d0 : W1.cell? ⟨bl, j * 2, none⟩ = some (.int .i64 ef) := by rw [← hW1]; exact HC0.out.1
          have d1 : W1.cell? ⟨bl, j * 2 + 1, none⟩ = some (.int .i64 et) := by rw [← hW1]; exact HC0.out.2
          rw [hW1]
          have hTS := HTS.out
          rw [← hfull] at hTS
          have hle : (leftL (L.take j) V).length ≤ 1000 := by
            have h1 : (leftL (L.take j) V).length ≤ (L.take j).length := List.length_filter_le _ _
            rw [List.length_take] at h1; omega
          cases db with
          | true =>
            have HN : Hid (W1.ownsRow w.heap.size 52 2 (.slice a3 n3 k3) (leftL (L.take (j + 1)) V).length (ev (leftL (L.take (j + 1)) V)) ∧ Below w.heap.size w W1) := Lib.hid (by rw [hTS, if_pos rfl]; exact ⟨hO1, hB1⟩)
            clear hW1 hfull hO hB hB1 hO1 hTS hle HQ HTS HK0 d0 d1 HC0
            go_wp2
            go_roundw
            case rel => exact ⟨j + 1, by omega, by go_num, ⟨_, _, _, rfl⟩, HN⟩
            case measure => simp [intOf]; omega
          | false =>
            have hb9 := below_box W1 (.cells #[.int .i64 ef, .int .i64 et] 52)
            obtain ⟨v9, w9, hr9, ha9⟩ := run_edge (w := W1.alloc (.cells #[.int .i64 ef, .int .i64 et] 52)) (own_below hO1 hb9) (Blk.new W1 52 (ec ⟨ef, et⟩)) (by omega) (Nat.le_trans hB1.size hb9.size)
            obtain ⟨a9, c9', e9⟩ := own_shape ha9.1
            have HN : Hid (w9.ownsRow w.heap.size 52 2 v9 (leftL (L.take (j + 1)) V).length (ev (leftL (L.take (j + 1)) V)) ∧ Below w.heap.size w w9) := Lib.hid (by
              rw [hTS, if_neg (by simp)]
              exact ⟨ha9.1, (hB1.trans (hb9.mono hB1.size)).grown ha9.2.1 (Nat.le_trans hB1.size hb9.size) (fun k hk => own_ge hO1 k hk)⟩)
            have HR := Lib.hid hr9
            rw [e9] at HN HR
            generalize (leftL (L.take j) V ++ [(⟨ef, et⟩ : Ed)]).length = lq at HN HR
            clear hW1 hfull hO hB hB1 hO1 hTS hle HQ HTS HK0 hb9 hr9 ha9 e9 HC0
            go_wp2_with (at_builtin; refine wpList_run rfl _ _ rfl rfl rfl HR.out ?_)
            go_roundw
            case rel => exact ⟨j + 1, by omega, by go_num, ⟨_, _, _, rfl⟩, HN⟩
            case measure => simp [intOf]; omega
    · obtain rfl : j = m := by omega
      have FIN : Hid (LeftRes L V w (.returned (.slice a3 n3 k3)) wr) := Lib.hid (by
        have h1 := HK.out.1
        rw [List.take_of_length_le (by rw [HM.out]; exact Nat.le_refl _)] at h1
        exact ⟨_, rfl, h1, HK.out.2⟩)
      clear HK
      go_wp2
      go_ret
      exact FIN.out
end Go.Proofs.Ythodggkpkjfggaa.Knot
