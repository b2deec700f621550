/- The walk of the statement KnotTurns. -/
import Derived.Test.YthodggkpkjfggaaKnotFreesWalk
namespace Go.Proofs.Ythodggkpkjfggaa.Knot
set_option maxRecDepth 100000
open Go.RowKit
open Go.Proofs.Ythodggkpkjfggaa.Mem
/-- edges that lie in memory are appended to an own row -/
theorem run_edges {w : World} {B : Nat} {v : Value} {A A2 : List Ed} {b off c m : Nat} (hm : A2.length = m) (hown : w.ownsRow B 52 2 v A.length (ev A)) (hc : ∀ i e, A2[i]? = some e → w.cell? ⟨b, off + i * 2, none⟩ = some (.int .i64 e.f) ∧ w.cell? ⟨b, off + i * 2 + 1, none⟩ = some (.int .i64 e.t)) (hn : A.length + A2.length ≤ 2000000) (hB : B ≤ w.heap.size) :
    ∃ v' w', (Builtin.append_ #[37, 37] 37 #[v, .slice (some ⟨b, off, none⟩) m c]).run Try.prog w = .ok v' w' ∧ AppRes w w' B 52 2 v v' (A ++ A2).length (ev (A ++ A2)) := by
  obtain ⟨i0, hi, hz0, hz1, hz2⟩ := info_parts info_edge
  subst hm
  obtain ⟨v', w', hr, h5, h6, _, h7⟩ := run_append_own_at (P := Try.prog) w B 37 37 52 i0 (.agg #[.int .i64 0, .int .i64 0]) 2 16 Try.underlying37 hi hz0 hz1 hz2 rfl (by decide) v A.length (ev A) hown ⟨b, off, none⟩ A2.length c (ev A2) (ev_len A2)
    (fun j z hj => by
      rw [Addr.add_lit]
      have hlt := (List.getElem?_eq_some_iff.1 hj).1
      rw [ev_len] at hlt
      have h8 : A2[j / 2]? = some A2[j / 2] := List.getElem?_eq_getElem (by omega)
      obtain ⟨k1, k2⟩ := ev_at A2 (j / 2) _ h8
      obtain ⟨m1, m2⟩ := hc (j / 2) _ h8
      rcases (show j = j / 2 * 2 ∨ j = j / 2 * 2 + 1 by omega) with e | e
      · rw [← e] at k1 m1
        rw [hj] at k1; injection k1 with k1
        rw [k1]; exact m1
      · rw [← e] at k2
        rw [hj] at k2; injection k2 with k2
        rw [k2]
        have e2 : off + j = off + j / 2 * 2 + 1 := by omega
        rw [e2]; exact m2) (fun z hz => by
      simp only [ev, List.mem_flatMap] at hz
      obtain ⟨e, _, hz⟩ := hz
      simp at hz
      rcases hz with rfl | rfl <;> rfl) (by unfold maxLen; omega) (by omega) hB
  refine ⟨v', w', hr, ?_, h6, h7⟩
  rw [List.length_append, ev_app]; exact h5
theorem step_edges {w : World} {B : Nat} {ops : Array Oper} {o : Oper} {a : Go.Act} {K : Go.Act → World → Prop} {Q : Exit → Go.Act → World → Prop} {E : Prop} (hg : o.guard = none) (s x : Operand)
    (hop : o.op = .call { callee := .builtin .append, args := #[s, x], argTypes := #[37, 37] }) (hty : o.type = 37)
    (v : Value) (A A2 : List Ed) (hs : a.eval s = v) {b off c m : Nat} (hx : a.eval x = .slice (some ⟨b, off, none⟩) m c) (hm : A2.length = m)
    (hn : A.length + A2.length ≤ 2000000) (hown : w.ownsRow B 52 2 v A.length (ev A)) (hc : ∀ i e, A2[i]? = some e → w.cell? ⟨b, off + i * 2, none⟩ = some (.int .i64 e.f) ∧ w.cell? ⟨b, off + i * 2 + 1, none⟩ = some (.int .i64 e.t)) (hB : B ≤ w.heap.size)
    (hK : ∀ v' w', AppRes w w' B 52 2 v v' (A ++ A2).length (ev (A ++ A2)) → K (a.put o.dst v') w') :
    if Region.wanted o (yielded ops a.tmps) = true then Oper.wp Try.prog o a w K Q else E := by
  obtain ⟨v', w', hr, h2⟩ := run_edges hm hown hc hn hB
  exact step_run hg s x _ _ hop v _ hs hx (by rw [hty]; exact hr) (hK v' w' h2)
theorem turn_mem {L : List Ed} {k t : Nat} {e : Ed} (he : L[t]? = some e) (x : Ed) : x ∈ L ↔ x ∈ ([] ++ L.drop k ++ L.take k ++ [e]) := by
  have h := List.take_append_drop k L
  constructor
  · intro hx
    rw [← h] at hx
    refine List.mem_append_left _ ?_
    rcases List.mem_append.1 hx with h1 | h1
    · exact List.mem_append_right _ h1
    · exact List.mem_append_left _ h1
  · intro hx
    rcases List.mem_append.1 hx with hx | hx
    · rcases List.mem_append.1 hx with h1 | h1
      · exact List.mem_of_mem_drop h1
      · exact List.mem_of_mem_take h1
    · rw [List.mem_singleton.1 hx]; exact List.mem_of_getElem? he
set_option maxRecDepth 100000 in
set_option maxHeartbeats 8000000 in
theorem turns_walk (a : Option Addr) (n c : Nat) (xs : List Ed) (tu tw : Int) (w : World) (hI : Prs w a n xs) (_h1 : -9223372036854775808 ≤ tu ∧ tu ≤ 9223372036854775807) (_h2 : -9223372036854775808 ≤ tw ∧ tw ≤ 9223372036854775807) :
    Calls Try.prog 6 #[.slice a n c, .int .i64 tu, .int .i64 tw] w fun e w' => e = .returned (.bool true) ∧ Below w.heap.size w w' := by
  have HI := Lib.hid hI
  clear hI
  go_enter Try.func6, Try.ntmps6
  go_wp2_with fail
  refine (awake_any w).mono ?_
  rintro e w1 ⟨rfl, b1⟩
  have HB1 := Lib.hid b1
  clear b1
  by_cases hn0 : n = 0
  · subst hn0
    clear HI
    go_wp2_with fail
    go_ret
    exact ⟨rfl, HB1.out⟩
  · have g1 : ((n : Int) == 0) = false := by simp; omega
    have g2 : (n == 0) = false := by simpa using hn0
    by_cases hn : n ≤ 60
    · have HM : Hid (xs.length = n) := Lib.hid HI.out.1
      have HED := Lib.hid (edges_any a n c xs w1 (HI.out.below HB1.out) (by omega))
      have g0 : decide ((60 : Int) < (n : Int)) = false := by simp; omega
      clear HI
      go_wp2_with fail
      refine HED.out.mono ?_
      rintro e w2 ⟨va, vb, rfl, hEE, hb2⟩
      have HB2 := Lib.hid (HB1.out.trans (hb2.mono HB1.out.size))
      have hE2 := ER.of_own hEE.a
      obtain ⟨ab, cb, e1⟩ := own_shape hEE.b
      obtain ⟨nb, e1'⟩ : ∃ nb, vb = .slice ab nb cb := ⟨_, e1⟩
      clear e1
      subst e1'
      obtain ⟨y0, hy0⟩ : ∃ y, xs[0]? = some y := ⟨_, List.getElem?_eq_getElem (by rw [HM.out]; omega)⟩
      obtain ⟨bl, cl, e1, hcl, hbl, -, -⟩ := hE2.at_ hy0
      rw [HM.out] at e1 hcl
      subst e1
      have HE2 := Lib.hid hE2
      obtain ⟨K, hKe, hK⟩ := cut_of tu (n : Int) (by omega) (by omega)
      obtain ⟨T, hTe, hT⟩ := cut_of tw (n : Int) (by omega) (by omega)
      have HKE := Lib.hid hKe
      have HTE := Lib.hid hTe
      have hKn : K < n := by omega
      have hTn : T < n := by omega
      clear hEE hb2 HED g0 g1 g2 hy0 hE2 hKe hTe hK hT
      go_upto_region 7 with (fail)
      rw [HKE.out]
      -- the turned row
      have HC : Hid (∀ W, Below w2.heap.size w2 W → ∀ i e, xs[i]? = some e → W.cell? ⟨bl, i * 2, none⟩ = some (.int .i64 e.f) ∧ W.cell? ⟨bl, i * 2 + 1, none⟩ = some (.int .i64 e.t)) := Lib.hid fun W hb i e hi => by
        obtain ⟨b', c', e1, -, -, k1, k2⟩ := (HE2.out.below hb).at_ hi
        injection e1 with e1 _ _
        injection e1 with e1
        injection e1 with e1 _ _
        subst e1
        exact ⟨k1, k2⟩
      have HC1 : Hid (∀ W, Below w2.heap.size w2 W → ∀ i e, (xs.drop K)[i]? = some e → W.cell? ⟨bl, K * 2 + i * 2, none⟩ = some (.int .i64 e.f) ∧ W.cell? ⟨bl, K * 2 + i * 2 + 1, none⟩ = some (.int .i64 e.t)) := Lib.hid fun W hb i e hi => by
        rw [List.getElem?_drop] at hi
        have := HC.out W hb _ _ hi
        have e2 : (K + i) * 2 = K * 2 + i * 2 := by omega
        rw [e2] at this
        exact this
      have HC2 : Hid (∀ W, Below w2.heap.size w2 W → ∀ i e, (xs.take K)[i]? = some e → W.cell? ⟨bl, 0 + i * 2, none⟩ = some (.int .i64 e.f) ∧ W.cell? ⟨bl, 0 + i * 2 + 1, none⟩ = some (.int .i64 e.t)) := Lib.hid fun W hb i e hi => by
        have hl : i < K := by have := (List.getElem?_eq_some_iff.1 hi).1; rw [List.length_take] at this; omega
        rw [List.getElem?_take_of_lt hl] at hi
        rw [Nat.zero_add]
        exact HC.out W hb _ _ hi
      have HL1 : Hid ((xs.drop K).length = n - K) := Lib.hid (by rw [List.length_drop, HM.out])
      have HL2 : Hid ((xs.take K).length = K) := Lib.hid (by rw [List.length_take, HM.out]; omega)
      have hws : IntKind.i64.wrap (K : Int) = (K : Int) := by rw [IntKind.wrap_i64]; omega
      have u1 : (K : Int) ≤ (n : Int) := by omega
      have u2 : (K : Int) ≤ (cl : Int) := by omega
      have u3 : ¬ K = cl := by omega
      have u4 : ¬ cl = K := by omega
      go_region_held3 (fun _ => True) (trivial) (first
        | (refine step_edges (B := w2.heap.size) rfl (.tmp 36) (.tmp 39) rfl rfl (.slice (some ⟨w2.heap.size, 0, none⟩) 0 0) [] (xs.drop K) (by simp [Act.eval]) (b := bl) (off := K * 2) (c := cl - K) (m := n - K) (by simp [Act.eval]) HL1.out (by rw [HL1.out]; simp; omega) ?ho ?hc ?hb ?_; (case ho => first | exact own_newE w2 _ _ (Nat.le_refl _) | exact own_newE w2.drew _ _ (Nat.le_refl _)); (case hc => first | exact HC1.out _ (below_box _ _) | exact HC1.out _ (below_box _ _).drew | exact HC1.out _ ((drew_below w2 1).trans (below_box w2.drew _))); (case hb => simp); intro v5 w5 ha5; have HA5 : Hid (w5.ownsRow w2.heap.size 52 2 v5 ([] ++ xs.drop K).length (ev ([] ++ xs.drop K)) ∧ Below w2.heap.size w2 w5) := Lib.hid ⟨ha5.1, by first | exact (below_box w2 _).grown ha5.2.1 (by simp) (fun q hq => by simp [Value.ownBlock] at hq; omega) | exact ((below_box w2 _).drew).grown ha5.2.1 (by simp) (fun q hq => by simp [Value.ownBlock] at hq; omega)⟩; clear ha5)
        | (refine step_edges (B := w2.heap.size) rfl (.tmp 40) (.tmp 43) rfl rfl v5 ([] ++ xs.drop K) (xs.take K) (by simp [Act.eval]) (b := bl) (off := 0) (c := cl) (m := K) (by simp [Act.eval]) HL2.out (by rw [List.length_append, HL1.out, HL2.out]; simp; omega) HA5.out.1 (HC2.out _ HA5.out.2) HA5.out.2.size ?_; intro v6 w6 ha6; have HA6 : Hid (w6.ownsRow w2.heap.size 52 2 v6 ([] ++ xs.drop K ++ xs.take K).length (ev ([] ++ xs.drop K ++ xs.take K)) ∧ Below w2.heap.size w2 w6) := Lib.hid ⟨ha6.1, HA5.out.2.grown ha6.2.1 HA5.out.2.size (fun q hq => own_ge HA5.out.1 q hq)⟩; clear ha6))
      obtain ⟨a6, c6, e6⟩ := own_shape HA6.out.1
      obtain ⟨n6, e6'⟩ : ∃ n6, v6 = .slice a6 n6 c6 := ⟨_, e6⟩
      clear e6
      subst e6'
      obtain ⟨y, hy⟩ : ∃ y, xs[T]? = some y := ⟨_, List.getElem?_eq_getElem (by rw [HM.out]; exact hTn)⟩
      obtain ⟨d0, d1⟩ := HC.out w6 HA6.out.2 T y hy
      have HYM := Lib.hid (turn_mem (k := K) hy)
      have hb9 := below_box w6 (.cells (ec y) 52)
      obtain ⟨v9, w9, hr9, ha9⟩ := run_edge (w := w6.alloc (.cells (ec y) 52)) (own_below HA6.out.1 hb9) (Blk.new w6 52 (ec y)) (by rw [List.length_append, List.length_append, HL1.out, HL2.out]; simp; omega) (Nat.le_trans HA6.out.2.size hb9.size)
      have HB9 : Hid (Below w2.heap.size w2 w9) := Lib.hid ((HA6.out.2.trans (hb9.mono HA6.out.2.size)).grown ha9.2.1 (Nat.le_trans HA6.out.2.size hb9.size) (fun q hq => own_ge HA6.out.1 q hq))
      obtain ⟨ML, hML⟩ : ∃ ML, [] ++ xs.drop K ++ xs.take K ++ [y] = ML := ⟨_, rfl⟩
      have HMLN : Hid (ML.length ≤ 1000) := Lib.hid (by rw [← hML, List.length_append, List.length_append, List.length_append, HL1.out, HL2.out]; simp; omega)
      rw [hML] at ha9 HYM
      have HO9 := Lib.hid (ER.of_own ha9.1)
      have HV1 := Lib.hid (victims_any _ xs w9 (HE2.out.below HB9.out) (by rw [HM.out]; omega))
      obtain ⟨a9, c9, e9⟩ := own_shape ha9.1
      obtain ⟨n9, e9'⟩ : ∃ n9, v9 = .slice a9 n9 c9 := ⟨_, e9⟩
      clear e9
      subst e9'
      have HR9 := Lib.hid hr9
      obtain ⟨yf, yt⟩ := y
      dsimp only [ec] at d0 d1 HR9
      clear HA5 HA6 HC HC1 HC2 HL1 HL2 hws u1 u2 u3 u4 hy hb9 hr9 ha9 hML HKE
      go_upto_region 8 with (fail)
      have hTE := HTE.out
      clear HTE
      go_wp2_with (at_builtin; refine wpList_run rfl _ _ rfl rfl rfl HR9.out ?_)
      clear hTE d0 d1 HR9
      refine HV1.out.mono ?_
      rintro e w10 ⟨v10, R, rfl, hV10, hRl, ho10, hb10⟩
      have HV10 := Lib.hid hV10
      have HB10 := Lib.hid (HB9.out.trans (hb10.mono HB9.out.size))
      have HO10 := Lib.hid (IR.of_own ho10)
      have HRL : Hid (R.length ≤ 60) := Lib.hid (by rw [HM.out] at hRl; omega)
      have HV2 := Lib.hid (victims_any _ ML w10 (HO9.out.below hb10) HMLN.out)
      obtain ⟨nr, hnr⟩ : ∃ nr, R.length = nr := ⟨_, rfl⟩
      have HNR := Lib.hid hnr
      obtain ⟨a10, c10, e10⟩ := own_shape ho10
      rw [hnr] at e10
      subst e10
      clear hV10 hRl ho10 hb10 hnr HV1 HB9
      go_wp2_with fail
      refine HV2.out.mono ?_
      rintro e w11 ⟨v11, R2, rfl, hV11, -, ho11, hb11⟩
      obtain rfl : R2 = R := hV11.uniq (vics_same HYM.out HV10.out)
      have HB11 := Lib.hid (HB2.out.trans ((HB10.out.trans (hb11.mono HB10.out.size)).mono HB2.out.size))
      have HA := Lib.hid (HO10.out.below hb11)
      have HB := Lib.hid (IR.of_own ho11)
      obtain ⟨a11, c11, e11⟩ := own_shape ho11
      rw [HNR.out] at e11
      subst e11
      have g1 : ((nr : Int) != (nr : Int)) = false := by simp
      have hnr60 : nr ≤ 60 := by rw [← HNR.out]; exact HRL.out
      clear hV11 ho11 hb11 HV2 HB10 HO10 HRL HYM HV10 HMLN HO9
      go_wp2_with fail
      clear g1
      go_loopw [13] (fun i wr => ∃ j : Nat, j ≤ nr ∧ i = .int .i64 (j : Int) ∧ (∃ q, wr = w11.drewN q)) (fun i _ => nr - (intOf i).toNat)
      case atStart => exact ⟨0, Nat.zero_le _, rfl, 0, rfl⟩
      case round =>
        obtain ⟨j, hj, rfl, q, rfl⟩ := hrel
        by_cases hjn : j < nr
        · obtain ⟨x, hx⟩ : ∃ x, R2[j]? = some x := ⟨_, List.getElem?_eq_getElem (by rw [HNR.out]; exact hjn)⟩
          obtain ⟨b1, o1, c1, e1, -, -, d1⟩ := HA.out.at_ hx
          injection e1 with e1 _ e3
          subst e1; subst e3
          obtain ⟨b2, o2, c2, e1, -, -, d2⟩ := HB.out.at_ hx
          injection e1 with e1 _ e3
          subst e1; subst e3
          obtain ⟨W1, hW1⟩ : ∃ W1, w11.drewN q = W1 := ⟨_, rfl⟩
          have d1 : W1.cell? ⟨b1, o1 + j, none⟩ = some (.int .i64 x) := by rw [← hW1]; exact d1
          have d2 : W1.cell? ⟨b2, o2 + j, none⟩ = some (.int .i64 x) := by rw [← hW1]; exact d2
          have HW1 := Lib.hid hW1
          rw [hW1]
          have g1 : (x != x) = false := by simp
          clear hW1 hx
          go_upto_region 16 with (fail)
          go_quiet (fail)
          go_wp2
          go_roundw
          case rel => exact ⟨j + 1, by omega, by go_num, q + nq, by rw [← HW1.out]; exact World.drewN_drewN _ _ _⟩
          case measure => simp [intOf]; omega
        · obtain rfl : j = nr := by omega
          have FIN : Hid (Below w.heap.size w (w11.drewN q)) := Lib.hid (HB11.out.trans ((drew_below w11 q).mono HB11.out.size))
          clear HA HB
          go_wp2
          go_ret
          exact ⟨rfl, FIN.out⟩
    · have g0 : decide ((60 : Int) < (n : Int)) = true := by simp; omega
      clear HI
      go_wp2_with fail
      go_ret
      exact ⟨rfl, HB1.out⟩
end Go.Proofs.Ythodggkpkjfggaa.Knot
