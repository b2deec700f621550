/- The walk of the statement KnotApart. -/
import Derived.Test.YthodggkpkjfggaaKnotTurnsWalk
namespace Go.Proofs.Ythodggkpkjfggaa.Knot
set_option maxRecDepth 100000
open Go.RowKit
open Go.Proofs.Ythodggkpkjfggaa.Mem
/-! plain -/
theorem rch_side {L L' : List Ed} {C : Int → Prop} {a b : Int} (h : Rch L a b) (hc : ∀ e ∈ L, C e.f → C e.t ∧ e ∈ L') (ha : C a) : Rch L' a b := by
  induction h with
  | refl _ => exact .refl _
  | step h1 _ ih =>
    obtain ⟨h2, h3⟩ := hc _ h1 ha
    exact .step h3 (ih h2)
theorem apart_stuck {A B : List Ed} {P Q : List Int} (hA : ∀ e ∈ A, e.f < 50 ∧ e.t < 50) (hB : ∀ e ∈ B, 50 ≤ e.f ∧ 50 ≤ e.t) (hP : IsStuck A P) (hQ : IsStuck B Q) : IsStuck (B ++ A) (P ++ Q) := by
  have inA : ∀ v, Cyc A v → v < 50 := fun v ⟨t, h1, _⟩ => (hA _ h1).1
  have inB : ∀ v, Cyc B v → 50 ≤ v := fun v ⟨t, h1, _⟩ => (hB _ h1).1
  refine ⟨List.pairwise_append.2 ⟨hP.1, hQ.1, fun a ha b hb => ?_⟩, fun v => ?_⟩
  · have h1 := inA a ((hP.2 a).1 ha)
    have h2 := inB b ((hQ.2 b).1 hb)
    omega
  · rw [List.mem_append, hP.2, hQ.2]
    constructor
    · rintro (h | h)
      · exact h.mono fun e he => List.mem_append_right _ he
      · exact h.mono fun e he => List.mem_append_left _ he
    · rintro ⟨t, h1, h2⟩
      rcases List.mem_append.1 h1 with h1 | h1
      · right
        refine ⟨t, h1, rch_side (C := fun x => 50 ≤ x) h2 (fun e he hf => ?_) (hB _ h1).2⟩
        rcases List.mem_append.1 he with he | he
        · exact ⟨(hB e he).2, he⟩
        · have := (hA e he).1; omega
      · left
        refine ⟨t, h1, rch_side (C := fun x => x < 50) h2 (fun e he hf => ?_) (hA _ h1).2⟩
        rcases List.mem_append.1 he with he | he
        · have := (hB e he).1; omega
        · exact ⟨(hA e he).2, he⟩
def md (x : Int) : Int := wrap64 ((IntKind.u64.wrap x).tmod 50)
theorem md_i64 (x : Int) : IntKind.i64.wrap ((IntKind.u64.wrap x).tmod 50) = md x := by unfold md wrap64; rw [IntKind.wrap_i64]
theorem md_lt (x : Int) : 0 ≤ md x ∧ md x < 50 := by
  obtain ⟨K, h1, h2⟩ := cut_of x 50 (by omega) (by omega)
  unfold md; rw [h1]; omega
def fA (e : Ed) : Ed := ⟨md e.f, md e.t⟩
def fB (e : Ed) : Ed := ⟨50 + md e.f, 50 + md e.t⟩
/-! in memory -/
theorem run_appE {w : World} {B : Nat} {v u : Value} {A A2 : List Ed} (hown : w.ownsRow B 52 2 v A.length (ev A)) (hu : ER w u A2) (hn : A.length + A2.length ≤ 2000000) (hB : B ≤ w.heap.size) :
    ∃ v' w', (Builtin.append_ #[37, 37] 37 #[v, u]).run Try.prog w = .ok v' w' ∧ AppRes w w' B 52 2 v v' (A ++ A2).length (ev (A ++ A2)) := by
  obtain ⟨i0, hi, hz0, hz1, hz2⟩ := info_parts info_edge
  by_cases h0 : A2 = []
  · subst h0
    obtain ⟨a, c, rfl, h1, h2⟩ := hu
    refine ⟨v, w, run_append_zero B 37 _ 52 i0 2 Try.underlying37 hi v _ _ hown a c, ?_, World.grownBy.refl _ _, .inl rfl⟩
    simpa using hown
  · obtain ⟨a, c, rfl, h1, h2⟩ := hu
    obtain ⟨b, rfl, h3, h4⟩ := h2 (List.length_pos_iff.2 h0)
    exact run_edges rfl hown (fun i e hi => by rw [Nat.zero_add]; exact h4 i e hi) hn hB
set_option maxRecDepth 100000 in
set_option maxHeartbeats 8000000 in
theorem apart_walk (a : Option Addr) (n c : Nat) (xs : List Ed) (a' : Option Addr) (n' c' : Nat) (ys : List Ed) (w : World) (hI : Prs w a n xs) (hJ : Prs w a' n' ys) :
    Calls Try.prog 8 #[.slice a n c, .slice a' n' c'] w fun e w' => e = .returned (.bool true) ∧ Below w.heap.size w w' := by
  have HI := Lib.hid hI
  have HJ := Lib.hid hJ
  clear hI hJ
  go_enter Try.func8, Try.ntmps8
  go_wp2_with fail
  refine (awake_any w).mono ?_
  rintro e w1 ⟨rfl, b1⟩
  have HB1 := Lib.hid b1
  clear b1
  by_cases hn : n ≤ 30
  · have g0 : decide ((30 : Int) < (n : Int)) = false := by simp; omega
    by_cases hn' : n' ≤ 30
    · have g1 : decide ((30 : Int) < (n' : Int)) = false := by simp; omega
      have HM : Hid (xs.length = n) := Lib.hid HI.out.1
      have HM' : Hid (ys.length = n') := Lib.hid HJ.out.1
      have HI1 := Lib.hid (HI.out.below HB1.out)
      have HJ1 := Lib.hid (HJ.out.below HB1.out)
      have ST : Hid (Two ((w1.alloc (.cells #[] 52)).alloc (.cells #[] 52)) w1.heap.size (.slice (some ⟨w1.heap.size, 0, none⟩) 0 0) (.slice (some ⟨w1.heap.size + 1, 0, none⟩) 0 0) ((xs.take 0).map fA) ((ys.take 0).map fB) ∧ Below w1.heap.size w1 ((w1.alloc (.cells #[] 52)).alloc (.cells #[] 52))) := Lib.hid (by
        have h1 := below_box w1 (.cells #[] 52)
        have h2 := below_box (w1.alloc (.cells #[] 52)) (.cells #[] 52)
        have o1 := own_below (own_newE w1 w1.heap.size 52 (Nat.le_refl _)) h2
        have o2 := own_newE (w1.alloc (.cells #[] 52)) w1.heap.size 52 h1.size
        have e1 : (w1.alloc (.cells #[] 52)).heap.size = w1.heap.size + 1 := by simp
        rw [e1] at o2
        exact ⟨⟨o1, o2, fun b e e' => by simp [Value.ownBlock] at e e'; omega⟩, h1.trans (h2.mono h1.size)⟩)
      clear HI HJ
      go_wp2_with fail
      clear g0 g1
      go_loopw [5, 7] (fun t i wr => ∃ j : Nat, j ≤ n ∧ i = .int .i64 (j : Int) ∧ (∃ a n c, t = .slice a n c) ∧ Hid (Two wr w1.heap.size t (.slice (some ⟨w1.heap.size + 1, 0, none⟩) 0 0) ((xs.take j).map fA) ((ys.take 0).map fB) ∧ Below w1.heap.size w1 wr)) (fun _ i _ => n - (intOf i).toNat)
      case atStart => exact ⟨0, Nat.zero_le _, rfl, ⟨_, _, _, rfl⟩, ST⟩
      case round =>
        obtain ⟨j, hj, rfl, ⟨a3, n3, k3, rfl⟩, HK⟩ := hrel
        clear ST
        by_cases hjn : j < n
        · obtain ⟨e, he⟩ : ∃ e, xs[j]? = some e := ⟨_, List.getElem?_eq_getElem (by rw [HM.out]; exact hjn)⟩
          obtain ⟨b, off, rfl, hbl, c0, c1⟩ := HI1.out.at_ he
          have hTS : (xs.take (j + 1)).map fA = (xs.take j).map fA ++ [fA e] := by rw [take_snoc he, List.map_append]; rfl
          have HTS := Lib.hid hTS
          have HLN : Hid (((xs.take j).map fA).length ≤ 2000000) := Lib.hid (by rw [List.length_map, List.length_take]; omega)
          have HZ0 : Hid (∀ W', Below w1.heap.size w1 W' → W'.cell? ⟨b, off + j * 2, none⟩ = some (.int .i64 e.f) ∧ W'.cell? ⟨b, off + j * 2 + 1, none⟩ = some (.int .i64 e.t)) := Lib.hid fun W' hb => ⟨(hb.cell (p := ⟨b, off + j * 2, none⟩) hbl).trans c0, (hb.cell (p := ⟨b, off + j * 2 + 1, none⟩) hbl).trans c1⟩
          have HBB := Lib.hid HK.out.2
          have HZ : Hid (∀ W', Below wr.heap.size wr W' → W'.cell? ⟨b, off + j * 2, none⟩ = some (.int .i64 e.f) ∧ W'.cell? ⟨b, off + j * 2 + 1, none⟩ = some (.int .i64 e.t)) := Lib.hid fun W' hb => HZ0.out W' (HBB.out.trans (hb.mono HBB.out.size))
          have HTW := Lib.hid HK.out.1
          have HSZ := Lib.hid HK.out.2.size
          have q1 : IntKind.i64.wrap ((IntKind.u64.wrap e.f).tmod 50) = md e.f := md_i64 _
          have q2 : IntKind.i64.wrap ((IntKind.u64.wrap e.t).tmod 50) = md e.t := md_i64 _
          have HFA : Hid (fA e = ⟨md e.f, md e.t⟩) := Lib.hid rfl
          obtain ⟨ef, et⟩ := e
          dsimp only at HZ HZ0 q1 q2 HFA
          obtain ⟨mf, hmf⟩ : ∃ z, md ef = z := ⟨_, rfl⟩
          obtain ⟨mt, hmt⟩ : ∃ z, md et = z := ⟨_, rfl⟩
          rw [hmf] at q1 HFA
          rw [hmt] at q2 HFA
          have c0 := (HZ.out wr (Below.refl _ _)).1
          have c1 := (HZ.out wr (Below.refl _ _)).2
          clear he HK hTS hmf hmt
          go_upto_region 10 with (fail)
          go_region_held3 (fun W' => W'.cell? ⟨b, off + j * 2, none⟩ = some (.int .i64 ef) ∧ W'.cell? ⟨b, off + j * 2 + 1, none⟩ = some (.int .i64 et)) (first | assumption | exact HZ.out _ (below_box _ _) | exact HZ.out _ ((below_box _ _).drew) | exact HZ.out _ ((Below.refl _ _).drew) | exact HZ.out _ (Below.refl _ _)) (first
            | (refine step_e1 (W := wr) (B := w1.heap.size) rfl (.tmp 31) (.tmp 49) rfl rfl (.slice a3 n3 k3) ((xs.take j).map fA) (by simp [Act.eval]) wr.heap.size ⟨mf, mt⟩ (by simp [Act.eval]) ?hp HTW.out.o1 HLN.out HSZ.out ?_; (case hp => first | exact ⟨(below_box wr _).drew, Blk.new wr _ _⟩ | exact ⟨below_box wr _, Blk.new wr _ _⟩); intro v5 w5 hb5 ha5; have HG5 : Hid (Two w5 w1.heap.size v5 (.slice (some ⟨w1.heap.size + 1, 0, none⟩) 0 0) ((xs.take j).map fA ++ [⟨mf, mt⟩]) ((ys.take 0).map fB) ∧ Below w1.heap.size w1 w5) := Lib.hid ⟨HTW.out.app hb5 ha5, (HBB.out.trans (hb5.mono HBB.out.size)).grown ha5.2.1 (Nat.le_trans HBB.out.size hb5.size) (fun q hq => own_ge HTW.out.o1 q hq)⟩; have hz5 := HZ0.out _ HG5.out.2; clear hb5 ha5))
          have HN : Hid (Two w5 w1.heap.size v5 (.slice (some ⟨w1.heap.size + 1, 0, none⟩) 0 0) ((xs.take (j + 1)).map fA) ((ys.take 0).map fB) ∧ Below w1.heap.size w1 w5) := Lib.hid (by rw [HTS.out, HFA.out]; exact HG5.out)
          obtain ⟨a5, c5, e5⟩ := own_shape HG5.out.1.o1
          obtain ⟨n5, e5'⟩ : ∃ n5, v5 = .slice a5 n5 c5 := ⟨_, e5⟩
          clear e5
          subst e5'
          clear HG5 HZ HZ0 HTW HSZ HBB hz5 c0 c1 HTS HLN q1 q2 HFA
          go_wp2
          go_roundw
          case rel =>
            refine ⟨j + 1, by omega, by go_num, ?_⟩
            first | exact ⟨⟨_, _, _, rfl⟩, HN⟩ | exact HN
          case measure => simp [intOf]; omega
        · obtain rfl : j = n := by omega
          have HK0 : Hid (Two wr w1.heap.size (.slice a3 n3 k3) (.slice (some ⟨w1.heap.size + 1, 0, none⟩) 0 0) (xs.map fA) ((ys.take 0).map fB) ∧ Below w1.heap.size w1 wr) := Lib.hid (by
            have h1 := HK.out
            rw [List.take_of_length_le (by rw [HM.out]; exact Nat.le_refl _)] at h1
            exact h1)
          clear HK
          go_wp2_with fail
          go_loopw [6, 8] (fun t i wr => ∃ j : Nat, j ≤ n' ∧ i = .int .i64 (j : Int) ∧ (∃ a n c, t = .slice a n c) ∧ Hid (Two wr w1.heap.size (.slice a3 n3 k3) t (xs.map fA) ((ys.take j).map fB) ∧ Below w1.heap.size w1 wr)) (fun _ i _ => n' - (intOf i).toNat)
          case atStart => exact ⟨0, Nat.zero_le _, rfl, ⟨_, _, _, rfl⟩, HK0⟩
          case round =>
            obtain ⟨q, hq, rfl, ⟨a4, n4, k4, rfl⟩, HK⟩ := hrel
            clear HK0
            by_cases hqn : q < n'
            · obtain ⟨e, he⟩ : ∃ e, ys[q]? = some e := ⟨_, List.getElem?_eq_getElem (by rw [HM'.out]; exact hqn)⟩
              obtain ⟨b, off, rfl, hbl, c0, c1⟩ := HJ1.out.at_ he
              have hTS : (ys.take (q + 1)).map fB = (ys.take q).map fB ++ [fB e] := by rw [take_snoc he, List.map_append]; rfl
              have HTS := Lib.hid hTS
              have HLN : Hid (((ys.take q).map fB).length ≤ 2000000) := Lib.hid (by rw [List.length_map, List.length_take]; omega)
              have HZ0 : Hid (∀ W', Below w1.heap.size w1 W' → W'.cell? ⟨b, off + q * 2, none⟩ = some (.int .i64 e.f) ∧ W'.cell? ⟨b, off + q * 2 + 1, none⟩ = some (.int .i64 e.t)) := Lib.hid fun W' hb => ⟨(hb.cell (p := ⟨b, off + q * 2, none⟩) hbl).trans c0, (hb.cell (p := ⟨b, off + q * 2 + 1, none⟩) hbl).trans c1⟩
              have HBB := Lib.hid HK.out.2
              have HZ : Hid (∀ W', Below wr.heap.size wr W' → W'.cell? ⟨b, off + q * 2, none⟩ = some (.int .i64 e.f) ∧ W'.cell? ⟨b, off + q * 2 + 1, none⟩ = some (.int .i64 e.t)) := Lib.hid fun W' hb => HZ0.out W' (HBB.out.trans (hb.mono HBB.out.size))
              have HTW := Lib.hid HK.out.1.swap
              have HSZ := Lib.hid HK.out.2.size
              have q1 : IntKind.i64.wrap ((IntKind.u64.wrap e.f).tmod 50) = md e.f := md_i64 _
              have q2 : IntKind.i64.wrap ((IntKind.u64.wrap e.t).tmod 50) = md e.t := md_i64 _
              have r1 : IntKind.i64.wrap (50 + md e.f) = 50 + md e.f := by have := md_lt e.f; rw [IntKind.wrap_i64]; omega
              have r2 : IntKind.i64.wrap (50 + md e.t) = 50 + md e.t := by have := md_lt e.t; rw [IntKind.wrap_i64]; omega
              have HFA : Hid (fB e = ⟨50 + md e.f, 50 + md e.t⟩) := Lib.hid rfl
              obtain ⟨ef, et⟩ := e
              dsimp only at HZ HZ0 q1 q2 r1 r2 HFA
              obtain ⟨mf, hmf⟩ : ∃ z, md ef = z := ⟨_, rfl⟩
              obtain ⟨mt, hmt⟩ : ∃ z, md et = z := ⟨_, rfl⟩
              rw [hmf] at q1 r1 HFA
              rw [hmt] at q2 r2 HFA
              have c0 := (HZ.out wr (Below.refl _ _)).1
              have c1 := (HZ.out wr (Below.refl _ _)).2
              clear he HK hTS hmf hmt
              go_upto_region 14 with (fail)
              go_region_held3 (fun W' => W'.cell? ⟨b, off + q * 2, none⟩ = some (.int .i64 ef) ∧ W'.cell? ⟨b, off + q * 2 + 1, none⟩ = some (.int .i64 et)) (first | assumption | exact HZ.out _ (below_box _ _) | exact HZ.out _ ((below_box _ _).drew) | exact HZ.out _ ((Below.refl _ _).drew) | exact HZ.out _ (Below.refl _ _)) (first
                | (refine step_e1 (W := wr) (B := w1.heap.size) rfl (.tmp 57) (.tmp 77) rfl rfl (.slice a4 n4 k4) ((ys.take q).map fB) (by simp [Act.eval]) wr.heap.size ⟨50 + mf, 50 + mt⟩ (by simp [Act.eval]) ?hp HTW.out.o1 HLN.out HSZ.out ?_; (case hp => first | exact ⟨(below_box wr _).drew, Blk.new wr _ _⟩ | exact ⟨below_box wr _, Blk.new wr _ _⟩); intro v5 w5 hb5 ha5; have HG5 : Hid (Two w5 w1.heap.size v5 (.slice a3 n3 k3) ((ys.take q).map fB ++ [⟨50 + mf, 50 + mt⟩]) (xs.map fA) ∧ Below w1.heap.size w1 w5) := Lib.hid ⟨HTW.out.app hb5 ha5, (HBB.out.trans (hb5.mono HBB.out.size)).grown ha5.2.1 (Nat.le_trans HBB.out.size hb5.size) (fun q hq => own_ge HTW.out.o1 q hq)⟩; have hz5 := HZ0.out _ HG5.out.2; clear hb5 ha5))
              have HN : Hid (Two w5 w1.heap.size (.slice a3 n3 k3) v5 (xs.map fA) ((ys.take (q + 1)).map fB) ∧ Below w1.heap.size w1 w5) := Lib.hid (by rw [HTS.out, HFA.out]; exact ⟨HG5.out.1.swap, HG5.out.2⟩)
              obtain ⟨a5, c5, e5⟩ := own_shape HG5.out.1.o1
              obtain ⟨n5, e5'⟩ : ∃ n5, v5 = .slice a5 n5 c5 := ⟨_, e5⟩
              clear e5
              subst e5'
              clear HG5 HZ HZ0 HTW HSZ HBB hz5 c0 c1 HTS HLN q1 q2 r1 r2 HFA
              go_wp2
              go_roundw
              case rel =>
                refine ⟨q + 1, by omega, by go_num, ?_⟩
                first | exact ⟨⟨_, _, _, rfl⟩, HN⟩ | exact HN
              case measure => simp [intOf]; omega
            · obtain rfl : q = n' := by omega
              have hT := HK.out.1
              rw [List.take_of_length_le (by rw [HM'.out]; exact Nat.le_refl _)] at hT
              have hbT := HK.out.2
              obtain ⟨A, hA⟩ : ∃ A, xs.map fA = A := ⟨_, rfl⟩
              obtain ⟨B, hB⟩ : ∃ B, ys.map fB = B := ⟨_, rfl⟩
              have HA : Hid (∀ e ∈ A, e.f < 50 ∧ e.t < 50) := Lib.hid fun e he => by
                rw [← hA] at he
                obtain ⟨x, _, rfl⟩ := List.mem_map.1 he
                exact ⟨(md_lt _).2, (md_lt _).2⟩
              have HBq : Hid (∀ e ∈ B, 50 ≤ e.f ∧ 50 ≤ e.t) := Lib.hid fun e he => by
                rw [← hB] at he
                obtain ⟨x, _, rfl⟩ := List.mem_map.1 he
                have h1 := (md_lt x.f).1
                have h2 := (md_lt x.t).1
                exact ⟨by show 50 ≤ 50 + md x.f; omega, by show 50 ≤ 50 + md x.t; omega⟩
              have hAl : A.length ≤ 30 := by rw [← hA, List.length_map, HM.out]; exact hn
              have hBl : B.length ≤ 30 := by rw [← hB, List.length_map, HM'.out]; exact hn'
              rw [hA, hB] at hT
              -- all of them
              have hb9 := below_box wr (.cells #[] 52)
              obtain ⟨v8, w8, hr8, ha8⟩ := run_appE (own_newE wr wr.heap.size 52 (Nat.le_refl _)) (ER.of_own (own_below hT.o2 hb9)) (by simp; omega) hb9.size
              have hb8 : Below wr.heap.size wr w8 := hb9.grown ha8.2.1 hb9.size (fun k hk => by simp [Value.ownBlock] at hk; omega)
              obtain ⟨v7, w7, hr7, ha7⟩ := run_appE ha8.1 (ER.of_own (own_below hT.o1 hb8)) (by simp; omega) hb8.size
              have hb7 : Below wr.heap.size wr w7 := hb8.grown ha7.2.1 hb8.size (fun k hk => own_ge ha8.1 k hk)
              have hall := ER.of_own ha7.1
              rw [List.nil_append] at hall
              have HS := Lib.hid (stuck_any v7 (B ++ A) w7 hall (by simp; omega))
              have HEA := Lib.hid (ER.of_own (own_below hT.o1 hb7))
              have HEB := Lib.hid (ER.of_own (own_below hT.o2 hb7))
              have HB7 : Hid (Below w.heap.size w w7) := Lib.hid (HB1.out.trans ((hbT.trans (hb7.mono hbT.size)).mono HB1.out.size))
              have HAL := Lib.hid (And.intro hAl hBl)
              obtain ⟨a8, c8, e8⟩ := own_shape ha8.1
              obtain ⟨n8, e8'⟩ : ∃ n8, v8 = .slice a8 n8 c8 := ⟨_, e8⟩
              obtain ⟨a7, c7, e7⟩ := own_shape ha7.1
              obtain ⟨n7, e7'⟩ : ∃ n7, v7 = .slice a7 n7 c7 := ⟨_, e7⟩
              have HR8 := Lib.hid hr8
              have HR7 := Lib.hid hr7
              clear e8 e7 hT hbT hA hB hAl hBl hb9 hr8 ha8 hb8 hr7 ha7 hb7 hall HK HI1 HJ1 HM HM'
              subst e8'
              subst e7'
              go_wp2_with (at_builtin; first | (refine wpList_run rfl _ _ rfl rfl rfl HR8.out ?_) | (refine wpList_run rfl _ _ rfl rfl rfl HR7.out ?_))
              refine HS.out.mono ?_
              rintro e w9 ⟨v9, R, rfl, hSR, -, ho9, hb9⟩
              have HP := Lib.hid (stuck_any _ A w9 (HEA.out.below hb9) (by have := HAL.out.1; omega))
              have HEB9 := Lib.hid (HEB.out.below hb9)
              have HB9 := Lib.hid (HB7.out.trans (hb9.mono HB7.out.size))
              have HSR := Lib.hid hSR
              have HR9 := Lib.hid (IR.of_own ho9)
              obtain ⟨a9, c9, e9⟩ := own_shape ho9
              obtain ⟨n9, hn9⟩ : ∃ n9, R.length = n9 := ⟨_, rfl⟩
              rw [hn9] at e9
              have HN9 := Lib.hid hn9
              subst e9
              clear hSR ho9 hb9 hn9 HS HEA HEB HB7 HR8 HR7
              go_wp2_with fail
              refine HP.out.mono ?_
              rintro e w10 ⟨v10, P, rfl, hSP, hPl, ho10, hb10⟩
              have HQS := Lib.hid (stuck_any _ B w10 (HEB9.out.below hb10) (by have := HAL.out.2; omega))
              have HB10 := Lib.hid (HB9.out.trans (hb10.mono HB9.out.size))
              have HSP := Lib.hid hSP
              have HP10 := Lib.hid (IR.of_own ho10)
              have HR10 := Lib.hid (HR9.out.below hb10)
              have HPL := Lib.hid hPl
              obtain ⟨a10, c10, e10⟩ := own_shape ho10
              obtain ⟨np, hnp⟩ : ∃ np, P.length = np := ⟨_, rfl⟩
              rw [hnp] at e10
              have HNP := Lib.hid hnp
              subst e10
              clear hSP hPl ho10 hb10 hnp HP HB9 HEB9 HR9
              go_wp2_with fail
              refine HQS.out.mono ?_
              rintro e w11 ⟨v11, Q, rfl, hSQ, hQl, ho11, hb11⟩
              have HB11 := Lib.hid (HB10.out.trans (hb11.mono HB10.out.size))
              have hRPQ : R = P ++ Q := HSR.out.uniq (apart_stuck HA.out HBq.out HSP.out hSQ)
              have HQ11 := Lib.hid (IR.of_own ho11)
              have HP11 := Lib.hid (HP10.out.below hb11)
              have HR11 := Lib.hid (HR10.out.below hb11)
              obtain ⟨a11, c11, e11⟩ := own_shape ho11
              obtain ⟨nq9, hnq⟩ : ∃ nq9, Q.length = nq9 := ⟨_, rfl⟩
              rw [hnq] at e11
              have HNQ := Lib.hid hnq
              subst e11
              have hn9 : n9 = np + nq9 := by rw [← HN9.out, hRPQ, List.length_append, HNP.out, hnq]
              subst hn9
              subst hRPQ
              have hnp30 : np ≤ 30 := by have h1 := HPL.out; have h2 := HAL.out.1; rw [HNP.out] at h1; omega
              have hnq30 : nq9 ≤ 30 := by have h2 := HAL.out.2; rw [hnq] at hQl; omega
              have hw1 : IntKind.i64.wrap ((np : Int) + (nq9 : Int)) = (np : Int) + (nq9 : Int) := by rw [IntKind.wrap_i64]; omega
              have hne : (((np : Int) + (nq9 : Int)) != ((np : Int) + (nq9 : Int))) = false := by simp
              clear hSQ hQl ho11 hb11 hnq HQS HB10 HP10 HR10 HSR HSP HPL HAL HA HBq HN9
              go_wp2_with fail
              clear hw1 hne
              go_loopw [12] (fun i wr => ∃ j : Nat, j ≤ np + nq9 ∧ i = .int .i64 (j : Int) ∧ (∃ q, wr = w11.drewN q)) (fun i _ => np + nq9 - (intOf i).toNat)
              case atStart => exact ⟨0, Nat.zero_le _, rfl, 0, rfl⟩
              case round =>
                obtain ⟨j, hj, rfl, q, rfl⟩ := hrel
                obtain ⟨W1, hW1⟩ : ∃ W1, w11.drewN q = W1 := ⟨_, rfl⟩
                have HW1 := Lib.hid hW1
                by_cases hjn : j < np + nq9
                · obtain ⟨x, hx⟩ : ∃ x, (P ++ Q)[j]? = some x := ⟨_, List.getElem?_eq_getElem (by rw [List.length_append, HNP.out, HNQ.out]; exact hjn)⟩
                  obtain ⟨b1, o1, c1, e1, -, -, d1⟩ := HR11.out.at_ hx
                  injection e1 with e1 e2 e3
                  clear e2
                  subst e1; subst e3
                  have d1 : W1.cell? ⟨b1, o1 + j, none⟩ = some (.int .i64 x) := by rw [← hW1]; exact d1
                  have g1 : (x != x) = false := by simp
                  by_cases hjp : j < np
                  · rw [List.getElem?_append_left (by rw [HNP.out]; exact hjp)] at hx
                    obtain ⟨b2, o2, c2, e1, -, -, d2⟩ := HP11.out.at_ hx
                    injection e1 with e1 e2 e3
                    clear e2
                    subst e1; subst e3
                    have d2 : W1.cell? ⟨b2, o2 + j, none⟩ = some (.int .i64 x) := by rw [← hW1]; exact d2
                    have g2 : decide ((j : Int) < (np : Int)) = true := decide_eq_true (by omega)
                    have g3 : decide ((np : Int) ≤ (j : Int)) = false := decide_eq_false (by omega)
                    have g4 : decide (np ≤ j) = false := decide_eq_false (by omega)
                    have g5 : decide (j < np) = true := decide_eq_true (by omega)
                    rw [hW1]
                    clear hW1 hx
                    go_upto_region 23 with (fail)
                    go_quiet (fail)
                    clear d1 d2 g1 g2 g3 g4 g5
                    go_wp2
                    go_roundw
                    case rel => exact ⟨j + 1, by omega, by go_num, q + nq, by rw [← HW1.out]; exact World.drewN_drewN _ _ _⟩
                    case measure => simp [intOf]; omega
                  · obtain ⟨t, rfl⟩ : ∃ t, j = np + t := ⟨j - np, by omega⟩
                    rw [List.getElem?_append_right (by rw [HNP.out]; omega), HNP.out, Nat.add_sub_cancel_left] at hx
                    obtain ⟨b2, o2, c2, e1, -, -, d2⟩ := HQ11.out.at_ hx
                    injection e1 with e1 e2 e3
                    clear e2
                    subst e1; subst e3
                    have d2 : W1.cell? ⟨b2, o2 + t, none⟩ = some (.int .i64 x) := by rw [← hW1]; exact d2
                    have htq : t < nq9 := by omega
                    have g2 : decide (((np + t : Nat) : Int) < (np : Int)) = false := decide_eq_false (by omega)
                    have g3 : decide ((np : Int) ≤ ((np + t : Nat) : Int)) = true := decide_eq_true (by omega)
                    have g4 : decide ((np : Int) + (t : Int) < (np : Int)) = false := decide_eq_false (by omega)
                    have g5 : decide ((np : Int) ≤ (np : Int) + (t : Int)) = true := decide_eq_true (by omega)
                    have g6 : IntKind.i64.wrap ((np : Int) + (t : Int) - (np : Int)) = (t : Int) := by rw [IntKind.wrap_i64]; omega
                    have g7 : IntKind.i64.wrap (t : Int) = (t : Int) := by rw [IntKind.wrap_i64]; omega
                    rw [hW1]
                    clear hW1 hx
                    go_upto_region 23 with (fail)
                    go_quiet (fail)
                    clear d1 d2 g1 g2 g3 g4 g5 g6 g7
                    go_wp2
                    go_roundw
                    case rel => exact ⟨np + t + 1, by omega, by go_num, q + nq, by rw [← HW1.out]; exact World.drewN_drewN _ _ _⟩
                    case measure => simp [intOf]; omega
                · obtain rfl : j = np + nq9 := by omega
                  have FIN : Hid (Below w.heap.size w W1) := Lib.hid (by rw [← hW1]; exact HB11.out.trans ((drew_below w11 q).mono HB11.out.size))
                  rw [hW1]
                  clear hW1 HR11 HP11 HQ11 hjn hj
                  go_wp2
                  go_ret
                  exact ⟨rfl, FIN.out⟩
    · have g1 : decide ((30 : Int) < (n' : Int)) = true := by simp; omega
      clear HI HJ
      go_wp2_with fail
      go_ret
      exact ⟨rfl, HB1.out⟩
  · have g0 : decide ((30 : Int) < (n : Int)) = true := by simp; omega
    clear HI HJ
    go_wp2_with fail
    go_ret
    exact ⟨rfl, HB1.out⟩
end Go.Proofs.Ythodggkpkjfggaa.Knot
