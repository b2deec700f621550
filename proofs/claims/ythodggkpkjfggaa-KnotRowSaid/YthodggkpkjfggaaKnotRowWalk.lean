/- The walk of the statement KnotRow. -/
import Derived.Test.YthodggkpkjfggaaKnotTurnsWalk
namespace Go.Proofs.Ythodggkpkjfggaa.Knot
set_option maxRecDepth 100000
open Go.RowKit
open Go.Proofs.Ythodggkpkjfggaa.Mem
def downL (L : List Ed) : List Ed := L.filter fun e => decide (e.t < e.f)
theorem downL_snoc (L : List Ed) (e : Ed) : downL (L ++ [e]) = if decide (e.t < e.f) then downL L ++ [e] else downL L := by
  unfold downL
  rw [List.filter_append]
  by_cases hh : e.t < e.f <;> simp [hh]
theorem downL_fall (L : List Ed) : ∀ e ∈ downL L, e.t < e.f := fun e he => by
  have := (List.mem_filter.1 he).2
  simpa using this
theorem downL_len (L : List Ed) : (downL L).length ≤ L.length := List.length_filter_le _ _
/-- a row of m edges -/
def rowL (m : Nat) : List Ed := (List.range m).map fun i : Nat => (⟨(i : Int) + 1, (i : Int)⟩ : Ed)
theorem rowL_snoc (m : Nat) : rowL (m + 1) = rowL m ++ [(⟨(m : Int) + 1, (m : Int)⟩ : Ed)] := by simp [rowL, List.range_succ]
theorem mem_rowL {m : Nat} {e : Ed} : e ∈ rowL m ↔ ∃ i : Nat, i < m ∧ e = ⟨(i : Int) + 1, (i : Int)⟩ := by
  unfold rowL
  rw [List.mem_map]
  constructor
  · rintro ⟨i, h1, rfl⟩; exact ⟨i, List.mem_range.1 h1, rfl⟩
  · rintro ⟨i, h1, rfl⟩; exact ⟨i, List.mem_range.2 h1, rfl⟩
theorem rowL_fall (m : Nat) : ∀ e ∈ rowL m, e.t < e.f := fun e he => by
  obtain ⟨i, _, rfl⟩ := mem_rowL.1 he
  dsimp only; omega
def ringL (m : Nat) : List Ed := rowL m ++ [⟨0, (m : Int)⟩]
theorem ring_down {m : Nat} : ∀ j i : Nat, i ≤ j → j ≤ m → Rch (ringL m) (j : Int) (i : Int)
  | 0, i, h, _ => by
    obtain rfl : i = 0 := by omega
    exact .refl _
  | j + 1, i, h, hm => by
    by_cases e : i = j + 1
    · subst e; exact .refl _
    · refine .step (b := (j : Int)) ?_ (ring_down j i (by omega) (by omega))
      refine List.mem_append_left _ (mem_rowL.2 ⟨j, by omega, ?_⟩)
      rw [show ((j + 1 : Nat) : Int) = (j : Int) + 1 by omega]
theorem ring_cyc (m : Nat) (hm : 1 ≤ m) (v : Int) : Cyc (ringL m) v ↔ ∃ i : Nat, i ≤ m ∧ v = i := by
  constructor
  · rintro ⟨t, h1, _⟩
    rcases List.mem_append.1 h1 with h1 | h1
    · obtain ⟨i, h2, h3⟩ := mem_rowL.1 h1
      injection h3 with h3 _
      exact ⟨i + 1, by omega, by omega⟩
    · have h3 := List.mem_singleton.1 h1
      injection h3 with h3 _
      exact ⟨0, by omega, by omega⟩
  · rintro ⟨i, h1, rfl⟩
    have hz : (⟨0, (m : Int)⟩ : Ed) ∈ ringL m := List.mem_append_right _ (by simp)
    cases i with
    | zero => exact ⟨m, hz, ring_down m 0 (by omega) (Nat.le_refl _)⟩
    | succ i =>
      refine ⟨(i : Int), List.mem_append_left _ (mem_rowL.2 ⟨i, by omega, by rw [show ((i + 1 : Nat) : Int) = (i : Int) + 1 by omega]⟩), ?_⟩
      exact (ring_down i 0 (by omega) (by omega)).trans (.step hz (ring_down m (i + 1) h1 (Nat.le_refl _)))
theorem range_rise : ∀ n : Nat, (nv (List.range n)).Pairwise (· < ·)
  | 0 => by simp [nv]
  | n + 1 => by
    rw [List.range_succ, nv_app]
    refine List.pairwise_append.2 ⟨range_rise n, by simp [nv], fun x hx y hy => ?_⟩
    obtain ⟨a, ha, rfl⟩ := List.mem_map.1 hx
    obtain ⟨b, hb, rfl⟩ := List.mem_map.1 hy
    have h1 := List.mem_range.1 ha
    have h2 := List.mem_singleton.1 hb
    simp; omega
theorem ring_stuck (m : Nat) (hm : 1 ≤ m) : IsStuck (ringL m) (nv (List.range (m + 1))) := ⟨range_rise _, fun v => by
  rw [ring_cyc m hm]
  simp only [nv, List.mem_map, List.mem_range]
  constructor
  · rintro ⟨i, h1, rfl⟩; exact ⟨i, by omega, rfl⟩
  · rintro ⟨i, h1, rfl⟩; exact ⟨i, by omega, rfl⟩⟩
theorem ring_vics (m : Nat) (hm : 1 ≤ m) : IsVics (ringL m) [(m : Int)] := ⟨by simp, fun v => by
  rw [List.mem_singleton]
  constructor
  · rintro rfl
    exact top_vic ((ring_cyc m hm _).2 ⟨m, Nat.le_refl _, rfl⟩) fun v hv => by
      obtain ⟨i, h1, rfl⟩ := (ring_cyc m hm v).1 hv
      omega
  · intro hv
    obtain ⟨i, h1, rfl⟩ := (ring_cyc m hm v).1 hv.cyc
    by_cases e : i = m
    · rw [e]
    · exfalso
      refine fall_none (L := upTo (ringL m) (i : Int)) (fun e' he' => ?_) _ hv
      obtain ⟨h2, _, h3⟩ := mem_upTo.1 he'
      rcases List.mem_append.1 h2 with h2 | h2
      · exact rowL_fall m e' h2
      · rw [List.mem_singleton.1 h2] at h3
        dsimp only at h3
        omega⟩
theorem rowL_len (m : Nat) : (rowL m).length = m := by simp [rowL]
set_option maxRecDepth 100000 in
set_option maxHeartbeats 8000000 in
theorem row_walk (a : Option Addr) (n c : Nat) (xs : List Ed) (tu : Int) (w : World) (hI : Prs w a n xs) (_h1 : -9223372036854775808 ≤ tu ∧ tu ≤ 9223372036854775807) :
    Calls Try.prog 7 #[.slice a n c, .int .i64 tu] w fun e w' => e = .returned (.bool true) ∧ Below w.heap.size w w' := by
  have HI := Lib.hid hI
  clear hI
  obtain ⟨K, hKe, hK⟩ := cut_of tu 39 (by omega) (by omega)
  have HKE := Lib.hid hKe
  clear hKe
  go_enter Try.func7, Try.ntmps7
  go_wp2_with fail
  refine (awake_any w).mono ?_
  rintro e w1 ⟨rfl, b1⟩
  have HB1 := Lib.hid b1
  clear b1
  by_cases hn : n ≤ 60
  · have HM : Hid (xs.length = n) := Lib.hid HI.out.1
    have g0 : decide ((60 : Int) < (n : Int)) = false := by simp; omega
    have ST : Hid ((w1.alloc (.cells #[] 52)).ownsRow w1.heap.size 52 2 (.slice (some ⟨w1.heap.size, 0, none⟩) 0 0) (downL (xs.take 0)).length (ev (downL (xs.take 0))) ∧ Below w1.heap.size w1 (w1.alloc (.cells #[] 52))) := Lib.hid ⟨by simpa [downL] using own_newE w1 _ _ (Nat.le_refl _), below_box _ _⟩
    have HI1 := Lib.hid (HI.out.below HB1.out)
    clear HI
    go_upto_region 6 with (fail)
    rw [HKE.out, show wrap64 (2 + (K : Int)) = ((K + 2 : Nat) : Int) by unfold wrap64; omega]
    clear HKE g0
    obtain ⟨m, hm⟩ : ∃ m, K + 2 = m + 1 := ⟨K + 1, rfl⟩
    rw [hm]
    have hm1 : 1 ≤ m := by omega
    have hm40 : m ≤ 40 := by omega
    clear hm hK
    go_wp2_with fail
    go_loopw [5, 6] (fun t i wr => ∃ j : Nat, j ≤ n ∧ i = .int .i64 (j : Int) ∧ (∃ a n c, t = .slice a n c) ∧ Hid (wr.ownsRow w1.heap.size 52 2 t (downL (xs.take j)).length (ev (downL (xs.take j))) ∧ Below w1.heap.size w1 wr)) (fun _ i _ => n - (intOf i).toNat)
    case atStart => exact ⟨0, Nat.zero_le _, rfl, ⟨_, _, _, rfl⟩, ST⟩
    case round =>
      obtain ⟨j, hj, rfl, ⟨a3, n3, k3, rfl⟩, HK⟩ := hrel
      clear ST
      by_cases hjn : j < n
      · obtain ⟨e, he⟩ : ∃ e, xs[j]? = some e := ⟨_, List.getElem?_eq_getElem (by rw [HM.out]; exact hjn)⟩
        obtain ⟨b, off, rfl, hbl, c0, c1⟩ := HI1.out.at_ he
        have hTS := downL_snoc (xs.take j) e
        rw [← take_snoc he] at hTS
        have HTS := Lib.hid hTS
        have HLN : Hid ((downL (xs.take j)).length ≤ 2000000) := Lib.hid (by have := downL_len (xs.take j); rw [List.length_take] at this; omega)
        have HZ0 : Hid (∀ W', Below w1.heap.size w1 W' → W'.cell? ⟨b, off + j * 2, none⟩ = some (.int .i64 e.f) ∧ W'.cell? ⟨b, off + j * 2 + 1, none⟩ = some (.int .i64 e.t)) := Lib.hid fun W' hb => ⟨(hb.cell (p := ⟨b, off + j * 2, none⟩) hbl).trans c0, (hb.cell (p := ⟨b, off + j * 2 + 1, none⟩) hbl).trans c1⟩
        obtain ⟨ef, et⟩ := e
        dsimp only at HZ0 HTS
        have c0 := (HZ0.out wr HK.out.2).1
        have c1 := (HZ0.out wr HK.out.2).2
        obtain ⟨bd, hbd⟩ : ∃ bd, decide (et < ef) = bd := ⟨_, rfl⟩
        rw [hbd] at HTS
        have HK0 := HK
        clear he HK hTS
        go_upto_region 10 with (fail)
        go_quiet (fail)
        obtain ⟨W1, hW1⟩ : ∃ W1, wr.drewN nq = W1 := ⟨_, rfl⟩
        have HO : Hid (W1.ownsRow w1.heap.size 52 2 (.slice a3 n3 k3) (downL (xs.take j)).length (ev (downL (xs.take j)))) := Lib.hid (by rw [← hW1]; exact HK0.out.1)
        have HBB : Hid (Below w1.heap.size w1 W1) := Lib.hid (by rw [← hW1]; exact HK0.out.2.trans ((drew_below wr nq).mono HK0.out.2.size))
        rw [hW1]
        clear hW1 HK0
        cases bd with
        | false =>
          have HN : Hid (W1.ownsRow w1.heap.size 52 2 (.slice a3 n3 k3) (downL (xs.take (j + 1))).length (ev (downL (xs.take (j + 1)))) ∧ Below w1.heap.size w1 W1) := Lib.hid (by rw [HTS.out, if_neg (by simp)]; exact ⟨HO.out, HBB.out⟩)
          clear HO HBB HTS HZ0 c0 c1 HLN hbd
          go_wp2
          go_roundw
          case rel => exact ⟨j + 1, by omega, by go_num, ⟨_, _, _, rfl⟩, HN⟩
          case measure => simp [intOf]; omega
        | true =>
          have HZ : Hid (∀ W', Below W1.heap.size W1 W' → W'.cell? ⟨b, off + j * 2, none⟩ = some (.int .i64 ef) ∧ W'.cell? ⟨b, off + j * 2 + 1, none⟩ = some (.int .i64 et)) := Lib.hid fun W' hb => HZ0.out W' (HBB.out.trans (hb.mono HBB.out.size))
          have HSZ := Lib.hid HBB.out.size
          have c0 := (HZ.out W1 (Below.refl _ _)).1
          have c1 := (HZ.out W1 (Below.refl _ _)).2
          go_upto_region 11 with (fail)
          go_region_held3 (fun W' => W'.cell? ⟨b, off + j * 2, none⟩ = some (.int .i64 ef) ∧ W'.cell? ⟨b, off + j * 2 + 1, none⟩ = some (.int .i64 et)) (first | assumption | exact HZ.out _ (below_box _ _) | exact HZ.out _ ((below_box _ _).drew) | exact HZ.out _ ((Below.refl _ _).drew) | exact HZ.out _ (Below.refl _ _)) (first
            | (refine step_e1 (W := W1) (B := w1.heap.size) rfl (.tmp 39) (.tmp 51) rfl rfl (.slice a3 n3 k3) (downL (xs.take j)) (by simp [Act.eval]) W1.heap.size ⟨ef, et⟩ (by simp [Act.eval]) ?hp HO.out HLN.out HSZ.out ?_; (case hp => first | exact ⟨(below_box W1 _).drew, Blk.new W1 _ _⟩ | exact ⟨below_box W1 _, Blk.new W1 _ _⟩); intro v5 w5 hb5 ha5; have HA5 := Lib.hid ha5; have HG5 : Hid (Below w1.heap.size w1 w5) := Lib.hid ((HBB.out.trans (hb5.mono HBB.out.size)).grown ha5.2.1 (Nat.le_trans HBB.out.size hb5.size) (fun q hq => own_ge HO.out q hq)); have hz5 := HZ0.out _ HG5.out; clear hb5 ha5))
          have HN : Hid (w5.ownsRow w1.heap.size 52 2 v5 (downL (xs.take (j + 1))).length (ev (downL (xs.take (j + 1)))) ∧ Below w1.heap.size w1 w5) := Lib.hid (by rw [HTS.out, if_pos rfl]; exact ⟨HA5.out.1, HG5.out⟩)
          obtain ⟨a5, c5, e5⟩ := own_shape HA5.out.1
          obtain ⟨n5, e5'⟩ : ∃ n5, v5 = .slice a5 n5 c5 := ⟨_, e5⟩
          clear e5
          subst e5'
          clear HA5 HG5 HZ HZ0 HO HSZ HBB hz5 c0 c1 HTS HLN hbd
          go_wp2
          go_roundw
          case rel =>
            refine ⟨j + 1, by omega, by go_num, ?_⟩
            first | exact ⟨⟨_, _, _, rfl⟩, HN⟩ | exact HN
          case measure => simp [intOf]; omega
      · obtain rfl : j = n := by omega
        have hd := HK.out.1
        rw [List.take_of_length_le (by rw [HM.out]; exact Nat.le_refl _)] at hd
        have hdl : (downL xs).length ≤ 1000 := by have := downL_len xs; rw [HM.out] at this; omega
        have HS := Lib.hid (stuck_any _ (downL xs) wr (ER.of_own hd) hdl)
        have HD := Lib.hid (ER.of_own hd)
        have HB2 := Lib.hid (HB1.out.trans (HK.out.2.mono HB1.out.size))
        have HDL := Lib.hid hdl
        clear HK hd hdl
        go_wp2_with fail
        refine HS.out.mono ?_
        rintro e w2 ⟨v2, R2, rfl, hS2, -, ho2, hb2⟩
        obtain rfl : R2 = [] := hS2.uniq (stuck_none (downL_fall xs))
        have HV := Lib.hid (victims_any _ (downL xs) w2 (HD.out.below hb2) HDL.out)
        have HB3 := Lib.hid (HB2.out.trans (hb2.mono HB2.out.size))
        obtain ⟨a2, c2, rfl⟩ := own_shape ho2
        clear hS2 ho2 hb2 HS HD
        go_wp2_with fail
        refine HV.out.mono ?_
        rintro e w3 ⟨v3, R3, rfl, hV3, -, ho3, hb3⟩
        obtain rfl : R3 = [] := hV3.uniq (vics_none (downL_fall xs))
        have HB4 := Lib.hid (HB3.out.trans (hb3.mono HB3.out.size))
        have ST2 : Hid ((w3.alloc (.cells #[] 52)).ownsRow w3.heap.size 52 2 (.slice (some ⟨w3.heap.size, 0, none⟩) 0 0) (rowL 0).length (ev (rowL 0)) ∧ Below w3.heap.size w3 (w3.alloc (.cells #[] 52))) := Lib.hid ⟨by simpa [rowL] using own_newE w3 _ _ (Nat.le_refl _), below_box _ _⟩
        obtain ⟨a4, c4, rfl⟩ := own_shape ho3
        clear hV3 ho3 hb3 HV HB3 HB2 HDL
        go_wp2_with fail
        go_loopw [7, 8] (fun t i wr => ∃ q : Nat, q ≤ m ∧ i = .int .i64 ((q + 1 : Nat) : Int) ∧ (∃ a n c, t = .slice a n c) ∧ Hid (wr.ownsRow w3.heap.size 52 2 t (rowL q).length (ev (rowL q)) ∧ Below w3.heap.size w3 wr)) (fun _ i _ => m + 1 - (intOf i).toNat)
        case atStart => exact ⟨0, Nat.zero_le _, rfl, ⟨_, _, _, rfl⟩, ST2⟩
        case round =>
          obtain ⟨q, hq, rfl, ⟨a5, n5, k5, rfl⟩, HQ⟩ := hrel
          clear ST2
          by_cases hqm : q < m
          · have hb9 := below_box wr (.cells #[.int .i64 ((q : Int) + 1), .int .i64 (q : Int)] 52)
            obtain ⟨v9, w9, hr9, ha9⟩ := run_edge (w := wr.alloc (.cells #[.int .i64 ((q : Int) + 1), .int .i64 (q : Int)] 52)) (own_below HQ.out.1 hb9) (Blk.new wr 52 (ec ⟨(q : Int) + 1, (q : Int)⟩)) (by rw [rowL_len]; omega) (Nat.le_trans HQ.out.2.size hb9.size)
            have HN : Hid (w9.ownsRow w3.heap.size 52 2 v9 (rowL (q + 1)).length (ev (rowL (q + 1))) ∧ Below w3.heap.size w3 w9) := Lib.hid (by
              rw [rowL_snoc]
              exact ⟨ha9.1, (HQ.out.2.trans (hb9.mono HQ.out.2.size)).grown ha9.2.1 (Nat.le_trans HQ.out.2.size hb9.size) (fun k hk => own_ge HQ.out.1 k hk)⟩)
            obtain ⟨a9, c9, e9⟩ := own_shape ha9.1
            obtain ⟨n9, e9'⟩ : ∃ n9, v9 = .slice a9 n9 c9 := ⟨_, e9⟩
            clear e9
            subst e9'
            have HR := Lib.hid hr9
            have hws : IntKind.i64.wrap (((q + 1 : Nat) : Int) - 1) = (q : Int) := by rw [IntKind.wrap_i64]; omega
            have hws2 : IntKind.i64.wrap (q : Int) = (q : Int) := by rw [IntKind.wrap_i64]; omega
            clear hb9 hr9 ha9 HQ
            go_wp2_with (at_builtin; refine wpList_run rfl _ _ rfl rfl rfl HR.out ?_)
            go_roundw
            case rel => exact ⟨q + 1, by omega, by go_num, ⟨_, _, _, rfl⟩, HN⟩
            case measure => simp [intOf]; omega
          · obtain rfl : q = m := by omega
            have HS := Lib.hid (stuck_any _ (rowL q) wr (ER.of_own HQ.out.1) (by rw [rowL_len]; omega))
            have HQ2 := HQ
            clear HQ
            go_wp2_with fail
            refine HS.out.mono ?_
            rintro e w5 ⟨v5, R5, rfl, hS5, -, ho5, hb5⟩
            obtain rfl : R5 = [] := hS5.uniq (stuck_none (rowL_fall q))
            have HO5 := Lib.hid (own_below HQ2.out.1 hb5)
            have HB5 := Lib.hid (HQ2.out.2.trans (hb5.mono HQ2.out.2.size))
            obtain ⟨a5', c5, rfl⟩ := own_shape ho5
            clear hS5 ho5 hb5 HS HQ2
            have hb9 := below_box w5 (.cells #[.int .i64 0, .int .i64 (q : Int)] 52)
            obtain ⟨v9, w9, hr9, ha9⟩ := run_edge (w := w5.alloc (.cells #[.int .i64 0, .int .i64 (q : Int)] 52)) (own_below HO5.out hb9) (Blk.new w5 52 (ec ⟨0, (q : Int)⟩)) (by rw [rowL_len]; omega) (Nat.le_trans HB5.out.size hb9.size)
            have HE9 : Hid (ER w9 v9 (ringL q)) := Lib.hid (ER.of_own ha9.1)
            have HB9 : Hid (Below w.heap.size w w9) := Lib.hid (HB4.out.trans (((HB5.out.trans (hb9.mono HB5.out.size)).grown ha9.2.1 (Nat.le_trans HB5.out.size hb9.size) (fun k hk => own_ge HO5.out k hk)).mono HB4.out.size))
            have hrl : (ringL q).length ≤ 1000 := by unfold ringL; rw [List.length_append, rowL_len]; simp; omega
            have HRL := Lib.hid hrl
            have HV := Lib.hid (victim_any v9 (ringL q) w9 HE9.out hrl)
            obtain ⟨a9, c9, e9⟩ := own_shape ha9.1
            obtain ⟨n9, e9'⟩ : ∃ n9, v9 = .slice a9 n9 c9 := ⟨_, e9⟩
            clear e9
            subst e9'
            have HR := Lib.hid hr9
            have hws : IntKind.i64.wrap (((q + 1 : Nat) : Int) - 1) = (q : Int) := by rw [IntKind.wrap_i64]; omega
            have hws2 : IntKind.i64.wrap (q : Int) = (q : Int) := by rw [IntKind.wrap_i64]; omega
            clear hb9 hr9 ha9 hrl HO5 HB5 HB4
            go_wp2_with (at_builtin; refine wpList_run rfl _ _ rfl rfl rfl HR.out ?_)
            refine HV.out.mono ?_
            rintro e w10 ⟨⟨R10, hS10, rfl⟩, hb10⟩
            obtain rfl : R10 = nv (List.range (q + 1)) := hS10.uniq (ring_stuck q hm1)
            have e1 : (nv (List.range (q + 1))).getLastD 0 = (q : Int) := by rw [List.range_succ, nv_app]; simp [nv]
            have e2 : decide (nv (List.range (q + 1)) ≠ []) = true := by rw [List.range_succ, nv_app]; simp [nv]
            rw [e1, e2]
            have HB10 := Lib.hid (HB9.out.trans (hb10.mono HB9.out.size))
            have HE10 := Lib.hid (HE9.out.below hb10)
            have HS := Lib.hid (stuck_any _ (ringL q) w10 HE10.out HRL.out)
            clear hS10 hb10 e1 e2 HV HR HB9 HE9
            go_wp2_with fail
            refine HS.out.mono ?_
            rintro e w11 ⟨v11, R11, rfl, hS11, -, ho11, hb11⟩
            obtain rfl : R11 = nv (List.range (q + 1)) := hS11.uniq (ring_stuck q hm1)
            have HB11 := Lib.hid (HB10.out.trans (hb11.mono HB10.out.size))
            have HVS := Lib.hid (victims_any _ (ringL q) w11 (HE10.out.below hb11) HRL.out)
            obtain ⟨a11, c11, e11⟩ := own_shape ho11
            have hl11 : (nv (List.range (q + 1))).length = q + 1 := by simp [nv]
            rw [hl11] at e11
            subst e11
            clear hS11 ho11 hb11 hl11 HS HE10 HB10
            go_wp2_with fail
            refine HVS.out.mono ?_
            rintro e w12 ⟨v12, R12, rfl, hV12, -, ho12, hb12⟩
            obtain rfl : R12 = [(q : Int)] := hV12.uniq (ring_vics q hm1)
            have HB12 := Lib.hid (HB11.out.trans (hb12.mono HB11.out.size))
            obtain ⟨a12, c12, rfl⟩ := own_shape ho12
            clear hV12 ho12 hb12 HVS HB11
            go_wp2
            go_ret
            exact ⟨rfl, HB12.out⟩
  · have g0 : decide ((60 : Int) < (n : Int)) = true := by simp; omega
    clear HI
    go_wp2_with fail
    go_ret
    exact ⟨rfl, HB1.out⟩
end Go.Proofs.Ythodggkpkjfggaa.Knot
