/- MendFolds, walked: a restart leaves just what was committed. -/
import Derived.Test.YtkeocnhndnbamaaGreatQBook31
import Derived.Deep.RegionHeld3
namespace Go.Proofs.YtkeocnhndnbamaaGreat.Mend
set_option maxRecDepth 100000
open Go.RowKit Go.Sort
open Go.Proofs.YtkeocnhndnbamaaGreat.Mem
open Go.Proofs.YtkeocnhndnbamaaGreat.Slab (Slot Slots)
open Go.Proofs.YtkeocnhndnbamaaGreat.Ent (Ent goodB Ents)
open Go.Proofs.YtkeocnhndnbamaaGreat.Past (T3 txE)
open Go.Proofs.YtkeocnhndnbamaaGreat.MLog
set_option maxRecDepth 100000 in
set_option maxHeartbeats 16000000 in
theorem folds_walk (a : Option Addr) (n c : Nat) (zs : List AR) (cut x0 x1 x2 x3 : Int) (w : World) (h : ARs w a n zs) (_hc : -9223372036854775808 ≤ cut ∧ cut ≤ 9223372036854775807) :
    Calls Tryz.prog 3 #[.slice a n c, .int .i64 cut, .agg #[.int .i64 x0, .int .i64 x1, .int .i64 x2, .int .i64 x3]] w fun e w' => e = .returned (.bool true) ∧ Below w.heap.size w w' := by
  have hb0 := Ent.below_box w (.cells #[.int .i64 x0, .int .i64 x1, .int .i64 x2, .int .i64 x3] 23)
  have HV := Lib.hid (Blk.new w 23 #[.int .i64 x0, .int .i64 x1, .int .i64 x2, .int .i64 x3])
  have HB0 := Lib.hid hb0
  have HH := Lib.hid (h.below hb0)
  have HAW := Lib.hid awake_any
  clear h hb0
  go_enter Tryz.func3, Tryz.ntmps3
  go_upto_region 1 with (fail)
  obtain ⟨g5, hg5⟩ : ∃ g5, w.heap.size = g5 := ⟨_, rfl⟩
  rw [hg5] at HV
  try rw [hg5]
  clear hg5
  generalize hGen : w.alloc (.cells #[.int .i64 x0, .int .i64 x1, .int .i64 x2, .int .i64 x3] 23) = W1 at HV HB0 HH ⊢
  clear hGen
  go_upto_region 4 with (first
    | ((with_reducible refine (HAW.out _).mono ?_); rintro e w2 ⟨rfl, b2⟩; have B2 := Lib.hid b2; clear b2; have HLI := Lib.hid (lived_any a n c zs w2 (HH.out.below B2.out)))
    | ((with_reducible refine (HLI.out).mono ?_); rintro e w3 ⟨u, bb, rfl, b3, hpq⟩; have B3 := Lib.hid (below_go B2.out b3); have HPQ := Lib.hid hpq; clear b3 hpq))
  have HB3 := Lib.hid (below_go HB0.out B3.out)
  cases bb with
  | false =>
    go_wp2
    exact bodyPost_ret (v := .bool true) (by simp [results, Tryz.results3, go_sem]) rfl ⟨rfl, HB3.out⟩
  | true =>
    obtain ⟨p, hp⟩ : ∃ p, livedP (actsL zs 40) = p := ⟨_, rfl⟩
    obtain ⟨s, hliv⟩ := livA zs (Nat.le_refl 40)
    rw [hp] at hliv
    obtain ⟨M, lv, nv, av, hpm, -⟩ := HPQ.out rfl
    rw [hp] at hpm
    have hlen80 : p.list.length ≤ 80 := by have := hliv.pot; omega
    obtain ⟨la, lc, hlv⟩ := own_shape hpm.list
    subst hlv
    obtain ⟨m, hm⟩ : ∃ m, p.list.length = m := ⟨_, rfl⟩
    obtain ⟨hq1, hq2⟩ := cutN_is cut ((m + 1 : Nat) : Int) (by omega) (by omega)
    obtain ⟨k, hk⟩ : ∃ k, cutN cut ((m + 1 : Nat) : Int) = k := ⟨_, rfl⟩
    rw [hk] at hq1 hq2
    obtain ⟨KK, hKK⟩ : ∃ KK : Nat, m + 1 = KK := ⟨_, rfl⟩
    rw [hKK] at hq1
    have q0 : IntKind.i64.wrap ((IntKind.u64.wrap cut).tmod (KK : Int)) = (k : Int) := by rw [IntWalk.i64_left]; exact hq1
    have r1 : wrap64 ((m : Int) + 1) = (KK : Int) := by rw [IntWalk.wrap64_in _ (by omega)]; omega
    have r2 : IntKind.i64.wrap ((m : Int) + 1) = (KK : Int) := by rw [IntWalk.i64_left]; exact r1
    have r3 : IntKind.u64.wrap (KK : Int) = (KK : Int) := by rw [IntKind.wrap_u64]; omega
    have r4 : ¬ ((KK : Int) = 0) := by omega
    have r7 : ¬ KK = 0 := by omega
    have hkm : k ≤ m := by omega
    have hm80 : m ≤ 80 := by omega
    have hu0 : ∀ W, Below w3.heap.size w3 W → W.cell? ⟨u, 0, none⟩ = some (.slice la m lc) := fun W hb => by rw [(hpm.below hb).blk.cell, ← hm]; rfl
    have HU0 := Lib.hid hu0
    have u0 := hu0 w3 (Below.refl _ _)
    have HPM := Lib.hid hpm
    have HLIV := Lib.hid hliv
    have HM := Lib.hid hm
    have HV3 := Lib.hid (HV.out.below B3.out HV.out.lt)
    have hents : ∀ W, Below w3.heap.size w3 W → Ents W la k (p.list.take k) := fun W hb => by
      obtain ⟨a2, c2, e2, hE, -⟩ := Past.ents_own (hpm.below hb).list hpm.small
      injection e2 with e3 e4 e5
      subst e3
      exact hE.take (by omega)
    have HEN := Lib.hid hents
    have hcapk : (k : Int) ≤ (m : Int) := by omega
    have hcapl : m ≤ lc := by
      obtain ⟨hl, ⟨e, hl0⟩ | ⟨g', cap', cur, e, hg, hb, hn2, hc, hcs, ht⟩⟩ := hpm.list
      · injection e with e1 e2 e3; omega
      · injection e with e1 e2 e3; omega
    clear HPQ hp hpm hliv hu0 hents hk hKK hq2 hm HH HAW HLI
    go_upto_region 7 with (fail)
    try rw [hq1]
    try rw [q0]
    clear u0 hq1 q0 r1 r2 r3 r4 r7
    obtain ⟨f, hf⟩ : ∃ f : Nat → Int, f 0 = x0 ∧ f 1 = x1 ∧ f 2 = x2 ∧ f 3 = x3 := ⟨fun i => if i = 0 then x0 else if i = 1 then x1 else if i = 2 then x2 else x3, rfl, rfl, rfl, rfl⟩
    have HF := Lib.hid hf
    have hver : ∀ i, i < 4 → verK f k i ≤ k := fun i _ => (ver_le f (k := k) i (by omega)).1
    obtain ⟨sk, hlog, hall⟩ := mix_log (ver := verK f k) HLIV.out (by decide) (show k ≤ p.list.length by rw [HM.out]; exact hkm) hver
    have HLOG := Lib.hid hlog
    have HMX := Lib.hid (show ∀ W, Below w3.heap.size w3 W → Calls Tryz.prog 12 #[.pointer (some ⟨u, 0, none⟩), .int .i64 (k : Int), .agg #[.int .i64 x0, .int .i64 x1, .int .i64 x2, .int .i64 x3]] W fun e w' => ∃ a c, e = .returned (.slice a 4 c) ∧ LeavesI w' a 4 (mixV p (verK f k)) ∧ Below W.heap.size W w' from fun W hb => by
      have hl := HLIV.out.core.len
      have h1 := mixed_any (HPM.out.below hb) k (by rw [hl, HM.out]; omega) (by rw [hl, HM.out]; omega) f
      rw [HF.out.1, HF.out.2.1, HF.out.2.2.1, HF.out.2.2.2, mixL_eq] at h1
      exact h1)
    have HRS := Lib.hid (fun (W : World) (am : Option Addr) (cm : Nat) (hb : Below w3.heap.size w3 W) (hlv : LeavesI W am 4 (mixV p (verK f k))) => restart_any hlog hall la k lc am 4 cm W (HEN.out W hb) hlv (by omega))
    have HS := Lib.hid (show ∀ W', Below w3.heap.size w3 W' → W'.cell? ⟨u, 0, none⟩ = some (.slice la m lc) ∧ W'.cell? ⟨g5, 0, none⟩ = some (.int .i64 x0) ∧ W'.cell? ⟨g5, 1, none⟩ = some (.int .i64 x1) ∧ W'.cell? ⟨g5, 2, none⟩ = some (.int .i64 x2) ∧ W'.cell? ⟨g5, 3, none⟩ = some (.int .i64 x3) from fun W' hb => ⟨HU0.out W' hb, (HV3.out.below hb HV3.out.lt).cell 0, (HV3.out.below hb HV3.out.lt).cell 1, (HV3.out.below hb HV3.out.lt).cell 2, (HV3.out.below hb HV3.out.lt).cell 3⟩)
    clear hf hlog hall hver HV HB0 B2 HU0 HF
    have z0 := HS.out w3 (Below.refl _ _)
    have z1 := HS.out w3.drew (Below.refl _ _).drew
    have hk0 : (0 : Int) ≤ (k : Int) := by omega
    have hkc : (k : Int) ≤ (lc : Int) := by omega
    go_cut [9, 10, 11, 12] (fun t9 t10 t11 t12 wy => ∃ (E : List Ent) (R : List Lf) (a1 a2 : Option Addr) (c1 c2 : Nat), t9 = .int .i64 (k : Int) ∧ t10 = .slice a1 E.length c1 ∧ t11 = .slice a2 4 c2 ∧ t12 = .int .i64 0 ∧ Hid (PostU (fun _ => True) (p.list.take k) sk (mixV p (verK f k)) 1000 E R ∧ LeavesI wy a2 4 R ∧ Below w3.heap.size w3 wy))
    case first =>
      go_region_held3 (fun W' => W'.cell? ⟨u, 0, none⟩ = some (.slice la m lc) ∧ W'.cell? ⟨g5, 0, none⟩ = some (.int .i64 x0) ∧ W'.cell? ⟨g5, 1, none⟩ = some (.int .i64 x1) ∧ W'.cell? ⟨g5, 2, none⟩ = some (.int .i64 x2) ∧ W'.cell? ⟨g5, 3, none⟩ = some (.int .i64 x3))
        (first | (with_unfolding_none assumption) | (with_unfolding_none exact z0) | (with_unfolding_none exact z1))
        (first
          | (go_at_call 12; (with_reducible refine (HMX.out _ (by first | (with_reducible exact Below.refl _ _) | (with_reducible exact bx_d _))).mono ?_); rintro e w4 ⟨am, cm, rfl, hlm, b4⟩; have B4 := Lib.hid (show Below w3.heap.size w3 w4 from (by first | (with_reducible exact b4) | (with_reducible exact bn_d b4))); have HLM := Lib.hid hlm; clear b4 hlm; have z2 := HS.out w4 B4.out; have z3 := HS.out w4.drew B4.out.drew)
          | (go_at_call 11; (first | (with_reducible refine (HRS.out _ am cm B4.out HLM.out).mono ?_) | (with_reducible refine (HRS.out _ am cm B4.out.drew (HLM.out.below (bx_d _))).mono ?_)); rintro e w5 ⟨E, R, a1, a2, c1, c2, rfl, hpost, -, hlr, b5⟩; have B5 := Lib.hid (show Below w3.heap.size w3 w5 from (by first | (with_reducible exact below_go B4.out b5) | (with_reducible exact below_go B4.out (bn_d b5)))); have HPO := Lib.hid hpost; have hR4 : R.length = 4 := (by obtain ⟨B, F, m', z, -, -, hR, -⟩ := hpost; rw [hR, List.length_map, mixV_len]); rw [hR4] at hlr ⊢; have HLR := Lib.hid hlr; clear hpost hlr b5 hR4; have z4 := HS.out w5 B5.out))
      all_goals
        go_wp2_with fail
        go_meet
        case rel => exact ⟨E, R, a1, a2, c1, c2, rfl, rfl, rfl, rfl, Lib.hid ⟨HPO.out, HLR.out, B5.out⟩⟩
    case rest =>
      obtain ⟨E, R, a1, a2, c1, c2, rfl, rfl, rfl, rfl, H5⟩ := hcut
      clear z0 z1
      obtain ⟨z, hR, -, hz, hpg⟩ := post_pages HLOG.out H5.out.1
      have hlr := H5.out.2.1
      rw [hR] at hlr
      have hsl : ∀ x ∈ p.list.take k, 0 ≤ x.slot ∧ x.slot ≤ 4 := fun x hx => (HLIV.out.core.rng x (List.mem_of_mem_take hx)).2
      have HHO := Lib.hid (holds_at c2 hlr hz hpg hsl)
      have HFO := Lib.hid (fun (W : World) (hb : Below w3.heap.size w3 W) => foldp_any la k lc (p.list.take k) W (HEN.out W hb) (fun x hx => HLIV.out.core.good x (List.mem_of_mem_take hx)) (fun x hx => HLIV.out.core.rng x (List.mem_of_mem_take hx)) (by omega))
      have u0 := (HS.out wc H5.out.2.2).1
      have HB5 := Lib.hid (below_go HB3.out H5.out.2.2)
      have HBW := Lib.hid H5.out.2.2
      clear hR hlr hz hpg hsl H5 HRS HMX HS HLOG HEN
      generalize wantA (fold0 (p.list.take k)) = FF at HHO HFO
      go_wp2_with (first
        | ((with_reducible refine (HFO.out _ HBW.out).mono ?_); rintro e w6 ⟨rfl, b6⟩; have B6 := Lib.hid b6; clear b6)
        | ((with_reducible refine (HHO.out _ B6.out).mono ?_); rintro e w7 ⟨rfl, b7⟩; have B7 := Lib.hid (below_go B6.out b7); clear b7))
      exact bodyPost_ret (v := .bool true) (by simp [results, Tryz.results3, go_sem]) rfl ⟨rfl, below_go HB5.out B7.out⟩
end Go.Proofs.YtkeocnhndnbamaaGreat.Mend
