/- A client's newest change is undone: the statements' own undo, walked. -/
import Derived.Test.YtkeocnhndnbamaaGreatQMendAddW
import Derived.Test.YtkeocnhndnbamaaGreatQMendAllP
namespace Go.Proofs.YtkeocnhndnbamaaGreat.Mend
set_option maxRecDepth 100000
open Go.RowKit Go.Sort
open Go.Proofs.YtkeocnhndnbamaaGreat.Mem
open Go.Proofs.YtkeocnhndnbamaaGreat.Slab (Slot Slots)
open Go.Proofs.YtkeocnhndnbamaaGreat.Ent (Ent goodB Ents SmallE cellsE noE)
open Go.Proofs.YtkeocnhndnbamaaGreat.Past (ofL T3 txE SmT smI_of AppRes cellsG)
open Go.Proofs.YtkeocnhndnbamaaGreat.MLog
open Go.Proofs.YtkeocnhndnbamaaGreat.Patch
/-- what can be said of a log that clients made -/
structure Sane (p : PD) : Prop where
  len : p.list.length ≤ 1000
  alen : p.all.length ≤ 1001
  good : ∀ x ∈ p.list, goodB x = true
  rng : ∀ x ∈ p.list, 0 ≤ x.page ∧ x.page ≤ 3
  last : ∀ c, Cl c → 0 ≤ p.last c ∧ p.last c ≤ 1000
  now : ∀ n, 0 ≤ (p.now n).1 ∧ (p.now n).1 ≤ 1000
  txn : ∀ c, Cl c → 1 ≤ p.txn c ∧ p.txn c ≤ 1001
theorem liv_sane {p : PD} {s : St T3 Slot Im} {P T : Nat} (h : Liv p s P T) (hP : P ≤ 1000) (hT : T ≤ 1000) : Sane p := by
  have hlen : p.list.length ≤ 1000 := by have := h.pot; omega
  refine ⟨hlen, by rw [h.core.len]; omega, h.core.good, fun x hx => (h.core.rng x hx).1, fun c hc => ?_, fun n => ?_, fun c hc => ?_⟩
  · have h1 := h.last c hc
    have h2 := h.core.lst (txnP p c)
    have h3 := (inv_log h.core.log).lst (txnP p c)
    omega
  · have h1 := h.core.now n
    have h2 := h.core.lsn n
    have h3 := (inv_log h.core.log).pgs n
    rw [h1]; dsimp only; omega
  · have := (h.live c hc).2
    omega
theorem Sane.smt {p : PD} (h : Sane p) {c : Int} (hc : Cl c) : SmT (txnP p c) := by
  have h1 := h.txn c hc
  have h2 := hc.1
  have h3 := hc.2
  exact ⟨smI_of (by show _ ≤ c ∧ c ≤ _; omega), smI_of (show (-9223372036854775808 : Int) ≤ 1 ∧ (1 : Int) ≤ 9223372036854775807 by decide), smI_of (by show _ ≤ p.txn c ∧ p.txn c ≤ _; omega)⟩
theorem cl_nat {c : Nat} (hc : 1 ≤ c ∧ c ≤ 4) : Cl (c : Int) := ⟨by omega, by omega⟩
theorem back_mem {p : PD} {t : T3} {d : Int} {x : Ent} (h : backL p.list t d = some x) : x ∈ p.list := by
  unfold backL at h
  split at h
  · rename_i y hy
    split at h
    · injection h with h
      subst h
      exact next_mem hy
    · cases h
  · cases h
theorem next_tx {L : List Ent} {t : T3} {x : Ent} (h : nextL L t = some (some x)) : txE x = t := by
  unfold nextL at h
  have key : ∀ (f : Nat) (l : Int), followL (ofL L t) f l = some (some x) → txE x = t := fun f => by
    induction f with
    | zero => intro l h; cases h
    | succ f ih =>
      intro l h
      rw [followL] at h
      split at h
      · cases h
      · split at h
        · cases h
        · rename_i y hy
          split at h
          · injection h with h
            injection h with h
            subst h
            exact (of_mem.1 (List.mem_of_find?_eq_some hy)).2.2
          · split at h
            · exact ih _ h
            · cases h
  split at h
  · cases h
  · rename_i e he
    split at h
    · injection h with h
      injection h with h
      subst h
      exact (of_mem.1 (List.mem_of_getLast? he)).2.2
    · split at h
      · exact key _ _ h
      · cases h
theorem back_tx {p : PD} {t : T3} {d : Int} {x : Ent} (h : backL p.list t d = some x) : txE x = t := by
  unfold backL at h
  split at h
  · rename_i y hy
    split at h
    · injection h with h
      subst h
      exact next_tx hy
    · cases h
  · cases h
theorem cell_arr {w : World} {u i : Nat} {t : TypeId} {cs : Array Value} (h : Blk w u t cs) (hi : i < cs.size) : ∃ v, w.cell? ⟨u, i, none⟩ = some v := by rw [h.cell]; exact ⟨_, Array.getElem?_eq_getElem hi⟩
section
variable {w : World} {B u : Nat} {M : Nat → Prop} {lv nv av : Value} {p : PD}
/-- what the three helpers say of a log in memory, in whatever world that only has more -/
theorem txn_at (h : PM w B u M lv nv av p) {c : Nat} (hc : c < 5) : ∀ W, Below w.heap.size w W → Calls Tryz.prog 17 #[.pointer (some ⟨u, 0, none⟩), .int .i64 (c : Int)] W fun e w' => e = .returned (.agg #[.int .i64 (c : Int), .int .i64 1, .int .i64 (p.txn c)]) ∧ Below W.heap.size W w' := fun _ hb => txn_any (h.below hb) hc
theorem lsn_at (h : PM w B u M lv nv av p) (hs : Sane p) {c i : Nat} (hc : 1 ≤ c ∧ c ≤ 4) (hi : i < 4) : ∀ W, Below w.heap.size w W → Calls Tryz.prog 20 #[.pointer (some ⟨u, 0, none⟩), .int .i64 (c : Int), .int .i64 (i : Int)] W fun e w' => e = .returned (.int .i64 (lsnP p c i)) ∧ Below W.heap.size W w' := fun _ hb =>
  lsn_any (h.below hb) (by omega) hi (by have := hs.last c (cl_nat hc); omega) (by have := hs.now i; omega)
theorem back_at (h : PM w B u M lv nv av p) (hs : Sane p) {c : Nat} (hc : 1 ≤ c ∧ c ≤ 4) {la : Option Addr} {n lc : Nat} (hl : lv = .slice la n lc) (d : Int) : ∀ W, Below w.heap.size w W → Calls Tryz.prog 18 #[.slice la n lc, .agg #[.int .i64 (c : Int), .int .i64 1, .int .i64 (p.txn c)], .int .i64 d] W fun e w' => e = .returned (.tuple #[.agg #[.int .i64 ((backL p.list (txnP p c) d).getD noE).kind, .int .i64 ((backL p.list (txnP p c) d).getD noE).cl, .int .i64 ((backL p.list (txnP p c) d).getD noE).ep, .int .i64 ((backL p.list (txnP p c) d).getD noE).n, .int .i64 ((backL p.list (txnP p c) d).getD noE).lsn, .int .i64 ((backL p.list (txnP p c) d).getD noE).prev, .int .i64 ((backL p.list (txnP p c) d).getD noE).page, .int .i64 ((backL p.list (txnP p c) d).getD noE).slot, .bool ((backL p.list (txnP p c) d).getD noE).wu, .string ((backL p.list (txnP p c) d).getD noE).wd, .bool ((backL p.list (txnP p c) d).getD noE).iu, .string ((backL p.list (txnP p c) d).getD noE).id, .int .i64 ((backL p.list (txnP p c) d).getD noE).next], .bool (backL p.list (txnP p c) d).isSome]) ∧ Below W.heap.size W w' := fun W hb => by
  obtain ⟨a, c2, e, hE, -⟩ := Past.ents_own (h.below hb).list h.small
  rw [hl] at e
  injection e with e1 e2 e3
  subst e1 e2 e3
  exact back_any la p.list.length lc p.list (txnP p c) d W hE (hs.smt (cl_nat hc)) (by have := hs.len; omega)
set_option maxRecDepth 100000 in
set_option maxHeartbeats 16000000 in
theorem pundo_any (h : PM w B u M lv nv av p) (hBu : B ≤ u) (hs : Sane p) {c : Nat} (hc : 1 ≤ c ∧ c ≤ 4) :
    Calls Tryz.prog 43 #[.pointer (some ⟨u, 0, none⟩), .int .i64 (c : Int)] w fun e w' => e = .returned (.bool (undoB p c)) ∧ PQ w' B u (undoP p c) ∧ Below B w w' := by
  have H0 := Lib.hid h
  have HSN := Lib.hid hs
  have HUW := Lib.hid h.blk.lt
  obtain ⟨la, lc, hlv⟩ := own_shape h.list
  subst hlv
  obtain ⟨n, hn⟩ : ∃ n, p.list.length = n := ⟨_, rfl⟩
  rw [hn] at H0
  obtain ⟨o, ho⟩ : ∃ o, backL p.list (txnP p c) 0 = o := ⟨_, rfl⟩
  obtain ⟨xx, hxx⟩ : ∃ xx, o.getD noE = xx := ⟨_, rfl⟩
  have hbk := back_at h hs hc rfl 0
  rw [hn, ho, hxx] at hbk
  have HBK := Lib.hid hbk
  have HTX := Lib.hid (txn_at h (show c < 5 by omega))
  have HO := Lib.hid ho
  have HXX := Lib.hid hxx
  have hu0 : ∀ W', Below w.heap.size w W' → W'.cell? ⟨u, 0, none⟩ = some (.slice la n lc) := fun W' hb => by rw [(h.below hb).blk.cell, ← hn]; rfl
  have HS := Lib.hid hu0
  clear h hs hbk ho hxx hn hu0
  have z0 := HS.out w (Below.refl _ _)
  have z1 := HS.out w.drew (Below.refl _ _).drew
  obtain ⟨oB, hoB⟩ : ∃ oB, o.isSome = oB := ⟨_, rfl⟩
  rw [hoB] at HBK
  have HOB := Lib.hid hoB
  clear hoB
  go_enter Tryz.func43, Tryz.ntmps43
  go_upto_region 1 with (fail)
  go_cut [5, 6] (fun t5 t6 wy => ∃ g5 : Nat, t5 = .pointer (some ⟨g5, 0, none⟩) ∧ t6 = .bool oB ∧ Hid (Blk wy g5 58 #[.int .i64 xx.kind, .int .i64 xx.cl, .int .i64 xx.ep, .int .i64 xx.n, .int .i64 xx.lsn, .int .i64 xx.prev, .int .i64 xx.page, .int .i64 xx.slot, .bool xx.wu, .string xx.wd, .bool xx.iu, .string xx.id, .int .i64 xx.next] ∧ Below w.heap.size w wy ∧ w.heap.size ≤ g5))
  case first =>
    go_region_held3 (fun W' => W'.cell? ⟨u, 0, none⟩ = some (.slice la n lc))
      (first | (with_unfolding_none exact K1.out _ _ _ _ _ _ _ _ _ _ _ _ _) | (with_unfolding_none assumption) | (with_unfolding_none exact z0) | (with_unfolding_none exact z1) | (with_unfolding_none exact HS.out _ (Ent.below_box _ _)) | (with_unfolding_none exact HS.out _ (Ent.below_box _ _).drew) | (with_unfolding_none exact HS.out _ (below_go B2.out (Ent.below_box _ _))) | (with_unfolding_none exact HS.out _ (below_go B2.out (Ent.below_box _ _)).drew) | (with_unfolding_none exact HS.out _ (below_go B1.out (Ent.below_box _ _))) | (with_unfolding_none exact HS.out _ (below_go B1.out (Ent.below_box _ _)).drew))
      (first | (go_at_call 17; (with_reducible refine (HTX.out _ (by first | (with_reducible exact Below.refl _ _) | (with_reducible exact bx_d _) | (with_reducible exact Ent.below_box _ _) | (with_reducible exact bx_ad _ _))).mono ?_); rintro e w1 ⟨rfl, b1⟩; have B1 := Lib.hid (show Below w.heap.size w w1 from (by first | (with_reducible exact b1) | (with_reducible exact bn_d b1) | (with_reducible exact bn_a b1) | (with_reducible exact bn_ad b1))); (first | ((with_reducible have hq := ebox b1); have HBX := Lib.hid hq; clear hq; have HGB := Lib.hid (Nat.le_refl w.heap.size); obtain ⟨e0, e1, e2, e3, e4, e5, e6, e7, e8, e9, e10, e11, e12⟩ := Ent.ent_cells (x := noE) HBX.out; simp only [noE] at e0 e1 e2 e3 e4 e5 e6 e7 e8 e9 e10 e11 e12; obtain ⟨f0, f1, f2, f3, f4, f5, f6, f7, f8, f9, f10, f11, f12⟩ := Ent.ent_frozen HBX.out) | ((with_reducible have hq := ebox_d b1); have HBX := Lib.hid hq; clear hq; have HGB := Lib.hid (Nat.le_refl w.heap.size); obtain ⟨e0, e1, e2, e3, e4, e5, e6, e7, e8, e9, e10, e11, e12⟩ := Ent.ent_cells (x := noE) HBX.out; simp only [noE] at e0 e1 e2 e3 e4 e5 e6 e7 e8 e9 e10 e11 e12; obtain ⟨f0, f1, f2, f3, f4, f5, f6, f7, f8, f9, f10, f11, f12⟩ := Ent.ent_frozen HBX.out) | skip); clear b1; have y1 := HS.out w1 B1.out) | (go_at_call 18; (with_reducible refine (HBK.out _ (by first | (with_reducible exact B1.out) | (with_reducible exact B1.out.drew) | (with_reducible exact below_go B1.out (Ent.below_box _ _)) | (with_reducible exact (below_go B1.out (Ent.below_box _ _)).drew))).mono ?_); rintro e w2 ⟨rfl, b2⟩; have B12 := Lib.hid (show Below w1.heap.size w1 w2 from (by first | (with_reducible exact b2) | (with_reducible exact bn_d b2) | (with_reducible exact bn_a b2) | (with_reducible exact bn_ad b2))); have B2 := Lib.hid (below_go B1.out B12.out); (first | ((with_reducible have hq := ebox b2); have HBX := Lib.hid hq; clear hq; have HGB := Lib.hid B1.out.size; obtain ⟨e0, e1, e2, e3, e4, e5, e6, e7, e8, e9, e10, e11, e12⟩ := Ent.ent_cells (x := noE) HBX.out; simp only [noE] at e0 e1 e2 e3 e4 e5 e6 e7 e8 e9 e10 e11 e12; obtain ⟨f0, f1, f2, f3, f4, f5, f6, f7, f8, f9, f10, f11, f12⟩ := Ent.ent_frozen HBX.out; have K1 := Lib.hid (show ∀ (q0 q1 q2 q3 q4 q5 q6 q7 q8 q9 q10 q11 q12 : Value), (((((((((((((w2.setCell ⟨w1.heap.size, 0, none⟩ q0).setCell ⟨w1.heap.size, 1, none⟩ q1).setCell ⟨w1.heap.size, 2, none⟩ q2).setCell ⟨w1.heap.size, 3, none⟩ q3).setCell ⟨w1.heap.size, 4, none⟩ q4).setCell ⟨w1.heap.size, 5, none⟩ q5).setCell ⟨w1.heap.size, 6, none⟩ q6).setCell ⟨w1.heap.size, 7, none⟩ q7).setCell ⟨w1.heap.size, 8, none⟩ q8).setCell ⟨w1.heap.size, 9, none⟩ q9).setCell ⟨w1.heap.size, 10, none⟩ q10).setCell ⟨w1.heap.size, 11, none⟩ q11).setCell ⟨w1.heap.size, 12, none⟩ q12).cell? ⟨u, 0, none⟩ = some (.slice la n lc) from fun q0 q1 q2 q3 q4 q5 q6 q7 q8 q9 q10 q11 q12 => HS.out _ (Ent.below13 B2.out HGB.out _ _ _ _ _ _ _ _ _ _ _ _ _))) | ((with_reducible have hq := ebox_d b2); have HBX := Lib.hid hq; clear hq; have HGB := Lib.hid B1.out.size; obtain ⟨e0, e1, e2, e3, e4, e5, e6, e7, e8, e9, e10, e11, e12⟩ := Ent.ent_cells (x := noE) HBX.out; simp only [noE] at e0 e1 e2 e3 e4 e5 e6 e7 e8 e9 e10 e11 e12; obtain ⟨f0, f1, f2, f3, f4, f5, f6, f7, f8, f9, f10, f11, f12⟩ := Ent.ent_frozen HBX.out; have K1 := Lib.hid (show ∀ (q0 q1 q2 q3 q4 q5 q6 q7 q8 q9 q10 q11 q12 : Value), (((((((((((((w2.setCell ⟨w1.heap.size, 0, none⟩ q0).setCell ⟨w1.heap.size, 1, none⟩ q1).setCell ⟨w1.heap.size, 2, none⟩ q2).setCell ⟨w1.heap.size, 3, none⟩ q3).setCell ⟨w1.heap.size, 4, none⟩ q4).setCell ⟨w1.heap.size, 5, none⟩ q5).setCell ⟨w1.heap.size, 6, none⟩ q6).setCell ⟨w1.heap.size, 7, none⟩ q7).setCell ⟨w1.heap.size, 8, none⟩ q8).setCell ⟨w1.heap.size, 9, none⟩ q9).setCell ⟨w1.heap.size, 10, none⟩ q10).setCell ⟨w1.heap.size, 11, none⟩ q11).setCell ⟨w1.heap.size, 12, none⟩ q12).cell? ⟨u, 0, none⟩ = some (.slice la n lc) from fun q0 q1 q2 q3 q4 q5 q6 q7 q8 q9 q10 q11 q12 => HS.out _ (Ent.below13 B2.out HGB.out _ _ _ _ _ _ _ _ _ _ _ _ _))) | (have HBX := Lib.hid (HBX.out.below B12.out HBX.out.lt); clear e0 e1 e2 e3 e4 e5 e6 e7 e8 e9 e10 e11 e12 f0 f1 f2 f3 f4 f5 f6 f7 f8 f9 f10 f11 f12; obtain ⟨e0, e1, e2, e3, e4, e5, e6, e7, e8, e9, e10, e11, e12⟩ := Ent.ent_cells (x := noE) HBX.out; simp only [noE] at e0 e1 e2 e3 e4 e5 e6 e7 e8 e9 e10 e11 e12; obtain ⟨f0, f1, f2, f3, f4, f5, f6, f7, f8, f9, f10, f11, f12⟩ := Ent.ent_frozen HBX.out; have K1 := Lib.hid (show ∀ (q0 q1 q2 q3 q4 q5 q6 q7 q8 q9 q10 q11 q12 : Value), (((((((((((((w2.setCell ⟨w.heap.size, 0, none⟩ q0).setCell ⟨w.heap.size, 1, none⟩ q1).setCell ⟨w.heap.size, 2, none⟩ q2).setCell ⟨w.heap.size, 3, none⟩ q3).setCell ⟨w.heap.size, 4, none⟩ q4).setCell ⟨w.heap.size, 5, none⟩ q5).setCell ⟨w.heap.size, 6, none⟩ q6).setCell ⟨w.heap.size, 7, none⟩ q7).setCell ⟨w.heap.size, 8, none⟩ q8).setCell ⟨w.heap.size, 9, none⟩ q9).setCell ⟨w.heap.size, 10, none⟩ q10).setCell ⟨w.heap.size, 11, none⟩ q11).setCell ⟨w.heap.size, 12, none⟩ q12).cell? ⟨u, 0, none⟩ = some (.slice la n lc) from fun q0 q1 q2 q3 q4 q5 q6 q7 q8 q9 q10 q11 q12 => HS.out _ (Ent.below13 B2.out HGB.out _ _ _ _ _ _ _ _ _ _ _ _ _))) | skip); clear b2; have z2 := HS.out w2 B2.out))
    all_goals
      go_wp2_with fail
      go_meet
      case rel =>
        first
        | (with_unfolding_none exact ⟨_, rfl, rfl, Lib.hid ⟨Blk.new w2 _ _, below_go B2.out (Ent.below_box _ _), B2.out.size⟩⟩)
        | (refine ⟨_, rfl, rfl, Lib.hid ⟨?_, ?_, HGB.out⟩⟩
           · exact blk13 HBX.out _ _ _ _ _ _ _ _ _ _ _ _ _
           · exact Ent.below13 B2.out HGB.out _ _ _ _ _ _ _ _ _ _ _ _ _)
  case rest =>
    obtain ⟨g5, rfl, rfl, H5⟩ := hcut
    clear z0 z1 HS HBK HTX
    cases oB with
    | false =>
      have HOUT := Lib.hid (show undoB p c = false ∧ undoP p c = p from by
        have h1 : o = none := by cases o with | none => rfl | some _ => cases HOB.out
        constructor
        · unfold undoB; rw [HO.out, h1]
        · unfold undoP; rw [HO.out, h1])
      go_wp2
      exact bodyPost_ret (v := .bool false) (by simp [results, Tryz.results43, go_sem]) rfl ⟨by rw [HOUT.out.1], by rw [HOUT.out.2]; exact ⟨M, _, nv, av, H0.out.below H5.out.2.1, hBu⟩, H5.out.2.1.mono (by have := HUW.out; omega)⟩
    | true =>
      obtain ⟨x, hox⟩ : ∃ x, o = some x := Option.isSome_iff_exists.1 HOB.out
      have hxx : x = xx := by have := HXX.out; rw [hox] at this; exact this
      subst hxx
      have hb := HO.out
      rw [hox] at hb
      have HBB := Lib.hid hb
      have hmem := back_mem hb
      have hgx := HSN.out.good x hmem
      have hrg := HSN.out.rng x hmem
      obtain ⟨i, hi4, hip⟩ : ∃ i : Nat, i < 4 ∧ x.page = (i : Int) := ⟨x.page.toNat, by omega, by omega⟩
      have HIP := Lib.hid hip
      have HGX := Lib.hid hgx
      have HTE := Lib.hid (back_tx hb)
      obtain ⟨LL, hLL⟩ : ∃ LL, lsnP p c i = LL := ⟨_, rfl⟩
      obtain ⟨QQ, hQQ⟩ : ∃ QQ, p.last c = QQ := ⟨_, rfl⟩
      obtain ⟨yy, hyy⟩ : ∃ yy, turnX x LL QQ = yy := ⟨_, rfl⟩
      obtain ⟨CC, hCC⟩ : ∃ CC, turnC x LL QQ = CC := ⟨_, rfl⟩
      have h5 := H0.out.below H5.out.2.1
      have hls := lsn_at h5 HSN.out hc hi4
      rw [hLL] at hls
      have HLS := Lib.hid hls
      have HTN := Lib.hid (show ∀ W, Below wc.heap.size wc W → Calls Tryz.prog 19 #[.agg #[.int .i64 x.kind, .int .i64 x.cl, .int .i64 x.ep, .int .i64 x.n, .int .i64 x.lsn, .int .i64 x.prev, .int .i64 (i : Int), .int .i64 x.slot, .bool x.wu, .string x.wd, .bool x.iu, .string x.id, .int .i64 x.next], .int .i64 LL, .int .i64 QQ] W fun e w' => e = .returned (.tuple #[.agg #[.int .i64 yy.kind, .int .i64 yy.cl, .int .i64 yy.ep, .int .i64 yy.n, .int .i64 yy.lsn, .int .i64 yy.prev, .int .i64 yy.page, .int .i64 yy.slot, .bool yy.wu, .string yy.wd, .bool yy.iu, .string yy.id, .int .i64 yy.next], .int .i64 CC]) ∧ Below W.heap.size W w' from fun W _ => by
        have h1 := turn_any x LL QQ W (good_small hgx)
        rw [hyy, hCC, hip] at h1
        exact h1)
      have HYY := Lib.hid (show undoB p c = (decide (CC = 0) && addB p yy) ∧ undoP p c = (if CC = 0 then addP p yy else p) ∧ (CC = 0 → SmallE yy ∧ yy.page = (i : Int) ∧ yy.cl = (c : Int)) from by
        refine ⟨?_, ?_, fun h0 => ?_⟩
        · unfold undoB; rw [hb]; dsimp only; rw [hip, hLL, hQQ, hCC, hyy]
        · unfold undoP; rw [hb]; dsimp only; rw [hip, hLL, hQQ, hCC, hyy]
        · have hT : turnB x LL QQ = true := by
            unfold turnC at hCC
            split at hCC
            · assumption
            · omega
          rw [← hyy]
          unfold turnX
          rw [if_pos hT]
          have hcl : x.cl = (c : Int) := congrArg T3.cl (back_tx hb)
          exact ⟨⟨(good_small hgx).2, (good_small hgx).1⟩, hip, hcl⟩)
      have hcl0 : (0 : Int) ≤ (c : Int) := by omega
      have hcI : (c : Int) < 5 := by omega
      have hcd : decide ((c : Int) < 5) = true := decide_eq_true (by omega)
      have HS := Lib.hid (show ∀ W', Below wc.heap.size wc W' → W'.cell? ⟨u, 12 + c, none⟩ = some (.int .i64 QQ) ∧ W'.cell? ⟨g5, 0, none⟩ = some (.int .i64 x.kind) ∧ W'.cell? ⟨g5, 1, none⟩ = some (.int .i64 x.cl) ∧ W'.cell? ⟨g5, 2, none⟩ = some (.int .i64 x.ep) ∧ W'.cell? ⟨g5, 3, none⟩ = some (.int .i64 x.n) ∧ W'.cell? ⟨g5, 4, none⟩ = some (.int .i64 x.lsn) ∧ W'.cell? ⟨g5, 5, none⟩ = some (.int .i64 x.prev) ∧ W'.cell? ⟨g5, 6, none⟩ = some (.int .i64 (i : Int)) ∧ W'.cell? ⟨g5, 7, none⟩ = some (.int .i64 x.slot) ∧ W'.cell? ⟨g5, 8, none⟩ = some (.bool x.wu) ∧ W'.cell? ⟨g5, 9, none⟩ = some (.string x.wd) ∧ W'.cell? ⟨g5, 10, none⟩ = some (.bool x.iu) ∧ W'.cell? ⟨g5, 11, none⟩ = some (.string x.id) ∧ W'.cell? ⟨g5, 12, none⟩ = some (.int .i64 x.next) from fun W' hb => by
        have hq := H5.out.1.below hb H5.out.1.lt
        exact ⟨by rw [(h5.below hb).last (show c < 5 by omega), hQQ], hq.cell 0, hq.cell 1, hq.cell 2, hq.cell 3, hq.cell 4, hq.cell 5, by rw [← hip]; exact hq.cell 6, hq.cell 7, hq.cell 8, hq.cell 9, hq.cell 10, hq.cell 11, hq.cell 12⟩)
      clear h5 hls hgx hrg hip hb hmem hox hLL hQQ hyy hCC
      have z0 := HS.out wc (Below.refl _ _)
      have z1 := HS.out wc.drew (Below.refl _ _).drew
      go_upto_region 4 with (fail)
      go_cut [7, 8] (fun t7 t8 wy => ∃ g7 : Nat, t7 = .pointer (some ⟨g7, 0, none⟩) ∧ t8 = .int .i64 CC ∧ Hid (Blk wy g7 58 #[.int .i64 yy.kind, .int .i64 yy.cl, .int .i64 yy.ep, .int .i64 yy.n, .int .i64 yy.lsn, .int .i64 yy.prev, .int .i64 yy.page, .int .i64 yy.slot, .bool yy.wu, .string yy.wd, .bool yy.iu, .string yy.id, .int .i64 yy.next] ∧ Below wc.heap.size wc wy ∧ wc.heap.size ≤ g7))
      case first =>
        go_region_held3 (fun W' => W'.cell? ⟨u, 12 + c, none⟩ = some (.int .i64 QQ) ∧ W'.cell? ⟨g5, 0, none⟩ = some (.int .i64 x.kind) ∧ W'.cell? ⟨g5, 1, none⟩ = some (.int .i64 x.cl) ∧ W'.cell? ⟨g5, 2, none⟩ = some (.int .i64 x.ep) ∧ W'.cell? ⟨g5, 3, none⟩ = some (.int .i64 x.n) ∧ W'.cell? ⟨g5, 4, none⟩ = some (.int .i64 x.lsn) ∧ W'.cell? ⟨g5, 5, none⟩ = some (.int .i64 x.prev) ∧ W'.cell? ⟨g5, 6, none⟩ = some (.int .i64 (i : Int)) ∧ W'.cell? ⟨g5, 7, none⟩ = some (.int .i64 x.slot) ∧ W'.cell? ⟨g5, 8, none⟩ = some (.bool x.wu) ∧ W'.cell? ⟨g5, 9, none⟩ = some (.string x.wd) ∧ W'.cell? ⟨g5, 10, none⟩ = some (.bool x.iu) ∧ W'.cell? ⟨g5, 11, none⟩ = some (.string x.id) ∧ W'.cell? ⟨g5, 12, none⟩ = some (.int .i64 x.next))
          (first | (with_unfolding_none exact K1.out _ _ _ _ _ _ _ _ _ _ _ _ _) | (with_unfolding_none assumption) | (with_unfolding_none exact z0) | (with_unfolding_none exact z1) | (with_unfolding_none exact HS.out _ (Ent.below_box _ _)) | (with_unfolding_none exact HS.out _ (Ent.below_box _ _).drew) | (with_unfolding_none exact HS.out _ (below_go B2.out (Ent.below_box _ _))) | (with_unfolding_none exact HS.out _ (below_go B2.out (Ent.below_box _ _)).drew) | (with_unfolding_none exact HS.out _ (below_go B1.out (Ent.below_box _ _))) | (with_unfolding_none exact HS.out _ (below_go B1.out (Ent.below_box _ _)).drew))
          (first | (go_at_call 20; (with_reducible refine (HLS.out _ (by first | (with_reducible exact Below.refl _ _) | (with_reducible exact bx_d _) | (with_reducible exact Ent.below_box _ _) | (with_reducible exact bx_ad _ _))).mono ?_); rintro e w1 ⟨rfl, b1⟩; have B1 := Lib.hid (show Below wc.heap.size wc w1 from (by first | (with_reducible exact b1) | (with_reducible exact bn_d b1) | (with_reducible exact bn_a b1) | (with_reducible exact bn_ad b1))); (first | ((with_reducible have hq := ebox b1); have HBX := Lib.hid hq; clear hq; have HGB := Lib.hid (Nat.le_refl wc.heap.size); obtain ⟨e0, e1, e2, e3, e4, e5, e6, e7, e8, e9, e10, e11, e12⟩ := Ent.ent_cells (x := noE) HBX.out; simp only [noE] at e0 e1 e2 e3 e4 e5 e6 e7 e8 e9 e10 e11 e12; obtain ⟨f0, f1, f2, f3, f4, f5, f6, f7, f8, f9, f10, f11, f12⟩ := Ent.ent_frozen HBX.out) | ((with_reducible have hq := ebox_d b1); have HBX := Lib.hid hq; clear hq; have HGB := Lib.hid (Nat.le_refl wc.heap.size); obtain ⟨e0, e1, e2, e3, e4, e5, e6, e7, e8, e9, e10, e11, e12⟩ := Ent.ent_cells (x := noE) HBX.out; simp only [noE] at e0 e1 e2 e3 e4 e5 e6 e7 e8 e9 e10 e11 e12; obtain ⟨f0, f1, f2, f3, f4, f5, f6, f7, f8, f9, f10, f11, f12⟩ := Ent.ent_frozen HBX.out) | skip); clear b1; have y1 := HS.out w1 B1.out) | (go_at_call 19; (with_reducible refine (HTN.out _ (by first | (with_reducible exact B1.out) | (with_reducible exact B1.out.drew) | (with_reducible exact below_go B1.out (Ent.below_box _ _)) | (with_reducible exact (below_go B1.out (Ent.below_box _ _)).drew))).mono ?_); rintro e w2 ⟨rfl, b2⟩; have B12 := Lib.hid (show Below w1.heap.size w1 w2 from (by first | (with_reducible exact b2) | (with_reducible exact bn_d b2) | (with_reducible exact bn_a b2) | (with_reducible exact bn_ad b2))); have B2 := Lib.hid (below_go B1.out B12.out); (first | ((with_reducible have hq := ebox b2); have HBX := Lib.hid hq; clear hq; have HGB := Lib.hid B1.out.size; obtain ⟨e0, e1, e2, e3, e4, e5, e6, e7, e8, e9, e10, e11, e12⟩ := Ent.ent_cells (x := noE) HBX.out; simp only [noE] at e0 e1 e2 e3 e4 e5 e6 e7 e8 e9 e10 e11 e12; obtain ⟨f0, f1, f2, f3, f4, f5, f6, f7, f8, f9, f10, f11, f12⟩ := Ent.ent_frozen HBX.out; have K1 := Lib.hid (show ∀ (q0 q1 q2 q3 q4 q5 q6 q7 q8 q9 q10 q11 q12 : Value), (((((((((((((w2.setCell ⟨w1.heap.size, 0, none⟩ q0).setCell ⟨w1.heap.size, 1, none⟩ q1).setCell ⟨w1.heap.size, 2, none⟩ q2).setCell ⟨w1.heap.size, 3, none⟩ q3).setCell ⟨w1.heap.size, 4, none⟩ q4).setCell ⟨w1.heap.size, 5, none⟩ q5).setCell ⟨w1.heap.size, 6, none⟩ q6).setCell ⟨w1.heap.size, 7, none⟩ q7).setCell ⟨w1.heap.size, 8, none⟩ q8).setCell ⟨w1.heap.size, 9, none⟩ q9).setCell ⟨w1.heap.size, 10, none⟩ q10).setCell ⟨w1.heap.size, 11, none⟩ q11).setCell ⟨w1.heap.size, 12, none⟩ q12).cell? ⟨u, 12 + c, none⟩ = some (.int .i64 QQ) ∧ (((((((((((((w2.setCell ⟨w1.heap.size, 0, none⟩ q0).setCell ⟨w1.heap.size, 1, none⟩ q1).setCell ⟨w1.heap.size, 2, none⟩ q2).setCell ⟨w1.heap.size, 3, none⟩ q3).setCell ⟨w1.heap.size, 4, none⟩ q4).setCell ⟨w1.heap.size, 5, none⟩ q5).setCell ⟨w1.heap.size, 6, none⟩ q6).setCell ⟨w1.heap.size, 7, none⟩ q7).setCell ⟨w1.heap.size, 8, none⟩ q8).setCell ⟨w1.heap.size, 9, none⟩ q9).setCell ⟨w1.heap.size, 10, none⟩ q10).setCell ⟨w1.heap.size, 11, none⟩ q11).setCell ⟨w1.heap.size, 12, none⟩ q12).cell? ⟨g5, 0, none⟩ = some (.int .i64 x.kind) ∧ (((((((((((((w2.setCell ⟨w1.heap.size, 0, none⟩ q0).setCell ⟨w1.heap.size, 1, none⟩ q1).setCell ⟨w1.heap.size, 2, none⟩ q2).setCell ⟨w1.heap.size, 3, none⟩ q3).setCell ⟨w1.heap.size, 4, none⟩ q4).setCell ⟨w1.heap.size, 5, none⟩ q5).setCell ⟨w1.heap.size, 6, none⟩ q6).setCell ⟨w1.heap.size, 7, none⟩ q7).setCell ⟨w1.heap.size, 8, none⟩ q8).setCell ⟨w1.heap.size, 9, none⟩ q9).setCell ⟨w1.heap.size, 10, none⟩ q10).setCell ⟨w1.heap.size, 11, none⟩ q11).setCell ⟨w1.heap.size, 12, none⟩ q12).cell? ⟨g5, 1, none⟩ = some (.int .i64 x.cl) ∧ (((((((((((((w2.setCell ⟨w1.heap.size, 0, none⟩ q0).setCell ⟨w1.heap.size, 1, none⟩ q1).setCell ⟨w1.heap.size, 2, none⟩ q2).setCell ⟨w1.heap.size, 3, none⟩ q3).setCell ⟨w1.heap.size, 4, none⟩ q4).setCell ⟨w1.heap.size, 5, none⟩ q5).setCell ⟨w1.heap.size, 6, none⟩ q6).setCell ⟨w1.heap.size, 7, none⟩ q7).setCell ⟨w1.heap.size, 8, none⟩ q8).setCell ⟨w1.heap.size, 9, none⟩ q9).setCell ⟨w1.heap.size, 10, none⟩ q10).setCell ⟨w1.heap.size, 11, none⟩ q11).setCell ⟨w1.heap.size, 12, none⟩ q12).cell? ⟨g5, 2, none⟩ = some (.int .i64 x.ep) ∧ (((((((((((((w2.setCell ⟨w1.heap.size, 0, none⟩ q0).setCell ⟨w1.heap.size, 1, none⟩ q1).setCell ⟨w1.heap.size, 2, none⟩ q2).setCell ⟨w1.heap.size, 3, none⟩ q3).setCell ⟨w1.heap.size, 4, none⟩ q4).setCell ⟨w1.heap.size, 5, none⟩ q5).setCell ⟨w1.heap.size, 6, none⟩ q6).setCell ⟨w1.heap.size, 7, none⟩ q7).setCell ⟨w1.heap.size, 8, none⟩ q8).setCell ⟨w1.heap.size, 9, none⟩ q9).setCell ⟨w1.heap.size, 10, none⟩ q10).setCell ⟨w1.heap.size, 11, none⟩ q11).setCell ⟨w1.heap.size, 12, none⟩ q12).cell? ⟨g5, 3, none⟩ = some (.int .i64 x.n) ∧ (((((((((((((w2.setCell ⟨w1.heap.size, 0, none⟩ q0).setCell ⟨w1.heap.size, 1, none⟩ q1).setCell ⟨w1.heap.size, 2, none⟩ q2).setCell ⟨w1.heap.size, 3, none⟩ q3).setCell ⟨w1.heap.size, 4, none⟩ q4).setCell ⟨w1.heap.size, 5, none⟩ q5).setCell ⟨w1.heap.size, 6, none⟩ q6).setCell ⟨w1.heap.size, 7, none⟩ q7).setCell ⟨w1.heap.size, 8, none⟩ q8).setCell ⟨w1.heap.size, 9, none⟩ q9).setCell ⟨w1.heap.size, 10, none⟩ q10).setCell ⟨w1.heap.size, 11, none⟩ q11).setCell ⟨w1.heap.size, 12, none⟩ q12).cell? ⟨g5, 4, none⟩ = some (.int .i64 x.lsn) ∧ (((((((((((((w2.setCell ⟨w1.heap.size, 0, none⟩ q0).setCell ⟨w1.heap.size, 1, none⟩ q1).setCell ⟨w1.heap.size, 2, none⟩ q2).setCell ⟨w1.heap.size, 3, none⟩ q3).setCell ⟨w1.heap.size, 4, none⟩ q4).setCell ⟨w1.heap.size, 5, none⟩ q5).setCell ⟨w1.heap.size, 6, none⟩ q6).setCell ⟨w1.heap.size, 7, none⟩ q7).setCell ⟨w1.heap.size, 8, none⟩ q8).setCell ⟨w1.heap.size, 9, none⟩ q9).setCell ⟨w1.heap.size, 10, none⟩ q10).setCell ⟨w1.heap.size, 11, none⟩ q11).setCell ⟨w1.heap.size, 12, none⟩ q12).cell? ⟨g5, 5, none⟩ = some (.int .i64 x.prev) ∧ (((((((((((((w2.setCell ⟨w1.heap.size, 0, none⟩ q0).setCell ⟨w1.heap.size, 1, none⟩ q1).setCell ⟨w1.heap.size, 2, none⟩ q2).setCell ⟨w1.heap.size, 3, none⟩ q3).setCell ⟨w1.heap.size, 4, none⟩ q4).setCell ⟨w1.heap.size, 5, none⟩ q5).setCell ⟨w1.heap.size, 6, none⟩ q6).setCell ⟨w1.heap.size, 7, none⟩ q7).setCell ⟨w1.heap.size, 8, none⟩ q8).setCell ⟨w1.heap.size, 9, none⟩ q9).setCell ⟨w1.heap.size, 10, none⟩ q10).setCell ⟨w1.heap.size, 11, none⟩ q11).setCell ⟨w1.heap.size, 12, none⟩ q12).cell? ⟨g5, 6, none⟩ = some (.int .i64 (i : Int)) ∧ (((((((((((((w2.setCell ⟨w1.heap.size, 0, none⟩ q0).setCell ⟨w1.heap.size, 1, none⟩ q1).setCell ⟨w1.heap.size, 2, none⟩ q2).setCell ⟨w1.heap.size, 3, none⟩ q3).setCell ⟨w1.heap.size, 4, none⟩ q4).setCell ⟨w1.heap.size, 5, none⟩ q5).setCell ⟨w1.heap.size, 6, none⟩ q6).setCell ⟨w1.heap.size, 7, none⟩ q7).setCell ⟨w1.heap.size, 8, none⟩ q8).setCell ⟨w1.heap.size, 9, none⟩ q9).setCell ⟨w1.heap.size, 10, none⟩ q10).setCell ⟨w1.heap.size, 11, none⟩ q11).setCell ⟨w1.heap.size, 12, none⟩ q12).cell? ⟨g5, 7, none⟩ = some (.int .i64 x.slot) ∧ (((((((((((((w2.setCell ⟨w1.heap.size, 0, none⟩ q0).setCell ⟨w1.heap.size, 1, none⟩ q1).setCell ⟨w1.heap.size, 2, none⟩ q2).setCell ⟨w1.heap.size, 3, none⟩ q3).setCell ⟨w1.heap.size, 4, none⟩ q4).setCell ⟨w1.heap.size, 5, none⟩ q5).setCell ⟨w1.heap.size, 6, none⟩ q6).setCell ⟨w1.heap.size, 7, none⟩ q7).setCell ⟨w1.heap.size, 8, none⟩ q8).setCell ⟨w1.heap.size, 9, none⟩ q9).setCell ⟨w1.heap.size, 10, none⟩ q10).setCell ⟨w1.heap.size, 11, none⟩ q11).setCell ⟨w1.heap.size, 12, none⟩ q12).cell? ⟨g5, 8, none⟩ = some (.bool x.wu) ∧ (((((((((((((w2.setCell ⟨w1.heap.size, 0, none⟩ q0).setCell ⟨w1.heap.size, 1, none⟩ q1).setCell ⟨w1.heap.size, 2, none⟩ q2).setCell ⟨w1.heap.size, 3, none⟩ q3).setCell ⟨w1.heap.size, 4, none⟩ q4).setCell ⟨w1.heap.size, 5, none⟩ q5).setCell ⟨w1.heap.size, 6, none⟩ q6).setCell ⟨w1.heap.size, 7, none⟩ q7).setCell ⟨w1.heap.size, 8, none⟩ q8).setCell ⟨w1.heap.size, 9, none⟩ q9).setCell ⟨w1.heap.size, 10, none⟩ q10).setCell ⟨w1.heap.size, 11, none⟩ q11).setCell ⟨w1.heap.size, 12, none⟩ q12).cell? ⟨g5, 9, none⟩ = some (.string x.wd) ∧ (((((((((((((w2.setCell ⟨w1.heap.size, 0, none⟩ q0).setCell ⟨w1.heap.size, 1, none⟩ q1).setCell ⟨w1.heap.size, 2, none⟩ q2).setCell ⟨w1.heap.size, 3, none⟩ q3).setCell ⟨w1.heap.size, 4, none⟩ q4).setCell ⟨w1.heap.size, 5, none⟩ q5).setCell ⟨w1.heap.size, 6, none⟩ q6).setCell ⟨w1.heap.size, 7, none⟩ q7).setCell ⟨w1.heap.size, 8, none⟩ q8).setCell ⟨w1.heap.size, 9, none⟩ q9).setCell ⟨w1.heap.size, 10, none⟩ q10).setCell ⟨w1.heap.size, 11, none⟩ q11).setCell ⟨w1.heap.size, 12, none⟩ q12).cell? ⟨g5, 10, none⟩ = some (.bool x.iu) ∧ (((((((((((((w2.setCell ⟨w1.heap.size, 0, none⟩ q0).setCell ⟨w1.heap.size, 1, none⟩ q1).setCell ⟨w1.heap.size, 2, none⟩ q2).setCell ⟨w1.heap.size, 3, none⟩ q3).setCell ⟨w1.heap.size, 4, none⟩ q4).setCell ⟨w1.heap.size, 5, none⟩ q5).setCell ⟨w1.heap.size, 6, none⟩ q6).setCell ⟨w1.heap.size, 7, none⟩ q7).setCell ⟨w1.heap.size, 8, none⟩ q8).setCell ⟨w1.heap.size, 9, none⟩ q9).setCell ⟨w1.heap.size, 10, none⟩ q10).setCell ⟨w1.heap.size, 11, none⟩ q11).setCell ⟨w1.heap.size, 12, none⟩ q12).cell? ⟨g5, 11, none⟩ = some (.string x.id) ∧ (((((((((((((w2.setCell ⟨w1.heap.size, 0, none⟩ q0).setCell ⟨w1.heap.size, 1, none⟩ q1).setCell ⟨w1.heap.size, 2, none⟩ q2).setCell ⟨w1.heap.size, 3, none⟩ q3).setCell ⟨w1.heap.size, 4, none⟩ q4).setCell ⟨w1.heap.size, 5, none⟩ q5).setCell ⟨w1.heap.size, 6, none⟩ q6).setCell ⟨w1.heap.size, 7, none⟩ q7).setCell ⟨w1.heap.size, 8, none⟩ q8).setCell ⟨w1.heap.size, 9, none⟩ q9).setCell ⟨w1.heap.size, 10, none⟩ q10).setCell ⟨w1.heap.size, 11, none⟩ q11).setCell ⟨w1.heap.size, 12, none⟩ q12).cell? ⟨g5, 12, none⟩ = some (.int .i64 x.next) from fun q0 q1 q2 q3 q4 q5 q6 q7 q8 q9 q10 q11 q12 => HS.out _ (Ent.below13 B2.out HGB.out _ _ _ _ _ _ _ _ _ _ _ _ _))) | ((with_reducible have hq := ebox_d b2); have HBX := Lib.hid hq; clear hq; have HGB := Lib.hid B1.out.size; obtain ⟨e0, e1, e2, e3, e4, e5, e6, e7, e8, e9, e10, e11, e12⟩ := Ent.ent_cells (x := noE) HBX.out; simp only [noE] at e0 e1 e2 e3 e4 e5 e6 e7 e8 e9 e10 e11 e12; obtain ⟨f0, f1, f2, f3, f4, f5, f6, f7, f8, f9, f10, f11, f12⟩ := Ent.ent_frozen HBX.out; have K1 := Lib.hid (show ∀ (q0 q1 q2 q3 q4 q5 q6 q7 q8 q9 q10 q11 q12 : Value), (((((((((((((w2.setCell ⟨w1.heap.size, 0, none⟩ q0).setCell ⟨w1.heap.size, 1, none⟩ q1).setCell ⟨w1.heap.size, 2, none⟩ q2).setCell ⟨w1.heap.size, 3, none⟩ q3).setCell ⟨w1.heap.size, 4, none⟩ q4).setCell ⟨w1.heap.size, 5, none⟩ q5).setCell ⟨w1.heap.size, 6, none⟩ q6).setCell ⟨w1.heap.size, 7, none⟩ q7).setCell ⟨w1.heap.size, 8, none⟩ q8).setCell ⟨w1.heap.size, 9, none⟩ q9).setCell ⟨w1.heap.size, 10, none⟩ q10).setCell ⟨w1.heap.size, 11, none⟩ q11).setCell ⟨w1.heap.size, 12, none⟩ q12).cell? ⟨u, 12 + c, none⟩ = some (.int .i64 QQ) ∧ (((((((((((((w2.setCell ⟨w1.heap.size, 0, none⟩ q0).setCell ⟨w1.heap.size, 1, none⟩ q1).setCell ⟨w1.heap.size, 2, none⟩ q2).setCell ⟨w1.heap.size, 3, none⟩ q3).setCell ⟨w1.heap.size, 4, none⟩ q4).setCell ⟨w1.heap.size, 5, none⟩ q5).setCell ⟨w1.heap.size, 6, none⟩ q6).setCell ⟨w1.heap.size, 7, none⟩ q7).setCell ⟨w1.heap.size, 8, none⟩ q8).setCell ⟨w1.heap.size, 9, none⟩ q9).setCell ⟨w1.heap.size, 10, none⟩ q10).setCell ⟨w1.heap.size, 11, none⟩ q11).setCell ⟨w1.heap.size, 12, none⟩ q12).cell? ⟨g5, 0, none⟩ = some (.int .i64 x.kind) ∧ (((((((((((((w2.setCell ⟨w1.heap.size, 0, none⟩ q0).setCell ⟨w1.heap.size, 1, none⟩ q1).setCell ⟨w1.heap.size, 2, none⟩ q2).setCell ⟨w1.heap.size, 3, none⟩ q3).setCell ⟨w1.heap.size, 4, none⟩ q4).setCell ⟨w1.heap.size, 5, none⟩ q5).setCell ⟨w1.heap.size, 6, none⟩ q6).setCell ⟨w1.heap.size, 7, none⟩ q7).setCell ⟨w1.heap.size, 8, none⟩ q8).setCell ⟨w1.heap.size, 9, none⟩ q9).setCell ⟨w1.heap.size, 10, none⟩ q10).setCell ⟨w1.heap.size, 11, none⟩ q11).setCell ⟨w1.heap.size, 12, none⟩ q12).cell? ⟨g5, 1, none⟩ = some (.int .i64 x.cl) ∧ (((((((((((((w2.setCell ⟨w1.heap.size, 0, none⟩ q0).setCell ⟨w1.heap.size, 1, none⟩ q1).setCell ⟨w1.heap.size, 2, none⟩ q2).setCell ⟨w1.heap.size, 3, none⟩ q3).setCell ⟨w1.heap.size, 4, none⟩ q4).setCell ⟨w1.heap.size, 5, none⟩ q5).setCell ⟨w1.heap.size, 6, none⟩ q6).setCell ⟨w1.heap.size, 7, none⟩ q7).setCell ⟨w1.heap.size, 8, none⟩ q8).setCell ⟨w1.heap.size, 9, none⟩ q9).setCell ⟨w1.heap.size, 10, none⟩ q10).setCell ⟨w1.heap.size, 11, none⟩ q11).setCell ⟨w1.heap.size, 12, none⟩ q12).cell? ⟨g5, 2, none⟩ = some (.int .i64 x.ep) ∧ (((((((((((((w2.setCell ⟨w1.heap.size, 0, none⟩ q0).setCell ⟨w1.heap.size, 1, none⟩ q1).setCell ⟨w1.heap.size, 2, none⟩ q2).setCell ⟨w1.heap.size, 3, none⟩ q3).setCell ⟨w1.heap.size, 4, none⟩ q4).setCell ⟨w1.heap.size, 5, none⟩ q5).setCell ⟨w1.heap.size, 6, none⟩ q6).setCell ⟨w1.heap.size, 7, none⟩ q7).setCell ⟨w1.heap.size, 8, none⟩ q8).setCell ⟨w1.heap.size, 9, none⟩ q9).setCell ⟨w1.heap.size, 10, none⟩ q10).setCell ⟨w1.heap.size, 11, none⟩ q11).setCell ⟨w1.heap.size, 12, none⟩ q12).cell? ⟨g5, 3, none⟩ = some (.int .i64 x.n) ∧ (((((((((((((w2.setCell ⟨w1.heap.size, 0, none⟩ q0).setCell ⟨w1.heap.size, 1, none⟩ q1).setCell ⟨w1.heap.size, 2, none⟩ q2).setCell ⟨w1.heap.size, 3, none⟩ q3).setCell ⟨w1.heap.size, 4, none⟩ q4).setCell ⟨w1.heap.size, 5, none⟩ q5).setCell ⟨w1.heap.size, 6, none⟩ q6).setCell ⟨w1.heap.size, 7, none⟩ q7).setCell ⟨w1.heap.size, 8, none⟩ q8).setCell ⟨w1.heap.size, 9, none⟩ q9).setCell ⟨w1.heap.size, 10, none⟩ q10).setCell ⟨w1.heap.size, 11, none⟩ q11).setCell ⟨w1.heap.size, 12, none⟩ q12).cell? ⟨g5, 4, none⟩ = some (.int .i64 x.lsn) ∧ (((((((((((((w2.setCell ⟨w1.heap.size, 0, none⟩ q0).setCell ⟨w1.heap.size, 1, none⟩ q1).setCell ⟨w1.heap.size, 2, none⟩ q2).setCell ⟨w1.heap.size, 3, none⟩ q3).setCell ⟨w1.heap.size, 4, none⟩ q4).setCell ⟨w1.heap.size, 5, none⟩ q5).setCell ⟨w1.heap.size, 6, none⟩ q6).setCell ⟨w1.heap.size, 7, none⟩ q7).setCell ⟨w1.heap.size, 8, none⟩ q8).setCell ⟨w1.heap.size, 9, none⟩ q9).setCell ⟨w1.heap.size, 10, none⟩ q10).setCell ⟨w1.heap.size, 11, none⟩ q11).setCell ⟨w1.heap.size, 12, none⟩ q12).cell? ⟨g5, 5, none⟩ = some (.int .i64 x.prev) ∧ (((((((((((((w2.setCell ⟨w1.heap.size, 0, none⟩ q0).setCell ⟨w1.heap.size, 1, none⟩ q1).setCell ⟨w1.heap.size, 2, none⟩ q2).setCell ⟨w1.heap.size, 3, none⟩ q3).setCell ⟨w1.heap.size, 4, none⟩ q4).setCell ⟨w1.heap.size, 5, none⟩ q5).setCell ⟨w1.heap.size, 6, none⟩ q6).setCell ⟨w1.heap.size, 7, none⟩ q7).setCell ⟨w1.heap.size, 8, none⟩ q8).setCell ⟨w1.heap.size, 9, none⟩ q9).setCell ⟨w1.heap.size, 10, none⟩ q10).setCell ⟨w1.heap.size, 11, none⟩ q11).setCell ⟨w1.heap.size, 12, none⟩ q12).cell? ⟨g5, 6, none⟩ = some (.int .i64 (i : Int)) ∧ (((((((((((((w2.setCell ⟨w1.heap.size, 0, none⟩ q0).setCell ⟨w1.heap.size, 1, none⟩ q1).setCell ⟨w1.heap.size, 2, none⟩ q2).setCell ⟨w1.heap.size, 3, none⟩ q3).setCell ⟨w1.heap.size, 4, none⟩ q4).setCell ⟨w1.heap.size, 5, none⟩ q5).setCell ⟨w1.heap.size, 6, none⟩ q6).setCell ⟨w1.heap.size, 7, none⟩ q7).setCell ⟨w1.heap.size, 8, none⟩ q8).setCell ⟨w1.heap.size, 9, none⟩ q9).setCell ⟨w1.heap.size, 10, none⟩ q10).setCell ⟨w1.heap.size, 11, none⟩ q11).setCell ⟨w1.heap.size, 12, none⟩ q12).cell? ⟨g5, 7, none⟩ = some (.int .i64 x.slot) ∧ (((((((((((((w2.setCell ⟨w1.heap.size, 0, none⟩ q0).setCell ⟨w1.heap.size, 1, none⟩ q1).setCell ⟨w1.heap.size, 2, none⟩ q2).setCell ⟨w1.heap.size, 3, none⟩ q3).setCell ⟨w1.heap.size, 4, none⟩ q4).setCell ⟨w1.heap.size, 5, none⟩ q5).setCell ⟨w1.heap.size, 6, none⟩ q6).setCell ⟨w1.heap.size, 7, none⟩ q7).setCell ⟨w1.heap.size, 8, none⟩ q8).setCell ⟨w1.heap.size, 9, none⟩ q9).setCell ⟨w1.heap.size, 10, none⟩ q10).setCell ⟨w1.heap.size, 11, none⟩ q11).setCell ⟨w1.heap.size, 12, none⟩ q12).cell? ⟨g5, 8, none⟩ = some (.bool x.wu) ∧ (((((((((((((w2.setCell ⟨w1.heap.size, 0, none⟩ q0).setCell ⟨w1.heap.size, 1, none⟩ q1).setCell ⟨w1.heap.size, 2, none⟩ q2).setCell ⟨w1.heap.size, 3, none⟩ q3).setCell ⟨w1.heap.size, 4, none⟩ q4).setCell ⟨w1.heap.size, 5, none⟩ q5).setCell ⟨w1.heap.size, 6, none⟩ q6).setCell ⟨w1.heap.size, 7, none⟩ q7).setCell ⟨w1.heap.size, 8, none⟩ q8).setCell ⟨w1.heap.size, 9, none⟩ q9).setCell ⟨w1.heap.size, 10, none⟩ q10).setCell ⟨w1.heap.size, 11, none⟩ q11).setCell ⟨w1.heap.size, 12, none⟩ q12).cell? ⟨g5, 9, none⟩ = some (.string x.wd) ∧ (((((((((((((w2.setCell ⟨w1.heap.size, 0, none⟩ q0).setCell ⟨w1.heap.size, 1, none⟩ q1).setCell ⟨w1.heap.size, 2, none⟩ q2).setCell ⟨w1.heap.size, 3, none⟩ q3).setCell ⟨w1.heap.size, 4, none⟩ q4).setCell ⟨w1.heap.size, 5, none⟩ q5).setCell ⟨w1.heap.size, 6, none⟩ q6).setCell ⟨w1.heap.size, 7, none⟩ q7).setCell ⟨w1.heap.size, 8, none⟩ q8).setCell ⟨w1.heap.size, 9, none⟩ q9).setCell ⟨w1.heap.size, 10, none⟩ q10).setCell ⟨w1.heap.size, 11, none⟩ q11).setCell ⟨w1.heap.size, 12, none⟩ q12).cell? ⟨g5, 10, none⟩ = some (.bool x.iu) ∧ (((((((((((((w2.setCell ⟨w1.heap.size, 0, none⟩ q0).setCell ⟨w1.heap.size, 1, none⟩ q1).setCell ⟨w1.heap.size, 2, none⟩ q2).setCell ⟨w1.heap.size, 3, none⟩ q3).setCell ⟨w1.heap.size, 4, none⟩ q4).setCell ⟨w1.heap.size, 5, none⟩ q5).setCell ⟨w1.heap.size, 6, none⟩ q6).setCell ⟨w1.heap.size, 7, none⟩ q7).setCell ⟨w1.heap.size, 8, none⟩ q8).setCell ⟨w1.heap.size, 9, none⟩ q9).setCell ⟨w1.heap.size, 10, none⟩ q10).setCell ⟨w1.heap.size, 11, none⟩ q11).setCell ⟨w1.heap.size, 12, none⟩ q12).cell? ⟨g5, 11, none⟩ = some (.string x.id) ∧ (((((((((((((w2.setCell ⟨w1.heap.size, 0, none⟩ q0).setCell ⟨w1.heap.size, 1, none⟩ q1).setCell ⟨w1.heap.size, 2, none⟩ q2).setCell ⟨w1.heap.size, 3, none⟩ q3).setCell ⟨w1.heap.size, 4, none⟩ q4).setCell ⟨w1.heap.size, 5, none⟩ q5).setCell ⟨w1.heap.size, 6, none⟩ q6).setCell ⟨w1.heap.size, 7, none⟩ q7).setCell ⟨w1.heap.size, 8, none⟩ q8).setCell ⟨w1.heap.size, 9, none⟩ q9).setCell ⟨w1.heap.size, 10, none⟩ q10).setCell ⟨w1.heap.size, 11, none⟩ q11).setCell ⟨w1.heap.size, 12, none⟩ q12).cell? ⟨g5, 12, none⟩ = some (.int .i64 x.next) from fun q0 q1 q2 q3 q4 q5 q6 q7 q8 q9 q10 q11 q12 => HS.out _ (Ent.below13 B2.out HGB.out _ _ _ _ _ _ _ _ _ _ _ _ _))) | (have HBX := Lib.hid (HBX.out.below B12.out HBX.out.lt); clear e0 e1 e2 e3 e4 e5 e6 e7 e8 e9 e10 e11 e12 f0 f1 f2 f3 f4 f5 f6 f7 f8 f9 f10 f11 f12; obtain ⟨e0, e1, e2, e3, e4, e5, e6, e7, e8, e9, e10, e11, e12⟩ := Ent.ent_cells (x := noE) HBX.out; simp only [noE] at e0 e1 e2 e3 e4 e5 e6 e7 e8 e9 e10 e11 e12; obtain ⟨f0, f1, f2, f3, f4, f5, f6, f7, f8, f9, f10, f11, f12⟩ := Ent.ent_frozen HBX.out; have K1 := Lib.hid (show ∀ (q0 q1 q2 q3 q4 q5 q6 q7 q8 q9 q10 q11 q12 : Value), (((((((((((((w2.setCell ⟨wc.heap.size, 0, none⟩ q0).setCell ⟨wc.heap.size, 1, none⟩ q1).setCell ⟨wc.heap.size, 2, none⟩ q2).setCell ⟨wc.heap.size, 3, none⟩ q3).setCell ⟨wc.heap.size, 4, none⟩ q4).setCell ⟨wc.heap.size, 5, none⟩ q5).setCell ⟨wc.heap.size, 6, none⟩ q6).setCell ⟨wc.heap.size, 7, none⟩ q7).setCell ⟨wc.heap.size, 8, none⟩ q8).setCell ⟨wc.heap.size, 9, none⟩ q9).setCell ⟨wc.heap.size, 10, none⟩ q10).setCell ⟨wc.heap.size, 11, none⟩ q11).setCell ⟨wc.heap.size, 12, none⟩ q12).cell? ⟨u, 12 + c, none⟩ = some (.int .i64 QQ) ∧ (((((((((((((w2.setCell ⟨wc.heap.size, 0, none⟩ q0).setCell ⟨wc.heap.size, 1, none⟩ q1).setCell ⟨wc.heap.size, 2, none⟩ q2).setCell ⟨wc.heap.size, 3, none⟩ q3).setCell ⟨wc.heap.size, 4, none⟩ q4).setCell ⟨wc.heap.size, 5, none⟩ q5).setCell ⟨wc.heap.size, 6, none⟩ q6).setCell ⟨wc.heap.size, 7, none⟩ q7).setCell ⟨wc.heap.size, 8, none⟩ q8).setCell ⟨wc.heap.size, 9, none⟩ q9).setCell ⟨wc.heap.size, 10, none⟩ q10).setCell ⟨wc.heap.size, 11, none⟩ q11).setCell ⟨wc.heap.size, 12, none⟩ q12).cell? ⟨g5, 0, none⟩ = some (.int .i64 x.kind) ∧ (((((((((((((w2.setCell ⟨wc.heap.size, 0, none⟩ q0).setCell ⟨wc.heap.size, 1, none⟩ q1).setCell ⟨wc.heap.size, 2, none⟩ q2).setCell ⟨wc.heap.size, 3, none⟩ q3).setCell ⟨wc.heap.size, 4, none⟩ q4).setCell ⟨wc.heap.size, 5, none⟩ q5).setCell ⟨wc.heap.size, 6, none⟩ q6).setCell ⟨wc.heap.size, 7, none⟩ q7).setCell ⟨wc.heap.size, 8, none⟩ q8).setCell ⟨wc.heap.size, 9, none⟩ q9).setCell ⟨wc.heap.size, 10, none⟩ q10).setCell ⟨wc.heap.size, 11, none⟩ q11).setCell ⟨wc.heap.size, 12, none⟩ q12).cell? ⟨g5, 1, none⟩ = some (.int .i64 x.cl) ∧ (((((((((((((w2.setCell ⟨wc.heap.size, 0, none⟩ q0).setCell ⟨wc.heap.size, 1, none⟩ q1).setCell ⟨wc.heap.size, 2, none⟩ q2).setCell ⟨wc.heap.size, 3, none⟩ q3).setCell ⟨wc.heap.size, 4, none⟩ q4).setCell ⟨wc.heap.size, 5, none⟩ q5).setCell ⟨wc.heap.size, 6, none⟩ q6).setCell ⟨wc.heap.size, 7, none⟩ q7).setCell ⟨wc.heap.size, 8, none⟩ q8).setCell ⟨wc.heap.size, 9, none⟩ q9).setCell ⟨wc.heap.size, 10, none⟩ q10).setCell ⟨wc.heap.size, 11, none⟩ q11).setCell ⟨wc.heap.size, 12, none⟩ q12).cell? ⟨g5, 2, none⟩ = some (.int .i64 x.ep) ∧ (((((((((((((w2.setCell ⟨wc.heap.size, 0, none⟩ q0).setCell ⟨wc.heap.size, 1, none⟩ q1).setCell ⟨wc.heap.size, 2, none⟩ q2).setCell ⟨wc.heap.size, 3, none⟩ q3).setCell ⟨wc.heap.size, 4, none⟩ q4).setCell ⟨wc.heap.size, 5, none⟩ q5).setCell ⟨wc.heap.size, 6, none⟩ q6).setCell ⟨wc.heap.size, 7, none⟩ q7).setCell ⟨wc.heap.size, 8, none⟩ q8).setCell ⟨wc.heap.size, 9, none⟩ q9).setCell ⟨wc.heap.size, 10, none⟩ q10).setCell ⟨wc.heap.size, 11, none⟩ q11).setCell ⟨wc.heap.size, 12, none⟩ q12).cell? ⟨g5, 3, none⟩ = some (.int .i64 x.n) ∧ (((((((((((((w2.setCell ⟨wc.heap.size, 0, none⟩ q0).setCell ⟨wc.heap.size, 1, none⟩ q1).setCell ⟨wc.heap.size, 2, none⟩ q2).setCell ⟨wc.heap.size, 3, none⟩ q3).setCell ⟨wc.heap.size, 4, none⟩ q4).setCell ⟨wc.heap.size, 5, none⟩ q5).setCell ⟨wc.heap.size, 6, none⟩ q6).setCell ⟨wc.heap.size, 7, none⟩ q7).setCell ⟨wc.heap.size, 8, none⟩ q8).setCell ⟨wc.heap.size, 9, none⟩ q9).setCell ⟨wc.heap.size, 10, none⟩ q10).setCell ⟨wc.heap.size, 11, none⟩ q11).setCell ⟨wc.heap.size, 12, none⟩ q12).cell? ⟨g5, 4, none⟩ = some (.int .i64 x.lsn) ∧ (((((((((((((w2.setCell ⟨wc.heap.size, 0, none⟩ q0).setCell ⟨wc.heap.size, 1, none⟩ q1).setCell ⟨wc.heap.size, 2, none⟩ q2).setCell ⟨wc.heap.size, 3, none⟩ q3).setCell ⟨wc.heap.size, 4, none⟩ q4).setCell ⟨wc.heap.size, 5, none⟩ q5).setCell ⟨wc.heap.size, 6, none⟩ q6).setCell ⟨wc.heap.size, 7, none⟩ q7).setCell ⟨wc.heap.size, 8, none⟩ q8).setCell ⟨wc.heap.size, 9, none⟩ q9).setCell ⟨wc.heap.size, 10, none⟩ q10).setCell ⟨wc.heap.size, 11, none⟩ q11).setCell ⟨wc.heap.size, 12, none⟩ q12).cell? ⟨g5, 5, none⟩ = some (.int .i64 x.prev) ∧ (((((((((((((w2.setCell ⟨wc.heap.size, 0, none⟩ q0).setCell ⟨wc.heap.size, 1, none⟩ q1).setCell ⟨wc.heap.size, 2, none⟩ q2).setCell ⟨wc.heap.size, 3, none⟩ q3).setCell ⟨wc.heap.size, 4, none⟩ q4).setCell ⟨wc.heap.size, 5, none⟩ q5).setCell ⟨wc.heap.size, 6, none⟩ q6).setCell ⟨wc.heap.size, 7, none⟩ q7).setCell ⟨wc.heap.size, 8, none⟩ q8).setCell ⟨wc.heap.size, 9, none⟩ q9).setCell ⟨wc.heap.size, 10, none⟩ q10).setCell ⟨wc.heap.size, 11, none⟩ q11).setCell ⟨wc.heap.size, 12, none⟩ q12).cell? ⟨g5, 6, none⟩ = some (.int .i64 (i : Int)) ∧ (((((((((((((w2.setCell ⟨wc.heap.size, 0, none⟩ q0).setCell ⟨wc.heap.size, 1, none⟩ q1).setCell ⟨wc.heap.size, 2, none⟩ q2).setCell ⟨wc.heap.size, 3, none⟩ q3).setCell ⟨wc.heap.size, 4, none⟩ q4).setCell ⟨wc.heap.size, 5, none⟩ q5).setCell ⟨wc.heap.size, 6, none⟩ q6).setCell ⟨wc.heap.size, 7, none⟩ q7).setCell ⟨wc.heap.size, 8, none⟩ q8).setCell ⟨wc.heap.size, 9, none⟩ q9).setCell ⟨wc.heap.size, 10, none⟩ q10).setCell ⟨wc.heap.size, 11, none⟩ q11).setCell ⟨wc.heap.size, 12, none⟩ q12).cell? ⟨g5, 7, none⟩ = some (.int .i64 x.slot) ∧ (((((((((((((w2.setCell ⟨wc.heap.size, 0, none⟩ q0).setCell ⟨wc.heap.size, 1, none⟩ q1).setCell ⟨wc.heap.size, 2, none⟩ q2).setCell ⟨wc.heap.size, 3, none⟩ q3).setCell ⟨wc.heap.size, 4, none⟩ q4).setCell ⟨wc.heap.size, 5, none⟩ q5).setCell ⟨wc.heap.size, 6, none⟩ q6).setCell ⟨wc.heap.size, 7, none⟩ q7).setCell ⟨wc.heap.size, 8, none⟩ q8).setCell ⟨wc.heap.size, 9, none⟩ q9).setCell ⟨wc.heap.size, 10, none⟩ q10).setCell ⟨wc.heap.size, 11, none⟩ q11).setCell ⟨wc.heap.size, 12, none⟩ q12).cell? ⟨g5, 8, none⟩ = some (.bool x.wu) ∧ (((((((((((((w2.setCell ⟨wc.heap.size, 0, none⟩ q0).setCell ⟨wc.heap.size, 1, none⟩ q1).setCell ⟨wc.heap.size, 2, none⟩ q2).setCell ⟨wc.heap.size, 3, none⟩ q3).setCell ⟨wc.heap.size, 4, none⟩ q4).setCell ⟨wc.heap.size, 5, none⟩ q5).setCell ⟨wc.heap.size, 6, none⟩ q6).setCell ⟨wc.heap.size, 7, none⟩ q7).setCell ⟨wc.heap.size, 8, none⟩ q8).setCell ⟨wc.heap.size, 9, none⟩ q9).setCell ⟨wc.heap.size, 10, none⟩ q10).setCell ⟨wc.heap.size, 11, none⟩ q11).setCell ⟨wc.heap.size, 12, none⟩ q12).cell? ⟨g5, 9, none⟩ = some (.string x.wd) ∧ (((((((((((((w2.setCell ⟨wc.heap.size, 0, none⟩ q0).setCell ⟨wc.heap.size, 1, none⟩ q1).setCell ⟨wc.heap.size, 2, none⟩ q2).setCell ⟨wc.heap.size, 3, none⟩ q3).setCell ⟨wc.heap.size, 4, none⟩ q4).setCell ⟨wc.heap.size, 5, none⟩ q5).setCell ⟨wc.heap.size, 6, none⟩ q6).setCell ⟨wc.heap.size, 7, none⟩ q7).setCell ⟨wc.heap.size, 8, none⟩ q8).setCell ⟨wc.heap.size, 9, none⟩ q9).setCell ⟨wc.heap.size, 10, none⟩ q10).setCell ⟨wc.heap.size, 11, none⟩ q11).setCell ⟨wc.heap.size, 12, none⟩ q12).cell? ⟨g5, 10, none⟩ = some (.bool x.iu) ∧ (((((((((((((w2.setCell ⟨wc.heap.size, 0, none⟩ q0).setCell ⟨wc.heap.size, 1, none⟩ q1).setCell ⟨wc.heap.size, 2, none⟩ q2).setCell ⟨wc.heap.size, 3, none⟩ q3).setCell ⟨wc.heap.size, 4, none⟩ q4).setCell ⟨wc.heap.size, 5, none⟩ q5).setCell ⟨wc.heap.size, 6, none⟩ q6).setCell ⟨wc.heap.size, 7, none⟩ q7).setCell ⟨wc.heap.size, 8, none⟩ q8).setCell ⟨wc.heap.size, 9, none⟩ q9).setCell ⟨wc.heap.size, 10, none⟩ q10).setCell ⟨wc.heap.size, 11, none⟩ q11).setCell ⟨wc.heap.size, 12, none⟩ q12).cell? ⟨g5, 11, none⟩ = some (.string x.id) ∧ (((((((((((((w2.setCell ⟨wc.heap.size, 0, none⟩ q0).setCell ⟨wc.heap.size, 1, none⟩ q1).setCell ⟨wc.heap.size, 2, none⟩ q2).setCell ⟨wc.heap.size, 3, none⟩ q3).setCell ⟨wc.heap.size, 4, none⟩ q4).setCell ⟨wc.heap.size, 5, none⟩ q5).setCell ⟨wc.heap.size, 6, none⟩ q6).setCell ⟨wc.heap.size, 7, none⟩ q7).setCell ⟨wc.heap.size, 8, none⟩ q8).setCell ⟨wc.heap.size, 9, none⟩ q9).setCell ⟨wc.heap.size, 10, none⟩ q10).setCell ⟨wc.heap.size, 11, none⟩ q11).setCell ⟨wc.heap.size, 12, none⟩ q12).cell? ⟨g5, 12, none⟩ = some (.int .i64 x.next) from fun q0 q1 q2 q3 q4 q5 q6 q7 q8 q9 q10 q11 q12 => HS.out _ (Ent.below13 B2.out HGB.out _ _ _ _ _ _ _ _ _ _ _ _ _))) | skip); clear b2; have z2 := HS.out w2 B2.out))
        all_goals
          go_wp2_with fail
          go_meet
          case rel =>
            first
            | (with_unfolding_none exact ⟨_, rfl, rfl, Lib.hid ⟨Blk.new w2 _ _, below_go B2.out (Ent.below_box _ _), B2.out.size⟩⟩)
            | (refine ⟨_, rfl, rfl, Lib.hid ⟨?_, ?_, HGB.out⟩⟩
               · exact blk13 HBX.out _ _ _ _ _ _ _ _ _ _ _ _ _
               · exact Ent.below13 B2.out HGB.out _ _ _ _ _ _ _ _ _ _ _ _ _)
      case rest =>
        obtain ⟨g7, rfl, rfl, H7⟩ := hcut
        clear z0 z1 HS HLS HTN
        have HB7 := Lib.hid (below_go H5.out.2.1 H7.out.2.1)
        have HP7 := Lib.hid (H0.out.below HB7.out)
        have HBB7 := Lib.hid (show Below B w wc from HB7.out.mono (by have := HUW.out; omega))
        obtain ⟨c0, c1, c2, c3, c4, c5, c6, c7, c8, c9, c10, c11, c12⟩ := Ent.ent_cells H7.out.1
        by_cases hz : CC = 0
        · obtain ⟨y1, y2, y3⟩ := HYY.out.2.2 hz
          have HAD := Lib.hid (add_any HP7.out hBu yy y1 (fun _ => ⟨i, hi4, y2⟩) (show c < 5 by omega) y3 (by have := HSN.out.len; omega) (by have := HSN.out.alen; omega))
          have HOUT := Lib.hid (show undoB p c = addB p yy ∧ undoP p c = addP p yy from ⟨by rw [HYY.out.1, hz]; simp, by rw [HYY.out.2.1, if_pos hz]⟩)
          subst hz
          clear y1 y2 y3
          go_wp2_with ((with_reducible refine (HAD.out).mono ?_); rintro e w9 ⟨rfl, h9, b9⟩; have H9 := Lib.hid (And.intro h9 b9); clear h9 b9)
          exact bodyPost_ret (v := .bool (addB p yy)) (by simp [results, Tryz.results43, go_sem]) rfl ⟨by rw [HOUT.out.1], by rw [HOUT.out.2]; exact H9.out.1, HBB7.out.trans H9.out.2⟩
        · have e1 : (CC == 0) = false := by simp [hz]
          have e2 : decide (CC = 0) = false := decide_eq_false hz
          have HOUT := Lib.hid (show undoB p c = false ∧ undoP p c = p from ⟨by rw [HYY.out.1, e2]; rfl, by rw [HYY.out.2.1, if_neg hz]⟩)
          clear hz
          go_wp2
          exact bodyPost_ret (v := .bool false) (by simp [results, Tryz.results43, go_sem]) rfl ⟨by rw [HOUT.out.1], by rw [HOUT.out.2]; exact ⟨M, _, nv, av, HP7.out, hBu⟩, HBB7.out⟩
end
end Go.Proofs.YtkeocnhndnbamaaGreat.Mend
