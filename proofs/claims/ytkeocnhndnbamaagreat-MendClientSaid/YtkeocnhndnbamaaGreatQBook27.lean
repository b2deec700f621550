/- Pages of whatever versions that a log had: the statements' own mixed, walked. Undo, as the program does it, given what begin answers and a plain account of the undoing. The undoing, as plain data: what a step wants, and what it leaves. The losers of a log, as past.Read tells them. -/
import Derived.Test.YtkeocnhndnbamaaGreatQBook25
import Derived.Test.YtkeocnhndnbamaaGreatQBook26
import Derived.Test.YtkeocnhndnbamaaGreatQMendAllP
import Derived.Test.YtkeocnhndnbamaaGreatQBook15
import Derived.Test.YtkeocnhndnbamaaGreatQBook9
namespace Go.Proofs.YtkeocnhndnbamaaGreat.Mend
set_option maxRecDepth 100000
open Go.RowKit Go.Sort
open Go.Proofs.YtkeocnhndnbamaaGreat.Mem
open Go.Proofs.YtkeocnhndnbamaaGreat.Slab (Slot Slots)
open Go.Proofs.YtkeocnhndnbamaaGreat.Ent (Ent goodB)
open Go.Proofs.YtkeocnhndnbamaaGreat.Past (AppRes cellsG cellsG_len cellsG_at)
open Go.Proofs.YtkeocnhndnbamaaGreat.MLog
def verK (f : Nat → Int) (k n : Nat) : Nat := cutN (f n) ((k + 1 : Nat) : Int)
def pg0 : Pgs := fun _ => (0, [])
def mixL (p : PD) (k : Nat) (f : Nat → Int) : List Lf := (List.range 4).map fun n : Nat => ⟨(n : Int), ((p.all.getD (verK f k n) pg0) n).1, ((p.all.getD (verK f k n) pg0) n).2⟩
theorem mix_next (p : PD) (k : Nat) (f : Nat → Int) {j : Nat} (hj : j < 4) {nw : Pgs} (h : p.all[verK f k j]? = some nw) : (mixL p k f).take (j + 1) = (mixL p k f).take j ++ [⟨(j : Int), (nw j).1, (nw j).2⟩] := by
  have e : (mixL p k f)[j]? = some ⟨(j : Int), (nw j).1, (nw j).2⟩ := by
    unfold mixL
    rw [List.getElem?_map, List.getElem?_range hj, Option.map_some]
    rw [show p.all.getD (verK f k j) pg0 = nw by rw [List.getD_eq_getElem?_getD, h]; rfl]
  rw [List.take_add_one, e]; rfl
theorem ver_le (f : Nat → Int) {k : Nat} (n : Nat) (hk : k ≤ 900) : verK f k n ≤ k ∧ wrap64 ((IntKind.u64.wrap (f n)).tmod ((k + 1 : Nat) : Int)) = (verK f k n : Int) := by
  obtain ⟨h1, h2⟩ := cutN_is (f n) ((k + 1 : Nat) : Int) (by omega) (by omega)
  exact ⟨by unfold verK; omega, h1⟩
section
variable {w : World} {B u : Nat} {M : Nat → Prop} {lv nv av : Value} {p : PD}
set_option maxRecDepth 100000 in
set_option maxHeartbeats 16000000 in
theorem mixed_own (h : PM w B u M lv nv av p) (k : Nat) (hk : k < p.all.length) (hal : p.all.length ≤ 900) (f : Nat → Int) :
    Calls Tryz.prog 12 #[.pointer (some ⟨u, 0, none⟩), .int .i64 (k : Int), .agg #[.int .i64 (f 0), .int .i64 (f 1), .int .i64 (f 2), .int .i64 (f 3)]] w fun e w' => ∃ a c R, e = .returned (.slice a 4 c) ∧ (RD w w' (.slice a 4 c) R ∧ R.map (·.x) = mixL p k f ∧ ∀ y ∈ R, ∀ b off e, y.a = some ⟨b, off, e⟩ → 0 < y.n → M b) ∧ Below w.heap.size w w' := by
  have H0 := Lib.hid h
  have hbx := Ent.below_box w (.cells #[.int .i64 (f 0), .int .i64 (f 1), .int .i64 (f 2), .int .i64 (f 3)] 23)
  have HB1 := Lib.hid hbx
  have HV := Lib.hid (Blk.new w 23 #[.int .i64 (f 0), .int .i64 (f 1), .int .i64 (f 2), .int .i64 (f 3)])
  have hs1 : (w.alloc (.cells #[.int .i64 (f 0), .int .i64 (f 1), .int .i64 (f 2), .int .i64 (f 3)] 23)).heap.size = w.heap.size + 1 := by simp
  have HS1 := Lib.hid hs1
  obtain ⟨KK, hKK⟩ : ∃ KK : Nat, k + 1 = KK := ⟨_, rfl⟩
  have w1 : wrap64 ((k : Int) + 1) = (KK : Int) := by rw [IntWalk.wrap64_in _ (by omega)]; omega
  have w2 : IntKind.i64.wrap ((k : Int) + 1) = (KK : Int) := by rw [IntWalk.i64_left]; exact w1
  have w3 : IntKind.u64.wrap (KK : Int) = (KK : Int) := by rw [IntKind.wrap_u64]; omega
  have w4 : ¬ ((KK : Int) = 0) := by omega
  have w5 : ((KK : Int) == 0) = false := beq_eq_false_iff_ne.2 w4
  have w6 : (0 : Int) < (KK : Int) := by omega
  have w7 : ¬ KK = 0 := by omega
  have w8 : (KK == 0) = false := beq_eq_false_iff_ne.2 w7
  have w9 : decide ((KK : Int) = 0) = false := decide_eq_false w4
  have w10 : decide (KK = 0) = false := decide_eq_false w7
  have HKK := Lib.hid hKK
  clear h hbx hs1 hKK
  go_enter Tryz.func12, Tryz.ntmps12
  go_upto_region 1 with (fail)
  obtain ⟨g5, hg5⟩ : ∃ g5, w.heap.size = g5 := ⟨_, rfl⟩
  have HG5 := Lib.hid hg5
  rw [hg5] at HV HS1
  try rw [hg5]
  clear hg5
  generalize hGen : w.alloc (.cells #[.int .i64 (f 0), .int .i64 (f 1), .int .i64 (f 2), .int .i64 (f 3)] 23) = W1 at HB1 HV HS1 ⊢
  clear hGen
  go_upto_region 2 with (fail)
  have H2 := Lib.hid (show RD w (W1.alloc (.cells #[] 54)) (.slice (some ⟨W1.heap.size, 0, none⟩) 0 0) [] ∧ Below w.heap.size w (W1.alloc (.cells #[] 54)) ∧ Blk (W1.alloc (.cells #[] 54)) g5 23 #[.int .i64 (f 0), .int .i64 (f 1), .int .i64 (f 2), .int .i64 (f 3)] from
    ⟨⟨Past.own_base (Past.own_new W1 54 3) HB1.out.size, fun y hy => (nomatch hy)⟩, below_go HB1.out (Ent.below_box _ _), HV.out.alloc _⟩)
  obtain ⟨v0, hv0⟩ : ∃ v0 : Value, (.slice (some ⟨W1.heap.size, 0, none⟩) 0 0 : Value) = v0 := ⟨_, rfl⟩
  rw [hv0] at H2
  have HV0 := Lib.hid hv0
  try rw [hv0]
  clear hv0 HV HB1
  go_wp2_with fail
  go_loopw [7, 8] (fun v iv wr => ∃ (j : Nat) (R : List Ro), j ≤ 4 ∧ iv = .int .i64 (j : Int) ∧ R.map (·.x) = (mixL p k f).take j ∧ Hid (RD w wr v R ∧ Below w.heap.size w wr ∧ Blk wr g5 23 #[.int .i64 (f 0), .int .i64 (f 1), .int .i64 (f 2), .int .i64 (f 3)]) ∧ Hid (∀ y ∈ R, ∀ b off e, y.a = some ⟨b, off, e⟩ → 0 < y.n → M b)) (fun _ iv _ => 4 - intN iv)
  case atStart => exact ⟨0, [], by omega, rfl, rfl, by first | exact H2 | (rw [← HV0.out] at H2; exact H2) | (rw [HV0.out]; exact H2), Lib.hid fun y hy => (nomatch hy)⟩
  case round =>
    clear H2 HV0
    obtain ⟨j, R, hj, rfl, hR, HJ, HOLD⟩ := hrel
    have HRM := Lib.hid hR
    clear hR
    by_cases hjl : j < 4
    · have hd : decide ((j : Int) < 4) = true := decide_eq_true (by omega)
      have hj0 : (0 : Int) ≤ (j : Int) := by omega
      have hjI : (j : Int) < 4 := by omega
      obtain ⟨hK1, hK2⟩ := ver_le f (k := k) j (by omega)
      obtain ⟨K, hK⟩ : ∃ K, verK f k j = K := ⟨_, rfl⟩
      rw [hK] at hK1 hK2
      rw [HKK.out] at hK2
      obtain ⟨fj, hfj⟩ : ∃ fj, f j = fj := ⟨_, rfl⟩
      rw [hfj] at hK2
      have hKe2 : IntKind.i64.wrap ((IntKind.u64.wrap fj).tmod (KK : Int)) = (K : Int) := by rw [IntWalk.i64_left]; exact hK2
      have hPM := H0.out.below HJ.out.2.1
      obtain ⟨vs, v1, v2, v3⟩ := hPM.all
      obtain ⟨ga, ac, eav, -, hga, hca⟩ := own_pos v2 (by omega)
      have hnw : ∃ nw, p.all[K]? = some nw := ⟨_, List.getElem?_eq_getElem (by omega)⟩
      obtain ⟨nw, hnw⟩ := hnw
      have hvK : ∃ v, vs[K]? = some v := ⟨_, List.getElem?_eq_getElem (by omega)⟩
      obtain ⟨vK, hvK⟩ := hvK
      obtain ⟨gr, cr, er, hmr, -, hcr⟩ := v3 K vK nw hvK hnw
      obtain ⟨a5, m5, d5, p0, p1, p2, hsl⟩ := hcr j hjl
      subst er
      have u2 : wr.cell? ⟨u, 2, none⟩ = some (.slice (some ⟨ga, 0, none⟩) p.all.length ac) := by rw [hPM.blk.cell, ← eav]; rfl
      have aK : wr.cell? ⟨ga, K, none⟩ = some (.slice (some ⟨gr, 0, none⟩) 4 cr) := (hca K (by omega)).trans hvK
      have bj : wr.cell? ⟨g5, j, none⟩ = some (.int .i64 fj) := by
        rw [HJ.out.2.2.cell, ← hfj]
        rcases (show j = 0 ∨ j = 1 ∨ j = 2 ∨ j = 3 by omega) with rfl | rfl | rfl | rfl <;> rfl
      have HMN := Lib.hid (mix_next p k f hjl (by rw [hK]; exact hnw))
      obtain ⟨PL, hPL⟩ : ∃ PL, (nw (j : Int)).1 = PL := ⟨_, rfl⟩
      obtain ⟨PZ, hPZ⟩ : ∃ PZ, (nw (j : Int)).2 = PZ := ⟨_, rfl⟩
      rw [hPL] at p1 HMN
      rw [hPZ] at hsl HMN
      have hKl : (K : Int) < (p.all.length : Int) := by omega
      have hK0 : (0 : Int) ≤ (K : Int) := by omega
      have hKd : decide ((K : Int) < (p.all.length : Int)) = true := decide_eq_true hKl
      have HSL := Lib.hid hsl
      have HMLT := Lib.hid (fun b (hb : M b) => H0.out.mlt b hb)
      obtain ⟨va, vc, hva⟩ := own_shape HJ.out.1.row
      subst hva
      have hRl : R.length = j := by
        have h1 := congrArg List.length HRM.out
        rw [List.length_map, List.length_take] at h1
        have : (mixL p k f).length = 4 := by unfold mixL; simp
        omega
      have hbz := Ent.below_box wr (.cells #[.int .i64 (j : Int), .int .i64 PL, .slice a5 m5 d5] 54)
      have hX2 := Lib.hid (Blk.new wr 54 #[.int .i64 (j : Int), .int .i64 PL, .slice a5 m5 d5])
      have HBZ := Lib.hid hbz
      have HO := Lib.hid HJ.out.1.row
      have HBB := Lib.hid (show w.heap.size ≤ wr.heap.size from HJ.out.2.1.size)
      have HRL := Lib.hid (show R.length ≤ 900000 by omega)
      have hOWN := fun g (hg : (Value.slice va R.length vc).ownBlock = some g) => Past.own_ge HJ.out.1.row hg
      have FIN := Lib.hid (show ∀ (wa w9 : World) (v9 : Value), Below wr.heap.size wr wa → AppRes wa w9 w.heap.size 54 3 (.slice va R.length vc) v9 (R.length + 1) (cellsG lrV (R ++ [⟨⟨(j : Int), PL, PZ⟩, a5, m5, d5⟩])) →
          (RD w w9 v9 (R ++ [⟨⟨(j : Int), PL, PZ⟩, a5, m5, d5⟩]) ∧ Below w.heap.size w w9 ∧ Blk w9 g5 23 #[.int .i64 (f 0), .int .i64 (f 1), .int .i64 (f 2), .int .i64 (f 3)]) ∧ (∀ y ∈ R ++ [(⟨⟨(j : Int), PL, PZ⟩, a5, m5, d5⟩ : Ro)], ∀ b off e, y.a = some ⟨b, off, e⟩ → 0 < y.n → M b) from fun wa w9 v9 hb hA => by
        have hwa := HBB.out
        have hwb := hb.size
        have hmM : ∀ b off e, a5 = some ⟨b, off, e⟩ → 0 < m5 → M b := fun b off e ha h0 => HSL.out.2.2 b off e ha h0
        have hmb : ∀ b off e, a5 = some ⟨b, off, e⟩ → 0 < m5 → b < w.heap.size := fun b off e ha h0 => HMLT.out b (hmM b off e ha h0)
        refine ⟨⟨(HJ.out.1.below hb).add hA (HSL.out.1.below hb) (by have := HSL.out.2.1; unfold maxLen; show m5 ≤ _; omega) ⟨by show _ ≤ (j : Int); omega, by show (j : Int) ≤ _; omega⟩ (fun b off e ha h0 => ⟨fun e2 => by have := hOWN b e2; have := hmb b off e ha h0; omega, by have := hmb b off e ha h0; omega⟩) (fun z hz b off e ha h0 => by have := HMLT.out b (HOLD.out z hz b off e ha h0); omega), ?_, ?_⟩, fun y hy b off e ha h0 => ?_⟩
        · exact Past.below_grown (below_go HJ.out.2.1 hb) (by omega) hA.2.1 hOWN
        · exact (HJ.out.2.2.below hb HJ.out.2.2.lt).grown hA.2.1 (fun e => own_ty HJ.out.1.row HJ.out.2.2 (by decide) e.symm)
        · rcases List.mem_append.1 hy with hy | hy
          · exact HOLD.out y hy b off e ha h0
          · have e3 : y = ⟨⟨(j : Int), PL, PZ⟩, a5, m5, d5⟩ := by simpa using hy
            subst e3
            exact hmM b off e ha h0)
      clear hPM v1 v2 v3 eav hga hca hnw hvK hmr hcr hsl hPL hPZ hK hfj hbz hK1 hOWN hRl
      go_upto_region 5 with (fail)
      go_region_law (refine step_lf (wr := wr) rfl (.tmp 14) (.tmp 33) rfl w.heap.size (.slice va R.length vc) R (by simp [Act.eval]) wr.heap.size ⟨⟨(j : Int), PL, PZ⟩, a5, m5, d5⟩ (by simp [Act.eval]) ?hp HO.out HBB.out HRL.out ?_; (case hp => first | exact ⟨HBZ.out.drew, hX2.out⟩ | exact ⟨HBZ.out, hX2.out⟩); intro v9 w9 hb9 hA9; have HE := Lib.hid (FIN.out _ _ _ hb9 hA9); clear hb9 hA9)
      all_goals
        have HM2 := Lib.hid (show (R ++ [(⟨⟨(j : Int), PL, PZ⟩, a5, m5, d5⟩ : Ro)]).map (·.x) = (mixL p k f).take (j + 1) by rw [List.map_append, HMN.out, HRM.out]; rfl)
        have HE1 := Lib.hid HE.out.1
        have HE2 := Lib.hid HE.out.2
        clear u2 aK bj p0 p1 p2 HE FIN hK2 hKe2
        go_wp2
        go_roundw
        case rel => exact ⟨j + 1, _, by omega, by go_num, HM2.out, HE1, HE2⟩
        case measure => simp [intN]; omega
    · obtain rfl : j = 4 := by omega
      have hd : decide ((4 : Int) < 4) = false := by decide
      obtain ⟨a9, c9, e9⟩ := own_shape HJ.out.1.row
      have hRM := HRM.out
      rw [List.take_of_length_le (by unfold mixL; simp)] at hRM
      have hRl : R.length = 4 := by
        have h1 := congrArg List.length hRM
        rw [List.length_map] at h1
        rw [h1]; unfold mixL; simp
      rw [hRl] at e9
      subst e9
      have HFIN := Lib.hid (show (RD w wr (.slice a9 4 c9) R ∧ R.map (·.x) = mixL p k f ∧ ∀ y ∈ R, ∀ b off e, y.a = some ⟨b, off, e⟩ → 0 < y.n → M b) ∧ Below w.heap.size w wr from ⟨⟨HJ.out.1, hRM, HOLD.out⟩, HJ.out.2.1⟩)
      clear hRM HJ HRM HOLD hRl
      go_wp2
      exact bodyPost_ret (v := .slice a9 4 c9) (by simp [results, Tryz.results12, go_sem]) rfl ⟨a9, c9, R, rfl, HFIN.out.1, HFIN.out.2⟩
theorem RD.leaves {w W : World} {a : Option Addr} {n c : Nat} {R : List Ro} {L : List Lf} (h : RD w W (.slice a n c) R) (e : R.map (·.x) = L) : LeavesI W a n L := by
  obtain ⟨a9, c9, e9, hlv⟩ := leaves_own h.row (fun y hy => ⟨(h.sl y hy).1, (h.sl y hy).2.1, (h.sl y hy).2.2.1⟩)
  injection e9 with e1 e2 e3
  rw [e, ← e1, ← e2] at hlv
  exact hlv
theorem mixed_any (h : PM w B u M lv nv av p) (k : Nat) (hk : k < p.all.length) (hal : p.all.length ≤ 900) (f : Nat → Int) :
    Calls Tryz.prog 12 #[.pointer (some ⟨u, 0, none⟩), .int .i64 (k : Int), .agg #[.int .i64 (f 0), .int .i64 (f 1), .int .i64 (f 2), .int .i64 (f 3)]] w fun e w' => ∃ a c, e = .returned (.slice a 4 c) ∧ LeavesI w' a 4 (mixL p k f) ∧ Below w.heap.size w w' :=
  (mixed_own h k hk hal f).mono fun _ _ ⟨a, c, _, e, h1, h2⟩ => ⟨a, c, e, h1.1.leaves h1.2.1, h2⟩
end
end Go.Proofs.YtkeocnhndnbamaaGreat.Mend
namespace Go.Proofs.YtkeocnhndnbamaaGreat.Mend
set_option maxRecDepth 100000
open Go.RowKit Go.Sort
open Go.Proofs.YtkeocnhndnbamaaGreat.Mem
open Go.Proofs.YtkeocnhndnbamaaGreat.Slab (Slot Slots)
open Go.Proofs.YtkeocnhndnbamaaGreat.Ent (Ent goodB Ents EntAt SmallE entA cellsE noE)
open Go.Proofs.YtkeocnhndnbamaaGreat.Past (T3 SmT txE AppRes cellsG)
/-- what is to be known of the losers and the pages with which it begins: Post is what then holds of the entries added and of the pages -/
structure Plan (L : List Ent) (ls : List Lf) (P : List Ro) (Z : List LZ) (Post : List Ent → List Lf → Prop) : Prop where
  nx : ∀ z ∈ Z, nextL L z.t ≠ none
  sm : ∀ z ∈ Z, SmT z.t
  len : Z.length ≤ 1000
  way : ∃ (J : Nat → List LZ → List Nat → List Ro → List Ent → Prop) (N : Nat), (∀ Q, Q.Perm (Z.flatMap fun z => bO z (nxO L z.t)) → J N (mapZ (nz1 L) Z Z.length) Q P []) ∧ (∀ n Z Q P A, J n Z Q P A → Q.length ≤ 800000) ∧
    (∀ n Z Q P A, J n Z Q P A → ∀ p Q', (p :: Q').Perm Q → ∃ n' i z k y lsn x o, n' < n ∧ UO L ls J n' Z Q' P A p i z k y lsn x o) ∧
    ∀ n Z' P' A', J n Z' [] P' A' → (∀ z ∈ Z', 0 ≤ z.last ∧ z.last < 1099511627776) ∧ Z'.length ≤ 1000 ∧ A'.length ≤ 800000 ∧ (∀ x ∈ A' ++ Z'.map endE, SmallE x) ∧ (∀ y ∈ P', -9223372036854775808 ≤ y.x.n ∧ y.x.n ≤ 9223372036854775807) ∧ Post (A' ++ Z'.map endE) (P'.map (·.x))
theorem own_cap {w : World} {B size n c : Nat} {t : TypeId} {a : Option Addr} {xs : List Value} (h : w.ownsRow B t size (.slice a n c) n xs) : n ≤ c := by
  obtain ⟨hl, ⟨e, hl0⟩ | ⟨g', cap', cur, e, hg, hb, hn2, hc, hcs, ht⟩⟩ := h
  · injection e with e1 e2 e3; omega
  · injection e with e1 e2 e3; omega
def UndoRes (Post : List Ent → List Lf → Prop) (w : World) (e : Ending) (w' : World) : Prop :=
  ∃ (E : List Ent) (R : List Lf) (a1 a2 : Option Addr) (c1 c2 : Nat), e = .returned (.tuple #[.slice a1 E.length c1, .slice a2 R.length c2, .int .i64 0]) ∧ Post E R ∧ (Ents w' a1 E.length E ∧ E.length ≤ c1) ∧ LeavesI w' a2 R.length R ∧ Below w.heap.size w w'
set_option maxRecDepth 100000 in
set_option maxHeartbeats 8000000 in
theorem undo_walk (la : Option Addr) (n lc : Nat) (L : List Ent) (a : Option Addr) (m c : Nat) (ls : List Lf) (cl : Int) (w : World) (hL : Ents w la n L) (h : LeavesI w a m ls) (hn : n ≤ 1000000) (hm : m ≤ 100) (hok : PagesOK ls) (hf : Fits L ls) (hG : ∀ x ∈ L, goodB x = true) (hcl : 0 ≤ cl ∧ cl ≤ 8) (Post : List Ent → List Lf → Prop)
    (hb : ∀ W, Below w.heap.size w W → Calls Tryz.prog 28 #[.slice la n lc, .slice a m c, .int .i64 cl] W fun e w' => ∃ u M D P Z, e = .returned (.pointer (some ⟨u, 0, none⟩)) ∧ WM w' W.heap.size u M D L ls P Z [] [] ∧ Below W.heap.size W w' ∧ Plan L ls P Z Post) :
    Calls Tryz.prog 15 #[.slice la n lc, .slice a m c, .int .i64 cl] w (UndoRes Post w) := by
  have HF := Lib.hid (fit_any la n lc L a m c ls w hL h hn hm hok hf)
  have HB := Lib.hid hb
  have HG := Lib.hid hG
  have d1 : decide (cl < 0) = false := decide_eq_false (by omega)
  have d2 : decide (cl > 8) = false := decide_eq_false (by omega)
  clear hL h hok hf hG hb
  go_enter Tryz.func15, Tryz.ntmps15
  go_upto_region 10 with (first
    | (with_reducible refine (HF.out).mono ?_
       rintro e w1 ⟨rfl, b1⟩
       have B1 := Lib.hid b1
       clear b1)
    | (with_reducible refine (HB.out _ B1.out).mono ?_
       rintro e w2 ⟨u, M, D, P, Z, rfl, h2, b2, hpl⟩
       have H2 := Lib.hid h2
       have B2 := Lib.hid b2
       obtain ⟨J, N, j0, jq, js, je⟩ := hpl.way
       have HE := Lib.hid je
       have LA := Lib.hid (undoAll_any h2 hpl.nx hpl.sm HG.out hpl.len J N j0 jq js)
       clear h2 b2 hpl j0 jq js je)
    | (with_reducible refine (LA.out).mono ?_
       rintro e w3 ⟨rfl, n', M', qv, av, Z', P', A', h3⟩
       have H3 := Lib.hid h3
       obtain ⟨p1, p2, p3, p4, p5, p6⟩ := HE.out _ _ _ _ h3.j
       have HPO := Lib.hid p6
       have HSM := Lib.hid p4
       have HPN := Lib.hid p5
       have LE := Lib.hid (endAll_any h3.m p1 p2 p3)
       clear h3 p1 p2 p3 p4 p5 p6)
    | (with_reducible refine (LE.out).mono ?_
       rintro e w4 ⟨rfl, h4⟩
       have H4 := Lib.hid h4
       clear h4))
  obtain ⟨v, HW⟩ := H4.out.m
  rw [List.take_length] at HW
  obtain ⟨a1, c1, e1, hE, -⟩ := Past.ents_own HW.ad HSM.out
  obtain ⟨a2, c2, e2, hLv⟩ := leaves_own HW.pg (fun y hy => ⟨(HW.sl y hy).1, Nat.le_trans (HW.sl y hy).2.1 (by decide), HPN.out y hy⟩)
  have hcap : (A' ++ Z'.map endE).length ≤ c1 := by have hh := HW.ad; rw [show v = _ from e1] at hh; exact own_cap hh
  have q7' := HW.blk.cell 7
  have q3' := HW.blk.cell 3
  have q7 : w4.cell? ⟨u, 7, none⟩ = some (.slice a1 (A' ++ Z'.map endE).length c1) := by rw [← e1]; exact q7'
  have q3 : w4.cell? ⟨u, 3, none⟩ = some (.slice a2 P'.length c2) := by rw [← e2]; exact q3'
  have FIN := Lib.hid (show ∀ W, Below w4.heap.size w4 W → UndoRes Post w (.returned (.tuple #[.slice a1 (A' ++ Z'.map endE).length c1, .slice a2 P'.length c2, .int .i64 0])) W from fun W hb => by
    have h1 : Below w.heap.size w w2 := below_go B1.out B2.out
    have hbb : Below w.heap.size w w4 := (h1.trans (H3.out.b.mono B1.out.size)).trans (H4.out.b.mono B1.out.size)
    refine ⟨A' ++ Z'.map endE, P'.map (·.x), a1, a2, c1, c2, by rw [List.length_map], HPO.out, ⟨hE.next hb, hcap⟩, ?_, below_go hbb hb⟩
    rw [List.length_map]
    exact hLv.below hb)
  clear e1 e2 hE hLv q7' q3' HW
  go_region
  all_goals
    go_wp2_with fail
    have hf := FIN.out _ (Below.refl _ _).drew
    rw [List.length_append, List.length_map] at hf
    exact bodyPost_ret (v := .tuple #[.slice a1 (A'.length + Z'.length) c1, .slice a2 P'.length c2, .int .i64 0]) (by simp [results, Tryz.results15, go_sem]) rfl hf
set_option maxRecDepth 100000 in
set_option maxHeartbeats 8000000 in
/-- Restart: both -/
theorem restart_walk (la : Option Addr) (n lc : Nat) (L : List Ent) (a : Option Addr) (m c : Nat) (ls : List Lf) (w : World) (hlen : ls.length = m)
    (hr : Calls Tryz.prog 24 #[.slice la n lc, .slice a m c] w (RedoP L ls w)) (Post : List Ent → List Lf → Prop)
    (hu : ∀ W a' c', Below w.heap.size w W → LeavesI W a' m (ls.map (redoLf L)) → Calls Tryz.prog 15 #[.slice la n lc, .slice a' m c', .int .i64 0] W (UndoRes Post W)) :
    Calls Tryz.prog 11 #[.slice la n lc, .slice a m c] w (UndoRes Post w) := by
  have HR := Lib.hid hr
  have HU := Lib.hid hu
  have HL := Lib.hid hlen
  clear hr hu hlen
  go_enter Tryz.func11, Tryz.ntmps11
  go_wp2_with (first
    | (with_reducible refine (HR.out).mono ?_
       rintro e w1 ⟨a', c', rfl, hlv, hb⟩
       rw [HL.out] at hlv ⊢
       have B1 := Lib.hid hb
       have LU := Lib.hid (HU.out w1 a' c' hb hlv)
       clear hlv hb)
    | (with_reducible refine (LU.out).mono ?_
       rintro e w2 ⟨E, R, a1, a2, c1, c2, rfl, h1, h2, h3, h4⟩
       have HF := Lib.hid (show UndoRes Post w (.returned (.tuple #[.slice a1 E.length c1, .slice a2 R.length c2, .int .i64 0])) w2 from ⟨E, R, a1, a2, c1, c2, rfl, h1, h2, h3, below_go B1.out h4⟩)
       clear h1 h2 h3 h4))
  exact bodyPost_ret (v := .tuple #[.slice a1 E.length c1, .slice a2 R.length c2, .int .i64 0]) (by simp [results, Tryz.results11, go_sem]) rfl HF.out
end Go.Proofs.YtkeocnhndnbamaaGreat.Mend
namespace Go.Proofs.YtkeocnhndnbamaaGreat.Mend
set_option maxRecDepth 100000
open Go.Proofs.YtkeocnhndnbamaaGreat.Slab (Slot)
open Go.Proofs.YtkeocnhndnbamaaGreat.Ent (Ent goodB)
open Go.Proofs.YtkeocnhndnbamaaGreat.Past (T3 txE ofL)
open Go.Proofs.YtkeocnhndnbamaaGreat.MLog
open Go.Proofs.YtkeocnhndnbamaaGreat.Patch (turnY turnB redoCode redoN redoZ)
section
variable {i0 : Im} {L : List Ent} {s : St T3 Slot Im}
/-- behind a change: the next one, down its transaction's Prevs -/
theorem lead_is (hg : ∀ x ∈ L, goodB x = true) (h : Log G i0 (L.map enE) s) {y : Ent} (hy : y ∈ L) (hk : y.kind = 1) :
    (s.hist (txE y) y.prev = [] ∧ leadL L (txE y) y.prev = some none) ∨ ∃ v ∈ L, ∃ r, s.hist (txE y) y.prev = enE v :: r ∧ leadL L (txE y) y.prev = some (some v) := by
  have hO := own_log h
  have hb := hO.lsn (enE y) (List.mem_map_of_mem hy)
  have hb2 : y.lsn ≤ s.last (txE y) := hb.2
  have hc := hO.chg (enE y) (List.mem_map_of_mem hy) ((kind_nat (hg y hy)).1.2 hk)
  have hch := (inv_log h).chain _ _ _ _ hc
  have hp0 : 0 ≤ y.prev := hch.2.2.1
  have hp1 : y.prev < y.lsn := hch.2.2.2.1
  unfold leadL
  refine follow_is hg h (txE y) _ y.prev hp0 (by omega) ?_
  rcases (names h (enE y) (List.mem_map_of_mem hy)).1 with hq | ⟨q, hq, q1, q2⟩
  · exact .inl hq
  · obtain ⟨v, hv, rfl⟩ := mem_map hq
    have q1 : txE v = txE y := q1
    have q2 : v.lsn = y.prev := q2
    refine .inr ⟨v, hv, q1, q2, ?_⟩
    have kv := kind_nat (hg v hv)
    by_cases c1 : v.kind = 1
    · exact .inl c1
    · by_cases c2 : v.kind = 2
      · exact .inr c2
      · exfalso
        have hfl := fin_last h (enE v) hq (fun h => c1 (kv.1.1 h)) (fun h => c2 (kv.2.1 h))
        have hfl : v.lsn = s.last (txE v) := hfl
        rw [q1] at hfl
        omega
end
/-- undoing adds behind what was: older places stay as they were -/
theorem run_hist {T S I : Type} [DecidableEq T] {G : Img I S} {C : T → Prop} {L B : List (En T S)} {s m : St T S I} (h : Run G C L s B m) : (∀ t, s.last t ≤ m.last t) ∧ ∀ t l, l ≤ s.last t → m.hist t l = s.hist t l := by
  induction h with
  | refl => exact ⟨fun _ => Int.le_refl _, fun _ _ _ => rfl⟩
  | @snoc B m m' e h hk hC hs ih =>
    obtain ⟨i1, i2⟩ := ih
    cases hs with
    | @change i' hk2 => omega
    | @undo x r i' hk2 he hp h1 h2 =>
      dsimp only
      refine ⟨fun t => ?_, fun t l hl => ?_⟩
      · by_cases ht : t = e.t
        · subst ht
          rw [upd_same]
          have := i1 e.t
          omega
        · rw [upd_ne _ _ ht]; exact i1 t
      · by_cases ht : t = e.t
        · subst ht
          have := i1 e.t
          rw [upd_same, upd_ne _ _ (show l ≠ e.lsn by omega)]
          exact i2 e.t l hl
        · rw [upd_ne _ _ ht]; exact i2 t l hl
    | end_ hk2 => omega
/-- a change that counts is undone -/
theorem undo_step {i0 : Im} {LL : List (En T3 Slot)} {m : St T3 Slot Im} (h : Log G i0 LL m) {t : T3} {y : Ent} {r : List (En T3 Slot)} (hs : m.stk t = enE y :: r) {lsn : Int} (h1 : m.last t < lsn) (h2 : (m.pg y.page).1 < lsn) :
    txE y = t ∧ ∃ i' : Im, G.at_ (m.pg y.page).2 y.slot = ⟨y.iu, y.id⟩ ∧ G.put (m.pg y.page).2 y.slot ⟨y.wu, y.wd⟩ = some i' ∧
      Step G m (enE (turnY y lsn (m.last t))) ⟨upd m.pg y.page (lsn, i'), upd m.last t lsn, upd m.stk t r, upd m.hist t (upd (m.hist t) lsn r), m.ended, m.own⟩ := by
  obtain ⟨a1, a2, a3, a4, a5, i', a6⟩ := can_undo h hs
  have a2 : txE y = t := a2
  subst a2
  refine ⟨rfl, i', a5, a6, ?_⟩
  exact Step.undo (e := enE (turnY y lsn (m.last (txE y)))) (x := enE y) (r := r) (i' := i') rfl a4 rfl h1 h2 hs rfl rfl rfl rfl rfl a6
/-- what undoes a change is such an entry -/
theorem turn_good {y : Ent} (hg : goodB y = true) (hk : y.kind = 1) {lsn p : Int} (h1 : y.lsn ≤ p) (h2 : p < lsn) (h3 : lsn ≤ 1099511627776) : goodB (turnY y lsn p) = true := by
  obtain ⟨a1, a2, -⟩ := Ent.good_long hg (by unfold Ent.longB; rw [hk]; rfl)
  obtain ⟨c1, c2, c3, c4⟩ := Ent.ch_parts a2
  unfold Ent.headB Ent.withinB at a1
  simp only [Bool.and_eq_true, decide_eq_true_eq] at a1
  obtain ⟨⟨b1, b2⟩, b3⟩ := a1
  unfold goodB Ent.headB Ent.chB Ent.withinB turnY
  simp only [Bool.and_eq_true, decide_eq_true_eq, b1, c3, c4]
  simp
  omega
theorem turn_is {y : Ent} (hg : goodB y = true) (hk : y.kind = 1) {lsn p : Int} (h1 : y.lsn ≤ p) (h2 : p < lsn) (h3 : lsn ≤ 1099511627776) : turnB y lsn p = true := by
  unfold turnB
  rw [hg, turn_good hg hk h1 h2 h3, decide_eq_true hk]; rfl
/-- and patch redoes it on the page as it is -/
theorem undo_redo {i i' : Im} {l lsn p : Int} {y : Ent} (hg : goodB y = true) (hk : y.kind = 1) (h1 : y.lsn ≤ p) (h2 : p < lsn) (h3 : lsn ≤ 1099511627776) (h0 : 0 ≤ l) (hl : l < lsn) (hat : G.at_ i y.slot = ⟨y.iu, y.id⟩) (hp : G.put i y.slot ⟨y.wu, y.wd⟩ = some i') :
    redoCode l i.1 (turnY y lsn p) = 0 ∧ redoN l i.1 (turnY y lsn p) = lsn ∧ redoZ l i.1 (turnY y lsn p) = i'.1 := by
  obtain ⟨r1, -, r3, r4⟩ := redo_yes (x := turnY y lsn p) h0 (by omega) (show Ent.longB 2 = true from rfl) (turn_good hg hk h1 h2 h3) hl hat hp
  exact ⟨r1, r3, r4⟩
end Go.Proofs.YtkeocnhndnbamaaGreat.Mend
namespace Go.Proofs.YtkeocnhndnbamaaGreat.Mend
set_option maxRecDepth 100000
open Go.Proofs.YtkeocnhndnbamaaGreat.Ent (Ent goodB)
open Go.Proofs.YtkeocnhndnbamaaGreat.Past
theorem nodup_len {α : Type} [DecidableEq α] : ∀ (l m : List α), l.Nodup → (∀ x ∈ l, x ∈ m) → l.length ≤ m.length
  | [], _, _, _ => Nat.zero_le _
  | a :: l, m, h, hs => by
    obtain ⟨h1, h2⟩ := List.nodup_cons.1 h
    have h3 := nodup_len l (m.erase a) h2 fun x hx => (List.mem_erase_of_ne (fun e => h1 (by rw [← e]; exact hx))).2 (hs x (List.mem_cons_of_mem _ hx))
    have h4 := List.length_erase_of_mem (hs a List.mem_cons_self)
    have h5 : 0 < m.length := List.length_pos_of_mem (hs a List.mem_cons_self)
    rw [List.length_cons]; omega
section
variable {L : List Ent}
theorem readV_one : readV L 1 = readN L 1 L.length := by
  unfold readV
  rw [if_pos (show okFirst 1 = true by decide)]
theorem los_rise : Rise lessT (readV L 1).los := by rw [readV_one]; exact (read_rise _).1
theorem los_key (t : T3) : getK t (readV L 1).los = if endedB L t = true then none else lastOf L t := by
  rw [readV_one, los_get _ (Nat.le_refl _), List.take_length]
theorem los_mem {y : T3 × Int} (h : y ∈ (readV L 1).los) : endedB L y.1 = false ∧ lastOf L y.1 = some y.2 := by
  have h1 := get_of_mem order_less los_rise h
  rw [los_key] at h1
  cases he : endedB L y.1 with
  | true => rw [he] at h1; cases h1
  | false => rw [he] at h1; exact ⟨rfl, h1⟩
theorem los_of {t : T3} {l : Int} (h1 : endedB L t = false) (h2 : lastOf L t = some l) : (t, l) ∈ (readV L 1).los := by
  have h := los_key (L := L) t
  rw [h1, h2] at h
  exact get_mem h
theorem los_nodup : ((readV L 1).los.map (·.1)).Nodup := by
  have h := los_rise (L := L)
  unfold Rise at h
  unfold List.Nodup
  rw [List.pairwise_map]
  exact h.imp fun h => order_less.ne h
theorem los_len : (readV L 1).los.length ≤ L.length := by
  have h := nodup_len ((readV L 1).los.map (·.1)) (L.map txE) los_nodup fun t ht => by
    obtain ⟨y, hy, rfl⟩ := List.mem_map.1 ht
    have h2 := (los_mem hy).2
    unfold lastOf at h2
    cases hl : (ofL L y.1).getLast? with
    | none => rw [hl] at h2; cases h2
    | some e =>
      have he := List.mem_of_getLast? hl
      unfold ofL at he
      rw [List.mem_filter] at he
      unfold isT at he
      simp at he
      exact List.mem_map.2 ⟨e, he.1, he.2.2⟩
  rwa [List.length_map, List.length_map] at h
end
end Go.Proofs.YtkeocnhndnbamaaGreat.Mend
