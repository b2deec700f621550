/- Whether pages are such, and entries can be, of these pages: places, changing, fit. Maps by names of transactions, in memory: look-up with ok and without, store; their keys. The program's order of names: cmp.Compare, cmp.Or, compare, Less. -/
import Derived.Test.YtkeocnhndnbamaaGreatQMendRowP
import Derived.Test.YtkeocnhndnbamaaGreatQBook6
import Derived.Test.YtkeocnhndnbamaaGreatQBook10
import Derived.Maps.OwnSet
import Derived.Maps.Range
import Derived.DeepKeys4
import Derived.Sort.Grow
import Derived.Deep.RegionHeld3
namespace Go.Proofs.YtkeocnhndnbamaaGreat.Mend
set_option maxRecDepth 100000
open Go.RowKit Go.Shelf Go.Sort Go.Maps
open Go.Proofs.YtkeocnhndnbamaaGreat.Mem
open Go.Proofs.YtkeocnhndnbamaaGreat.Slab (Slot Slots)
open Go.Proofs.YtkeocnhndnbamaaGreat.Ent (Ent goodB Ents EntAt SmallE longB)
open Go.Proofs.YtkeocnhndnbamaaGreat.Past (ents_mem)
open Go.Proofs.YtkeocnhndnbamaaGreat.Latch (MapN Sm sm_of)
theorem zero_i (w : World) : (zeroValue 3).run Tryz.prog w = .ok (.int .i64 0) w := by kernel_rfl
theorem mapN_len {w : World} {b n : Nat} {f : Int → Option Value} {t e : TypeId} (h : MapN w b n f) (ht : Tryz.prog.underlying t = some (.map 3 e)) (ty : TypeId) {ks : List Int} (hn : ks.Nodup) (hk : ∀ x, x ∈ ks ↔ f x ≠ none) :
    (Builtin.len_ #[t] ty #[.map (some b)]).run Tryz.prog w = .ok (.int .i64 (ks.length : Int)) w := by
  obtain ⟨D, h, h2, h3⟩ := h
  obtain ⟨i1, i2, i3⟩ := Latch.owns_ints h
  have hp : (intKeys D).Perm ks := (List.perm_ext_iff_of_nodup i1 hn).2 fun x => by
    rw [i2, hk]
    constructor
    · rintro ⟨s, hh⟩ e
      rw [(h2 x s).1, e] at hh
      cases hh
    · intro hx
      refine ⟨h3 x hx, ?_⟩
      rw [(h2 x (h3 x hx)).1]
      cases e : f x with
      | none => exact absurd e hx
      | some _ => rfl
  have := h.len ht ty
  rw [i3, hp.length_eq] at this
  exact this
/-- pages that are such -/
structure PagesOK (ls : List Lf) : Prop where
  apart : Apart ls
  num : ∀ x ∈ ls, numB x.n = true
  good : ∀ x ∈ ls, Slab.goodB x.l x.z = true
def idxL (ls : List Lf) (n : Int) : Option Nat := ls.findIdx? fun x => decide (x.n = n)
theorem idx_snoc (A : List Lf) (x : Lf) (n : Int) : idxL (A ++ [x]) n = match idxL A n with | some i => some i | none => if x.n = n then some A.length else none := by
  unfold idxL
  rw [List.findIdx?_append]
  cases A.findIdx? (fun x => decide (x.n = n)) with
  | some i => rfl
  | none =>
    by_cases h : x.n = n
    · rw [if_pos h]
      simp [List.findIdx?_cons, h]
    · rw [if_neg h]
      simp [List.findIdx?_cons, h]
theorem idx_none {A : List Lf} {n : Int} (h : ∀ y ∈ A, y.n ≠ n) : idxL A n = none := by
  unfold idxL
  rw [List.findIdx?_eq_none_iff]
  intro y hy
  simpa using h y hy
theorem idx_some {A : List Lf} {n : Int} {i : Nat} (h : idxL A n = some i) : ∃ x, A[i]? = some x ∧ x.n = n := by
  unfold idxL at h
  obtain ⟨h1, h2, -⟩ := List.findIdx?_eq_some_iff_getElem.1 h
  exact ⟨A[i], List.getElem?_eq_getElem h1, by simpa using h2⟩
theorem idx_is {A : List Lf} (ha : Apart A) {i : Nat} {x : Lf} (hx : A[i]? = some x) : idxL A x.n = some i := by
  cases h : idxL A x.n with
  | none =>
    unfold idxL at h
    rw [List.findIdx?_eq_none_iff] at h
    have := h x (List.mem_of_getElem? hx)
    simp at this
  | some j =>
    obtain ⟨y, hy, hn⟩ := idx_some h
    congr 1
    obtain ⟨hi, hi2⟩ := List.getElem?_eq_some_iff.1 hx
    obtain ⟨hj, hj2⟩ := List.getElem?_eq_some_iff.1 hy
    have hp := List.pairwise_iff_getElem.1 ha
    rcases Nat.lt_trichotomy i j with h1 | h1 | h1
    · have := hp i j hi hj h1
      rw [hi2, hj2] at this
      exact absurd hn.symm this
    · exact h1.symm
    · have := hp j i hj hi h1
      rw [hi2, hj2] at this
      exact absurd hn this
def plF (A : List Lf) (n : Int) : Option Value := (idxL A n).map fun i => .int .i64 (i : Int)
structure PL (w wr : World) (mb j : Nat) (A : List Lf) : Prop where
  mp : MapN wr mb j (plF A)
  mb : w.heap.size ≤ mb
  bel : Below w.heap.size w wr
theorem PL.below {w wr wr' : World} {mb j : Nat} {A : List Lf} (h : PL w wr mb j A) (hb : Below wr.heap.size wr wr') : PL w wr' mb j A := ⟨h.mp.same (hb.block _ h.mp.lt), h.mb, below_go h.bel hb⟩
theorem PL.put {w wr : World} {mb : Nat} {A : List Lf} {x : Lf} (h : PL w wr mb A.length A) (hn : numB x.n = true) (hx : ∀ y ∈ A, y.n ≠ x.n) (hl : A.length ≤ 1000) :
    ∃ w', (Instr.mapUpdate 88 (.map (some mb)) (.int .i64 x.n) (.int .i64 (A.length : Int))).run Tryz.prog wr = .ok () w' ∧ PL w w' mb (A.length + 1) (A ++ [x]) := by
  have hb : 0 ≤ x.n ∧ x.n < 1024 := by unfold numB at hn; simpa using hn
  obtain ⟨w', hr, hm, ht⟩ := h.mp.put Tryz.underlying88 (sm_of (x := x.n) (by omega)) (by unfold maxLen; omega) (.int .i64 (A.length : Int))
  refine ⟨w', hr, ⟨hm.ext fun n => ?_, h.mb, Past.below_grown h.bel h.bel.size ht.grown (fun k e => by injection e with e; rw [← e]; exact h.mb)⟩⟩
  unfold plF
  rw [idx_snoc]
  by_cases e : n = x.n
  · subst e
    rw [if_pos rfl, idx_none hx]
    dsimp only
    rw [if_pos rfl]; rfl
  · rw [if_neg e]
    cases idxL A n with
    | some i => rfl
    | none =>
      dsimp only
      rw [if_neg fun h => e h.symm]
def numI : Option Nat → Int
  | some i => (i : Int)
  | none => 0
theorem pl_look {A : List Lf} {n : Int} : (plF A n).getD (.int .i64 0) = .int .i64 (numI (idxL A n)) ∧ (plF A n).isSome = (idxL A n).isSome := by
  unfold plF
  cases idxL A n <;> exact ⟨rfl, rfl⟩
def PlRes (ls : List Lf) (w : World) (e : Ending) (w' : World) : Prop := ∃ mb, e = .returned (.map (some mb)) ∧ PL w w' mb ls.length ls
set_option maxRecDepth 100000 in
set_option maxHeartbeats 8000000 in
theorem places_any (a : Option Addr) (m c : Nat) (ls : List Lf) (w : World) (h : LeavesI w a m ls) (hm : m ≤ 100) (hok : PagesOK ls) :
    Calls Tryz.prog 45 #[.slice a m c] w (PlRes ls w) := by
  have HL := Lib.hid h
  have HO := Lib.hid hok
  have hlen := h.1
  clear h hok
  have hmm := @run_makeMap Tryz.prog
  have H0 := Lib.hid (show PL w (w.alloc (.map #[] 0)) w.heap.size 0 [] from ⟨(Latch.map_made w).ext fun n => rfl, Nat.le_refl _, (Below.refl _ _).alloc (Nat.le_refl _) _⟩)
  obtain ⟨mb, hmb⟩ : ∃ mb, w.heap.size = mb := ⟨_, rfl⟩
  go_enter Tryz.func45, Tryz.ntmps45
  go_upto_region 2 with (fail)
  rw [hmb] at H0
  clear hmb
  generalize w.alloc (.map #[] 0) = w1 at H0 ⊢
  go_wp2_with fail
  go_loopw [11] (fun iv wr => ∃ j : Nat, j ≤ m ∧ iv = .int .i64 (j : Int) ∧ Hid (PL w wr mb j (ls.take j))) (fun iv _ => m - intN iv)
  case atStart => exact ⟨0, Nat.zero_le _, rfl, H0⟩
  case round =>
    obtain ⟨j, hj, rfl, HR⟩ := hrel
    clear H0
    by_cases hjl : j < m
    · obtain ⟨b, off, a', n', c', x, rfl, hbl, hx, c1, c2, c3, hsl, hml⟩ := (HL.out.below HR.out.bel).at_ hjl
      have hd : decide ((j : Int) < (m : Int)) = true := decide_eq_true (by omega)
      have hxm := List.mem_of_getElem? hx
      have hnum := HO.out.num x hxm
      have hgood := HO.out.good x hxm
      have hz32 : n' ≤ 1000000 := by have := hsl.len; have := (Slab.good_parts hgood).2.2.1; omega
      have hsm := sm_of (HL.out.2.1 x hxm)
      have htl : (ls.take j).length = j := by rw [List.length_take]; omega
      have hpre : ∀ y ∈ ls.take j, y.n ≠ x.n := fun y hy => by
        have hp := HO.out.apart
        unfold Apart at hp
        rw [← List.take_append_drop j ls, List.pairwise_append] at hp
        refine hp.2.2 y hy x ?_
        have : (ls.drop j)[0]? = some x := by rw [List.getElem?_drop, Nat.add_zero]; exact hx
        exact List.mem_of_getElem? this
      have hbx := Ent.below_box wr (.cells #[.int .i64 x.n, .int .i64 x.l, .slice a' n' c'] 54)
      have R1 := Lib.hid (HR.out.below hbx)
      have HSL := Lib.hid (hsl.below hbx)
      have l1 := R1.out.mp.look_ok Tryz.underlying88 (zero_i _) hsm
      rw [pl_look.1, pl_look.2, idx_none hpre] at l1
      simp only [Option.isSome_none, numI] at l1
      have hcn := fun W => numb_any x.n W
      rw [hnum] at hcn
      have HG := Lib.hid (fun W (hs : Slots W a' n' x.z) => Slab.good_any x.l a' n' c' x.z W hs hz32)
      rw [hgood] at HG
      have hB := Lib.hid (Blk.new wr 54 #[.int .i64 x.n, .int .i64 x.l, .slice a' n' c'])
      have HX := Lib.hid (show ls.take (j + 1) = ls.take j ++ [x] by rw [List.take_add_one, hx]; rfl)
      have HPRE := Lib.hid hpre
      have HNUM := Lib.hid hnum
      have HTL := Lib.hid htl
      clear hsl hml HR hbx hpre hgood hnum htl hx hxm
      go_upto_region 6 with (fail)
      obtain ⟨gl, hgl⟩ : ∃ gl, wr.heap.size = gl := ⟨_, rfl⟩
      rw [hgl] at hB
      try rw [hgl]
      clear hgl
      clear c1 c2 c3 l1
      generalize hGen : wr.alloc (.cells #[.int .i64 x.n, .int .i64 x.l, .slice a' n' c'] 54) = W1 at R1 hB HSL ⊢
      clear hGen
      have q0 := hB.out.cell 0
      have q1 := hB.out.cell 1
      have q2 := hB.out.cell 2
      go_wp2_with ((with_reducible refine (hcn _).mono ?_); rintro e w5 ⟨rfl, rfl⟩)
      refine (HG.out _ HSL.out).mono ?_
      rintro e w6 ⟨rfl, b6⟩
      have HB6 := Lib.hid (hB.out.below b6 hB.out.lt)
      have h6 : PL w w6 mb (ls.take j).length (ls.take j) := by rw [HTL.out]; exact R1.out.below b6
      obtain ⟨w7, hr7, R7⟩ := h6.put HNUM.out HPRE.out (by have := HTL.out; omega)
      rw [← HX.out, HTL.out] at R7
      rw [HTL.out] at hr7
      have R3 := Lib.hid R7
      clear q0 q1 q2 b6 h6 R7
      have q0 := HB6.out.cell 0
      have q1 := HB6.out.cell 1
      have q2 := HB6.out.cell 2
      go_wp2
      go_roundw
      case rel => exact ⟨j + 1, by omega, by go_num, R3⟩
      case measure => simp [intN]; omega
    · obtain rfl : j = m := by omega
      have hd : decide ((j : Int) < (j : Int)) = false := decide_eq_false (by omega)
      have R := HR.out
      rw [List.take_of_length_le (by omega)] at R
      have HF := Lib.hid (show PL w wr mb ls.length ls by rw [hlen]; exact R)
      clear R HR
      go_wp2
      go_ret
      exact ⟨mb, rfl, HF.out⟩
set_option maxRecDepth 100000 in
theorem changing_any (x : Ent) (w : World) : Calls Tryz.prog 41 #[.agg #[.int .i64 x.kind, .int .i64 x.cl, .int .i64 x.ep, .int .i64 x.n, .int .i64 x.lsn, .int .i64 x.prev, .int .i64 x.page, .int .i64 x.slot, .bool x.wu, .string x.wd, .bool x.iu, .string x.id, .int .i64 x.next]] w fun e w' => e = .returned (.bool (longB x.kind)) ∧ Below w.heap.size w w' := by
  have hX := Blk.new w 58 #[.int .i64 x.kind, .int .i64 x.cl, .int .i64 x.ep, .int .i64 x.n, .int .i64 x.lsn, .int .i64 x.prev, .int .i64 x.page, .int .i64 x.slot, .bool x.wu, .string x.wd, .bool x.iu, .string x.id, .int .i64 x.next]
  have hb := Ent.below_box w (.cells #[.int .i64 x.kind, .int .i64 x.cl, .int .i64 x.ep, .int .i64 x.n, .int .i64 x.lsn, .int .i64 x.prev, .int .i64 x.page, .int .i64 x.slot, .bool x.wu, .string x.wd, .bool x.iu, .string x.id, .int .i64 x.next] 58)
  have HB := Lib.hid hb
  have HE := Lib.hid (show longB x.kind = ((x.kind == 1) || (x.kind == 2)) by unfold longB; by_cases h1 : x.kind = 1 <;> by_cases h2 : x.kind = 2 <;> simp [h1, h2])
  go_enter Tryz.func41, Tryz.ntmps41
  go_upto_region 1 with (fail)
  generalize hGen : w.alloc (.cells #[.int .i64 x.kind, .int .i64 x.cl, .int .i64 x.ep, .int .i64 x.n, .int .i64 x.lsn, .int .i64 x.prev, .int .i64 x.page, .int .i64 x.slot, .bool x.wu, .string x.wd, .bool x.iu, .string x.id, .int .i64 x.next] 58) = W at hX hb HB ⊢
  clear hGen
  have c0 := hX.cell 0
  clear hX hb
  by_cases h1 : x.kind = 1
  · have e1 : (x.kind == 1) = true := by simp [h1]
    have HF := Lib.hid (show longB x.kind = true by rw [HE.out, e1]; rfl)
    clear HE h1
    go_wp2
    go_ret
    exact ⟨by rw [HF.out]; rfl, HB.out⟩
  · have e1 : (x.kind == 1) = false := by simp [h1]
    obtain ⟨b2, hb2⟩ : ∃ b2, (x.kind == 2) = b2 := ⟨_, rfl⟩
    have HF := Lib.hid (show longB x.kind = b2 by rw [HE.out, e1, hb2]; rfl)
    clear HE h1
    go_wp2
    go_ret
    exact ⟨by rw [HF.out]; rfl, HB.out⟩
/-- entries that can be, of these pages -/
def Fits (L : List Ent) (ls : List Lf) : Prop := ∀ x ∈ L, goodB x = true ∧ (longB x.kind = true → idxL ls x.page ≠ none)
set_option maxRecDepth 100000 in
set_option maxHeartbeats 8000000 in
theorem fit_any (la : Option Addr) (n lc : Nat) (L : List Ent) (a : Option Addr) (m c : Nat) (ls : List Lf) (w : World) (hL : Ents w la n L) (h : LeavesI w a m ls) (hn : n ≤ 1000000) (hm : m ≤ 100) (hok : PagesOK ls) (hf : Fits L ls) :
    Calls Tryz.prog 27 #[.slice la n lc, .slice a m c] w fun e w' => e = .returned (.bool true) ∧ Below w.heap.size w w' := by
  have HL := Lib.hid h
  have HE := Lib.hid hL
  have hll := hL.1
  have hlen := h.1
  have HFI := Lib.hid hf
  have HPL := Lib.hid (places_any a m c ls w h hm hok)
  have hks : (ls.map (·.n)).Nodup := List.pairwise_map.2 hok.apart
  have HKS := Lib.hid hks
  clear h hL hf hks
  go_enter Tryz.func27, Tryz.ntmps27
  go_wp2_with fail
  refine HPL.out.mono ?_
  rintro e w1 ⟨mb, rfl, P1⟩
  have hln : (Builtin.len_ #[88] 3 #[.map (some mb)]).run Tryz.prog w1 = .ok (.int .i64 ((ls.map (·.n)).length : Int)) w1 := mapN_len P1.mp Tryz.underlying88 3 HKS.out fun n => by
    unfold plF
    rw [List.mem_map]
    constructor
    · rintro ⟨x, hx, rfl⟩ h2
      cases hi : idxL ls x.n with
      | none =>
        unfold idxL at hi
        rw [List.findIdx?_eq_none_iff] at hi
        have := hi x hx
        simp at this
      | some i => rw [hi] at h2; cases h2
    · intro h2
      cases hi : idxL ls n with
      | none => rw [hi] at h2; exact absurd rfl h2
      | some i =>
        obtain ⟨x, h3, h4⟩ := idx_some hi
        exact ⟨x, List.mem_of_getElem? h3, h4⟩
  rw [List.length_map, hlen] at hln
  have HP1 := Lib.hid P1
  have hne : ((m : Int) != (m : Int)) = false := by simp
  clear P1
  go_wp2_with fail
  go_loopw [19] (fun iv wr => ∃ k : Nat, k ≤ n ∧ iv = .int .i64 (k : Int) ∧ Hid (PL w wr mb ls.length ls)) (fun iv _ => n - intN iv)
  case atStart => exact ⟨0, Nat.zero_le _, rfl, HP1⟩
  case round =>
    obtain ⟨k, hk, rfl, HR⟩ := hrel
    clear HP1 hln hne
    by_cases hlt : k < n
    · have hx : L[k]? = some (L[k]'(by omega)) := List.getElem?_eq_getElem _
      generalize L[k]'(by omega) = x at hx
      obtain ⟨b, off, rfl, hbw, hat, hsm, -⟩ := ents_mem HE.out hx
      obtain ⟨hgx, hpx⟩ := HFI.out x (List.mem_of_getElem? hx)
      have hpi : Sm x.page := by
        refine sm_of ?_
        cases hlb : longB x.kind with
        | true => have := (Ent.ch_parts (Ent.good_long hgx hlb).2.1).1; omega
        | false =>
          have := (Ent.good_short hgx hlb).2.2
          unfold Ent.bareB at this
          simp only [decide_eq_true_eq] at this
          omega
      have HSM := Lib.hid hsm
      have HGX := Lib.hid hgx
      have HPX := Lib.hid hpx
      obtain ⟨c0, c1, c2, c3, c4, c5, c6, c7, c8, c9, c10, c11, c12⟩ := (hat.next HR.out.bel hbw).cells
      have hbx := Ent.below_box wr (.cells #[.int .i64 x.kind, .int .i64 x.cl, .int .i64 x.ep, .int .i64 x.n, .int .i64 x.lsn, .int .i64 x.prev, .int .i64 x.page, .int .i64 x.slot, .bool x.wu, .string x.wd, .bool x.iu, .string x.id, .int .i64 x.next] 58)
      have HX1 := Lib.hid (Blk.new wr 58 #[.int .i64 x.kind, .int .i64 x.cl, .int .i64 x.ep, .int .i64 x.n, .int .i64 x.lsn, .int .i64 x.prev, .int .i64 x.page, .int .i64 x.slot, .bool x.wu, .string x.wd, .bool x.iu, .string x.id, .int .i64 x.next])
      have H1 := Lib.hid (HR.out.below hbx)
      have hd1 : decide ((k : Int) < (n : Int)) = true := decide_eq_true (by omega)
      clear hx hat hsm HR hbx hgx hpx
      go_upto_region 7 with (fail)
      obtain ⟨gx, hgx⟩ : ∃ gx, wr.heap.size = gx := ⟨_, rfl⟩
      rw [hgx] at HX1
      try rw [hgx]
      clear hgx
      generalize hGen : wr.alloc (.cells #[.int .i64 x.kind, .int .i64 x.cl, .int .i64 x.ep, .int .i64 x.n, .int .i64 x.lsn, .int .i64 x.prev, .int .i64 x.page, .int .i64 x.slot, .bool x.wu, .string x.wd, .bool x.iu, .string x.id, .int .i64 x.next] 58) = W1 at HX1 H1 ⊢
      clear hGen
      clear c0 c1 c2 c3 c4 c5 c6 c7 c8 c9 c10 c11 c12
      obtain ⟨c0, c1, c2, c3, c4, c5, c6, c7, c8, c9, c10, c11, c12⟩ := Ent.ent_cells HX1.out
      have HG := Lib.hid (Ent.good_any x W1 HSM.out)
      rw [HGX.out] at HG
      go_wp2_with fail
      refine HG.out.mono ?_
      rintro e w2 ⟨rfl, b2⟩
      have H2 := Lib.hid (H1.out.below b2)
      have HX2 := Lib.hid (HX1.out.below b2 HX1.out.lt)
      clear c0 c1 c2 c3 c4 c5 c6 c7 c8 c9 c10 c11 c12 b2 HG H1 HX1
      obtain ⟨c0, c1, c2, c3, c4, c5, c6, c7, c8, c9, c10, c11, c12⟩ := Ent.ent_cells HX2.out
      have l1 := H2.out.mp.look_ok Tryz.underlying88 (zero_i _) hpi
      rw [pl_look.1, pl_look.2] at l1
      obtain ⟨o, ho⟩ : ∃ o, idxL ls x.page = o := ⟨_, rfl⟩
      rw [ho] at l1 HPX
      have HC := Lib.hid (changing_any x w2)
      obtain ⟨ii, hii⟩ : ∃ ii : Int, numI o = ii := ⟨_, rfl⟩
      rw [hii] at l1
      obtain ⟨ob, hob⟩ : ∃ ob, o.isSome = ob := ⟨_, rfl⟩
      rw [hob] at l1
      obtain ⟨lb, hlb⟩ : ∃ lb, longB x.kind = lb := ⟨_, rfl⟩
      rw [hlb] at HC HPX
      have HIMP := Lib.hid (show lb = true → ob = true from fun e => by
        have := HPX.out e
        rw [← hob]
        cases o with
        | none => exact absurd rfl this
        | some _ => rfl)
      clear hii hob hlb ho hpi
      go_wp2_with fail
      refine HC.out.mono ?_
      rintro e w3 ⟨rfl, b3⟩
      have H3 := Lib.hid (H2.out.below b3)
      clear c0 c1 c2 c3 c4 c5 c6 c7 c8 c9 c10 c11 c12 b3 HC l1
      cases lb with
      | true =>
        have hb := HIMP.out rfl
        subst hb
        go_wp2
        go_roundw
        case rel => exact ⟨k + 1, by omega, by go_num, H3⟩
        case measure => simp [intN]; omega
      | false =>
        go_wp2
        go_roundw
        case rel => exact ⟨k + 1, by omega, by go_num, H3⟩
        case measure => simp [intN]; omega
    · obtain rfl : k = n := by omega
      have hd1 : decide ((k : Int) < (k : Int)) = false := decide_eq_false (by omega)
      have HF := Lib.hid HR.out.bel
      clear HR
      go_wp2
      go_ret
      exact ⟨rfl, HF.out⟩
end Go.Proofs.YtkeocnhndnbamaaGreat.Mend
namespace Go.Proofs.YtkeocnhndnbamaaGreat.Past
set_option maxRecDepth 100000
open Go.RowKit
open Go.Proofs.YtkeocnhndnbamaaGreat.Mem
open Go.Maps
theorem laidOut : laidOutB Tryz.prog = true := by kernel_rfl
theorem wideT : (match Tryz.prog.underlying 56 with | some (.array _ _) | some (.struct _) => true | _ => false) = true := by rw [Tryz.underlying56]
theorem lawT : Keyed Tryz.prog 56 := Keyed.of_law (deep_law_laid laidOut (m := 2) (by omega) (of_decide_eq_true (by kernel_rfl)) (by kernel_rfl) wideT)
/-- a number of the kind -/
def SmI (x : Int) : Prop := (Lit.int .i64 x).wf = true
theorem smI_of {x : Int} (h : -9223372036854775808 ≤ x ∧ x ≤ 9223372036854775807) : SmI x := by
  unfold SmI Lit.wf; simp [IntKind.min, IntKind.max, IntKind.signed, IntKind.bits]; omega
def SmT (t : T3) : Prop := SmI t.cl ∧ SmI t.ep ∧ SmI t.n
def litT (t : T3) : Lit := .string (keyBytes [.int .i64 t.cl, .int .i64 t.ep, .int .i64 t.n])
theorem keyLits_int (d : Nat) (x : Int) : Tryz.prog.keyLits (d + 1) 3 [.int .i64 x] = if (Lit.int .i64 x).wf = true then some [.int .i64 x] else none := by
  unfold Program.keyLits
  rw [Tryz.underlying3]
  simp
theorem keyLits_int_inv (d : Nat) (v : Value) (L : List Lit) (h : Tryz.prog.keyLits (d + 1) 3 [v] = some L) : ∃ x, SmI x ∧ v = .int .i64 x ∧ L = [.int .i64 x] := by
  unfold Program.keyLits at h
  rw [Tryz.underlying3] at h
  cases v <;> simp at h
  obtain ⟨⟨rfl, h2⟩, rfl⟩ := h
  exact ⟨_, h2, rfl, rfl⟩
theorem cellsT : Tryz.prog.cellsOf 56 = 3 := by kernel_rfl
theorem cellsI : Tryz.prog.cellsOf 3 = 1 := by kernel_rfl
theorem keyLits_txn (d : Nat) (v0 v1 v2 : Value) : Tryz.prog.keyLits (d + 1) 56 [v0, v1, v2] =
    ([Tryz.prog.keyLits d 3 [v0], Tryz.prog.keyLits d 3 [v1], Tryz.prog.keyLits d 3 [v2]].mapM id).map List.flatten := by
  conv => lhs; unfold Program.keyLits
  rw [Tryz.underlying56]
  simp [cellsT, cellsI]
theorem keyType_txn : Tryz.prog.keyType 56 = true := by kernel_rfl
theorem formed_txn (v0 v1 v2 : Value) : (Value.agg #[v0, v1, v2]).formed Tryz.prog 56 = true := by simp [Value.formed, Tryz.underlying56, cellsT]
theorem types_pos : ∃ d, Tryz.prog.types.size + 1 = d + 1 + 1 := ⟨Tryz.prog.types.size - 1, by have : 0 < Tryz.prog.types.size := of_decide_eq_true (by kernel_rfl); omega⟩
theorem keyT_mk {t : T3} (h : SmT t) : keyOf Tryz.prog 56 (.agg #[.int .i64 t.cl, .int .i64 t.ep, .int .i64 t.n]) = some (litT t) := by
  obtain ⟨h1, h2, h3⟩ := h
  unfold SmI at h1 h2 h3
  obtain ⟨d, hd⟩ := types_pos
  unfold keyOf
  rw [Tryz.underlying56]
  rw [show (Value.agg #[.int .i64 t.cl, .int .i64 t.ep, .int .i64 t.n]).cells.toList = [.int .i64 t.cl, .int .i64 t.ep, .int .i64 t.n] from rfl]
  simp only [keyType_txn, formed_txn, Bool.and_self, if_true, hd, keyLits_txn, keyLits_int, h1, h2, h3]
  simp [litT]
theorem keyT_inv {v : Value} {l : Lit} (h : keyOf Tryz.prog 56 v = some l) : ∃ t : T3, v = .agg #[.int .i64 t.cl, .int .i64 t.ep, .int .i64 t.n] ∧ SmT t ∧ l = litT t := by
  obtain ⟨xs, L, rfl, hL, rfl⟩ := keyOf_top wideT h
  obtain ⟨d, hd⟩ := types_pos
  rw [hd] at hL
  have hlen : xs.toList.length = 3 := by
    unfold Program.keyLits at hL
    rw [Tryz.underlying56] at hL
    simp only [cellsT] at hL
    split at hL
    · rename_i h3; exact h3.1
    · cases hL
  obtain ⟨ys, rfl⟩ : ∃ ys : List Value, xs = ys.toArray := ⟨xs.toList, by simp⟩
  simp only [] at hL hlen
  match ys, hlen with
  | [v0, v1, v2], _ =>
    rw [keyLits_txn] at hL
    cases e0 : Tryz.prog.keyLits (d + 1) 3 [v0] with
    | none => rw [e0] at hL; simp at hL
    | some L0 =>
      cases e1 : Tryz.prog.keyLits (d + 1) 3 [v1] with
      | none => rw [e0, e1] at hL; simp at hL
      | some L1 =>
        cases e2 : Tryz.prog.keyLits (d + 1) 3 [v2] with
        | none => rw [e0, e1, e2] at hL; simp at hL
        | some L2 =>
          obtain ⟨a, ha, rfl, rfl⟩ := keyLits_int_inv _ _ _ e0
          obtain ⟨b, hb, rfl, rfl⟩ := keyLits_int_inv _ _ _ e1
          obtain ⟨c, hc, rfl, rfl⟩ := keyLits_int_inv _ _ _ e2
          rw [e0, e1, e2] at hL
          simp at hL
          exact ⟨⟨a, b, c⟩, rfl, ⟨ha, hb, hc⟩, by rw [← hL]; rfl⟩
theorem litT_inj {a b : T3} (ha : SmT a) (hb : SmT b) (e : litT a = litT b) : a = b := by
  have h := lawT.inj (keyT_mk ha) (e ▸ keyT_mk hb)
  injection h with h
  simp at h
  exact t3_eq.2 h
/-- how an element reads: as itself -/
def RVT (v : Value) : Option (DataW Value × List MemPlace) := some (.held v, [])
/-- block b is a map: f; at most n entries -/
def MapT (w : World) (b : Nat) (n : Nat) (f : T3 → Option Value) : Prop :=
  ∃ D : DataW Value, w.ownsMap Tryz.prog 56 RVT b n D ∧ (∀ x, SmT x → has D (litT x) = (f x).isSome ∧ ∀ v, f x = some v → ∀ z, D.atKey (litT x) z = .held v) ∧
    (∀ x, f x ≠ none → SmT x)
theorem keyLitT {x : T3} (hx : SmT x) : WideAt.IsKeyLit (litT x) := lawT.key (keyT_mk hx)
section
variable {w w' : World} {b n : Nat} {f : T3 → Option Value}
theorem MapT.lt (h : MapT w b n f) : b < w.heap.size := by obtain ⟨D, h, _⟩ := h; exact h.lt
theorem MapT.dom (h : MapT w b n f) : ∀ x, f x ≠ none → SmT x := by obtain ⟨D, _, _, h⟩ := h; exact h
theorem MapT.mono (h : MapT w b n f) {m : Nat} (hm : n ≤ m) : MapT w b m f := by
  obtain ⟨D, h, h2⟩ := h
  exact ⟨D, h.mono hm, h2⟩
theorem MapT.same (h : MapT w b n f) (e : w'.heap[b]? = w.heap[b]?) : MapT w' b n f := by
  obtain ⟨D, ⟨es, clock, hb, r⟩, h2⟩ := h
  exact ⟨D, ⟨es, clock, e.trans hb, r⟩, h2⟩
theorem MapT.not_cells (h : MapT w b n f) {g : Nat} {t : TypeId} {cs : Array Value} (hg : Blk w g t cs) : b ≠ g := by
  obtain ⟨D, ⟨es, clock, hb, r⟩, h2⟩ := h
  intro e
  subst e
  unfold Blk at hg
  rw [hb] at hg
  cases hg
theorem mapT_made (w : World) : MapT (w.alloc (.map #[] 0)) w.heap.size 0 (fun _ => none) :=
  ⟨_, World.ownsMap_made _ _ _ _, fun x _ => ⟨rfl, fun s h => by cases h⟩, fun x h => absurd rfl h⟩
theorem MapT.ext (h : MapT w b n f) {g : T3 → Option Value} (e : ∀ x, f x = g x) : MapT w b n g := by
  obtain rfl : f = g := funext e
  exact h
/-- a look-up -/
theorem MapT.look {t e : TypeId} {z : Value} (h : MapT w b n f) (ht : Tryz.prog.underlying t = some (.map 56 e)) (hz : (zeroValue e).run Tryz.prog w = .ok z w) {x : T3} (hx : SmT x) :
    (Instr.lookup t (.map (some b)) (.agg #[.int .i64 x.cl, .int .i64 x.ep, .int .i64 x.n]) false).run Tryz.prog w = .ok ((f x).getD z) w := by
  obtain ⟨D, h, h2, _⟩ := h
  obtain ⟨v, ps, hr, hv⟩ := h.lookup lawT ht hz (zd := .held z) rfl (keyT_mk hx)
  rw [hr]
  obtain ⟨g1, g2⟩ := h2 x hx
  unfold RVT at hv
  injection hv with hv
  injection hv with hv _
  cases hf : f x with
  | none =>
    rw [hf] at g1
    rw [atKey_of_not_has g1] at hv
    injection hv with hv
    rw [hv]; rfl
  | some u =>
    rw [g2 u hf] at hv
    injection hv with hv
    rw [hv]; rfl
/-- .. with ok -/
theorem MapT.look_ok {t e : TypeId} {z : Value} (h : MapT w b n f) (ht : Tryz.prog.underlying t = some (.map 56 e)) (hz : (zeroValue e).run Tryz.prog w = .ok z w) {x : T3} (hx : SmT x) :
    (Instr.lookup t (.map (some b)) (.agg #[.int .i64 x.cl, .int .i64 x.ep, .int .i64 x.n]) true).run Tryz.prog w = .ok (.tuple #[(f x).getD z, .bool (f x).isSome]) w := by
  obtain ⟨D, h, h2, _⟩ := h
  obtain ⟨v, ps, hr, hv⟩ := h.look_ok lawT ht hz (zd := .held z) (zp := []) rfl (keyT_mk hx)
  rw [hr]
  obtain ⟨g1, g2⟩ := h2 x hx
  unfold RVT at hv
  injection hv with hv
  injection hv with hv _
  rw [g1]
  cases hf : f x with
  | none =>
    rw [hf] at g1
    rw [atKey_of_not_has g1] at hv
    injection hv with hv
    rw [hv]; rfl
  | some u =>
    rw [g2 u hf] at hv
    injection hv with hv
    rw [hv]; rfl
/-- a store -/
theorem MapT.put {t e : TypeId} (h : MapT w b n f) (ht : Tryz.prog.underlying t = some (.map 56 e)) {x : T3} (hx : SmT x) (hn : n < maxLen) (v : Value) :
    ∃ w', (Instr.mapUpdate t (.map (some b)) (.agg #[.int .i64 x.cl, .int .i64 x.ep, .int .i64 x.n]) v).run Tryz.prog w = .ok () w' ∧ MapT w' b (n + 1) (fun y => if y = x then some v else f y) ∧ w.mapTurned w' b := by
  obtain ⟨D, h, h2, h3⟩ := h
  obtain ⟨w', hr, ho, ht⟩ := h.store lawT ht hn (keyT_mk hx) (d := .held v) (ps := []) rfl
  have hgood : ∀ y, SmT y → has (D.put (litT x) (.held v)) (litT y) = (if y = x then some v else f y).isSome ∧ ∀ u, (if y = x then some v else f y) = some u → ∀ z, (D.put (litT x) (.held v)).atKey (litT y) z = .held u := by
    intro y hy
    by_cases hyx : y = x
    · subst hyx
      refine ⟨?_, fun t ht z => ?_⟩
      · rw [has_put_same h.isMap (keyLitT hy)]; simp
      · simp at ht; subst ht
        exact atKey_put_same h.isMap (keyLitT hy) _ _
    · have hne : litT y ≠ litT x := fun e => hyx (litT_inj hy hx e)
      obtain ⟨g1, g2⟩ := h2 y hy
      rw [if_neg hyx, has_put_other hne]
      refine ⟨g1, fun t ht z => ?_⟩
      rw [atKey_put_other hne]
      exact g2 t ht z
  refine ⟨w', hr, ⟨_, ho, hgood, fun y hy => ?_⟩, ht⟩
  by_cases hyx : y = x
  · rw [hyx]; exact hx
  · dsimp only at hy; rw [if_neg hyx] at hy; exact h3 y hy
end
/-! ### Names that have come out of a range -/
/-- no name twice; a name is on the list just where the map has it and it is no longer to come -/
def Come (D : DataW Value) (left : Lit → Bool) (ss : List T3) : Prop := ss.Nodup ∧ (∀ x ∈ ss, SmT x) ∧ ∀ x, SmT x → (x ∈ ss ↔ (has D (litT x) = true ∧ left (litT x) = false))
theorem come_start (D : DataW Value) : Come D (has D) [] := ⟨List.nodup_nil, ⟨fun x h => (nomatch h), fun x _ => by cases has D (litT x) <;> simp⟩⟩
theorem come_step {D : DataW Value} {left : Lit → Bool} {ss : List T3} (h : Come D left ss) {x : T3} {y : DataW Value} (hx : SmT x) (hlk : left (litT x) = true) (hat : ∀ zd, D.atKey (litT x) zd = y) : Come D (fun z => left z && !z.sameKey (litT x)) (ss ++ [x]) := by
  have hhas : has D (litT x) = true := has_true_of_atKey hat
  have hnew : x ∉ ss := fun h1 => by have := ((h.2.2 x hx).1 h1).2; rw [hlk] at this; cases this
  refine ⟨List.nodup_append.2 ⟨h.1, by simp, fun a ha b hb => by simp at hb; subst hb; exact fun e => hnew (e ▸ ha)⟩, fun z hz => ?_, fun z hz => ?_⟩
  · rcases List.mem_append.1 hz with hz | hz
    · exact h.2.1 z hz
    · rw [List.mem_singleton] at hz; rw [hz]; exact hx
  · by_cases e : z = x
    · subst e
      have h5 : (litT z).sameKey (litT z) = true := by simp [litT, Lit.sameKey]
      dsimp only
      rw [h5]
      simp [hhas]
    · have hne : litT z ≠ litT x := fun e2 => e (litT_inj hz hx e2)
      have h4 := h.2.2 z hz
      have h5 : (litT z).sameKey (litT x) = false := by
        unfold litT at hne ⊢
        simp only [Lit.sameKey]
        simpa using hne
      dsimp only
      rw [List.mem_append, List.mem_singleton, h4, h5]
      simp [e]
end Go.Proofs.YtkeocnhndnbamaaGreat.Past
namespace Go.Proofs.YtkeocnhndnbamaaGreat.Past
set_option maxRecDepth 100000
open Go.RowKit
open Go.Proofs.YtkeocnhndnbamaaGreat.Mem
set_option maxRecDepth 100000 in
theorem isNaN_any (a : Int) (w : World) : Calls Tryz.prog 105 #[.int .i64 a] w fun e w' => e = .returned (.bool false) ∧ w' = w := by
  have h1 : (a != a) = false := by simp
  go_enter Tryz.func105, Tryz.ntmps105
  go_wp2
  go_ret
  exact ⟨by first | rfl | simp, rfl⟩
def cmpI (a b : Int) : Int := if a < b then -1 else if b < a then 1 else 0
set_option maxRecDepth 100000 in
theorem cmpI_any (a b : Int) (w : World) : Calls Tryz.prog 88 #[.int .i64 a, .int .i64 b] w fun e w' => e = .returned (.int .i64 (cmpI a b)) ∧ w' = w := by
  obtain ⟨r, hr⟩ : ∃ r, cmpI a b = r := ⟨_, rfl⟩
  rw [hr]
  unfold cmpI at hr
  by_cases h1 : a < b
  · rw [if_pos h1] at hr
    subst hr
    have e1 : decide (a < b) = true := decide_eq_true h1
    go_enter Tryz.func88, Tryz.ntmps88
    go_wp2_with (first | (refine (isNaN_any a _).mono ?_; rintro e w1 ⟨rfl, rfl⟩) | (refine (isNaN_any b _).mono ?_; rintro e w1 ⟨rfl, rfl⟩))
    go_ret
    exact ⟨rfl, rfl⟩
  · rw [if_neg h1] at hr
    have e1 : decide (a < b) = false := decide_eq_false h1
    by_cases h2 : b < a
    · rw [if_pos h2] at hr
      subst hr
      have e2 : decide (a > b) = true := decide_eq_true h2
      go_enter Tryz.func88, Tryz.ntmps88
      go_wp2_with (first | (refine (isNaN_any a _).mono ?_; rintro e w1 ⟨rfl, rfl⟩) | (refine (isNaN_any b _).mono ?_; rintro e w1 ⟨rfl, rfl⟩))
      go_ret
      exact ⟨rfl, rfl⟩
    · rw [if_neg h2] at hr
      subst hr
      have e2 : decide (a > b) = false := decide_eq_false h2
      go_enter Tryz.func88, Tryz.ntmps88
      go_wp2_with (first | (refine (isNaN_any a _).mono ?_; rintro e w1 ⟨rfl, rfl⟩) | (refine (isNaN_any b _).mono ?_; rintro e w1 ⟨rfl, rfl⟩))
      go_ret
      exact ⟨rfl, rfl⟩
/-- the first that isn't 0 -/
def orL : List Int → Int
  | [] => 0
  | a :: r => if a = 0 then orL r else a
def intN : Value → Nat
  | .int _ i => i.toNat
  | _ => 0
set_option maxRecDepth 100000 in
set_option maxHeartbeats 1000000 in
theorem or3_any (sb : Nat) (a b c : Int) (w : World) (h : Blk w sb 3 #[.int .i64 a, .int .i64 b, .int .i64 c]) :
    Calls Tryz.prog 87 #[.slice (some ⟨sb, 0, none⟩) 3 3] w fun e w' => e = .returned (.int .i64 (orL [a, b, c])) ∧ w' = w := by
  obtain ⟨L, hL⟩ : ∃ L, [a, b, c] = L := ⟨_, rfl⟩
  have hcell : ∀ j x, L[j]? = some x → w.cell? ⟨sb, j, none⟩ = some (.int .i64 x) := fun j x hx => by
    rw [h.cell, ← Array.getElem?_toList]
    have : (#[Value.int .i64 a, .int .i64 b, .int .i64 c] : Array Value).toList = L.map (Value.int .i64) := by rw [← hL]; rfl
    rw [this, List.getElem?_map, hx]; rfl
  have hlen : L.length = 3 := by rw [← hL]; rfl
  rw [hL]
  clear h hL
  obtain ⟨r, hr⟩ : ∃ r, orL L = r := ⟨_, rfl⟩
  rw [hr]
  have HR := Lib.hid hr
  clear hr
  have HC := Lib.hid hcell
  clear hcell
  go_enter Tryz.func87, Tryz.ntmps87
  go_wp2_with fail
  go_loopw [8] (fun i wr => ∃ j : Nat, j ≤ 3 ∧ i = .int .i64 (j : Int) ∧ wr = w ∧ Hid (orL (L.drop j) = r)) (fun i _ => 3 - intN i)
  case atStart => exact ⟨0, by omega, rfl, rfl, Lib.hid HR.out⟩
  case round =>
    obtain ⟨j, hj, rfl, rfl, HZ⟩ := hrel
    by_cases hlt : j < 3
    · have hx : L[j]? = some (L[j]'(by omega)) := List.getElem?_eq_getElem _
      have hd : L.drop j = L[j]'(by omega) :: L.drop (j + 1) := List.drop_eq_getElem_cons (by omega)
      generalize L[j]'(by omega) = x at hx hd
      have c0 := HC.out j x hx
      have e1 : decide ((j : Int) < 3) = true := decide_eq_true (by omega)
      have HZ2 := Lib.hid (show (if x = 0 then orL (L.drop (j + 1)) else x) = r by rw [← HZ.out, hd]; rfl)
      clear HZ hx hd
      by_cases hx0 : x = 0
      · have HZ3 := Lib.hid (show orL (L.drop (j + 1)) = r by rw [← HZ2.out, if_pos hx0])
        clear HZ2
        subst hx0
        clear HR hlen
        go_wp2
        go_roundw
        case rel => exact ⟨j + 1, by omega, by go_num, by first | rfl | trivial, HZ3⟩
        case measure => simp [intN]; omega
      · have HZ3 := Lib.hid (show x = r by rw [← HZ2.out, if_neg hx0])
        have h1 : (x == 0) = false := by simp [hx0]
        have h2 : (x != 0) = true := by simp [bne, h1]
        clear HZ2 HR hx0 hlen
        go_wp2
        go_ret
        exact ⟨by rw [← HZ3.out]; rfl, rfl⟩
    · obtain rfl : j = 3 := by omega
      have hd : L.drop 3 = [] := List.drop_of_length_le (by omega)
      have HZ3 := Lib.hid (show 0 = r by rw [← HZ.out, hd]; rfl)
      clear HZ hd hlen HR
      go_wp2
      go_ret
      exact ⟨by rw [← HZ3.out]; rfl, rfl⟩
def cmpT (a b : T3) : Int := orL [cmpI a.cl b.cl, cmpI a.ep b.ep, cmpI a.n b.n]
theorem cmpT_lt (a b : T3) : decide (cmpT a b < 0) = lessT a b := by
  cases h : lessT a b with
  | true =>
    rw [less_iff] at h
    rw [decide_eq_true_eq]
    unfold cmpT orL orL orL cmpI
    repeat' split
    all_goals omega
  | false =>
    have h : ¬ lessT a b = true := by rw [h]; simp
    rw [less_iff] at h
    rw [decide_eq_false_iff_not]
    unfold cmpT orL orL orL orL cmpI
    repeat' split
    all_goals omega
set_option maxRecDepth 100000 in
set_option maxHeartbeats 2000000 in
theorem compare_any (x y : T3) (w : World) :
    Calls Tryz.prog 73 #[.agg #[.int .i64 x.cl, .int .i64 x.ep, .int .i64 x.n], .agg #[.int .i64 y.cl, .int .i64 y.ep, .int .i64 y.n]] w fun e w' => e = .returned (.int .i64 (cmpT x y)) ∧ ∃ q os', w' = Go.Sort.grow (w.drewN q) os' := by
  have hc : orL [cmpI x.cl y.cl, cmpI x.ep y.ep, cmpI x.n y.n] = cmpT x y := rfl
  generalize cmpT x y = r at hc ⊢
  have HC1 : Hid (∀ W, Calls Tryz.prog 88 #[.int .i64 x.cl, .int .i64 y.cl] W fun e w' => e = .returned (.int .i64 (cmpI x.cl y.cl)) ∧ w' = W) := Lib.hid fun W => cmpI_any x.cl y.cl W
  have HC2 : Hid (∀ W, Calls Tryz.prog 88 #[.int .i64 x.ep, .int .i64 y.ep] W fun e w' => e = .returned (.int .i64 (cmpI x.ep y.ep)) ∧ w' = W) := Lib.hid fun W => cmpI_any x.ep y.ep W
  have HC3 : Hid (∀ W, Calls Tryz.prog 88 #[.int .i64 x.n, .int .i64 y.n] W fun e w' => e = .returned (.int .i64 (cmpI x.n y.n)) ∧ w' = W) := Lib.hid fun W => cmpI_any x.n y.n W
  generalize cmpI x.cl y.cl = a at *
  generalize cmpI x.ep y.ep = b at *
  generalize cmpI x.n y.n = c at *
  obtain ⟨x1, x2, x3⟩ := x
  obtain ⟨y1, y2, y3⟩ := y
  dsimp only at HC1 HC2 HC3 ⊢
  obtain ⟨W0, hW0⟩ : ∃ W0, (w.alloc (.cells #[.int .i64 x1, .int .i64 x2, .int .i64 x3] 56)).alloc (.cells #[.int .i64 y1, .int .i64 y2, .int .i64 y3] 56) = W0 := ⟨_, rfl⟩
  have HW : Hid (∃ q os', (W0.alloc (.cells #[.int .i64 a, .int .i64 b, .int .i64 c] 3)).drew = Go.Sort.grow (w.drewN q) os') := Lib.hid ⟨1, _, by rw [← hW0, Go.Sort.alloc_eq_grow, Go.Sort.alloc_eq_grow, Go.Sort.alloc_eq_grow, Go.Sort.grow_grow, Go.Sort.grow_grow]; rfl⟩
  have hB1 : Blk W0 w.heap.size 56 #[.int .i64 x1, .int .i64 x2, .int .i64 x3] := by rw [← hW0]; exact (Blk.new w _ _).alloc _
  have hB2 : Blk W0 (w.heap.size + 1) 56 #[.int .i64 y1, .int .i64 y2, .int .i64 y3] := by
    have := Blk.new (w.alloc (.cells #[.int .i64 x1, .int .i64 x2, .int .i64 x3] 56)) 56 #[.int .i64 y1, .int .i64 y2, .int .i64 y3]
    rw [hW0] at this
    simpa using this
  have hb3 := Ent.below_box W0 (.cells #[.int .i64 a, .int .i64 b, .int .i64 c] 3)
  have HZ : Hid (∀ W', Below W0.heap.size W0 W' → W'.cell? ⟨w.heap.size, 0, none⟩ = some (.int .i64 x1) ∧ W'.cell? ⟨w.heap.size, 1, none⟩ = some (.int .i64 x2) ∧ W'.cell? ⟨w.heap.size, 2, none⟩ = some (.int .i64 x3) ∧ W'.cell? ⟨w.heap.size + 1, 0, none⟩ = some (.int .i64 y1) ∧ W'.cell? ⟨w.heap.size + 1, 1, none⟩ = some (.int .i64 y2) ∧ W'.cell? ⟨w.heap.size + 1, 2, none⟩ = some (.int .i64 y3)) := Lib.hid fun W' hb =>
    ⟨(hB1.below hb hB1.lt).cell 0, (hB1.below hb hB1.lt).cell 1, (hB1.below hb hB1.lt).cell 2, (hB2.below hb hB2.lt).cell 0, (hB2.below hb hB2.lt).cell 1, (hB2.below hb hB2.lt).cell 2⟩
  have HZ0 := Lib.hid (HZ.out _ (Below.refl _ _))
  have HZ1 := Lib.hid (HZ.out _ (Below.refl _ _).drew)
  have HZa := Lib.hid (HZ.out _ hb3)
  have HZb := Lib.hid (HZ.out _ hb3.drew)
  have HO1 := Lib.hid (or3_any W0.heap.size a b c _ (Blk.new W0 3 #[.int .i64 a, .int .i64 b, .int .i64 c]))
  have HO2 := Lib.hid (or3_any W0.heap.size a b c (W0.alloc (.cells #[.int .i64 a, .int .i64 b, .int .i64 c] 3)).drew (Blk.new W0 3 #[.int .i64 a, .int .i64 b, .int .i64 c]))
  rw [hc] at HO1 HO2
  have HW0 := Lib.hid hW0
  clear hW0 hB1 hB2 hb3 HZ hc
  go_enter Tryz.func73, Tryz.ntmps73
  go_upto_region 1 with (fail)
  rw [HW0.out]
  obtain ⟨z1, z2, z3, z4, z5, z6⟩ := HZ0.out
  clear HW0
  go_region_held3 (fun W' => W'.cell? ⟨w.heap.size, 0, none⟩ = some (.int .i64 x1) ∧ W'.cell? ⟨w.heap.size, 1, none⟩ = some (.int .i64 x2) ∧ W'.cell? ⟨w.heap.size, 2, none⟩ = some (.int .i64 x3) ∧ W'.cell? ⟨w.heap.size + 1, 0, none⟩ = some (.int .i64 y1) ∧ W'.cell? ⟨w.heap.size + 1, 1, none⟩ = some (.int .i64 y2) ∧ W'.cell? ⟨w.heap.size + 1, 2, none⟩ = some (.int .i64 y3))
    (first | (with_reducible assumption) | (with_reducible exact HZ0.out) | (with_reducible exact HZ1.out) | (with_reducible exact HZa.out) | (with_reducible exact HZb.out)) (first
    | (go_at_call 88; (first | (with_reducible refine (HC1.out _).mono ?_) | (with_reducible refine (HC2.out _).mono ?_) | (with_reducible refine (HC3.out _).mono ?_)); rintro e w2 ⟨rfl, rfl⟩)
    | (go_at_call 87; (first | (with_reducible refine HO1.out.mono ?_) | (with_reducible refine HO2.out.mono ?_)); rintro e w2 ⟨rfl, rfl⟩))
  all_goals
    clear HC1 HC2 HC3 HZ0 HZ1 HZa HZb HO1 HO2
    go_wp2
    go_ret
    exact ⟨rfl, HW.out⟩
end Go.Proofs.YtkeocnhndnbamaaGreat.Past
