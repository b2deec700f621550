/- Rows of pages that a call makes itself. The walk of repair. The walks of Open, Read and Write. What becomes of pages wherever the power goes, on plain data. No page is ever lost, on plain data. What a Write leaves, on plain data. What comes in: groups of pages, two rows of numbers, pages to be written. The walks of the statements' image and laid. The walk of the statements' own beginning. What the statement TwinPower holds: rows of pages in memory, and their plain data. -/
import Derived.Test.YtnnppdjgmjgjhaaDoorTwinLay
import Derived.Maps.AppendAt
import Derived.Test.YtnnppdjgmjgjhaaDoorSlabOpen
import Derived.WideKeyArr2
namespace Go.Proofs.YtnnppdjgmjgjhaaDoor.Twin
set_option maxRecDepth 100000
open Go.RowKit Go.Sort
open Go.Proofs.YtnnppdjgmjgjhaaDoor.Mem
open Go.Proofs.YtnnppdjgmjgjhaaDoor.Plate

/-- a page in a row, and where its slots lie -/
structure Ro where
  x : Lf
  a : Option Addr
  n : Nat
  c : Nat
def rcell (r : Ro) : List Value := [.int .i64 r.x.n, .int .i64 r.x.l, .slice r.a r.n r.c]
def rcells (rs : List Ro) : List Value := rs.flatMap rcell
theorem rcells_length (rs : List Ro) : (rcells rs).length = rs.length * 3 := by
  induction rs with
  | nil => rfl
  | cons x r ih => show (_ :: _ :: _ :: rcells r).length = _; simp only [List.length_cons, ih]; omega
theorem rcells_get {rs : List Ro} {i : Nat} {r : Ro} (h : rs[i]? = some r) : (rcells rs)[i * 3]? = some (.int .i64 r.x.n) ∧ (rcells rs)[i * 3 + 1]? = some (.int .i64 r.x.l) ∧ (rcells rs)[i * 3 + 2]? = some (.slice r.a r.n r.c) := by
  induction rs generalizing i with
  | nil => simp at h
  | cons y q ih =>
    cases i with
    | zero => simp at h; subst h; exact ⟨rfl, rfl, rfl⟩
    | succ i =>
      have := ih (i := i) (by simpa using h)
      rw [show (i + 1) * 3 = i * 3 + 1 + 1 + 1 by omega]
      exact this
theorem rcells_snoc (rs : List Ro) (r : Ro) : rcells rs ++ rcell r = rcells (rs ++ [r]) := by simp [rcells]
/-- a row of pages of the call's own, whose slots lie in memory of its own too -/
structure LRow (B : Nat) (w : World) (v : Value) (rs : List Ro) : Prop where
  own : w.ownsRow B 43 3 v rs.length (rcells rs)
  sl : ∀ r ∈ rs, Slab.Slots w r.a r.n r.x.z ∧ r.n ≤ 1000000 ∧ (∀ b off e, r.a = some ⟨b, off, e⟩ → 0 < r.n → B ≤ b ∧ b < w.heap.size ∧ v.ownBlock ≠ some b) ∧ -9223372036854775808 ≤ r.x.n ∧ r.x.n ≤ 9223372036854775807
section
variable {B : Nat} {w w' : World} {v v' : Value} {rs : List Ro}
theorem LRow.nil (B : Nat) (w : World) : LRow B w (.slice none 0 0) [] := ⟨own_nil w B _ 3, fun _ h => by simp at h⟩
theorem LRow.below (h : LRow B w v rs) (hb : Below w.heap.size w w') : LRow B w' v rs :=
  ⟨own_below h.own hb, fun r hr => by
    obtain ⟨h1, h2, h3, h4⟩ := h.sl r hr
    exact ⟨h1.below hb, h2, fun b off e he hn => by
      obtain ⟨a1, a2, a3⟩ := h3 b off e he hn
      exact ⟨a1, Nat.lt_of_lt_of_le a2 hb.size, a3⟩, h4⟩⟩
theorem slots_grown {a : Option Addr} {n : Nat} {z : List Slab.Slot} {row : Option Nat} (h : Slab.Slots w a n z) (hg : w.grownBy w' row) (hne : ∀ b off e, a = some ⟨b, off, e⟩ → 0 < n → row ≠ some b) : Slab.Slots w' a n z := by
  obtain ⟨h1, h2, h3⟩ := h
  refine ⟨h1, h2, fun hm => ?_⟩
  obtain ⟨bb, off, ha, hlb, hc⟩ := h3 hm
  have hbk := hg.block bb hlb (fun e => hne bb off none ha hm e.symm)
  refine ⟨bb, off, ha, Nat.lt_of_lt_of_le hlb hg.size, fun i hi => ?_⟩
  obtain ⟨c1, c2⟩ := hc i hi
  exact ⟨(World.cell?_of_block (w := w) (w' := w') (a := ⟨bb, off + i * 2, none⟩) hbk).trans c1, (World.cell?_of_block (w := w) (w' := w') (a := ⟨bb, off + i * 2 + 1, none⟩) hbk).trans c2⟩
theorem LRow.push (h : LRow B w v rs) {r : Ro} (ho : w'.ownsRow B 43 3 v' (rs.length + 1) (rcells rs ++ rcell r)) (hg : w.grownBy w' v.ownBlock) (ha : v'.ownBlock = v.ownBlock ∨ v'.ownBlock = some w.heap.size)
    (hs : Slab.Slots w r.a r.n r.x.z) (hn : r.n ≤ 1000000) (hb : ∀ b off e, r.a = some ⟨b, off, e⟩ → 0 < r.n → B ≤ b ∧ b < w.heap.size ∧ v.ownBlock ≠ some b) (hx : -9223372036854775808 ≤ r.x.n ∧ r.x.n ≤ 9223372036854775807) : LRow B w' v' (rs ++ [r]) := by
  have key : ∀ q : Ro, Slab.Slots w q.a q.n q.x.z → (∀ b off e, q.a = some ⟨b, off, e⟩ → 0 < q.n → B ≤ b ∧ b < w.heap.size ∧ v.ownBlock ≠ some b) → Slab.Slots w' q.a q.n q.x.z ∧ (∀ b off e, q.a = some ⟨b, off, e⟩ → 0 < q.n → B ≤ b ∧ b < w'.heap.size ∧ v'.ownBlock ≠ some b) := by
    intro q h1 h2
    refine ⟨slots_grown h1 hg (fun b off e he hn => (h2 b off e he hn).2.2), fun b off e he hn => ?_⟩
    obtain ⟨a1, a2, a3⟩ := h2 b off e he hn
    refine ⟨a1, Nat.lt_of_lt_of_le a2 hg.size, ?_⟩
    rcases ha with e1 | e1 <;> rw [e1]
    · exact a3
    · intro e2; cases e2; omega
  refine ⟨?_, fun q hq => ?_⟩
  · rw [← rcells_snoc, List.length_append]; exact ho
  · rcases List.mem_append.1 hq with h1 | h1
    · obtain ⟨a1, a2, a3, a4⟩ := h.sl q h1
      obtain ⟨b1, b2⟩ := key q a1 a3
      exact ⟨b1, a2, b2, a4⟩
    · simp at h1; subst h1
      obtain ⟨b1, b2⟩ := key q hs hb
      exact ⟨b1, hn, b2, hx⟩
theorem own_base {base n size : Nat} {t : TypeId} {xs : List Value} {g : Nat} (h : w.ownsRow base t size v n xs) (hg : v.ownBlock = some g) : base ≤ g := by
  obtain ⟨hl, ⟨rfl, _⟩ | ⟨g', cap, cur, rfl, hb, _, _⟩⟩ := h
  · cases hg
  · cases hg; exact hb
/-- such a row is a row of pages -/
theorem LRow.leaves (h : LRow B w v rs) {M : Nat → Prop} (hM : ∀ k, B ≤ k → k < w.heap.size → M k) : ∃ a c, v = .slice a rs.length c ∧ rs.length ≤ c ∧ Leaves M w a rs.length (rs.map (·.x)) := by
  have hsl := h.sl
  obtain ⟨hl, h0 | ⟨g, cap, cur, hv, hg, hc, h1, h2, h3, h4⟩⟩ := h.own
  · obtain ⟨h0, h00⟩ := h0
    have : rs = [] := List.eq_nil_of_length_eq_zero h00
    subst this
    exact ⟨none, 0, h0, Nat.le_refl _, Leaves.nil _ _ _⟩
  · have hlt := (Array.getElem?_eq_some_iff.1 hc).1
    refine ⟨some ⟨g, 0, none⟩, cap, hv, h1, by simp, fun x hx => ?_, fun hp => ⟨g, 0, rfl, hM g hg hlt, hlt, fun i hi => ?_⟩⟩
    · obtain ⟨r, hr, rfl⟩ := List.mem_map.1 hx
      exact (hsl r hr).2.2.2
    · have hr : rs[i]? = some rs[i] := List.getElem?_eq_getElem hi
      obtain ⟨e1, e2, e3⟩ := rcells_get hr
      have hcell : ∀ j, j < rs.length * 3 → w.cell? ⟨g, j, none⟩ = (rcells rs)[j]? := fun j hj => by
        have : w.cell? ⟨g, j, none⟩ = cur[j]? := by simp [World.cell?, hc]
        rw [this, ← h4, List.getElem?_take_of_lt hj]
        simp
      have hx : (rs.map (·.x)).getD i lf0 = rs[i].x := by simp [List.getD, hi]
      rw [hx]
      obtain ⟨s1, s2, s3, -⟩ := hsl rs[i] (List.getElem_mem hi)
      refine ⟨rs[i].a, rs[i].n, rs[i].c, ?_, ?_, ?_, s1, s2, fun b off e he hn => ?_⟩
      · rw [Nat.zero_add, hcell _ (by omega)]; exact e1
      · rw [Nat.zero_add, hcell _ (by omega)]; exact e2
      · rw [Nat.zero_add, hcell _ (by omega)]; exact e3
      · obtain ⟨a1, a2, -⟩ := s3 b off e he hn
        exact hM b a1 a2
end
theorem info_leaf : (Tryd.prog.info? 43).map (fun i => (i.zero, i.size, i.bytes)) = some (some (.agg #[.int .i64 0, .int .i64 0, .slice none 0 0]), 3, 40) := by kernel_rfl
/-- others have made memory -/
theorem _root_.Go.Proofs.YtnnppdjgmjgjhaaDoor.Plate.PQ.more {w w' : World} {p : Nat} {M : Nat → Prop} {S : PS} (h : PQ w p M S) (hb : Below w.heap.size w w') : PQ w' p (fun k => M k ∨ (w.heap.size ≤ k ∧ k < w'.heap.size)) S :=
  h.step hb.size (fun k hk _ => hb.block k hk) (fun _ hk => hk)
set_option maxHeartbeats 400000 in
theorem homes_any (w : World) (s n c : Nat) (a : Option Addr) :
    Calls Tryd.prog 29 #[.pointer (some ⟨s, 0, none⟩), .slice a n c] w fun e w' => e = .returned (.func (.func 52) #[] #[.pointer (some ⟨w.heap.size, 0, none⟩), .pointer (some ⟨w.heap.size + 1, 0, none⟩)]) ∧
      Blk w' w.heap.size 28 #[.pointer (some ⟨s, 0, none⟩)] ∧ Blk w' (w.heap.size + 1) 35 #[.slice a n c] ∧ Below w.heap.size w w' := by
  have hb0 : Below w.heap.size w (w.alloc (.cells #[.pointer (some ⟨s, 0, none⟩)] 28)) := (Below.refl _ _).alloc (Nat.le_refl _) _
  have hb1 := hb0.alloc hb0.size (.cells #[.slice a n c] 35)
  have k1 := (Blk.new w 28 #[.pointer (some ⟨s, 0, none⟩)]).alloc (.cells #[.slice a n c] 35)
  have k2 := Blk.new (w.alloc (.cells #[.pointer (some ⟨s, 0, none⟩)] 28)) 35 #[.slice a n c]
  rw [World.size_alloc] at k2
  go_enter Tryd.func29, Tryd.ntmps29
  go_wp2
  go_ret
  exact ⟨rfl, k1, k2, hb1⟩
end Go.Proofs.YtnnppdjgmjgjhaaDoor.Twin
namespace Go.Proofs.YtnnppdjgmjgjhaaDoor.Twin
set_option maxRecDepth 100000
open Go.RowKit Go.Sort
open Go.Proofs.YtnnppdjgmjgjhaaDoor.Mem
open Go.Proofs.YtnnppdjgmjgjhaaDoor.Plate

theorem rep_not {C : Cfg} {S : PS} {k : Nat} (h : ¬ ((lookR C S k).2.2 = 20 ∧ (copyR C S k C.tw).2.2 = true)) : repL C S (k + 1) = repL C S k := by rw [repL, if_neg h]
theorem rep_take {C : Cfg} {S : PS} {k : Nat} (h1 : (lookR C S k).2.2 = 20) (h2 : (copyR C S k C.tw).2.2 = true) : repL C S (k + 1) = repL C S k ++ [⟨k, (copyR C S k C.tw).1, (copyR C S k C.tw).2.1⟩] := by rw [repL, if_pos ⟨h1, h2⟩]
theorem rep_facts (C : Cfg) (S : PS) : ∀ k, (repL C S k).length ≤ k ∧ ∀ x ∈ repL C S k, 0 ≤ x.n ∧ x.n < k
  | 0 => ⟨Nat.le_refl _, fun _ h => by simp [repL] at h⟩
  | k + 1 => by
    obtain ⟨h1, h2⟩ := rep_facts C S k
    rw [repL]
    split
    · refine ⟨by simp; omega, fun x hx => ?_⟩
      rcases List.mem_append.1 hx with h | h
      · have := h2 x h; omega
      · simp at h; subst h; simp only; omega
    · exact ⟨by omega, fun x hx => by have := h2 x hx; omega⟩
theorem page_good {b : ByteArray} {n : Nat} (h : (pageR b n).2.2 = true) : Slab.goodB (pageR b n).1 (pageR b n).2.1 = true := by
  unfold pageR at h ⊢
  split
  · rename_i hs
    rw [if_pos hs] at h
    simp only at h ⊢
    rcases Slab.dec_is (b.data.toList.take (b.size - 16)) with ⟨L, z, e, hg, -⟩ | e
    · rw [e]; exact hg
    · rw [e] at h; simp at h
  · rename_i hs
    rw [if_neg hs] at h
    cases h
theorem copy_good (C : Cfg) (S : PS) (n : Nat) : ∀ i, (copyR C S n i).2.2 = true → Slab.goodB (copyR C S n i).1 (copyR C S n i).2.1 = true
  | 0, h => by cases h
  | i + 1, h => by
    rw [copyR] at h ⊢
    split
    · rename_i hs
      refine page_good ?_
      have := hs.2
      unfold better at this
      rw [Bool.and_eq_true] at this
      exact this.1
    · rename_i hs
      rw [if_neg hs] at h
      exact copy_good C S n i h
section
variable {M : Nat → Prop} {p s lf : Nat} {C : Cfg} {S : PS}
set_option maxHeartbeats 4000000 in
theorem repair_any (w : World) (h : Sto M w s p C lf) (hp : PQ w p M S) (hc : C.small) (hf : Full S) (hS : Calm S (C.pg + 1)) :
    Calls Tryd.prog 23 #[.pointer (some ⟨s, 0, none⟩)] w fun e w' => e = .returned (.int .i64 (lay (repW C S) S).1) ∧ PQ w' p M (lay (repW C S) S).2 ∧ Keep M w w' := by
  obtain ⟨-, -, -, c3, -⟩ := h.get
  have hq : S.q.length ≤ 1000000 := by have := hS.q; omega
  have hpg := hc.pg
  have HSTO := Lib.hid h
  have HPQ := Lib.hid hp
  have HF := Lib.hid hf
  have HC := Lib.hid hc
  have HCALM := Lib.hid hS
  unfold repW
  obtain ⟨pg, hpg2⟩ : ∃ pg, pg = C.pg := ⟨_, rfl⟩
  have HPG := Lib.hid hpg2
  rw [← hpg2] at c3 hpg ⊢
  obtain ⟨i0, hi, hz0, hz1, hz2⟩ := info_parts info_leaf
  clear h hp hf hc hpg2 hS
  go_enter Tryd.func23, Tryd.ntmps23
  go_wp2
  go_loopw [3, 13] (fun t i wr => ∃ (k : Nat) (rs : List Ro), k ≤ pg ∧ i = .int .i64 (k : Int) ∧ Hid (rs.map (·.x) = repL C S k) ∧ Hid (LRow w.heap.size wr t rs) ∧ Hid (Below w.heap.size w wr)) (fun _ i _ => pg - (intOf i).toNat)
  case atStart => exact ⟨0, [], Nat.zero_le _, rfl, Lib.hid rfl, Lib.hid (LRow.nil _ _), Lib.hid (Below.refl _ _)⟩
  case round =>
    obtain ⟨k, rs, hk, rfl, HRS, HROW, HB⟩ := hrel
    by_cases hlt : k < pg
    · have hL := look_any wr k (HSTO.out.below HB.out HPQ.out) (HPQ.out.below HB.out) HC.out (by omega) hq HF.out
      have hCp := fun W (hb : Below w.heap.size w W) => copyOf_any W k (HSTO.out.below hb HPQ.out) (HPQ.out.below hb) HC.out (by omega) hq HF.out
      have hn := rep_not (C := C) (S := S) (k := k)
      have hy := rep_take (C := C) (S := S) (k := k)
      generalize lookR C S k = R at hL hn hy
      obtain ⟨l0, z0, code⟩ := R
      have hgd := copy_good C S k C.tw
      generalize copyR C S k C.tw = R2 at hCp hn hy hgd
      obtain ⟨l, z, fo⟩ := R2
      simp only at hL hn hy hCp hgd
      have HGD := Lib.hid hgd
      clear hgd
      have HL := Lib.hid hL
      have HCP := Lib.hid hCp
      have HN := Lib.hid hn
      have HY := Lib.hid hy
      clear hL hn hy hCp
      go_wp2_with fail
      refine HL.out.mono ?_
      rintro e w1 ⟨a0, m0, c0, rfl, hS0, b1, -⟩
      have B1 := HB.out.trans (b1.mono HB.out.size)
      have R1 := HROW.out.below b1
      have b2 : Below w1.heap.size w1 (w1.alloc (.cells #[.int .i64 l0, .slice a0 m0 c0] 41)) := (Below.refl _ _).alloc (Nat.le_refl _) _
      have B2 := Lib.hid (B1.trans (b2.mono B1.size))
      have R2 := Lib.hid (R1.below b2)
      clear hS0 b1 B1 R1 b2
      by_cases h20 : code = 20
      · subst h20
        go_upto_region 6 with (fail)
        generalize hGen : w1.alloc (.cells #[.int .i64 l0, .slice a0 m0 c0] 41) = W at B2 R2 ⊢
        clear hGen
        go_wp2_with fail
        refine (HCP.out _ B2.out).mono ?_
        rintro e w3 ⟨a, m, c, rfl, hS3, b3, hnew⟩
        have B3 := B2.out.trans (b3.mono B2.out.size)
        have R3 := R2.out.below b3
        have hX := Blk.new w3 41 #[.int .i64 l, .slice a m c]
        have b4 : Below w3.heap.size w3 (w3.alloc (.cells #[.int .i64 l, .slice a m c] 41)) := (Below.refl _ _).alloc (Nat.le_refl _) _
        have B4 := Lib.hid (B3.trans (b4.mono B3.size))
        have R4 := Lib.hid (R3.below b4)
        have S4 := Lib.hid (hS3.below b4)
        have hal : ∀ b off e, a = some ⟨b, off, e⟩ → 0 < m → b < (w3.alloc (.cells #[.int .i64 l, .slice a m c] 41)).heap.size := fun b off e he hm => by
          obtain ⟨b', off', e', hlt', -⟩ := S4.out.2.2 hm
          rw [he] at e'; cases e'; exact hlt'
        have HAL := Lib.hid hal
        have HNEW : Hid (∀ b off e, a = some ⟨b, off, e⟩ → W.heap.size ≤ b) := Lib.hid hnew
        clear hS3 b3 hnew B3 R3 b4 hal
        cases fo with
        | false =>
          have HN2 := Lib.hid (HRS.out.trans (HN.out (by simp)).symm)
          clear hX
          go_wp2
          go_roundw
          case rel => exact ⟨k + 1, rs, by omega, by go_num, HN2, R4, B4⟩
          case measure => simp [intOf]; omega
        | true =>
          have HY2 := Lib.hid (HY.out trivial rfl)
          go_upto_region 9 with (fail)
          generalize hGen : w3.alloc (.cells #[.int .i64 l, .slice a m c] 41) = X at B4 R4 S4 hX HAL ⊢
          clear hGen
          have x0 := hX.cell 0
          have x1 := hX.cell 1
          simp at x0 x1
          have b5 : Below X.heap.size X (X.alloc (.cells #[.int .i64 (k : Int), .int .i64 l, .slice a m c] 43)) := (Below.refl _ _).alloc (Nat.le_refl _) _
          have R5 := Lib.hid (R4.out.below b5)
          have S5 := Lib.hid (S4.out.below b5)
          have B5 := Lib.hid (B4.out.trans (b5.mono B4.out.size))
          have hwX : Hid (X.heap.size ≤ (X.alloc (.cells #[.int .i64 (k : Int), .int .i64 l, .slice a m c] 43)).heap.size) := Lib.hid b5.size
          have hvl : ∀ g, u3.ownBlock = some g → g < W.heap.size := fun g hg => own_lt R2.out.own hg
          have HVL := Lib.hid hvl
          have hrl : rs.length ≤ 1024 := by
            have e := congrArg List.length HRS.out
            simp only [List.length_map] at e
            have := (rep_facts C S k).1
            omega
          have HXL := Lib.hid (show m ≤ 1000000 by have h1 := (Slab.good_parts (HGD.out trivial)).2.2.1; have h2 := S4.out.len; omega)
          clear b5 hvl
          go_wp2_with (at_builtin; refine wpList_append_own_at _ rfl _ _ 35 rfl w.heap.size 43 i0 (.agg #[.int .i64 0, .int .i64 0, .slice none 0 0]) 3 40 Tryd.underlying35 hi hz0 hz1 hz2 rfl (by decide) u3 rs.length (rcells rs) rfl R5.out.own ⟨X.heap.size, 0, none⟩ 1 1 [.int .i64 (k : Int), .int .i64 l, .slice a m c] rfl rfl ?c1 ?c2 ?c3 ?c4 ?c5 ?_)
          case c1 =>
            intro j u hj
            match j, hj with
            | 0, hj => simp at hj; subst hj; simp [Addr.add]
            | 1, hj => simp at hj; subst hj; simp [Addr.add]
            | 2, hj => simp at hj; subst hj; simp [Addr.add]
          case c2 => intro u hu; simp at hu; rcases hu with rfl | rfl | rfl <;> rfl
          case c3 => unfold maxLen; omega
          case c4 => omega
          case c5 => exact B5.out.size
          intro v' w6 hown' hgrow' _ hat
          have R6 := Lib.hid (R5.out.push (r := ⟨⟨(k : Int), l, z⟩, a, m, c⟩) hown' hgrow' (by rw [World.size_alloc]; exact hat) S5.out HXL.out (fun b off e he hm => ⟨Nat.le_trans B2.out.size (HNEW.out b off e he), Nat.lt_of_lt_of_le (HAL.out b off e he hm) hwX.out, fun e2 => by have h1 := HVL.out b e2; have h2 := HNEW.out b off e he; omega⟩) (by simp only; omega))
          have B6 := Lib.hid (show Below w.heap.size w w6 from ⟨hgrow'.os.trans B5.out.os, hgrow'.tape.trans B5.out.tape, hgrow'.output.trans B5.out.output, Nat.le_trans B5.out.size hgrow'.size, fun j hj => (hgrow'.block j (Nat.lt_of_lt_of_le hj B5.out.size) (fun e => by have := own_base R5.out.own e.symm; omega)).trans (B5.out.block j hj)⟩)
          have HRS6 := Lib.hid (show (rs ++ [(⟨⟨(k : Int), l, z⟩, a, m, c⟩ : Ro)]).map (·.x) = repL C S (k + 1) by rw [HY2.out, List.map_append, HRS.out]; rfl)
          clear hown' hgrow' hat x0 x1 hX
          go_wp2
          go_roundw
          case rel => exact ⟨k + 1, _, by omega, by go_num, HRS6, R6, B6⟩
          case measure => simp [intOf]; omega
      · have h20' : (code != 20) = true := by rw [bne_iff_ne]; exact h20
        have HN2 := Lib.hid (HRS.out.trans (HN.out (fun e => h20 e.1)).symm)
        clear h20
        go_wp2
        go_roundw
        case rel => exact ⟨k + 1, rs, by omega, by go_num, HN2, R2, B2⟩
        case measure => simp [intOf]; omega
    · obtain rfl : k = pg := by omega
      have hpm := HPQ.out.more HB.out
      obtain ⟨a, c, hv, hcap, hlv⟩ := HROW.out.leaves (M := fun j => M j ∨ (w.heap.size ≤ j ∧ j < wr.heap.size)) (fun j h1 h2 => .inr ⟨h1, h2⟩)
      rw [HRS.out] at hlv
      have hlen : (repL C S k).length = rs.length := by rw [← HRS.out]; simp
      obtain ⟨f1, f2⟩ := rep_facts C S k
      have HLV := Lib.hid hlv
      have HPM := Lib.hid hpm
      have HLE := Lib.hid hlen
      have HF1 := Lib.hid f1
      have HF2 := Lib.hid f2
      subst hv
      clear hlv hpm hlen f1 f2 hcap
      go_wp2_with fail
      refine (homes_any wr s rs.length c a).mono ?_
      rintro e w2 ⟨rfl, k1, k2, b2⟩
      have B2 := HB.out.trans (b2.mono HB.out.size)
      have hpm2 := HPM.out.more b2
      have hlay := lay_home (M := fun j => (M j ∨ (w.heap.size ≤ j ∧ j < wr.heap.size)) ∨ (wr.heap.size ≤ j ∧ j < w2.heap.size)) w2 S a rs.length c wr.heap.size (wr.heap.size + 1) (repL C S k) (s := s) (p := p) (lf := lf) (C := C)
        (by have := HSTO.out.below B2 HPQ.out; exact ⟨this.1, .inl (.inl this.2)⟩) hpm2 HC.out ((HLV.out.below b2 HPM.out.lt).mono (fun j hj => .inl hj)) (by have := HF1.out; have := HLE.out; omega) (fun x hx => by have := HF2.out x hx; omega) (HCALM.out.mono (by have := HF1.out; have := HLE.out; have := HPG.out; omega)) k1 k2 (.inr ⟨Nat.le_refl _, k1.lt⟩) (.inr ⟨Nat.le_succ _, k2.lt⟩)
      have HLAY := Lib.hid hlay
      have HKE := Lib.hid (Keep.of_below B2 HPQ.out.lt)
      clear hlay k1 k2 b2 B2 hpm2
      go_wp2_with fail
      refine HLAY.out.mono ?_
      rintro e w3 ⟨rfl, hp3, hk3⟩
      have HP3 := Lib.hid (hp3.mono (fun j hj => Or.inl (Or.inl hj)))
      have HK3 := Lib.hid (HKE.out.trans (hk3.mono (fun j hj => Or.inl (Or.inl hj))))
      clear hp3 hk3 HLAY
      go_wp2
      go_ret
      exact ⟨rfl, HP3.out, HK3.out⟩
end
end Go.Proofs.YtnnppdjgmjgjhaaDoor.Twin
namespace Go.Proofs.YtnnppdjgmjgjhaaDoor.Twin
set_option maxRecDepth 100000
open Go.RowKit Go.Sort
open Go.Proofs.YtnnppdjgmjgjhaaDoor.Mem
open Go.Proofs.YtnnppdjgmjgjhaaDoor.Plate

theorem set_full {f : Nat → Sec} {N : Nat} (fate : Nat → Int) {q : List Wr} (hf : ∀ k, k < N → (f k).t = false → (f k).d.size = 256) (hq : ∀ x ∈ q, x.d.size = 256) : ∀ j, j ≤ q.length → ∀ k, k < N → (setTo f fate q j k).t = false → (setTo f fate q j k).d.size = 256
  | 0, _ => hf
  | j + 1, h => fun k hk ht => by
    have hm : q.getD j now ∈ q := by
      have e : q.getD j now = q[j] := by simp [List.getD, show j < q.length by omega]
      rw [e]; exact List.getElem_mem _
    have ih := set_full fate hf hq j (by omega) k hk
    unfold setTo fateS upd at ht ⊢
    by_cases h1 : fate j = 1
    · rw [if_pos h1] at ht ⊢
      by_cases h2 : k = (q.getD j now).n
      · simp only [if_pos h2] at ht ⊢; exact hq _ hm
      · simp only [if_neg h2] at ht ⊢; exact ih ht
    · rw [if_neg h1] at ht ⊢
      by_cases h3 : fate j = 2
      · rw [if_pos h3] at ht ⊢
        by_cases h2 : k = (q.getD j now).n
        · simp only [if_pos h2] at ht; cases ht
        · simp only [if_neg h2] at ht ⊢; exact ih ht
      · rw [if_neg h3] at ht ⊢; exact ih ht
theorem Full.act {S : PS} (h : Full S) : Full (actS S) := by
  unfold actS offS
  split
  · exact ⟨h.sec, h.q⟩
  · split <;> exact ⟨h.sec, h.q⟩
theorem Full.done {S : PS} (h : Full S) (fate : Nat → Int) : Full (doneS S fate) := ⟨fun k hk ht => set_full fate h.sec h.q S.q.length (Nat.le_refl _) k hk ht, fun _ hx => by simp [doneS] at hx⟩
theorem Full.write {S : PS} (h : Full S) (n : Int) (s : ByteArray) : Full (writeS S n s) := by
  unfold writeS
  split
  · exact h
  · split
    · rename_i hs
      refine Full.act ⟨h.sec, fun x hx => ?_⟩
      rcases List.mem_append.1 hx with h1 | h1
      · exact h.q x h1
      · simp at h1; subst h1
        simp only [Bool.and_eq_true, decide_eq_true_eq] at hs
        exact hs.2
    · exact h
theorem Full.sync {S : PS} (h : Full S) : Full (syncS S) := by
  unfold syncS
  split
  · exact h
  · split
    · exact h.act
    · exact h.act.done _
theorem Full.off {S : PS} (h : Full S) : Full (offS S) := ⟨h.sec, h.q⟩
theorem Full.arm {S : PS} (h : Full S) (n : Int) : Full (armS S n) := ⟨h.sec, h.q⟩
theorem Full.on {S : PS} (h : Full S) (fs : List Int) : Full (onS S fs) := by
  unfold onS
  split
  · exact Full.done (S := { S with off := false }) ⟨h.sec, h.q⟩ _
  · exact h
theorem Full.new (N : Nat) : Full (newS N) := ⟨fun _ _ _ => fstr_size 256 0, fun _ h => by simp [newS] at h⟩
theorem Full.run : ∀ (ws : List Wr) {S : PS}, Full S → Full (layRun ws S).2
  | [], _, h => h.sync
  | x :: r, S, h => by
    rw [layRun]
    split
    · exact Full.run r (h.write _ _)
    · exact h.write _ _
theorem Full.lay {S : PS} (h : Full S) (ws : List Wr) : Full (lay ws S).2 := by
  unfold Twin.lay
  split
  · exact h
  · exact Full.run ws h
theorem Calm.sync {S : PS} {k : Nat} (h : Calm S (k + 1)) : Calm (syncS S) k := by
  obtain ⟨h1, h2, h3, h4⟩ := h
  obtain ⟨a1, a2, a3, a4⟩ := act_le S
  unfold syncS
  split
  · exact ⟨by omega, by omega, h3, by omega⟩
  · split
    · exact ⟨by omega, by omega, by omega, by rw [a4]; omega⟩
    · have e1 : (doneS (actS S) fun _ => 1).life = (actS S).life := rfl
      have e2 : (doneS (actS S) fun _ => 1).acts = (actS S).acts := rfl
      have e3 : (doneS (actS S) fun _ => 1).arm = (actS S).arm := rfl
      have e4 : (doneS (actS S) fun _ => 1).q.length = 0 := rfl
      exact ⟨by omega, by omega, by omega, by omega⟩
theorem Calm.run : ∀ (ws : List Wr) {S : PS} {k : Nat}, Calm S (k + ws.length + 1) → Calm (layRun ws S).2 k
  | [], _, _, h => h.sync
  | x :: r, S, k, h => by
    rw [layRun]
    have h1 : Calm S ((k + r.length + 1) + 1) := h.mono (by simp; omega)
    split
    · exact Calm.run r (h1.write _ _)
    · exact (h1.write _ _).mono (by omega)
theorem Calm.lay {S : PS} {k : Nat} {ws : List Wr} (h : Calm S (k + ws.length + 1)) : Calm (lay ws S).2 k := by
  unfold Twin.lay
  split
  · exact h.mono (by omega)
  · exact Calm.run ws h
theorem rep_len (C : Cfg) (S : PS) : (repW C S).length ≤ C.pg := by
  unfold repW; rw [ws_len]; exact (rep_facts C S C.pg).1
theorem oks_has {C : Cfg} {ls : List Lf} : ∀ {n : Nat}, oksR C ls n = true → ∀ i, i < n → hasR C (ls.getD i lf0).n = true
  | n + 1, h, i, hi => by
    rw [oksR, Bool.and_eq_true] at h
    by_cases e : i = n
    · subst e
      have := h.2
      unfold okR at this
      simp only [Bool.and_eq_true] at this
      exact this.1.2
    · exact oks_has h.1 i (by omega)
theorem takes_has {C : Cfg} {ls : List Lf} (h : takesR C ls = true) : ls.length ≤ C.tw ∧ ∀ x ∈ ls, 0 ≤ x.n ∧ x.n < C.pg := by
  unfold takesR at h
  rw [Bool.and_eq_true, decide_eq_true_eq] at h
  refine ⟨h.1, fun x hx => ?_⟩
  obtain ⟨i, hi, rfl⟩ := List.mem_iff_getElem.1 hx
  have := oks_has h.2 i hi
  rw [show ls.getD i lf0 = ls[i] by simp [List.getD, hi]] at this
  unfold hasR at this
  simpa using this
/-- what Open hands back -/
def OpenRes (M : Nat → Prop) (p : Nat) (C : Cfg) (lf : Nat) (O : Int × PS) (w : World) (e : Ending) (w' : World) : Prop :=
  ∃ (s : Nat) (M' : Nat → Prop), e = .returned (.tuple #[.pointer (if O.1 = 0 then some ⟨s, 0, none⟩ else none), .int .i64 O.1]) ∧ PQ w' p M' O.2 ∧ Keep M w w' ∧ (∀ k, M k → M' k) ∧ Sto M' w' s p C lf
theorem open_ret {a b : Option Addr} {c : Int} (h : b = a) : Ending.returned (.tuple #[.pointer a, .int .i64 c]) = .returned (.tuple #[.pointer b, .int .i64 c]) := by rw [h]
section
variable {p : Nat} {C : Cfg} {S : PS}
set_option maxHeartbeats 2000000 in
/-- a store is opened, the power being on -/
theorem open_any (w : World) (M : Nat → Prop) (hp : PQ w p M S) (hc : C.small) (h1 : 1 ≤ C.tw) (h2 : 1 ≤ C.pg) (h3 : C.fr + C.tw + C.pg ≤ S.N) (hN : S.N ≤ 16384) (ho : S.off = false) (hf : Full S) (hS : Calm S (2 * C.pg + 2)) :
    Calls Tryd.prog 7 #[.pointer (some ⟨p, 0, none⟩), .int .i64 (C.fr : Int), .int .i64 (C.tw : Int), .int .i64 (C.pg : Int)] w (OpenRes M p C S.life (openR C S) w) := by
  have hq : S.q.length ≤ 1000000 := by have := hS.q; omega
  have hR := room_yes w p M S C hp hc h1 h2 h3 hN
  have hD := fun W (hb : Below w.heap.size w W) => pq_down W p M S (hp.below hb)
  have hLf := fun W (hb : Below w.heap.size w W) => pq_life W p M S (hp.below hb)
  rw [ho] at hD
  have HR := Lib.hid hR
  have HD := Lib.hid hD
  have HLF := Lib.hid hLf
  have HP := Lib.hid hp
  have HF := Lib.hid hf
  have HC := Lib.hid hc
  have HS := Lib.hid hS
  obtain ⟨rp, hrp⟩ : ∃ rp, rp = lay (repW C S) S := ⟨_, rfl⟩
  have hop : openR C S = if rp.1 = 0 then (if wholeR C rp.2 C.pg then (0, rp.2) else (4, rp.2)) else rp := by rw [hrp]; rfl
  have HRP := Lib.hid hrp
  have HOP := Lib.hid hop
  obtain ⟨O, hO⟩ : ∃ O, O = openR C S := ⟨_, rfl⟩
  rw [← hO] at HOP ⊢
  obtain ⟨lf, hlf⟩ : ∃ lf, lf = S.life := ⟨_, rfl⟩
  rw [← hlf] at HLF ⊢
  obtain ⟨fr, hfr⟩ : ∃ fr, fr = C.fr := ⟨_, rfl⟩
  obtain ⟨tw, htw⟩ : ∃ tw, tw = C.tw := ⟨_, rfl⟩
  obtain ⟨pg, hpg⟩ : ∃ pg, pg = C.pg := ⟨_, rfl⟩
  have HE := Lib.hid (And.intro hfr (And.intro htw hpg))
  rw [← hfr, ← htw, ← hpg] at HR
  rw [← hfr, ← htw, ← hpg]
  clear hR hD hLf hp hf hc hS hrp hop hO hlf hfr htw hpg ho h1 h2 h3 hN
  go_enter Tryd.func7, Tryd.ntmps7
  go_wp2_with fail
  refine HR.out.mono ?_
  rintro e w1 ⟨rfl, b1⟩
  go_wp2_with fail
  refine (HD.out _ b1).mono ?_
  rintro e w1 ⟨rfl, rfl⟩
  go_wp2_with fail
  refine (HLF.out _ b1).mono ?_
  rintro e w1 ⟨rfl, rfl⟩
  have hB := Blk.new w1 68 #[.pointer (some ⟨p, 0, none⟩), .int .i64 (fr : Int), .int .i64 (tw : Int), .int .i64 (pg : Int), .int .i64 (lf : Int)]
  have B2 := b1.alloc b1.size (.cells #[.pointer (some ⟨p, 0, none⟩), .int .i64 (fr : Int), .int .i64 (tw : Int), .int .i64 (pg : Int), .int .i64 (lf : Int)] 68)
  have hpm := HP.out.more B2
  have hsl := b1.size
  go_upto_region 8 with (fail)
  generalize hGen : w1.alloc (.cells #[.pointer (some ⟨p, 0, none⟩), .int .i64 (fr : Int), .int .i64 (tw : Int), .int .i64 (pg : Int), .int .i64 (lf : Int)] 68) = W at hB B2 hpm ⊢
  clear hGen
  have hst : Sto (fun k => M k ∨ (w.heap.size ≤ k ∧ k < W.heap.size)) W w1.heap.size p C lf := ⟨by rw [HE.out.1, HE.out.2.1, HE.out.2.2] at hB; exact hB, .inr ⟨hsl, hB.lt⟩⟩
  have hrep := repair_any W hst hpm HC.out HF.out (HS.out.mono (by omega))
  rw [← HRP.out] at hrep
  have HST := Lib.hid hst
  have HKE := Lib.hid (Keep.of_below B2 HP.out.lt)
  have HFL : Hid (Full rp.2) := Lib.hid (by rw [HRP.out]; exact HF.out.lay _)
  have HCL : Hid (Calm rp.2 (C.pg + 1)) := Lib.hid (by rw [HRP.out]; exact Calm.lay (HS.out.mono (by have := rep_len C S; omega)))
  have HREP := Lib.hid hrep
  clear hrep hst hB B2 hpm b1 hsl HP HF HRP
  obtain ⟨re, rS⟩ := rp
  go_wp2_with fail
  refine HREP.out.mono ?_
  rintro e w3 ⟨rfl, hp3, hk3⟩
  have HST3 := Lib.hid (HST.out.keep hk3)
  have HP3 := Lib.hid hp3
  have HK3 := Lib.hid (HKE.out.trans (hk3.mono (fun j hj => Or.inl hj)))
  clear hp3 hk3 HREP HST HKE
  by_cases h0 : re = 0
  · subst h0
    have hw := whole_any w3 HST3.out HP3.out HC.out (by have := HCL.out.q; omega) HFL.out
    have hop := HOP.out
    simp only [if_true] at hop hw
    generalize wholeR C rS C.pg = wb at hop hw
    have HW := Lib.hid hw
    have HOP2 := Lib.hid hop
    clear hw hop
    go_wp2_with fail
    refine HW.out.mono ?_
    rintro e w4 ⟨rfl, b4⟩
    have HP4 := Lib.hid (HP3.out.below b4)
    have HST4 := Lib.hid (HST3.out.keep (Keep.of_below b4 HP3.out.lt))
    have HK4 := Lib.hid (HK3.out.trans (Keep.of_below (M := M) b4 (fun j hj => HP3.out.lt j (.inl hj))))
    clear b4
    cases wb
    · have hO : O = (4, rS) := HOP2.out.trans (if_neg (by decide))
      subst hO
      go_wp2
      go_ret2
      exact ⟨w1.heap.size, _, by first | rfl | (simp; done), HP4.out, HK4.out, fun j hj => .inl hj, HST4.out⟩
    · have hO : O = (0, rS) := HOP2.out.trans (if_pos rfl)
      subst hO
      go_wp2
      go_ret2
      exact ⟨w1.heap.size, _, by first | rfl | (simp; done), HP4.out, HK4.out, fun j hj => .inl hj, HST4.out⟩
  · have h0' : (re != 0) = true := by rw [bne_iff_ne]; exact h0
    have hO : O = (re, rS) := HOP.out.trans (if_neg h0)
    subst hO
    have HO := Lib.hid (if_neg h0 : (if re = 0 then some (⟨w1.heap.size, 0, none⟩ : Addr) else none) = none)
    clear h0
    go_wp2
    go_ret2
    exact ⟨w1.heap.size, _, open_ret HO.out, HP3.out, HK3.out, fun j hj => Or.inl hj, HST3.out⟩
theorem Leaves.getx {M : Nat → Prop} {w : World} {a : Option Addr} {n : Nat} {ls : List Lf} (h : Leaves M w a n ls) : ls.length = n := h.1
set_option maxHeartbeats 2000000 in
/-- pages are written -/
theorem write_any (w : World) (M : Nat → Prop) (s lf : Nat) (a : Option Addr) (n c : Nat) (ls : List Lf) (h : Sto M w s p C lf) (hp : PQ w p M S) (hc : C.small) (hl : Leaves M w a n ls) (hn : n ≤ 1000) (hcap : n ≤ c) (hS : Calm S (2 * n + 2)) (hlf : S.life = lf) :
    Calls Tryd.prog 10 #[.pointer (some ⟨s, 0, none⟩), .slice a n c] w fun e w' => e = .returned (.int .i64 (writeR C S ls).1) ∧ PQ w' p M (writeR C S ls).2 ∧ Keep M w w' := by
  have hr := ready_any w S h hp
  rw [if_pos hlf] at hr
  have ht := fun W (hb : Below w.heap.size w W) => takes_any W a n c ls (h.keep (Keep.of_below hb hp.lt)) hc (hl.below hb hp.lt) (fun k hk => Nat.lt_of_lt_of_le (hp.lt k hk) hb.size) (by omega) hcap
  have hlen := hl.len
  have HR := Lib.hid hr
  have HT := Lib.hid ht
  have HSTO := Lib.hid h
  have HP := Lib.hid hp
  have HC := Lib.hid hc
  have HL := Lib.hid hl
  have HS := Lib.hid hS
  clear hr ht h hp hc hl hS hlf hcap
  cases hb : takesR C ls with
  | false =>
    rw [hb] at HT
    have HW := Lib.hid (show writeR C S ls = (1, S) by unfold writeR; rw [hb]; rfl)
    rw [HW.out]
    clear hb
    go_enter Tryd.func10, Tryd.ntmps10
    go_wp2_with fail
    refine HR.out.mono ?_
    rintro e w1 ⟨rfl, b1⟩
    go_wp2_with fail
    refine (HT.out _ b1).mono ?_
    rintro e w2 ⟨rfl, b2⟩
    have B2 := b1.trans (b2.mono b1.size)
    go_wp2
    go_ret
    exact ⟨rfl, HP.out.below B2, Keep.of_below B2 HP.out.lt⟩
  | true =>
    rw [hb] at HT
    obtain ⟨htl, htx⟩ := takes_has hb
    have hxs : ∀ x ∈ ls, 0 ≤ x.n ∧ x.n ≤ 1024 := fun x hx => by have := htx x hx; have := HC.out.pg; omega
    obtain ⟨r1, hr1⟩ : ∃ r1, r1 = lay (wsOf C.twin ls) S := ⟨_, rfl⟩
    have hw : writeR C S ls = if r1.1 = 0 then lay (wsOf (homeOf C ls) ls) r1.2 else r1 := by unfold writeR; rw [hb, if_pos rfl, hr1]
    have hcl : Calm r1.2 (n + 1) := by rw [hr1]; exact Calm.lay (HS.out.mono (by rw [ws_len]; omega))
    have hl1 := fun W (hb : Below w.heap.size w W) => lay_twin W S a n c ls (HSTO.out.keep (Keep.of_below hb HP.out.lt)) (HP.out.below hb) HC.out (HL.out.below hb HP.out.lt) (by omega) hxs (HS.out.mono (by omega))
    rw [← hr1] at hl1
    obtain ⟨W0, hW0⟩ : ∃ W0, W0 = writeR C S ls := ⟨_, rfl⟩
    rw [← hW0] at hw ⊢
    have HW := Lib.hid hw
    have HL1 := Lib.hid hl1
    have HCL := Lib.hid hcl
    have HXS := Lib.hid hxs
    clear hb htl htx hxs hr1 hw hcl hl1 hW0
    obtain ⟨re, rS⟩ := r1
    go_enter Tryd.func10, Tryd.ntmps10
    go_wp2_with fail
    refine HR.out.mono ?_
    rintro e w1 ⟨rfl, b1⟩
    go_wp2_with fail
    refine (HT.out _ b1).mono ?_
    rintro e w2 ⟨rfl, b2⟩
    have B2 := b1.trans (b2.mono b1.size)
    have HK2 := Lib.hid (Keep.of_below B2 HP.out.lt)
    have hl2 := HL1.out w2 B2
    clear b1 b2 B2
    go_wp2_with fail
    refine hl2.mono ?_
    rintro e w3 ⟨rfl, hp3, hk3⟩
    have HP3 := Lib.hid hp3
    have HK3 := Lib.hid (HK2.out.trans hk3)
    clear hp3 hk3 hl2 HK2
    by_cases h0 : re = 0
    · subst h0
      have hW0 : W0 = lay (wsOf (homeOf C ls) ls) rS := HW.out.trans (if_pos rfl)
      subst hW0
      go_wp2_with fail
      refine (homes_any w3 s n c a).mono ?_
      rintro e w4 ⟨rfl, k1, k2, b4⟩
      have hl3 := lay_home (M := fun j => M j ∨ (w3.heap.size ≤ j ∧ j < w4.heap.size)) w4 rS a n c w3.heap.size (w3.heap.size + 1) ls (s := s) (p := p) (lf := lf) (C := C)
        (by have := (HSTO.out.keep HK3.out).keep (Keep.of_below b4 HP3.out.lt); exact ⟨this.1, .inl this.2⟩) (HP3.out.more b4) HC.out (((HL.out.keep HK3.out).below b4 HP3.out.lt).mono (fun j hj => .inl hj)) (by omega) HXS.out HCL.out k1 k2 (.inr ⟨Nat.le_refl _, k1.lt⟩) (.inr ⟨Nat.le_succ _, k2.lt⟩)
      have HL3 := Lib.hid hl3
      have HK4 := Lib.hid (HK3.out.trans (Keep.of_below b4 HP3.out.lt))
      clear hl3 k1 k2 b4
      go_wp2_with fail
      refine HL3.out.mono ?_
      rintro e w5 ⟨rfl, hp5, hk5⟩
      have HP5 := Lib.hid (hp5.mono (fun j hj => Or.inl hj))
      have HK5 := Lib.hid (HK4.out.trans (hk5.mono (fun j hj => Or.inl hj)))
      clear hp5 hk5 HL3
      go_wp2
      go_ret
      exact ⟨rfl, HP5.out, HK5.out⟩
    · have h0' : (re != 0) = true := by rw [bne_iff_ne]; exact h0
      have hW0 : W0 = (re, rS) := HW.out.trans (if_neg h0)
      subst hW0
      clear h0
      go_wp2
      go_ret
      exact ⟨rfl, HP3.out, HK3.out⟩
set_option maxHeartbeats 1000000 in
/-- a page is read -/
theorem readp_any (w : World) (M : Nat → Prop) (s lf n : Nat) (h : Sto M w s p C lf) (hp : PQ w p M S) (hc : C.small) (hn : n < C.pg) (hq : S.q.length ≤ 1000000) (hf : Full S) (hlf : S.life = lf) :
    Calls Tryd.prog 13 #[.pointer (some ⟨s, 0, none⟩), .int .i64 (n : Int)] w (Slab.PageRes (lookR C S n).1 (lookR C S n).2.1 (lookR C S n).2.2 w) := by
  have hb0 : Below w.heap.size w (w.alloc (.cells #[.int .i64 0, .slice none 0 0] 41)) := (Below.refl _ _).alloc (Nat.le_refl _) _
  have hB := Blk.new w 41 #[.int .i64 0, .slice none 0 0]
  have hlt : w.heap.size < (w.alloc (.cells #[.int .i64 0, .slice none 0 0] 41)).heap.size := by simp
  have hr := ready_any (w.alloc (.cells #[.int .i64 0, .slice none 0 0] 41)) S (h.below hb0 hp) (hp.below hb0)
  rw [if_pos hlf] at hr
  have hh := fun W (hb : Below w.heap.size w W) => has_any W (n : Int) (h.keep (Keep.of_below hb hp.lt)) hc
  have hhr : hasR C (n : Int) = true := by unfold hasR; simp; omega
  rw [hhr] at hh
  have hL := fun W (hb : Below w.heap.size w W) => look_any W n (h.keep (Keep.of_below hb hp.lt)) (hp.below hb) hc (by have := hc.pg; omega) hq hf
  generalize lookR C S n = R at hL ⊢
  obtain ⟨l, z, code⟩ := R
  simp only at hL ⊢
  have HR := Lib.hid hr
  have HH := Lib.hid hh
  have HL := Lib.hid hL
  clear hr hh hL h hp hf hlf hhr
  go_enter Tryd.func13, Tryd.ntmps13
  go_wp2_with fail
  refine HR.out.mono ?_
  rintro e w1 ⟨rfl, b1⟩
  have B1 := hb0.trans (b1.mono hb0.size)
  have hB1 := hB.below b1 hlt
  clear b1
  go_wp2_with fail
  refine (HH.out _ B1).mono ?_
  rintro e w2 ⟨rfl, b2⟩
  have B2 := B1.trans (b2.mono B1.size)
  have hB2 := hB1.below b2 hB1.lt
  go_wp2_with fail
  refine (HL.out _ B2).mono ?_
  rintro e w3 ⟨a, m, c, rfl, hS, b3, hnew⟩
  have B3 := B2.trans (b3.mono B2.size)
  have hwl : w.heap.size < w2.heap.size := hB2.lt
  have hB3 := hB2.below b3 hB2.lt
  obtain ⟨⟨s0, s1, s2, s3⟩, ⟨s4, s5, s6⟩, ⟨s7, s8, s9, s10⟩, hB4⟩ := page_store hB3 (.int .i64 l) (.slice a m c)
  have HS := Lib.hid hS
  have HN := Lib.hid hnew
  have HB := Lib.hid B3
  have HW := Lib.hid hwl
  clear hS hnew b3 hB2 B2 B3 hB3 hB4 hlt hwl
  go_wp2
  refine bodyPost_ret (v := .tuple #[.agg #[.int .i64 l, .slice a m c], .int .i64 code]) (by simp [results, Tryd.results13, go_sem, s7, s8]) rfl ⟨a, m, c, rfl, ?_, ?_, fun b off e h => by have := HN.out b off e h; have := HW.out; omega⟩
  · exact slots_set (slots_set HS.out HN.out HW.out _ _) HN.out HW.out _ _
  · exact (HB.out.setCell (p := ⟨w.heap.size, 0, none⟩) (Nat.le_refl _) _).setCell (p := ⟨w.heap.size, 1, none⟩) (Nat.le_refl _) _
set_option maxHeartbeats 400000 in
theorem read_nil' (w : World) (n : Int) :
    Calls Tryd.prog 13 #[.pointer none, .int .i64 n] w fun e w' => e = .returned (.tuple #[.agg #[.int .i64 0, .slice none 0 0], .int .i64 2]) ∧ Below w.heap.size w w' := by
  have hb0 : Below w.heap.size w (w.alloc (.cells #[.int .i64 0, .slice none 0 0] 41)) := (Below.refl _ _).alloc (Nat.le_refl _) _
  have hB := Blk.new w 41 #[.int .i64 0, .slice none 0 0]
  have hlt : w.heap.size < (w.alloc (.cells #[.int .i64 0, .slice none 0 0] 41)).heap.size := by simp
  have HR := Lib.hid (ready_nil (w.alloc (.cells #[.int .i64 0, .slice none 0 0] 41)))
  go_enter Tryd.func13, Tryd.ntmps13
  go_wp2_with fail
  refine HR.out.mono ?_
  rintro e w1 ⟨rfl, b1⟩
  have B1 := hb0.trans (b1.mono hb0.size)
  have hB1 := hB.below b1 hlt
  obtain ⟨⟨s0, s1, s2, s3⟩, ⟨s4, s5, s6⟩, ⟨s7, s8, s9, s10⟩, hB4⟩ := page_store hB1 (.int .i64 0) (.slice none 0 0)
  clear b1 hB1 hB4 hB hlt
  go_wp2
  exact bodyPost_ret (v := .tuple #[.agg #[.int .i64 0, .slice none 0 0], .int .i64 2]) (by simp [results, Tryd.results13, go_sem, s7, s8]) rfl ⟨rfl, (B1.setCell (p := ⟨w.heap.size, 0, none⟩) (Nat.le_refl _) _).setCell (p := ⟨w.heap.size, 1, none⟩) (Nat.le_refl _) _⟩
set_option maxHeartbeats 400000 in
theorem write_nil' (w : World) (v : Value) :
    Calls Tryd.prog 10 #[.pointer none, v] w fun e w' => e = .returned (.int .i64 2) ∧ Below w.heap.size w w' := by
  go_enter Tryd.func10, Tryd.ntmps10
  go_wp2_with fail
  refine (ready_nil w).mono ?_
  rintro e w1 ⟨rfl, b1⟩
  go_wp2
  go_ret
  exact ⟨rfl, b1⟩
end
end Go.Proofs.YtnnppdjgmjgjhaaDoor.Twin
namespace Go.Proofs.YtnnppdjgmjgjhaaDoor.Twin
set_option maxRecDepth 100000
open Go.RowKit
open Go.Proofs.YtnnppdjgmjgjhaaDoor.Mem
open Go.Proofs.YtnnppdjgmjgjhaaDoor.Plate

theorem tl_snoc (k : Nat) (l : List Wr) (x : Wr) : lastOf k (l ++ [x]) = if x.n = k then some x.d else lastOf k l := by
  induction l with
  | nil => simp [lastOf]
  | cons y r ih =>
    rw [List.cons_append, lastOf, ih]
    by_cases h : x.n = k
    · simp [h]
    · simp [h, lastOf]
theorem tk_snoc {q : List Wr} {j : Nat} (h : j < q.length) : q.take (j + 1) = q.take j ++ [q.getD j now] := by
  rw [List.take_succ_eq_append_getElem h]
  simp [List.getD, h]
theorem st_done (F : Nat → Sec) (q : List Wr) (k : Nat) : ∀ j, j ≤ q.length → setTo F (fun _ => 1) q j k = match lastOf k (q.take j) with | some d => ⟨d, false⟩ | none => F k
  | 0, _ => by simp [setTo, lastOf]
  | j + 1, h => by
    rw [setTo, tk_snoc (by omega), tl_snoc]
    have ih := st_done F q k j (by omega)
    unfold fateS
    rw [if_pos rfl]
    unfold upd
    by_cases hk : (q.getD j now).n = k
    · rw [if_pos hk.symm, if_pos hk]
    · rw [if_neg (fun e => hk e.symm), if_neg hk]; exact ih
theorem st_any (F : Nat → Sec) (fate : Nat → Int) (q : List Wr) (k : Nat) : ∀ j, j ≤ q.length → setTo F fate q j k = F k ∨ ∃ x ∈ q, x.n = k ∧ (setTo F fate q j k = ⟨x.d, false⟩ ∨ setTo F fate q j k = ⟨⟨#[]⟩, true⟩)
  | 0, _ => .inl rfl
  | j + 1, h => by
    have ih := st_any F fate q k j (by omega)
    rw [setTo]
    have hm : q.getD j now ∈ q := by
      have e : q.getD j now = q[j] := by simp [List.getD, show j < q.length by omega]
      rw [e]; exact List.getElem_mem _
    unfold fateS upd
    by_cases h1 : fate j = 1
    · rw [if_pos h1]
      by_cases hk : k = (q.getD j now).n
      · right; exact ⟨_, hm, hk.symm, .inl (by rw [if_pos hk])⟩
      · simp only [if_neg hk]; exact ih
    · rw [if_neg h1]
      by_cases h2 : fate j = 2
      · rw [if_pos h2]
        by_cases hk : k = (q.getD j now).n
        · right; exact ⟨_, hm, hk.symm, .inr (by rw [if_pos hk])⟩
        · simp only [if_neg hk]; exact ih
      · rw [if_neg h2]; exact ih
/-- all that waits is done -/
def setAll (F : Nat → Sec) (q : List Wr) (k : Nat) : Sec := match lastOf k q with | some d => ⟨d, false⟩ | none => F k
theorem st_all (F : Nat → Sec) (q : List Wr) : setTo F (fun _ => 1) q q.length = setAll F q := by
  funext k
  rw [st_done F q k q.length (Nat.le_refl _), List.take_length]
  rfl
theorem last_none {k : Nat} {q : List Wr} (h : ∀ x ∈ q, x.n ≠ k) : lastOf k q = none := by
  cases hl : lastOf k q with
  | none => rfl
  | some d => obtain ⟨x, hx, e, -⟩ := last_mem hl; exact absurd e (h x hx)
theorem last_some {k : Nat} {q : List Wr} {x : Wr} (hx : x ∈ q) (hn : x.n = k) : ∃ y ∈ q, y.n = k ∧ lastOf k q = some y.d := by
  cases hl : lastOf k q with
  | some d => obtain ⟨y, hy, e, e2⟩ := last_mem hl; exact ⟨y, hy, e, by rw [e2]⟩
  | none =>
    exfalso
    induction q with
    | nil => cases hx
    | cons y r ih =>
      rw [lastOf] at hl
      cases hr : lastOf k r with
      | some d => rw [hr] at hl; cases hl
      | none =>
        rw [hr] at hl
        simp only at hl
        rcases List.mem_cons.1 hx with rfl | h
        · rw [if_pos hn] at hl; cases hl
        · exact ih h hr
/-- a row of writes is done, or the power goes in it -/
structure RunOk (S T : PS) (ws : List Wr) : Prop where
  off : T.off = false
  q : T.q = []
  N : T.N = S.N
  life : T.life = S.life
  arm : S.arm = 0 → T.arm = 0
  acts : T.acts = S.acts + ws.length + 1
  sec : T.sec = setAll S.sec (S.q ++ ws)
structure RunNo (S T : PS) (ws : List Wr) : Prop where
  off : T.off = true
  N : T.N = S.N
  sec : T.sec = S.sec
  life : T.life = S.life + 1
  arm : T.arm = 0
  q : ∀ x ∈ T.q, x ∈ S.q ++ ws
  armed : S.arm ≠ 0
theorem act_on {S : PS} (h0 : S.off = false) (h1 : S.arm ≠ 1) : (actS S).off = false ∧ (actS S).life = S.life ∧ (S.arm = 0 → (actS S).arm = 0) ∧ (actS S).acts = S.acts + 1 ∧ (actS S).q = S.q ∧ (actS S).sec = S.sec ∧ (actS S).N = S.N ∧ actE S = 0 := by
  unfold actS actE
  by_cases h : S.arm = 0
  · rw [if_pos h, if_neg h1]; exact ⟨h0, rfl, fun _ => h, rfl, rfl, rfl, rfl, rfl⟩
  · rw [if_neg h, if_neg h1, if_neg h1]; exact ⟨h0, rfl, fun e => absurd e h, rfl, rfl, rfl, rfl, rfl⟩
theorem act_down {S : PS} (h0 : S.off = false) (h1 : S.arm = 1) : (actS S).off = true ∧ (actS S).life = S.life + 1 ∧ (actS S).arm = 0 ∧ (actS S).q = S.q ∧ (actS S).sec = S.sec ∧ (actS S).N = S.N ∧ actE S = 10 := by
  unfold actS actE offS
  rw [if_neg (by omega), if_pos h1, if_pos h1]
  exact ⟨rfl, by simp [h0], rfl, rfl, rfl, rfl, rfl⟩
theorem run_cases : ∀ (ws : List Wr) (S : PS), S.off = false → (∀ x ∈ ws, x.n < S.N ∧ x.d.size = 256) → ((layRun ws S).1 = 0 ∧ RunOk S (layRun ws S).2 ws) ∨ ((layRun ws S).1 = 10 ∧ RunNo S (layRun ws S).2 ws)
  | [], S, h0, _ => by
    rw [layRun]
    unfold syncE syncS
    simp only [h0, Bool.false_eq_true, if_false]
    by_cases h1 : S.arm = 1
    · obtain ⟨a1, a2, a3, a4, a5, a6, a7⟩ := act_down h0 h1
      rw [if_pos h1]
      exact .inr ⟨a7, a1, a6, a5, a2, a3, fun x hx => by rw [a4] at hx; simpa using hx, by omega⟩
    · obtain ⟨a1, a2, a3, a4, a5, a6, a7, a8⟩ := act_on h0 h1
      rw [if_neg h1]
      refine .inl ⟨a8, a1, rfl, a7, a2, a3, by simpa [doneS] using a4, ?_⟩
      show setTo (actS S).sec (fun _ => 1) (actS S).q (actS S).q.length = _
      rw [st_all, a5, a6, List.append_nil]
  | x :: r, S, h0, hw => by
    obtain ⟨hx1, hx2⟩ := hw x List.mem_cons_self
    have hin : inS S (x.n : Int) = true := by unfold inS; simp; exact hx1
    obtain ⟨e1, e2⟩ := write_ok h0 hin hx2
    rw [layRun, e1, e2, Int.toNat_natCast]
    have p0 : (putS S x.n x.d).off = false := h0
    by_cases h1 : S.arm = 1
    · obtain ⟨a1, a2, a3, a4, a5, a6, a7⟩ := act_down p0 h1
      have e : ¬ actE S = 0 := by unfold actE; rw [if_pos h1]; decide
      rw [if_neg e]
      refine .inr ⟨by unfold actE; rw [if_pos h1], a1, a6, a5, a2, a3, fun y hy => ?_, by omega⟩
      rw [a4] at hy
      have hy2 : y ∈ S.q ++ [(⟨x.n, x.d⟩ : Wr)] := hy
      rcases List.mem_append.1 hy2 with h | h
      · exact List.mem_append_left _ h
      · simp at h; subst h; exact List.mem_append_right _ List.mem_cons_self
    · obtain ⟨a1, a2, a3, a4, a5, a6, a7, a8⟩ := act_on p0 h1
      have e : actE S = 0 := by unfold actE; rw [if_neg h1]
      rw [if_pos e]
      have hq : (actS (putS S x.n x.d)).q = S.q ++ [x] := a5
      rcases run_cases r (actS (putS S x.n x.d)) a1 (fun y hy => by rw [a7]; exact hw y (List.mem_cons_of_mem _ hy)) with ⟨c1, c2⟩ | ⟨c1, c2⟩
      · refine .inl ⟨c1, c2.off, c2.q, c2.N.trans a7, c2.life.trans a2, fun h => c2.arm (a3 h), ?_, ?_⟩
        · rw [c2.acts, a4]; show S.acts + 1 + r.length + 1 = _; simp; omega
        · rw [c2.sec, a6, hq]; show setAll S.sec (S.q ++ [x] ++ r) = _; rw [List.append_assoc]; rfl
      · refine .inr ⟨c1, c2.off, c2.N.trans a7, c2.sec.trans a6, by rw [c2.life, a2]; rfl, c2.arm, fun y hy => ?_, fun h => c2.armed (a3 h)⟩
        have := c2.q y hy
        rw [hq, List.append_assoc] at this
        exact this

/-- the bytes of a page's sector -/
theorem sec_list {n : Nat} {l : Int} {z : List Slab.Slot} (h : Slab.goodB l z = true) : (secB n l z).data.toList = Slab.encB l.toNat z ++ tailL n ∧ (Slab.encB l.toNat z).length = 240 := by
  have hp := Slab.good_parts h
  refine ⟨?_, Slab.encB_len hp.2.2.2.2.2⟩
  unfold secB Slab.encS' tailB
  rw [if_pos h]
  simp
theorem tail_inj {m n : Nat} (hm : m < 65536) (hn : n < 65536) (h : tailL m = tailL n) : m = n := by
  unfold tailL at h
  simp only [List.cons.injEq, true_and, and_true] at h
  have h1 := congrArg UInt8.toNat h.1
  have h2 := congrArg UInt8.toNat h.2
  rw [UInt8.toNat_ofNat', UInt8.toNat_ofNat'] at h1 h2
  omega
theorem suf_iff {a t u : List UInt8} (h : t.length = u.length) : Lib.hasSuffix (a ++ t) u = true ↔ t = u := by
  unfold Lib.hasSuffix
  rw [List.isSuffixOf_iff_suffix]
  constructor
  · intro hs
    have := List.suffix_iff_eq_drop.1 hs
    rw [List.length_append, h, Nat.add_sub_cancel, List.drop_left' (by omega)] at this
    exact this.symm
  · rintro rfl; exact List.suffix_append _ _
theorem sec_size {n : Nat} {l : Int} {z : List Slab.Slot} (h : Slab.goodB l z = true) : (secB n l z).size = 256 := by
  obtain ⟨h1, h2⟩ := sec_list (n := n) h
  have := congrArg List.length h1
  rw [List.length_append, h2] at this
  simpa [tailL] using this
theorem page_same {n : Nat} {l : Int} {z : List Slab.Slot} (h : Slab.goodB l z = true) : pageR (secB n l z) n = (l, z, true) := by
  obtain ⟨h1, h2⟩ := sec_list (n := n) h
  obtain ⟨L, rfl⟩ := Int.eq_ofNat_of_zero_le (Slab.good_parts h).1
  unfold pageR
  rw [h1, sec_size h, if_pos ((suf_iff rfl).2 rfl), List.take_left' (by rw [h2]), Int.toNat_natCast, Slab.dec_enc h]
  rfl
theorem page_other {m n : Nat} {l : Int} {z : List Slab.Slot} (h : Slab.goodB l z = true) (hm : m < 65536) (hn : n < 65536) (hne : m ≠ n) : pageR (secB m l z) n = (0, [], false) := by
  obtain ⟨h1, h2⟩ := sec_list (n := m) h
  unfold pageR
  rw [h1, if_neg]
  intro e
  exact hne (tail_inj hm hn ((suf_iff (t := tailL m) (u := tailL n) rfl).1 e))
theorem sec_zero {n : Nat} {l : Int} {z : List Slab.Slot} (h : Slab.goodB l z = true) : zeroB (secB n l z) = false := by
  obtain ⟨h1, h2⟩ := sec_list (n := n) h
  unfold zeroB
  rw [h1, List.all_eq_false]
  exact ⟨80, List.mem_append_right _ (by unfold tailL; exact List.mem_cons_self), by decide⟩
theorem zeros_list : (fstr 256 0).data.toList = List.replicate 240 0 ++ List.replicate 16 0 := by
  rw [List.replicate_append_replicate]; unfold fstr; simp
theorem zeros_page (n : Nat) : pageR (fstr 256 0) n = (0, [], false) := by
  unfold pageR
  rw [zeros_list, if_neg]
  intro e
  have := (suf_iff (t := List.replicate 16 0) (u := tailL n) rfl).1 e
  unfold tailL at this
  simp [List.replicate] at this
theorem zeros_zero : zeroB (fstr 256 0) = true := by
  unfold zeroB
  rw [zeros_list]
  simp

abbrev Pg := Int × List Slab.Slot
/-- a home that has a page -/
def HasP (n : Nat) (P : Pg) (s : Sec) : Prop := s.t = false ∧ ((s.d = fstr 256 0 ∧ P = (0, [])) ∨ (Slab.goodB P.1 P.2 = true ∧ s.d = secB n P.1 P.2))
/-- a twin's sector: what the newest have of a page is its newest image -/
def TwOK (L : Int) (next : Nat → Pg) (s : Sec) : Prop := s.t = true ∨ s.d = fstr 256 0 ∨ ∃ m l z, m < 5 ∧ Slab.goodB l z = true ∧ s.d = secB m l z ∧ l ≤ L ∧ (l = L → next m = (l, z))
/-- the newest image of a page stands in a twin's sector -/
def HasC (L : Int) (next : Nat → Pg) (f : Nat → Sec) (n : Nat) : Prop := ∃ t z, t < 3 ∧ Slab.goodB L z = true ∧ f t = ⟨secB n L z, false⟩ ∧ next n = (L, z)
def CF : Cfg := ⟨0, 3, 5⟩
theorem cf_small : CF.small := ⟨by decide, by decide, by decide⟩
theorem cf_home (n : Nat) : CF.home n = 3 + n := by simp [CF, Cfg.home]
theorem cf_twin (n : Nat) : CF.twin n = n := by simp [CF, Cfg.twin]
/-- the power is on, nothing waits -/
structure Calmed (S : PS) : Prop where
  off : S.off = false
  q : S.q = []
  N : S.N = 16
theorem read_at {S : PS} (h : Calmed S) {k : Nat} (hk : k < 16) : readE S (k : Int) = (if (S.sec k).t then 20 else 0) ∧ readD S (k : Int) = (if (S.sec k).t then ⟨#[]⟩ else (S.sec k).d) := by
  have hi : inS S (k : Int) = true := by unfold inS; simp; rw [h.N]; exact hk
  have hl : lastOf k S.q = none := by rw [h.q]; rfl
  cases ht : (S.sec k).t with
  | true => have := read_torn h.off hi hl ht; simpa using this
  | false => have := read_sec h.off hi hl ht; simpa using this
theorem look_has {S : PS} (h : Calmed S) {n : Nat} (hn : n < 5) {P : Pg} (hp : HasP n P (S.sec (3 + n))) : lookR CF S n = (P.1, P.2, 0) := by
  obtain ⟨e1, e2⟩ := read_at h (k := 3 + n) (by omega)
  obtain ⟨ht, hd⟩ := hp
  rw [ht] at e1 e2
  simp only [Bool.false_eq_true, if_false] at e1 e2
  unfold lookR
  rw [cf_home, e1, e2, if_pos rfl]
  rcases hd with ⟨hd, rfl⟩ | ⟨hg, hd⟩
  · rw [hd, zeros_zero]; rfl
  · rw [hd, sec_zero hg, page_same hg]; rfl
theorem look_torn {S : PS} (h : Calmed S) {n : Nat} (hn : n < 5) (ht : (S.sec (3 + n)).t = true) : lookR CF S n = (0, [], 20) := by
  obtain ⟨e1, e2⟩ := read_at h (k := 3 + n) (by omega)
  rw [ht] at e1
  simp only [if_true] at e1
  unfold lookR
  rw [cf_home, e1, if_neg (by decide)]
/-- the newest copy is found -/
theorem copy_new {S : PS} (h : Calmed S) {n : Nat} (hn : n < 5) {L : Int} {next : Nat → Pg} (htw : ∀ i, i < 3 → TwOK L next (S.sec i)) : ∀ i, i ≤ 3 →
    ((copyR CF S n i).2.2 = true → (copyR CF S n i).1 ≤ L ∧ ((copyR CF S n i).1 = L → next n = (L, (copyR CF S n i).2.1))) ∧
    (∀ t z, t < i → S.sec t = ⟨secB n L z, false⟩ → Slab.goodB L z = true → next n = (L, z) → copyR CF S n i = (L, z, true))
  | 0, _ => ⟨fun h => by simp [copyR] at h, fun t z h => absurd h (Nat.not_lt_zero _)⟩
  | i + 1, hi => by
    obtain ⟨ih1, ih2⟩ := copy_new h hn htw i (by omega)
    obtain ⟨e1, e2⟩ := read_at h (k := i) (by omega)
    have keep : copyR CF S n (i + 1) = copyR CF S n i → (∀ z, S.sec i = ⟨secB n L z, false⟩ → Slab.goodB L z = true → next n = (L, z) → copyR CF S n i = (L, z, true)) →
        ((copyR CF S n (i + 1)).2.2 = true → (copyR CF S n (i + 1)).1 ≤ L ∧ ((copyR CF S n (i + 1)).1 = L → next n = (L, (copyR CF S n (i + 1)).2.1))) ∧
        (∀ t z, t < i + 1 → S.sec t = ⟨secB n L z, false⟩ → Slab.goodB L z = true → next n = (L, z) → copyR CF S n (i + 1) = (L, z, true)) := by
      intro e hlast
      rw [e]
      refine ⟨ih1, fun t z ht hs hg hx => ?_⟩
      by_cases hti : t = i
      · subst hti; exact hlast z hs hg hx
      · exact ih2 t z (by omega) hs hg hx
    cases ht : (S.sec i).t with
    | true =>
      rw [ht] at e1
      simp only [if_true] at e1
      refine keep (copy_not (by rw [cf_twin, e1]; decide)) (fun z hs => ?_)
      rw [hs] at ht; cases ht
    | false =>
      rw [ht] at e1 e2
      simp only [Bool.false_eq_true, if_false] at e1 e2
      rcases htw i (by omega) with h0 | h0 | ⟨m, l, z, hm, hg, hd, hle, heq⟩
      · rw [ht] at h0; cases h0
      · refine keep (copy_keep (by rw [cf_twin, e2, h0, zeros_page]; rfl)) (fun z hs hg hx => ?_)
        exfalso
        rw [hs] at h0
        have := page_same (n := n) hg
        simp only at h0
        rw [h0, zeros_page] at this
        cases this
      · by_cases hmn : m = n
        · subst hmn
          have hpg : pageR (readD S (CF.twin i : Int)) m = (l, z, true) := by rw [cf_twin, e2, hd, page_same hg]
          cases hb : better (l, z, true) (copyR CF S m i) with
          | true =>
            have hc : copyR CF S m (i + 1) = (l, z, true) := by
              have := copy_take (C := CF) (S := S) (n := m) (i := i) (by rw [cf_twin]; exact e1) (by rw [hpg]; exact hb)
              rw [hpg] at this
              exact this
            rw [hc]
            refine ⟨fun _ => ⟨hle, fun e => by have e' : l = L := e; rw [heq e', e']⟩, fun t z' ht' hs hg' hx => ?_⟩
            by_cases hti : t = i
            · subst hti
              rw [hs] at hd
              simp only at hd
              have h1 := page_same (n := m) hg'
              rw [hd, page_same hg] at h1
              exact h1
            · have := ih2 t z' (by omega) hs hg' hx
              rw [this] at hb
              simp [better] at hb
              omega
          | false =>
            refine keep (copy_keep (by rw [hpg]; exact hb)) (fun z' hs hg' hx => ?_)
            rw [hs] at hd
            simp only at hd
            have h1 := page_same (n := m) hg'
            rw [hd, page_same hg] at h1
            simp only [Prod.mk.injEq, and_true] at h1
            obtain ⟨rfl, rfl⟩ := h1
            have hf : (copyR CF S m i).2.2 = true ∧ ¬ (copyR CF S m i).1 < l := by
              simpa [better] using hb
            obtain ⟨i1, i2⟩ := ih1 hf.1
            have e3 : (copyR CF S m i).1 = l := by omega
            have e4 := i2 e3
            rw [hx] at e4
            simp only [Prod.mk.injEq, true_and] at e4
            rw [← e3, e4, ← hf.1]
        · refine keep (copy_keep (by rw [cf_twin, e2, hd, page_other hg (by omega) (by omega) hmn]; rfl)) (fun z' hs hg' _ => ?_)
          exfalso
          rw [hs] at hd
          simp only at hd
          have h1 := page_same (n := n) hg'
          rw [hd, page_other hg (by omega) (by omega) hmn] at h1
          cases h1
end Go.Proofs.YtnnppdjgmjgjhaaDoor.Twin
namespace Go.Proofs.YtnnppdjgmjgjhaaDoor.Twin
set_option maxRecDepth 100000
open Go.RowKit
open Go.Proofs.YtnnppdjgmjgjhaaDoor.Mem
open Go.Proofs.YtnnppdjgmjgjhaaDoor.Plate

/-- behind a loss of power: each home has the page as it was, or as it was to be, or is torn, and has a copy -/
structure CrS (f : Nat → Sec) (sure next : Nat → Pg) (L : Int) : Prop where
  home : ∀ n, n < 5 → HasP n (sure n) (f (3 + n)) ∨ HasP n (next n) (f (3 + n)) ∨ ((f (3 + n)).t = true ∧ HasC L next f n)
  twin : ∀ i, i < 3 → TwOK L next (f i)
/-- what may wait when the power goes in that -/
structure Wait (q : List Wr) (f : Nat → Sec) (sure next : Nat → Pg) (L : Int) : Prop where
  home : ∀ x ∈ q, 3 ≤ x.n → ∃ n, n < 5 ∧ x.n = 3 + n ∧ HasC L next f n ∧ x.d = secB n (next n).1 (next n).2
  twin : ∀ x ∈ q, x.n < 3 → (∀ n, n < 5 → HasP n (sure n) (f (3 + n))) ∧ (∀ y ∈ q, y.n < 3) ∧ ∃ m z, m < 5 ∧ Slab.goodB L z = true ∧ x.d = secB m L z ∧ next m = (L, z)
theorem has_new {n : Nat} {L : Int} {z : List Slab.Slot} (h : Slab.goodB L z = true) {P : Pg} (hP : P = (L, z)) : HasP n P ⟨secB n P.1 P.2, false⟩ := by
  subst hP; exact ⟨rfl, .inr ⟨h, rfl⟩⟩
/-- the power is back, whatever became of what waited -/
theorem CrS.back {f : Nat → Sec} {sure next : Nat → Pg} {L : Int} {q : List Wr} (h : CrS f sure next L) (hw : Wait q f sure next L) (fate : Nat → Int) : CrS (setTo f fate q q.length) sure next L := by
  have key := fun k => st_any f fate q k q.length (Nat.le_refl _)
  by_cases hq : ∃ x ∈ q, x.n < 3
  · obtain ⟨x0, hx0, hn0⟩ := hq
    obtain ⟨h1, h2, -⟩ := hw.twin x0 hx0 hn0
    refine ⟨fun n hn => ?_, fun i hi => ?_⟩
    · rcases key (3 + n) with e | ⟨x, hx, e, -⟩
      · rw [e]; exact .inl (h1 n hn)
      · have := h2 x hx; omega
    · rcases key i with e | ⟨x, hx, e, e2⟩
      · rw [e]; exact h.twin i hi
      · obtain ⟨-, -, m, z, hm, hg, hd, hx2⟩ := hw.twin x hx (by omega)
        rcases e2 with e2 | e2 <;> rw [e2]
        · exact .inr (.inr ⟨m, L, z, hm, hg, hd, Int.le_refl _, fun _ => hx2⟩)
        · exact .inl rfl
  · have hno : ∀ x ∈ q, 3 ≤ x.n := fun x hx => by
      rcases Nat.lt_or_ge x.n 3 with h1 | h1
      · exact absurd ⟨x, hx, h1⟩ hq
      · exact h1
    have htw : ∀ i, i < 3 → setTo f fate q q.length i = f i := fun i hi => by
      rcases key i with e | ⟨x, hx, e, -⟩
      · exact e
      · have := hno x hx; omega
    have hc : ∀ n, HasC L next f n → HasC L next (setTo f fate q q.length) n := fun n ⟨t, z, ht, hg, e, hx⟩ => ⟨t, z, ht, hg, by rw [htw t ht]; exact e, hx⟩
    refine ⟨fun n hn => ?_, fun i hi => by rw [htw i hi]; exact h.twin i hi⟩
    rcases key (3 + n) with e | ⟨x, hx, e, e2⟩
    · rw [e]
      rcases h.home n hn with h1 | h1 | ⟨h1, h2⟩
      · exact .inl h1
      · exact .inr (.inl h1)
      · exact .inr (.inr ⟨h1, hc n h2⟩)
    · obtain ⟨m, hm, hmn, hcm, hd⟩ := hw.home x hx (hno x hx)
      obtain rfl : m = n := by omega
      rcases e2 with e2 | e2
      · obtain ⟨t, z, ht, hg, e3, hx3⟩ := hcm
        rw [e2, hd]
        exact .inr (.inl (has_new hg hx3))
      · rw [e2]
        exact .inr (.inr ⟨rfl, hc m hcm⟩)

/-- what Open writes home -/
theorem rep_in {S : PS} (hS : Calmed S) {sure next : Nat → Pg} {L : Int} (h : CrS S.sec sure next L) : ∀ k, k ≤ 5 →
    (∀ x ∈ repL CF S k, ∃ n : Nat, n < k ∧ x.n = (n : Int) ∧ (S.sec (3 + n)).t = true ∧ HasC L next S.sec n ∧ (x.l, x.z) = next n) ∧
    (∀ n, n < k → (S.sec (3 + n)).t = true → ∃ x ∈ repL CF S k, x.n = (n : Int))
  | 0, _ => ⟨fun _ h => by simp [repL] at h, fun _ h => absurd h (Nat.not_lt_zero _)⟩
  | k + 1, hk => by
    obtain ⟨i1, i2⟩ := rep_in hS h k (by omega)
    cases ht : (S.sec (3 + k)).t with
    | false =>
      have hl : (lookR CF S k).2.2 = 0 := by
        rcases h.home k (by omega) with h1 | h1 | ⟨h1, -⟩
        · rw [look_has hS (by omega) h1]
        · rw [look_has hS (by omega) h1]
        · rw [ht] at h1; cases h1
      rw [rep_not (by rw [hl]; exact fun e => absurd e.1 (by decide))]
      refine ⟨fun x hx => ?_, fun n hn hnt => ?_⟩
      · obtain ⟨n, hn, r⟩ := i1 x hx; exact ⟨n, by omega, r⟩
      · by_cases e : n = k
        · subst e; rw [ht] at hnt; cases hnt
        · exact i2 n (by omega) hnt
    | true =>
      have hc : HasC L next S.sec k := by
        rcases h.home k (by omega) with h1 | h1 | ⟨-, h1⟩
        · rw [h1.1] at ht; cases ht
        · rw [h1.1] at ht; cases ht
        · exact h1
      obtain ⟨t, z, htt, hg, e1, e2⟩ := hc
      have hcp := (copy_new hS (n := k) (by omega) h.twin 3 (Nat.le_refl _)).2 t z htt e1 hg e2
      have hcp' : copyR CF S k CF.tw = (L, z, true) := hcp
      rw [rep_take (by rw [look_torn hS (by omega) ht]) (by rw [hcp']), hcp']
      refine ⟨fun x hx => ?_, fun n hn hnt => ?_⟩
      · rcases List.mem_append.1 hx with h1 | h1
        · obtain ⟨n, hn, r⟩ := i1 x h1; exact ⟨n, by omega, r⟩
        · simp at h1; subst h1
          exact ⟨k, by omega, rfl, ht, ⟨t, z, htt, hg, e1, e2⟩, e2.symm⟩
      · by_cases e : n = k
        · subst e; exact ⟨_, List.mem_append_right _ List.mem_cons_self, rfl⟩
        · obtain ⟨x, hx, hxn⟩ := i2 n (by omega) hnt
          exact ⟨x, List.mem_append_left _ hx, hxn⟩
theorem ws_mem {wh : Nat → Nat} {ls : List Lf} {x : Wr} (h : x ∈ wsOf wh ls) : ∃ i y, i < ls.length ∧ ls[i]? = some y ∧ ls.getD i lf0 = y ∧ x = ⟨wh i, secB y.n.toNat y.l y.z⟩ := by
  unfold wsOf at h
  obtain ⟨i, hi, rfl⟩ := List.mem_map.1 h
  have hi2 : i < ls.length := by simpa using hi
  exact ⟨i, ls[i], hi2, List.getElem?_eq_getElem hi2, by simp [List.getD, hi2], by simp [List.getD, hi2]⟩
theorem ws_in {wh : Nat → Nat} {ls : List Lf} {i : Nat} {y : Lf} (h : ls[i]? = some y) : (⟨wh i, secB y.n.toNat y.l y.z⟩ : Wr) ∈ wsOf wh ls := by
  obtain ⟨hl, rfl⟩ := List.getElem?_eq_some_iff.1 h
  unfold wsOf
  exact List.mem_map.2 ⟨i, by simpa using hl, by simp [List.getD, hl]⟩
theorem home_mem {ls : List Lf} {x : Wr} (h : x ∈ wsOf (homeOf CF ls) ls) : ∃ y ∈ ls, x = ⟨3 + y.n.toNat, secB y.n.toNat y.l y.z⟩ := by
  obtain ⟨i, y, hi, h1, h2, h3⟩ := ws_mem h
  refine ⟨y, List.mem_of_getElem? h1, ?_⟩
  rw [h3]
  unfold homeOf
  rw [h2, cf_home]
theorem home_in {ls : List Lf} {y : Lf} (h : y ∈ ls) : (⟨3 + y.n.toNat, secB y.n.toNat y.l y.z⟩ : Wr) ∈ wsOf (homeOf CF ls) ls := by
  obtain ⟨i, hi, rfl⟩ := List.mem_iff_getElem.1 h
  have h1 : ls[i]? = some ls[i] := List.getElem?_eq_getElem hi
  have h2 := ws_in (wh := homeOf CF ls) h1
  have h3 : homeOf CF ls i = 3 + ls[i].n.toNat := by
    unfold homeOf
    rw [show ls.getD i lf0 = ls[i] by simp [List.getD, hi], cf_home]
  rw [h3] at h2
  exact h2
/-- an opening: it ends, or the power goes in it -/
structure Opened (S T : PS) (sure next : Nat → Pg) (L : Int) : Prop where
  cal : Calmed T
  cr : CrS T.sec sure next L
  life : T.life = S.life
  look : ∀ n, n < 5 → ∃ P, (P = sure n ∨ P = next n) ∧ HasP n P (T.sec (3 + n))
structure Downed (S T : PS) (sure next : Nat → Pg) (L : Int) : Prop where
  off : T.off = true
  N : T.N = 16
  cr : CrS T.sec sure next L
  wait : Wait T.q T.sec sure next L
  life : T.life = S.life + 1
  arm : T.arm = 0
theorem rep_ws {S : PS} (hS : Calmed S) {sure next : Nat → Pg} {L : Int} (h : CrS S.sec sure next L) {x : Wr} (hx : x ∈ repW CF S) :
    ∃ n z, n < 5 ∧ x.n = 3 + n ∧ (S.sec (3 + n)).t = true ∧ HasC L next S.sec n ∧ Slab.goodB L z = true ∧ next n = (L, z) ∧ x.d = secB n L z := by
  obtain ⟨y, hy, rfl⟩ := home_mem hx
  obtain ⟨n, hn, e1, e2, e3, e4⟩ := (rep_in hS h 5 (Nat.le_refl _)).1 y hy
  obtain ⟨t, z, ht, hg, e5, e6⟩ := e3
  rw [e6] at e4
  simp only [Prod.mk.injEq] at e4
  refine ⟨n, z, hn, by simp only; omega, e2, ⟨t, z, ht, hg, e5, e6⟩, hg, e6, ?_⟩
  simp only
  rw [e1, e4.1, e4.2]
  rfl
theorem open_cases {S : PS} (hS : Calmed S) {sure next : Nat → Pg} {L : Int} (h : CrS S.sec sure next L) :
    ((openR CF S).1 = 0 ∧ Opened S (openR CF S).2 sure next L) ∨ ((openR CF S).1 = 10 ∧ S.arm ≠ 0 ∧ Downed S (openR CF S).2 sure next L) := by
  have hin := rep_in hS h 5 (Nat.le_refl _)
  have hws := fun x hx => rep_ws hS h (x := x) hx
  -- behind a repair that has ended
  have fin : ∀ T : PS, Calmed T → T.life = S.life → T.sec = setAll S.sec (repW CF S) → Opened S T sure next L ∧ wholeR CF T CF.pg = true := by
    intro T hT hl hsec
    have htw : ∀ i, i < 3 → T.sec i = S.sec i := fun i hi => by
      rw [hsec]
      unfold setAll
      rw [last_none (fun x hx => by obtain ⟨n, z, -, e, -⟩ := hws x hx; omega)]
    have hlook : ∀ n, n < 5 → ∃ P, (P = sure n ∨ P = next n) ∧ HasP n P (T.sec (3 + n)) := by
      intro n hn
      cases ht : (S.sec (3 + n)).t with
      | false =>
        have e : T.sec (3 + n) = S.sec (3 + n) := by
          rw [hsec]
          unfold setAll
          rw [last_none (fun x hx => by
            obtain ⟨m, z, -, e, e2, -⟩ := hws x hx
            intro e3
            obtain rfl : m = n := by omega
            rw [ht] at e2; cases e2)]
        rw [e]
        rcases h.home n hn with h1 | h1 | ⟨h1, -⟩
        · exact ⟨_, .inl rfl, h1⟩
        · exact ⟨_, .inr rfl, h1⟩
        · rw [ht] at h1; cases h1
      | true =>
        obtain ⟨y, hy, hyn⟩ := hin.2 n hn ht
        obtain ⟨x, hx, hxn, hxl⟩ := last_some (k := 3 + n) (home_in hy) (by simp only; omega)
        obtain ⟨m, z, hm, e1, e2, e3, hg, e5, e6⟩ := hws x hx
        obtain rfl : m = n := by omega
        refine ⟨next m, .inr rfl, ?_⟩
        rw [hsec]
        unfold setAll
        rw [show lastOf (3 + m) (repW CF S) = some x.d from hxl, e6]
        have := has_new (n := m) hg e5
        rw [e5] at this ⊢
        exact this
    refine ⟨⟨hT, ⟨fun n hn => ?_, fun i hi => by rw [htw i hi]; exact h.twin i hi⟩, hl, hlook⟩, ?_⟩
    · obtain ⟨P, hP, hh⟩ := hlook n hn
      rcases hP with rfl | rfl
      · exact .inl hh
      · exact .inr (.inl hh)
    · have : ∀ k, k ≤ 5 → wholeR CF T k = true := by
        intro k
        induction k with
        | zero => intro _; rfl
        | succ k ih =>
          intro hk
          obtain ⟨P, -, hh⟩ := hlook k (by omega)
          rw [wholeR, ih (by omega), look_has hT (by omega) hh]
          rfl
      exact this 5 (Nat.le_refl _)
  have hop : openR CF S = if (lay (repW CF S) S).1 = 0 then (if wholeR CF (lay (repW CF S) S).2 CF.pg then (0, (lay (repW CF S) S).2) else (4, (lay (repW CF S) S).2)) else lay (repW CF S) S := rfl
  by_cases hne : repW CF S = []
  · have hl : lay (repW CF S) S = (0, S) := by unfold lay; rw [if_pos hne]
    obtain ⟨f1, f2⟩ := fin S hS rfl (by rw [hne]; funext k; rfl)
    rw [hop, hl]
    simp only [if_true, f2]
    exact .inl ⟨trivial, f1⟩
  · have hl : lay (repW CF S) S = layRun (repW CF S) S := by unfold lay; rw [if_neg hne]
    rcases run_cases (repW CF S) S hS.off (fun x hx => by
      obtain ⟨n, z, hn, e1, -, -, hg, -, e2⟩ := hws x hx
      exact ⟨by rw [hS.N]; omega, by rw [e2]; exact sec_size hg⟩) with ⟨c1, c2⟩ | ⟨c1, c2⟩
    · obtain ⟨f1, f2⟩ := fin (layRun (repW CF S) S).2 ⟨c2.off, c2.q, c2.N.trans hS.N⟩ c2.life (by rw [c2.sec, hS.q]; rfl)
      rw [hop, hl, c1]
      simp only [if_true, f2]
      exact .inl ⟨trivial, f1⟩
    · rw [hop, hl, c1, if_neg (by decide)]
      refine .inr ⟨c1, c2.armed, c2.off, c2.N.trans hS.N, by rw [c2.sec]; exact h, ⟨fun x hx _ => ?_, fun x hx hn => ?_⟩, c2.life, c2.arm⟩
      · have hx2 := c2.q x hx
        rw [hS.q, List.nil_append] at hx2
        obtain ⟨n, z, hn, e1, -, e3, hg, e5, e6⟩ := hws x hx2
        exact ⟨n, hn, e1, by rw [c2.sec]; exact e3, by rw [e5]; exact e6⟩
      · have hx2 := c2.q x hx
        rw [hS.q, List.nil_append] at hx2
        obtain ⟨n, z, -, e1, -⟩ := hws x hx2
        omega
end Go.Proofs.YtnnppdjgmjgjhaaDoor.Twin
namespace Go.Proofs.YtnnppdjgmjgjhaaDoor.Twin
set_option maxRecDepth 100000
open Go.RowKit
open Go.Proofs.YtnnppdjgmjgjhaaDoor.Mem
open Go.Proofs.YtnnppdjgmjgjhaaDoor.Plate

theorem oks_good {C : Cfg} {ls : List Lf} : ∀ {n : Nat}, oksR C ls n = true → ∀ i, i < n → Slab.goodB (ls.getD i lf0).l (ls.getD i lf0).z = true ∧ ∀ y ∈ ls.take i, ¬ y.n = (ls.getD i lf0).n
  | n + 1, h, i, hi => by
    rw [oksR, Bool.and_eq_true] at h
    by_cases e : i = n
    · subst e
      have := h.2
      unfold okR at this
      simp only [Bool.and_eq_true, Bool.not_eq_true'] at this
      refine ⟨this.2, fun y hy => ?_⟩
      have := List.any_eq_false.1 this.1.1 y hy
      simpa using this
    · exact oks_good h.1 i (by omega)
/-- a list that can be written -/
structure Takes (C : Cfg) (ls : List Lf) : Prop where
  len : ls.length ≤ C.tw
  has : ∀ x ∈ ls, ∃ m : Nat, m < C.pg ∧ x.n = (m : Int) ∧ Slab.goodB x.l x.z = true
  once : ∀ x ∈ ls, ∀ y ∈ ls, x.n = y.n → x = y
theorem takes_is {C : Cfg} {ls : List Lf} (h : takesR C ls = true) : Takes C ls := by
  obtain ⟨h1, h2⟩ := takes_has h
  unfold takesR at h
  rw [Bool.and_eq_true] at h
  have hg := oks_good h.2
  have gd : ∀ i (hi : i < ls.length), ls.getD i lf0 = ls[i] := fun i hi => by simp [List.getD, hi]
  refine ⟨h1, fun x hx => ?_, fun x hx y hy e => ?_⟩
  · obtain ⟨h3, h4⟩ := h2 x hx
    obtain ⟨i, hi, rfl⟩ := List.mem_iff_getElem.1 hx
    refine ⟨ls[i].n.toNat, by omega, by omega, ?_⟩
    have := (hg i hi).1
    rwa [gd i hi] at this
  · obtain ⟨i, hi, rfl⟩ := List.mem_iff_getElem.1 hx
    obtain ⟨j, hj, rfl⟩ := List.mem_iff_getElem.1 hy
    rcases Nat.lt_trichotomy i j with h5 | h5 | h5
    · exfalso
      have := (hg j hj).2 ls[i] (by rw [List.mem_take_iff_getElem]; exact ⟨i, by omega, rfl⟩)
      rw [gd j hj] at this
      exact this e
    · subst h5; rfl
    · exfalso
      have := (hg i hi).2 ls[j] (by rw [List.mem_take_iff_getElem]; exact ⟨j, by omega, rfl⟩)
      rw [gd i hi] at this
      exact this e.symm
/-- where a store's sectors are apart -/
theorem write_run {C : Cfg} {S : PS} {ls : List Lf} (ht : takesR C ls = true) (ho : S.off = false) (hN : C.fr + C.tw + C.pg ≤ S.N) (hne : ls ≠ []) :
    ((writeR C S ls).1 = 10 ∧ RunNo S (writeR C S ls).2 (wsOf C.twin ls)) ∨
    ((writeR C S ls).1 = 10 ∧ ∃ T, RunOk S T (wsOf C.twin ls) ∧ RunNo T (writeR C S ls).2 (wsOf (homeOf C ls) ls)) ∨
    ((writeR C S ls).1 = 0 ∧ ∃ T, RunOk S T (wsOf C.twin ls) ∧ RunOk T (writeR C S ls).2 (wsOf (homeOf C ls) ls)) := by
  have hT := takes_is ht
  have hl : ∀ wh : Nat → Nat, ∀ S : PS, lay (wsOf wh ls) S = layRun (wsOf wh ls) S := fun wh S => lay_run S (by cases ls with | nil => exact absurd rfl hne | cons x r => simp)
  have w1 : ∀ x ∈ wsOf C.twin ls, x.n < S.N ∧ x.d.size = 256 := fun x hx => by
    obtain ⟨i, y, hi, h1, h2, rfl⟩ := ws_mem hx
    obtain ⟨m, hm, -, hg⟩ := hT.has y (List.mem_of_getElem? h1)
    refine ⟨?_, sec_size hg⟩
    have := hT.len
    show C.twin i < _
    unfold Cfg.twin
    omega
  have w2 : ∀ x ∈ wsOf (homeOf C ls) ls, x.n < S.N ∧ x.d.size = 256 := fun x hx => by
    obtain ⟨i, y, hi, h1, h2, rfl⟩ := ws_mem hx
    obtain ⟨m, hm, e, hg⟩ := hT.has y (List.mem_of_getElem? h1)
    refine ⟨?_, sec_size hg⟩
    show homeOf C ls i < _
    unfold homeOf Cfg.home
    rw [h2]
    omega
  have hw : writeR C S ls = if (layRun (wsOf C.twin ls) S).1 = 0 then layRun (wsOf (homeOf C ls) ls) (layRun (wsOf C.twin ls) S).2 else layRun (wsOf C.twin ls) S := by
    unfold writeR; rw [ht, if_pos rfl, hl, hl]
  rcases run_cases (wsOf C.twin ls) S ho w1 with ⟨c1, c2⟩ | ⟨c1, c2⟩
  · rw [hw, if_pos c1]
    rcases run_cases (wsOf (homeOf C ls) ls) (layRun (wsOf C.twin ls) S).2 c2.off (fun x hx => by rw [c2.N]; exact w2 x hx) with ⟨d1, d2⟩ | ⟨d1, d2⟩
    · exact .inr (.inr ⟨d1, _, c2, d2⟩)
    · exact .inr (.inl ⟨d1, _, c2, d2⟩)
  · rw [hw, if_neg (by rw [c1]; decide)]
    exact .inl ⟨c1, c2⟩
theorem write_none (C : Cfg) (S : PS) : writeR C S [] = (0, S) := rfl

/-- all is as it was written last -/
structure Inv (S : PS) (sure : Nat → Pg) (L : Int) : Prop where
  cal : Calmed S
  home : ∀ n, n < 5 → HasP n (sure n) (S.sec (3 + n))
  twin : ∀ i, i < 3 → (S.sec i).t = true ∨ (S.sec i).d = fstr 256 0 ∨ ∃ m l z, m < 5 ∧ Slab.goodB l z = true ∧ (S.sec i).d = secB m l z ∧ l ≤ L
/-- a list whose pages all have the Lsn L -/
structure Newest (ls : List Lf) (sure next : Nat → Pg) (L : Int) : Prop where
  takes : takesR CF ls = true
  has : ∀ x ∈ ls, x.l = L ∧ next x.n.toNat = (L, x.z)
  rest : ∀ n : Nat, n < 5 → (∀ x ∈ ls, x.n ≠ (n : Int)) → next n = sure n
theorem tw_old {L0 L : Int} (hL : L0 < L) {next : Nat → Pg} {s : Sec} (h : s.t = true ∨ s.d = fstr 256 0 ∨ ∃ m l z, m < 5 ∧ Slab.goodB l z = true ∧ s.d = secB m l z ∧ l ≤ L0) : TwOK L next s := by
  rcases h with h | h | ⟨m, l, z, h1, h2, h3, h4⟩
  · exact .inl h
  · exact .inr (.inl h)
  · exact .inr (.inr ⟨m, l, z, h1, h2, h3, by omega, fun e => by omega⟩)
theorem twin_mem {ls : List Lf} {x : Wr} (h : x ∈ wsOf CF.twin ls) : ∃ i y, i < ls.length ∧ ls[i]? = some y ∧ x = ⟨i, secB y.n.toNat y.l y.z⟩ := by
  obtain ⟨i, y, hi, h1, h2, h3⟩ := ws_mem h
  exact ⟨i, y, hi, h1, by rw [h3, cf_twin]⟩
theorem twin_set {f : Nat → Sec} {ls : List Lf} {i : Nat} {y : Lf} (h : ls[i]? = some y) : setAll f (wsOf CF.twin ls) i = ⟨secB y.n.toNat y.l y.z, false⟩ := by
  have hin := ws_in (wh := CF.twin) h
  obtain ⟨x, hx, hxn, hl⟩ := last_some (k := i) hin (cf_twin i)
  obtain ⟨j, y', hj, h1, h2⟩ := twin_mem hx
  subst h2
  simp only at hxn hl
  subst hxn
  rw [h] at h1
  cases h1
  unfold setAll
  rw [hl]
theorem twin_out {f : Nat → Sec} {ls : List Lf} {k : Nat} (h : ls.length ≤ k) : setAll f (wsOf CF.twin ls) k = f k := by
  unfold setAll
  rw [last_none (fun x hx => by obtain ⟨i, y, hi, -, rfl⟩ := twin_mem hx; show i ≠ k; omega)]
theorem home_out {f : Nat → Sec} {ls : List Lf} {k : Nat} (h : ∀ x ∈ ls, 3 + x.n.toNat ≠ k) : setAll f (wsOf (homeOf CF ls) ls) k = f k := by
  unfold setAll
  rw [last_none (fun x hx => by obtain ⟨y, hy, rfl⟩ := home_mem hx; exact h y hy)]
theorem home_set {f : Nat → Sec} {ls : List Lf} {y : Lf} (h : y ∈ ls) : ∃ y' ∈ ls, y'.n.toNat = y.n.toNat ∧ setAll f (wsOf (homeOf CF ls) ls) (3 + y.n.toNat) = ⟨secB y'.n.toNat y'.l y'.z, false⟩ := by
  obtain ⟨x, hx, hxn, hl⟩ := last_some (k := 3 + y.n.toNat) (home_in h) rfl
  obtain ⟨y', hy', rfl⟩ := home_mem hx
  simp only at hxn hl
  refine ⟨y', hy', by omega, ?_⟩
  unfold setAll
  rw [hl]
theorem write_cases {S : PS} {sure next : Nat → Pg} {L0 L : Int} {ls : List Lf} (h : Inv S sure L0) (hL : L0 < L) (hn : Newest ls sure next L) :
    ((writeR CF S ls).1 = 0 ∧ Inv (writeR CF S ls).2 next L ∧ (writeR CF S ls).2.life = S.life ∧ (S.arm = 0 → (writeR CF S ls).2.arm = 0) ∧ (ls ≠ [] → (writeR CF S ls).2.acts = S.acts + 2 * ls.length + 2)) ∨
    ((writeR CF S ls).1 = 10 ∧ S.arm ≠ 0 ∧ Downed S (writeR CF S ls).2 sure next L) := by
  have hT := takes_is hn.takes
  have hlen : ls.length ≤ 3 := hT.len
  have hok : ∀ x ∈ ls, ∃ m : Nat, m < 5 ∧ x.n = (m : Int) ∧ x.n.toNat = m ∧ Slab.goodB L x.z = true ∧ x.l = L ∧ next m = (L, x.z) := fun x hx => by
    obtain ⟨m, hm, e, hg⟩ := hT.has x hx
    obtain ⟨h1, h2⟩ := hn.has x hx
    have e2 : x.n.toNat = m := by omega
    rw [h1] at hg
    rw [e2] at h2
    exact ⟨m, hm, e, e2, hg, h1, h2⟩
  by_cases hne : ls = []
  · subst hne
    rw [write_none]
    refine .inl ⟨rfl, ⟨h.cal, fun n hn5 => ?_, fun i hi => ?_⟩, rfl, fun e => e, fun e => absurd rfl e⟩
    · rw [hn.rest n hn5 (fun x hx => by simp at hx)]; exact h.home n hn5
    · rcases h.twin i hi with h1 | h1 | ⟨m, l, z, h1, h2, h3, h4⟩
      · exact .inl h1
      · exact .inr (.inl h1)
      · exact .inr (.inr ⟨m, l, z, h1, h2, h3, by omega⟩)
  -- behind the first half
  have mid : ∀ T, RunOk S T (wsOf CF.twin ls) → Calmed T ∧ (∀ n, n < 5 → HasP n (sure n) (T.sec (3 + n))) ∧ (∀ i, i < 3 → TwOK L next (T.sec i)) ∧ (∀ y ∈ ls, HasC L next T.sec y.n.toNat) := by
    intro T c
    have hsec : T.sec = setAll S.sec (wsOf CF.twin ls) := by rw [c.sec, h.cal.q]; rfl
    refine ⟨⟨c.off, c.q, c.N.trans h.cal.N⟩, fun n hn5 => ?_, fun i hi => ?_, fun y hy => ?_⟩
    · rw [hsec, twin_out (by omega)]; exact h.home n hn5
    · by_cases hil : i < ls.length
      · rw [hsec, twin_set (List.getElem?_eq_getElem hil)]
        obtain ⟨m, hm, -, e2, hg, e3, e4⟩ := hok ls[i] (List.getElem_mem hil)
        exact .inr (.inr ⟨m, L, ls[i].z, hm, hg, by rw [e2, e3], Int.le_refl _, fun _ => e4⟩)
      · rw [hsec, twin_out (by omega)]; exact tw_old hL (h.twin i hi)
    · obtain ⟨i, hi, rfl⟩ := List.mem_iff_getElem.1 hy
      obtain ⟨m, hm, -, e2, hg, e3, e4⟩ := hok ls[i] hy
      exact ⟨i, ls[i].z, by omega, hg, by rw [hsec, twin_set (List.getElem?_eq_getElem hi), e3], by rw [e2]; exact e4⟩
  rcases write_run hn.takes h.cal.off (by rw [h.cal.N]; decide) hne with ⟨c1, c2⟩ | ⟨c1, T, c2, c3⟩ | ⟨c1, T, c2, c3⟩
  · refine .inr ⟨c1, c2.armed, c2.off, c2.N.trans h.cal.N, ⟨fun n hn5 => by rw [c2.sec]; exact .inl (h.home n hn5), fun i hi => by rw [c2.sec]; exact tw_old hL (h.twin i hi)⟩, ⟨fun x hx hx3 => ?_, fun x hx _ => ?_⟩, c2.life, c2.arm⟩
    · have hx2 := c2.q x hx
      rw [h.cal.q, List.nil_append] at hx2
      obtain ⟨i, y, hi, -, rfl⟩ := twin_mem hx2
      simp only at hx3
      omega
    · have hx2 := c2.q x hx
      rw [h.cal.q, List.nil_append] at hx2
      obtain ⟨i, y, hi, hy, rfl⟩ := twin_mem hx2
      obtain ⟨m, hm, -, e2, hg, e3, e4⟩ := hok y (List.mem_of_getElem? hy)
      refine ⟨fun n hn5 => by rw [c2.sec]; exact h.home n hn5, fun v hv => ?_, m, y.z, hm, hg, by simp only; rw [e2, e3], e4⟩
      have hv2 := c2.q v hv
      rw [h.cal.q, List.nil_append] at hv2
      obtain ⟨j, u, hj, -, rfl⟩ := twin_mem hv2
      simp only; omega
  · obtain ⟨m1, m2, m3, m4⟩ := mid T c2
    refine .inr ⟨c1, fun e => c3.armed (c2.arm e), c3.off, c3.N.trans m1.N, ⟨fun n hn5 => by rw [c3.sec]; exact .inl (m2 n hn5), fun i hi => by rw [c3.sec]; exact m3 i hi⟩, ⟨fun x hx _ => ?_, fun x hx hx3 => ?_⟩, by rw [c3.life, c2.life], c3.arm⟩
    · have hx2 := c3.q x hx
      rw [m1.q, List.nil_append] at hx2
      obtain ⟨y, hy, rfl⟩ := home_mem hx2
      obtain ⟨m, hm, -, e2, hg, e3, e4⟩ := hok y hy
      refine ⟨m, hm, by simp only; rw [e2], ?_, by simp only; rw [e2, e3, e4]⟩
      rw [c3.sec]
      have := m4 y hy
      rwa [e2] at this
    · have hx2 := c3.q x hx
      rw [m1.q, List.nil_append] at hx2
      obtain ⟨y, hy, rfl⟩ := home_mem hx2
      simp only at hx3
      omega
  · obtain ⟨m1, m2, m3, m4⟩ := mid T c2
    have hsec : (writeR CF S ls).2.sec = setAll T.sec (wsOf (homeOf CF ls) ls) := by rw [c3.sec, m1.q]; rfl
    refine .inl ⟨c1, ⟨⟨c3.off, c3.q, c3.N.trans m1.N⟩, fun n hn5 => ?_, fun i hi => ?_⟩, c3.life.trans c2.life, fun e => c3.arm (c2.arm e), fun _ => by rw [c3.acts, c2.acts, ws_len, ws_len]; omega⟩
    · by_cases hin : ∃ y ∈ ls, y.n = (n : Int)
      · obtain ⟨y, hy, e⟩ := hin
        have en : y.n.toNat = n := by omega
        obtain ⟨y', hy', e2, e3⟩ := home_set (f := T.sec) hy
        rw [en] at e2 e3
        rw [hsec, e3, e2]
        obtain ⟨m, hm, -, e5, hg, e6, e7⟩ := hok y' hy'
        obtain rfl : m = n := by omega
        rw [e6]
        have := has_new (n := m) hg e7
        rw [e7] at this ⊢
        exact this
      · rw [hsec, home_out (fun x hx e => hin ⟨x, hx, by have := hok x hx; obtain ⟨m, hm, e1, e2, -⟩ := this; omega⟩), hn.rest n hn5 (fun x hx e => hin ⟨x, hx, e⟩)]
        exact m2 n hn5
    · rw [hsec, home_out (fun x hx => by omega)]
      rcases m3 i hi with h1 | h1 | ⟨m, l, z, h1, h2, h3, h4, -⟩
      · exact .inl h1
      · exact .inr (.inl h1)
      · exact .inr (.inr ⟨m, l, z, h1, h2, h3, h4⟩)
end Go.Proofs.YtnnppdjgmjgjhaaDoor.Twin
namespace Go.Proofs.YtnnppdjgmjgjhaaDoor.Twin
set_option maxRecDepth 100000
open Go.RowKit Go.Joins Go.ChangeShapes Go.WideShapes Go.Deep
open Go.Proofs.YtnnppdjgmjgjhaaDoor.Mem
open Go.Proofs.YtnnppdjgmjgjhaaDoor.Plate

structure Grp where
  a : Option Addr
  n : Nat
  c : Nat
  zs : List Int
  b : UInt8
def noG : Grp := ⟨none, 0, 0, [], 0⟩
instance : Inhabited Grp := ⟨noG⟩
instance : Inhabited Ro := ⟨⟨lf0, none, 0, 0⟩⟩
def Grps (w : World) (a : Option Addr) (n : Nat) (gs : List Grp) : Prop :=
  gs.length = n ∧ (∀ x ∈ gs, Ints w x.a x.n x.zs ∧ x.n ≤ maxLen) ∧ (0 < n → ∃ b off, a = some ⟨b, off, none⟩ ∧ b < w.heap.size ∧ ∀ i, i < n → w.cell? ⟨b, off + i * 2, none⟩ = some (.slice (gs.getD i noG).a (gs.getD i noG).n (gs.getD i noG).c) ∧ w.cell? ⟨b, off + i * 2 + 1, none⟩ = some (.int .u8 ((gs.getD i noG).b.toNat : Int)))
theorem Grps.below {w w' : World} {a : Option Addr} {n : Nat} {gs : List Grp} (h : Grps w a n gs) (hb : Below w.heap.size w w') : Grps w' a n gs := by
  obtain ⟨h1, h2, h3⟩ := h
  refine ⟨h1, fun x hx => ⟨(h2 x hx).1.below hb, (h2 x hx).2⟩, fun hn => ?_⟩
  obtain ⟨b, off, ha, hlt, hc⟩ := h3 hn
  exact ⟨b, off, ha, Nat.lt_of_lt_of_le hlt hb.size, fun i hi => ⟨(hb.cell (p := ⟨b, off + i * 2, none⟩) hlt).trans (hc i hi).1, (hb.cell (p := ⟨b, off + i * 2 + 1, none⟩) hlt).trans (hc i hi).2⟩⟩
theorem Grps.at_ {w : World} {a : Option Addr} {n k : Nat} {gs : List Grp} (h : Grps w a n gs) (hk : k < n) :
    ∃ (b off : Nat) (x : Grp), a = some ⟨b, off, none⟩ ∧ b < w.heap.size ∧ w.cell? ⟨b, off + k * 2, none⟩ = some (.slice x.a x.n x.c) ∧ w.cell? ⟨b, off + k * 2 + 1, none⟩ = some (.int .u8 (x.b.toNat : Int)) ∧ Ints w x.a x.n x.zs ∧ x.n ≤ maxLen := by
  obtain ⟨h1, h2, h3⟩ := h
  obtain ⟨b, off, ha, hlt, hc⟩ := h3 (by omega)
  have hl : k < gs.length := by omega
  have e : gs.getD k noG = gs[k] := by simp [List.getD, hl]
  obtain ⟨c1, c2⟩ := hc k hk
  rw [e] at c1 c2
  have := h2 _ (List.getElem_mem hl)
  exact ⟨b, off, _, ha, hlt, c1, c2, this.1, this.2⟩
section
variable {H : Type} {enc : TypeId × Value → H} {w : World} {base : Nat} {spare : Nat → Bool} {held : Bool}
theorem open_ints_cells {fuel : Nat} {cs : List Value} {x : DataW H × List MemPlace} (h : DataW.trod enc Tryd.prog w base spare held fuel 23 cs = some x) :
    ∃ a n c zs, cs = [.slice a n c] ∧ Ints w a n zs ∧ n ≤ maxLen := by
  rcases open_ints Tryd.underlying23 Tryd.underlying3 (by kernel_rfl) h with ⟨hcs, _⟩ | ⟨x, l, c, zs, hcs, _, hl, hm, hz, _, hcell, hwz⟩
  · exact ⟨none, 0, 0, [], hcs, Ints.nil _ _, Nat.zero_le _⟩
  · have hzl : l ≤ zs.length := by rw [hz]; split <;> omega
    refine ⟨some x, l, c, zs.take l, hcs, ⟨by rw [List.length_take]; omega, fun z hz => fits_i64 (hwz z (List.mem_of_mem_take hz)), fun hn => ?_⟩, by omega⟩
    obtain ⟨b, off, spot⟩ := x
    have h0 := hcell 0 (by omega)
    have hspot : spot = none := by
      have := World.cell?_spot h0
      simpa [Addr.add] using this
    subst hspot
    have ea : ∀ j, (Addr.mk b off none).add j = ⟨b, off + j, none⟩ := fun j => by unfold Addr.add; split <;> simp_all
    refine ⟨b, off, rfl, ?_, fun i hi => ?_⟩
    · have := World.block_lt_of_cell? w _ h0
      simpa [Addr.add] using this
    · have := hcell i (by omega)
      rw [ea] at this
      rw [this]
      congr 2
      simp [List.getD, hi]
theorem open_group_cells {fuel : Nat} {cs : List Value} {x : DataW H × List MemPlace} (h : DataW.trod enc Tryd.prog w base spare held fuel 38 cs = some x) :
    ∃ g : Grp, cs = [.slice g.a g.n g.c, .int .u8 (g.b.toNat : Int)] ∧ Ints w g.a g.n g.zs ∧ g.n ≤ maxLen := by
  obtain ⟨xs, n, _, hx, hcl, hxl, hf⟩ := DataW.trod_struct Tryd.underlying38 h
  have hl : cs.length = 2 := hcl.trans (by kernel_rfl)
  obtain ⟨c0, c1, rfl⟩ : ∃ c0 c1, cs = [c0, c1] := by
    rcases cs with _ | ⟨c0, _ | ⟨c1, _ | ⟨c2, r⟩⟩⟩ <;> simp at hl
    exact ⟨c0, c1, rfl⟩
  have h0 := hf 0 _ rfl
  have h1 := hf 1 _ rfl
  have k0 : Tryd.prog.cellsOf 23 = 1 := by kernel_rfl
  have k1 : Tryd.prog.cellsOf 5 = 1 := by kernel_rfl
  simp only [List.getElem_toArray, List.getElem_cons_zero, List.getElem_cons_succ, k0, k1, List.drop_zero, List.take_succ_cons, List.take_zero, List.drop_succ_cons] at h0 h1
  have hlen : xs.length = 2 := hxl
  obtain ⟨y0, y1, rfl⟩ : ∃ y0 y1, xs = [y0, y1] := by
    rcases xs with _ | ⟨c0, _ | ⟨c1, _ | ⟨c2, r⟩⟩⟩ <;> simp at hlen
    exact ⟨c0, c1, rfl⟩
  obtain ⟨a, m, c, zs, e0, hI, hm⟩ := open_ints_cells h0
  obtain ⟨k', e1, _, w1⟩ := DataW.trod_int Tryd.underlying5 h1
  simp only [List.cons.injEq, and_true] at e0 e1
  subst e0 e1
  obtain ⟨b, rfl⟩ := byte_of w1
  exact ⟨⟨a, m, c, zs, b⟩, rfl, hI, hm⟩
theorem open_groups {r : Reach} {b0 : Nat} {v : Value} {d : DataW H} {p : List MemPlace} (hv : Value.okWide Tryd.prog w r b0 22 v) (h : DataW.Trod enc Tryd.prog w base spare held 22 v d p) :
    ∃ a n c gs, v = .slice a n c ∧ Grps w a n gs := by
  obtain ⟨a0, len0, cap0, rfl⟩ := okWide_slice Tryd.underlying22 hv
  obtain ⟨fuel, hf⟩ := h
  rcases open_slice Tryd.underlying22 hf with ⟨hcs, _⟩ | ⟨a, len, cap, m, n, D, Pl, hcs, hb, hl, hm, hmm, hx, hi⟩
  · simp [Value.cells] at hcs
    obtain ⟨rfl, rfl, rfl⟩ := hcs
    exact ⟨none, 0, 0, [], rfl, rfl, by simp, fun h => absurd h (Nat.lt_irrefl 0)⟩
  · simp [Value.cells] at hcs
    obtain ⟨rfl, rfl, rfl⟩ := hcs
    have hml : len0 ≤ m := by rw [hmm]; split <;> omega
    have hone : ∀ i, i < len0 → ∃ g : Grp, w.cells? base (a.add (i * 2)) 2 = some [.slice g.a g.n g.c, .int .u8 (g.b.toNat : Int)] ∧ Ints w g.a g.n g.zs ∧ g.n ≤ maxLen := by
      intro i hil
      obtain ⟨cs', hc, ht⟩ := hi i (by omega)
      have k2 : Tryd.prog.cellsOf 38 = 2 := by kernel_rfl
      rw [k2] at hc
      obtain ⟨s, rfl, hs⟩ := open_group_cells ht
      exact ⟨s, hc, hs⟩
    obtain ⟨f, hf2⟩ := choose_lt hone
    refine ⟨some a, len0, cap0, (List.range len0).map f, rfl, by simp, ?_, fun hn => ?_⟩
    · intro y hy
      obtain ⟨i, hir, rfl⟩ := List.mem_map.1 hy
      exact (hf2 i (List.mem_range.1 hir)).2
    · obtain ⟨b, off, spot⟩ := a
      have hcell : ∀ i, i < len0 → w.cell? ((Addr.mk b off spot).add (i * 2)) = some (.slice (f i).a (f i).n (f i).c) ∧ w.cell? ((Addr.mk b off spot).add (i * 2 + 1)) = some (.int .u8 ((f i).b.toNat : Int)) := by
        intro i hil
        obtain ⟨_, _, hat⟩ := World.cells?_some (hf2 i hil).1
        have h0 := hat 0 (by simp)
        have h1 := hat 1 (by simp)
        rw [add_add] at h0 h1
        exact ⟨by simpa using h0, by simpa using h1⟩
      have hc0 := (hcell 0 hn).1
      have hspot : spot = none := by
        have := World.cell?_spot hc0
        simpa [Addr.add] using this
      subst hspot
      refine ⟨b, off, rfl, ?_, fun i hil => ?_⟩
      · have := World.block_lt_of_cell? w _ hc0
        simpa [Addr.add] using this
      · have e : ((List.range len0).map f).getD i noG = f i := by simp [List.getD, hil]
        rw [e]
        have ea : ∀ j, (Addr.mk b off none).add j = ⟨b, off + j, none⟩ := fun j => by unfold Addr.add; split <;> simp_all
        have := hcell i hil
        rw [ea, ea] at this
        exact this
/-- two rows of numbers -/
theorem open_power {r : Reach} {b0 : Nat} {v : Value} {d : DataW H} {p : List MemPlace} (hv : Value.okWide Tryd.prog w r b0 24 v) (h : DataW.Trod enc Tryd.prog w base spare held 24 v d p) :
    ∃ a1 n1 c1 z1 a2 n2 c2 z2, v = .agg #[.slice a1 n1 c1, .slice a2 n2 c2] ∧ Ints w a1 n1 z1 ∧ n1 ≤ maxLen ∧ Ints w a2 n2 z2 ∧ n2 ≤ maxLen := by
  have hv' := hv
  simp only [Value.okWide, Tryd.underlying24] at hv'
  obtain ⟨cs, rfl, hsz, _⟩ := hv'
  have hC : Tryd.prog.cellsOf 24 = 2 := by kernel_rfl
  have hc : Tryd.prog.cellsOf 23 = 1 := by kernel_rfl
  rw [hC] at hsz
  obtain ⟨fuel, hf⟩ := h
  match cs, hsz with
  | ⟨[c0, c1]⟩, _ =>
    obtain ⟨xs, m, _, _, _, hxl, hi⟩ := DataW.trod_array Tryd.underlying24 hf
    match xs, hxl with
    | [y0, y1], _ =>
    have h0 : DataW.trod enc Tryd.prog w base spare held m 23 [c0] = some y0 := by have := hi 0 (by omega); rw [hc] at this; simpa [Value.cells] using this
    have h1 : DataW.trod enc Tryd.prog w base spare held m 23 [c1] = some y1 := by have := hi 1 (by omega); rw [hc] at this; simpa [Value.cells] using this
    obtain ⟨a0, n0, k0, z0, e0, i0, m0⟩ := open_ints_cells h0
    obtain ⟨a1, n1, k1, z1, e1, i1, m1⟩ := open_ints_cells h1
    simp only [List.cons.injEq, and_true] at e0 e1
    subst e0 e1
    exact ⟨a0, n0, k0, z0, a1, n1, k1, z1, rfl, i0, m0, i1, m1⟩
end
end Go.Proofs.YtnnppdjgmjgjhaaDoor.Twin
namespace Go.Proofs.YtnnppdjgmjgjhaaDoor.Twin
set_option maxRecDepth 100000
open Go.RowKit Go.Sort
open Go.Proofs.YtnnppdjgmjgjhaaDoor.Mem
open Go.Proofs.YtnnppdjgmjgjhaaDoor.Plate

set_option maxHeartbeats 400000 in
theorem image_any (lsn : Int) (d : ByteArray) (w : World) (hd : d.size ≤ 140737488351232) :
    Calls Tryd.prog 16 #[.int .i64 lsn, .string d] w fun e w' => ∃ g, e = .returned (.agg #[.int .i64 lsn, .slice (some ⟨g, 0, none⟩) 1 1]) ∧ w.heap.size ≤ g ∧ g < w'.heap.size ∧ Slab.Slots w' (some ⟨g, 0, none⟩) 1 [⟨true, d⟩] ∧ Below w.heap.size w w' := by
  have hb0 : Below w.heap.size w (w.alloc (.cells #[.int .i64 lsn, .slice (some ⟨w.heap.size + 1, 0, none⟩) 1 1] 41)) := (Below.refl _ _).alloc (Nat.le_refl _) _
  have hb1 := hb0.alloc hb0.size (.cells #[.bool true, .string d] 81)
  have hB := (Blk.new w 41 #[.int .i64 lsn, .slice (some ⟨w.heap.size + 1, 0, none⟩) 1 1]).alloc (.cells #[.bool true, .string d] 81)
  have hS := Blk.new (w.alloc (.cells #[.int .i64 lsn, .slice (some ⟨w.heap.size + 1, 0, none⟩) 1 1] 41)) 81 #[.bool true, .string d]
  rw [World.size_alloc] at hS
  have s7 := hB.cell 0
  have s8 := hB.cell 1
  simp only [List.getElem?_toArray, List.getElem?_cons_zero, List.getElem?_cons_succ] at s7 s8
  have HS2 := Lib.hid hS
  have HB2 := Lib.hid hb1
  clear hb0 hb1 hB hS
  go_enter Tryd.func16, Tryd.ntmps16
  go_wp2
  refine bodyPost_ret (v := .agg #[.int .i64 lsn, .slice (some ⟨w.heap.size + 1, 0, none⟩) 1 1]) (by simp [results, Tryd.results16, go_sem, s7, s8]) rfl ⟨w.heap.size + 1, rfl, Nat.le_succ _, HS2.out.lt, ⟨rfl, by simp; exact hd, fun _ => ⟨_, 0, rfl, HS2.out.lt, fun i hi => ?_⟩⟩, HB2.out⟩
  obtain rfl : i = 0 := by omega
  exact ⟨HS2.out.cell 0, HS2.out.cell 1⟩
def one (b : UInt8) : ByteArray := ⟨#[b]⟩
/-- a group's pages -/
structure Laid (rs : List Ro) (b : UInt8) (lsn : Int) : Prop where
  len : rs.length ≤ 3
  has : ∀ r ∈ rs, ∃ m : Nat, m < 5 ∧ r.x.n = (m : Int) ∧ r.x.l = lsn ∧ r.x.z = [⟨true, one b⟩]
  once : (rs.map (·.x.n)).Nodup
theorem any_snoc {rs : List Ro} {k : Nat} {m : Int} (hk : k < rs.length) : (rs.take (k + 1)).any (fun r => decide (r.x.n = m)) = ((rs.take k).any (fun r => decide (r.x.n = m)) || decide ((rs[k]'hk).x.n = m)) := by
  rw [List.take_succ_eq_append_getElem hk, List.any_append]; simp
theorem own_get {B : Nat} {w : World} {v : Value} {rs : List Ro} (h : LRow B w v rs) {k : Nat} (hk : k < rs.length) : ∃ g cap, v = .slice (some ⟨g, 0, none⟩) rs.length cap ∧ w.cell? ⟨g, k * 3, none⟩ = some (.int .i64 (rs[k]'hk).x.n) := by
  obtain ⟨g, cap, e, -, -, hc⟩ := own_pos h.own (by omega)
  refine ⟨g, cap, e, (hc (k * 3) (by omega)).trans ?_⟩
  exact (rcells_get (List.getElem?_eq_getElem hk)).1
theorem mod_five (x : Int) : ∃ K : Nat, wrap64 ((IntKind.u64.wrap x).tmod 5) = (K : Int) ∧ (K : Int) < 5 := Slab.cut_of x 5 (by decide) (by decide)
theorem own_weak {w : World} {B B' n size : Nat} {t : TypeId} {v : Value} {xs : List Value} (h : w.ownsRow B t size v n xs) (hB : B' ≤ B) : w.ownsRow B' t size v n xs := by
  obtain ⟨hl, h0 | ⟨g, cap, cur, hv, hg, h1⟩⟩ := h
  · exact ⟨hl, .inl h0⟩
  · exact ⟨hl, .inr ⟨g, cap, cur, hv, Nat.le_trans hB hg, h1⟩⟩
theorem LRow.weak {w : World} {B B' : Nat} {v : Value} {rs : List Ro} (h : LRow B w v rs) (hB : B' ≤ B) : LRow B' w v rs :=
  ⟨own_weak h.own hB, fun r hr => by
    obtain ⟨h1, h2, h3, h4⟩ := h.sl r hr
    exact ⟨h1, h2, fun b off e he hn => by
      obtain ⟨a1, a2, a3⟩ := h3 b off e he hn
      exact ⟨Nat.le_trans hB a1, a2, a3⟩, h4⟩⟩
theorem LRow.none (W : World) : LRow W.heap.size (W.alloc (.cells #[] 43)) (.slice (some ⟨W.heap.size, 0, none⟩) 0 0) [] :=
  ⟨⟨rfl, .inr ⟨W.heap.size, 0, #[], rfl, Nat.le_refl _, World.alloc_heap_new W _, Nat.le_refl _, by decide, rfl, rfl⟩⟩, fun _ h => by simp at h⟩
theorem conv_one (W : World) (b : UInt8) : (convert 70 9 (.slice (some ⟨W.heap.size, 0, none⟩) 1 1)).run Tryd.prog (W.alloc (.cells #[.int .u8 (b.toNat : Int)] 5)) = .ok (.string (one b)) (W.alloc (.cells #[.int .u8 (b.toNat : Int)] 5)) :=
  run_convert_bytes_back (P := Tryd.prog) (W.alloc (.cells #[.int .u8 (b.toNat : Int)] 5)) 70 9 5 ⟨W.heap.size, 0, none⟩ 1 [b] Tryd.underlying70 Tryd.underlying5 Tryd.underlying9 (fun j hj => by
    have hj' : j < 1 := hj
    obtain rfl : j = 0 := by omega
    exact (Blk.new W 5 #[.int .u8 (b.toNat : Int)]).cell 0)
theorem Laid.snoc {rs : List Ro} {b : UInt8} {lsn : Int} (h : Laid rs b lsn) (hl : rs.length < 3) {r : Ro} {m : Nat} (hm : m < 5) (h1 : r.x.n = (m : Int)) (h2 : r.x.l = lsn) (h3 : r.x.z = [⟨true, one b⟩]) (h4 : (rs.any fun r => decide (r.x.n = (m : Int))) = false) : Laid (rs ++ [r]) b lsn := by
  refine ⟨by simp; omega, fun q hq => ?_, ?_⟩
  · rcases List.mem_append.1 hq with h5 | h5
    · exact h.has q h5
    · simp at h5; subst h5; exact ⟨m, hm, h1, h2, h3⟩
  · rw [List.map_append, List.nodup_append]
    refine ⟨h.once, by simp, fun x hx y hy => ?_⟩
    simp at hy
    subst hy
    obtain ⟨q, hq, rfl⟩ := List.mem_map.1 hx
    have := List.any_eq_false.1 h4 q hq
    rw [h1]
    simpa using this
def LaidRes (b : UInt8) (lsn : Int) (w : World) (e : Ending) (w' : World) : Prop := ∃ v rs, e = .returned v ∧ LRow w.heap.size w' v rs ∧ Laid rs b lsn ∧ Below w.heap.size w w'
set_option maxHeartbeats 4000000 in
theorem laid_any (a : Option Addr) (n c : Nat) (zs : List Int) (b : UInt8) (lsn : Int) (w : World) (h : Ints w a n zs) (hn : n ≤ maxLen) :
    Calls Tryd.prog 9 #[.agg #[.slice a n c, .int .u8 (b.toNat : Int)], .int .i64 lsn] w (LaidRes b lsn w) := by
  have hb0 : Below w.heap.size w (w.alloc (.cells #[.slice a n c, .int .u8 (b.toNat : Int)] 38)) := (Below.refl _ _).alloc (Nat.le_refl _) _
  have hB := Blk.new w 38 #[.slice a n c, .int .u8 (b.toNat : Int)]
  have hI := h.below hb0
  have HBS := Lib.hid (show w.heap.size ≤ (w.alloc (.cells #[.slice a n c, .int .u8 (b.toNat : Int)] 38)).heap.size from hb0.size)
  obtain ⟨i0, hi, hz0, hz1, hz2⟩ := info_parts info_leaf
  unfold maxLen at hn
  clear h
  go_enter Tryd.func9, Tryd.ntmps9
  go_upto_region 1 with (fail)
  generalize hGen : w.alloc (.cells #[.slice a n c, .int .u8 (b.toNat : Int)] 38) = W at hb0 hB hI HBS ⊢
  clear hGen
  have hwl : w.heap.size < W.heap.size := hB.lt
  have hb1 := hb0.alloc hb0.size (.cells #[] 43)
  have HB1 := Lib.hid hb1
  have HBK := Lib.hid (hB.alloc (.cells #[] 43))
  have HI := Lib.hid hI
  have HW0 := Lib.hid hb0
  have HWL := Lib.hid hwl
  have HA1 : Hid (Below W.heap.size W (W.alloc (.cells #[] 43))) := Lib.hid ((Below.refl _ _).alloc (Nat.le_refl _) _)
  clear hb0 hB hI hb1 hwl
  go_wp2_with fail
  go_loopw [5, 6] (fun t i wr => ∃ (k : Nat) (rs : List Ro), k ≤ n ∧ i = .int .i64 (k : Int) ∧ Hid (Laid rs b lsn) ∧ Hid (LRow W.heap.size wr t rs) ∧ Hid (Blk wr w.heap.size 38 #[.slice a n c, .int .u8 (b.toNat : Int)]) ∧ Hid (Below W.heap.size W wr)) (fun _ i _ => n - (intOf i).toNat)
  case atStart => exact ⟨0, [], Nat.zero_le _, rfl, Lib.hid ⟨Nat.zero_le _, fun _ h => by simp at h, by simp⟩, Lib.hid (LRow.none W), HBK, HA1⟩
  case round =>
    obtain ⟨k, rs, hk, rfl, HLD, HROW, HBX, HBEL⟩ := hrel
    obtain ⟨ta, tc, rfl⟩ := own_shape HROW.out.own
    have g0 := HBX.out.cell 0
    have g1 := HBX.out.cell 1
    simp only [List.getElem?_toArray, List.getElem?_cons_zero, List.getElem?_cons_succ] at g0 g1
    by_cases hlt : k < n
    · by_cases hl3 : rs.length < 3
      · obtain ⟨pb, po, z, rfl, hpb, -, c1, -, -⟩ := (HI.out.below HBEL.out).at_ hlt
        obtain ⟨m, hm, hm5⟩ := mod_five z
        have hl3' : (rs.length : Int) < 3 := by omega
        go_wp2_with fail
        rw [hm]
        go_loopw [8, 9] (fun is j wr2 => ∃ (q : Nat) (D : Bool), q ≤ rs.length ∧ is = .bool D ∧ j = .int .i64 (q : Int) ∧ Hid ((rs.take q).any (fun r => decide (r.x.n = (m : Int))) = D) ∧ wr2 = wr) (fun _ j _ => rs.length - (intOf j).toNat)
        case atStart => exact ⟨0, false, Nat.zero_le _, rfl, rfl, Lib.hid rfl, rfl⟩
        case round =>
          obtain ⟨q, D, hq, rfl, rfl, HD, rfl⟩ := hrel
          by_cases hql : q < rs.length
          · have HDN := Lib.hid (any_snoc (m := (m : Int)) hql)
            cases D with
            | true =>
              have HD2 := Lib.hid (show (rs.take (q + 1)).any (fun r => decide (r.x.n = (m : Int))) = true by rw [HDN.out, HD.out]; rfl)
              clear c1
              go_wp2
              go_roundw
              case rel => exact ⟨q + 1, true, by omega, rfl, by go_num, HD2, trivial⟩
              case measure => simp [intOf]; omega
            | false =>
              obtain ⟨og, ocap, he, hcell⟩ := own_get HROW.out hql
              simp only [Value.slice.injEq, true_and] at he
              obtain ⟨rfl, rfl⟩ := he
              obtain ⟨rn, hrn⟩ : ∃ rn, rn = (rs[q]'hql).x.n := ⟨_, rfl⟩
              rw [← hrn] at hcell
              have HD2 : Hid ((rs.take (q + 1)).any (fun r => decide (r.x.n = (m : Int))) = (rn == (m : Int))) := Lib.hid (by rw [HDN.out, HD.out, ← hrn]; by_cases e : rn = (m : Int) <;> simp [e])
              clear c1 hrn
              go_wp2
              go_roundw
              case rel => exact ⟨q + 1, _, by omega, rfl, by go_num, HD2, trivial⟩
              case measure => simp [intOf]; omega
          · obtain rfl : q = rs.length := by omega
            have hD := HD.out
            rw [List.take_length] at hD
            cases D with
            | true =>
              clear c1 hD
              go_wp2
              go_roundw
              case rel => exact ⟨k + 1, rs, by omega, by go_num, HLD, HROW, HBX, HBEL⟩
              case measure => simp [intOf]; omega
            | false =>
              have HAN := Lib.hid hD
              have hcv := fun W => conv_one W b
              have hin := fun W => image_any lsn (one b) W (by show (Array.size _) ≤ _; simp)
              have HIN := Lib.hid hin
              have hbo : Below wr.heap.size wr (wr.alloc (.cells #[.int .u8 (b.toNat : Int)] 5)) := (Below.refl _ _).alloc (Nat.le_refl _) _
              have R1 := Lib.hid (HROW.out.below hbo)
              have X1 := Lib.hid (HBX.out.below hbo HBX.out.lt)
              have B1 := Lib.hid (HBEL.out.alloc HBEL.out.size (.cells #[.int .u8 (b.toNat : Int)] 5))
              clear c1 hD hin hbo
              go_wp2_with fail
              refine (HIN.out _).mono ?_
              rintro e w2 ⟨g, rfl, hg1, hg2, hS, b2⟩
              have R2 := R1.out.below b2
              have B2 := B1.out.trans (b2.mono B1.out.size)
              have X2 := X1.out.below b2 X1.out.lt
              have b3 : Below w2.heap.size w2 (w2.alloc (.cells #[.int .i64 (m : Int), .int .i64 lsn, .slice (some ⟨g, 0, none⟩) 1 1] 43)) := (Below.refl _ _).alloc (Nat.le_refl _) _
              have R3 := Lib.hid (R2.below b3)
              have S3 := Lib.hid (hS.below b3)
              have B3 := Lib.hid (B2.trans (b3.mono B2.size))
              have X3 := Lib.hid (X2.below b3 X2.lt)
              have HG : Hid (W.heap.size ≤ g ∧ g < (w2.alloc (.cells #[.int .i64 (m : Int), .int .i64 lsn, .slice (some ⟨g, 0, none⟩) 1 1] 43)).heap.size ∧ (Value.slice ta rs.length tc).ownBlock ≠ some g) := Lib.hid ⟨Nat.le_trans B1.out.size hg1, Nat.lt_of_lt_of_le hg2 b3.size, fun e => by have := own_lt R1.out.own e; omega⟩
              clear hg1 hg2 hS b2 R2 B2 X2 b3 hcv
              go_wp2_with (at_builtin; refine wpList_append_own_at _ rfl _ _ 35 rfl W.heap.size 43 i0 (.agg #[.int .i64 0, .int .i64 0, .slice none 0 0]) 3 40 Tryd.underlying35 hi hz0 hz1 hz2 rfl (by decide) (.slice ta rs.length tc) rs.length (rcells rs) rfl R3.out.own ⟨w2.heap.size, 0, none⟩ 1 1 [.int .i64 (m : Int), .int .i64 lsn, .slice (some ⟨g, 0, none⟩) 1 1] rfl rfl ?c1 ?c2 ?c3 ?c4 ?c5 ?_)
              case c1 =>
                intro j u hj
                match j, hj with
                | 0, hj => simp at hj; subst hj; simp [Addr.add]
                | 1, hj => simp at hj; subst hj; simp [Addr.add]
                | 2, hj => simp at hj; subst hj; simp [Addr.add]
              case c2 => intro u hu; simp at hu; rcases hu with rfl | rfl | rfl <;> rfl
              case c3 => unfold maxLen; omega
              case c4 => omega
              case c5 => exact B3.out.size
              intro v' w6 hown' hgrow' _ hat
              have R6 := Lib.hid (R3.out.push (r := ⟨⟨(m : Int), lsn, [⟨true, one b⟩]⟩, some ⟨g, 0, none⟩, 1, 1⟩) hown' hgrow' (by rw [World.size_alloc]; exact hat) S3.out (show (1 : Nat) ≤ 1000000 by decide) (fun b off e he _ => by cases he; exact HG.out) (by simp only; omega))
              have X6 := Lib.hid (X3.out.grown hgrow' (fun e => by have := own_base R3.out.own e.symm; have := HWL.out; omega))
              have B6 := Lib.hid (show Below W.heap.size W w6 from ⟨hgrow'.os.trans B3.out.os, hgrow'.tape.trans B3.out.tape, hgrow'.output.trans B3.out.output, Nat.le_trans B3.out.size hgrow'.size, fun j hj => (hgrow'.block j (Nat.lt_of_lt_of_le hj B3.out.size) (fun e => by have := own_base R3.out.own e.symm; omega)).trans (B3.out.block j hj)⟩)
              have L6 := Lib.hid (HLD.out.snoc hl3 (r := ⟨⟨(m : Int), lsn, [⟨true, one b⟩]⟩, some ⟨g, 0, none⟩, 1, 1⟩) (m := m) (by omega) rfl rfl rfl HAN.out)
              clear hown' hgrow' hat
              go_wp2
              go_roundw
              case rel => exact ⟨k + 1, _, by omega, by go_num, L6, R6, X6, B6⟩
              case measure => simp [intOf]; omega
      · have hl3' : ¬ ((rs.length : Int) < 3) := by omega
        go_wp2
        go_ret
        exact ⟨_, rs, rfl, HROW.out.weak (Nat.le_of_lt HWL.out), HLD.out, HW0.out.trans (HBEL.out.mono HW0.out.size)⟩
    · go_wp2
      go_ret
      exact ⟨_, rs, rfl, HROW.out.weak (Nat.le_of_lt HWL.out), HLD.out, HW0.out.trans (HBEL.out.mono HW0.out.size)⟩
end Go.Proofs.YtnnppdjgmjgjhaaDoor.Twin
namespace Go.Proofs.YtnnppdjgmjgjhaaDoor.Twin
set_option maxRecDepth 100000
open Go.RowKit Go.Sort
open Go.Proofs.YtnnppdjgmjgjhaaDoor.Mem
open Go.Proofs.YtnnppdjgmjgjhaaDoor.Plate

theorem new_read {N k : Nat} (hk : k < N) : readE (newS N) (k : Int) = 0 ∧ readD (newS N) (k : Int) = fstr 256 0 :=
  read_sec (S := newS N) rfl (by unfold inS; simp [newS]; exact hk) rfl rfl
theorem new_look {C : Cfg} {N n : Nat} (h : C.home n < N) : lookR C (newS N) n = (0, [], 0) := by
  obtain ⟨e1, e2⟩ := new_read h
  unfold lookR
  rw [e1, e2, zeros_zero]
  rfl
theorem new_rep {C : Cfg} {N : Nat} (h : C.fr + C.tw + C.pg ≤ N) : ∀ k, k ≤ C.pg → repL C (newS N) k = [] ∧ wholeR C (newS N) k = true
  | 0, _ => ⟨rfl, rfl⟩
  | k + 1, hk => by
    obtain ⟨i1, i2⟩ := new_rep h k (by omega)
    have hl := new_look (C := C) (N := N) (n := k) (by unfold Cfg.home; omega)
    refine ⟨?_, by rw [wholeR, i2, hl]; rfl⟩
    rw [rep_not (by rw [hl]; exact fun e => absurd e.1 (by decide)), i1]
theorem new_open {C : Cfg} {N : Nat} (h : C.fr + C.tw + C.pg ≤ N) : openR C (newS N) = (0, newS N) := by
  obtain ⟨h1, h2⟩ := new_rep h C.pg (Nat.le_refl _)
  have hw : repW C (newS N) = [] := by unfold repW; rw [h1]; rfl
  have hl : lay (repW C (newS N)) (newS N) = (0, newS N) := by unfold lay; rw [if_pos hw]
  unfold openR
  rw [hl]
  simp only [if_true, h2]
theorem new_calm (N k : Nat) (hk : k ≤ 1000000) : Calm (newS N) k := ⟨by show 0 + k ≤ _; omega, by show 0 + k ≤ _; omega, Nat.zero_le _, by show 0 + k ≤ _; omega⟩
def CA : Cfg := ⟨2, 2, 4⟩
theorem ca_small : CA.small := ⟨by decide, by decide, by decide⟩
def oneS (b : UInt8) : List Slab.Slot := [⟨true, one b⟩]
theorem one_good (b : UInt8) {l : Int} (h0 : 0 ≤ l) (h1 : l ≤ 1099511627776) : Slab.goodB l (oneS b) = true := by
  have hs : (one b).size = 1 := rfl
  refine Slab.good_of h0 h1 (show (1 : Nat) ≤ 32 by decide) rfl ?_ ?_
  · unfold oneS
    simp [Slab.wrongB, hs]
  · unfold oneS
    simp [Slab.sz, hs]
def lsA : List Lf := [⟨3, 7, oneS 120⟩]
theorem a_takes : takesR CA lsA = true := by
  have := one_good 120 (l := 7) (by decide) (by decide)
  unfold takesR lsA
  simp [oksR, okR, hasR, CA, this]
/-- what the statements' own beginning leaves -/
structure AwakeS (T : PS) : Prop where
  acts : T.acts = 4
  l3 : lookR CA T 3 = (7, oneS 120, 0)
  r7 : readE T 7 = 0 ∧ readD T 7 = secB 3 7 (oneS 120)
  l0 : lookR CA T 0 = (0, [], 0)
  life : T.life = 0
  full : Full T
  q : T.q = []
theorem awake_s : (writeR CA (newS 20) lsA).1 = 0 ∧ AwakeS (writeR CA (newS 20) lsA).2 := by
  have hg := one_good 120 (l := 7) (by decide) (by decide)
  rcases write_run a_takes (S := newS 20) rfl (by decide) (by simp [lsA]) with ⟨-, c⟩ | ⟨-, T, c, d⟩ | ⟨c1, T, c, d⟩
  · exact absurd rfl c.armed
  · exact absurd (c.arm rfl) d.armed
  · refine ⟨c1, ?_⟩
    have w1 : wsOf CA.twin lsA = [⟨2, secB 3 7 (oneS 120)⟩] := rfl
    have w2 : wsOf (homeOf CA lsA) lsA = [⟨7, secB 3 7 (oneS 120)⟩] := rfl
    have hf : Full (writeR CA (newS 20) lsA).2 := by
      have h1 : Full (lay (wsOf CA.twin lsA) (newS 20)).2 := (Full.new 20).lay _
      unfold writeR
      rw [a_takes, if_pos rfl]
      split
      · exact h1.lay _
      · exact h1
    generalize (writeR CA (newS 20) lsA).2 = T2 at d hf
    rw [w1] at c
    rw [w2] at d
    have hN : T2.N = 20 := d.N.trans c.N
    have hsec : T2.sec = setAll (setAll (newS 20).sec [⟨2, secB 3 7 (oneS 120)⟩]) [⟨7, secB 3 7 (oneS 120)⟩] := by rw [d.sec, c.sec, c.q]; rfl
    have h7 : T2.sec 7 = ⟨secB 3 7 (oneS 120), false⟩ := by rw [hsec]; rfl
    have h4 : T2.sec 4 = ⟨fstr 256 0, false⟩ := by rw [hsec]; rfl
    have rd : ∀ k : Nat, k < 20 → (T2.sec k).t = false → readE T2 (k : Int) = 0 ∧ readD T2 (k : Int) = (T2.sec k).d := fun k hk ht =>
      read_sec d.off (by unfold inS; rw [hN]; simp; omega) (by rw [d.q]; rfl) ht
    obtain ⟨e1, e2⟩ := rd 7 (by decide) (by rw [h7])
    obtain ⟨e3, e4⟩ := rd 4 (by decide) (by rw [h4])
    rw [h7] at e2
    rw [h4] at e4
    refine ⟨by rw [d.acts, c.acts]; rfl, ?_, ⟨e1, e2⟩, ?_, by rw [d.life, c.life]; rfl, hf, d.q⟩
    · unfold lookR
      rw [show CA.home 3 = 7 from rfl, if_pos e1, e2, sec_zero hg, page_same hg]
      rfl
    · unfold lookR
      rw [show CA.home 0 = 4 from rfl, if_pos e3, e4, zeros_zero]
      rfl
theorem raw_cut : (secB 3 7 (oneS 120)).extract 240 248 = ⟨#[80, 65, 71, 69, 0, 0, 0, 3]⟩ := by
  have hg := one_good 120 (l := 7) (by decide) (by decide)
  obtain ⟨h1, h2⟩ := sec_list (n := 3) hg
  apply bytes_ext
  rw [Lib.extract_data, h1, List.drop_left' h2]
  rfl
/-- a plate at hand, and what the call holds beside it -/
structure Pw (w W : World) (p : Nat) (M : Nat → Prop) (S : PS) : Prop where
  pq : PQ W p M S
  bel : Below w.heap.size w W
  mb : ∀ k, k < w.heap.size → M k
theorem Pw.next {w W W' : World} {p : Nat} {M : Nat → Prop} {S S' : PS} (h : Pw w W p M S) (hp : PQ W' p M S') (hk : Keep M W W') : Pw w W' p M S' := ⟨hp, h.bel.trans (hk.below h.mb), h.mb⟩
/-- memory is made -/
theorem Pw.more {w W W' : World} {p : Nat} {M : Nat → Prop} {S : PS} (h : Pw w W p M S) (hb : Below W.heap.size W W') : ∃ M', Pw w W' p M' S ∧ (∀ k, M k → M' k) ∧ (∀ k, W.heap.size ≤ k → k < W'.heap.size → M' k) ∧ Keep M W W' :=
  ⟨_, ⟨h.pq.more hb, h.bel.trans (hb.mono h.bel.size), fun k hk => .inl (h.mb k hk)⟩, fun _ hk => .inl hk, fun _ h1 h2 => .inr ⟨h1, h2⟩, Keep.of_below hb h.pq.lt⟩
theorem Sto.mono {M M' : Nat → Prop} {w : World} {s p : Nat} {C : Cfg} {lf : Nat} (h : Sto M w s p C lf) (hm : ∀ k, M k → M' k) : Sto M' w s p C lf := ⟨h.1, hm _ h.2⟩
/-- a list of one page, made by the call -/
theorem leaf_one {M : Nat → Prop} {W : World} {g b : Nat} {n l : Int} {d : ByteArray} (hB : Blk W b 43 #[.int .i64 n, .int .i64 l, .slice (some ⟨g, 0, none⟩) 1 1]) (hb : M b) (hg : M g) (hS : Slab.Slots W (some ⟨g, 0, none⟩) 1 [⟨true, d⟩]) (hn : -9223372036854775808 ≤ n ∧ n ≤ 9223372036854775807) :
    Leaves M W (some ⟨b, 0, none⟩) 1 [⟨n, l, [⟨true, d⟩]⟩] :=
  ⟨rfl, by simp; exact hn, fun _ => ⟨b, 0, rfl, hb, hB.lt, fun i hi => by
    obtain rfl : i = 0 := by omega
    exact ⟨_, _, _, hB.cell 0, hB.cell 1, hB.cell 2, hS, by decide, fun b' off e he _ => by cases he; exact hg⟩⟩⟩
set_option maxHeartbeats 4000000 in
theorem awake_any (w : World) :
    Calls Tryd.prog 5 #[] w fun e w' => e = .returned (.bool true) ∧ Below w.heap.size w w' := by
  go_enter Tryd.func5, Tryd.ntmps5
  go_wp2_with fail
  refine (pq_new _ 20 (by decide) (by decide)).mono ?_
  rintro e w1 ⟨p, rfl, hp, hb⟩
  have H1 : Pw w w1 p (fun k => k < w.heap.size) (newS 20) := ⟨hp, hb, fun _ h => h⟩
  have HO := Lib.hid (open_any (C := CA) (S := newS 20) w1 _ hp ca_small (by decide) (by decide) (by decide) (by decide) rfl (Full.new 20) (new_calm 20 _ (by decide)))
  rw [new_open (by decide)] at HO
  clear hp hb
  go_wp2_with fail
  refine HO.out.mono ?_
  rintro e w2 ⟨s, M2, rfl, hp2, hk2, hm2, hs2⟩
  have H2 : Pw w w2 p M2 (newS 20) := ⟨hp2, H1.bel.trans (hk2.below H1.mb), fun k hk => hm2 k (H1.mb k hk)⟩
  have HI := fun W => image_any 7 (one 120) W (by decide)
  have HI := Lib.hid HI
  clear hp2 hk2 hm2 H1 HO
  go_wp2_with fail
  refine (HI.out _).mono ?_
  rintro e w3 ⟨g, rfl, hg1, hg2, hS, b3⟩
  have b4 : Below w3.heap.size w3 (w3.alloc (.cells #[.int .i64 3, .int .i64 7, .slice (some ⟨g, 0, none⟩) 1 1] 43)) := (Below.refl _ _).alloc (Nat.le_refl _) _
  have b5 := b3.trans (b4.mono b3.size)
  have hB4 := Blk.new w3 43 #[.int .i64 3, .int .i64 7, .slice (some ⟨g, 0, none⟩) 1 1]
  have hS4 := hS.below b4
  obtain ⟨M4, H4, m4, n4, k4⟩ := H2.more b5
  have hl4 := leaf_one (M := M4) hB4 (n4 _ b3.size hB4.lt) (n4 _ hg1 (Nat.lt_of_lt_of_le hg2 b4.size)) hS4 (by decide)
  have hs4 := (hs2.keep k4).mono m4
  have hw := write_any (S := newS 20) _ M4 s 0 _ 1 1 lsA hs4 H4.pq ca_small hl4 (by decide) (by decide) (new_calm 20 _ (by decide)) rfl
  obtain ⟨ea, hA⟩ := awake_s
  rw [ea] at hw
  generalize (writeR CA (newS 20) lsA).2 = T at hw hA
  have HW := Lib.hid hw
  have HH4 := Lib.hid H4
  have HS4 := Lib.hid hs4
  have HA := Lib.hid hA
  clear H2 hs2 hg1 hg2 hS b3 b4 b5 hB4 hS4 H4 m4 n4 k4 hl4 hs4 hw ea hA
  go_wp2_with fail
  refine HW.out.mono ?_
  rintro e w5 ⟨rfl, hp5, hk5⟩
  have H5 := Lib.hid (HH4.out.next hp5 hk5)
  have S5 := Lib.hid (HS4.out.keep hk5)
  clear hp5 hk5 HH4 HS4 HW
  have hr3 := readp_any w5 M4 s 0 3 S5.out H5.out.pq ca_small (by decide) (by rw [HA.out.q]; decide) HA.out.full HA.out.life
  rw [HA.out.l3] at hr3
  have HR3 := Lib.hid hr3
  clear hr3
  go_wp2_with fail
  refine HR3.out.mono ?_
  rintro e w6 ⟨a6, n6, c6, rfl, hS6, b6, -⟩
  have hn6 : n6 = 1 := hS6.len.symm
  subst hn6
  have hX6 := Blk.new w6 41 #[.int .i64 7, .slice a6 1 c6]
  have b7 := b6.alloc b6.size (.cells #[.int .i64 7, .slice a6 1 c6] 41)
  obtain ⟨M7, H7, m7, n7, k7⟩ := H5.out.more b7
  have S7 := Lib.hid ((S5.out.keep k7).mono m7)
  have HH7 := Lib.hid H7
  have HX7 := Lib.hid (And.intro hX6 (n7 _ b6.size hX6.lt))
  clear hS6 hX6 b7 b6 H7 m7 n7 k7
  go_upto_region 7 with (fail)
  generalize hGen : w6.alloc (.cells #[.int .i64 7, .slice a6 1 c6] 41) = w7 at S7 HH7 HX7 ⊢
  clear hGen
  have hrd := pq_readB w7 7 HH7.out.pq (by rw [HA.out.q]; decide)
  rw [HA.out.r7.1, HA.out.r7.2] at hrd
  have HRD := Lib.hid hrd
  clear hrd
  go_wp2_with fail
  refine HRD.out.mono ?_
  rintro e w8 ⟨rfl, b8⟩
  obtain ⟨M8, H8, m8, n8, k8⟩ := HH7.out.more b8
  have S8 := Lib.hid ((S7.out.keep k8).mono m8)
  have HH8 := Lib.hid H8
  have HX8 := Lib.hid (And.intro (k8.blk HX7.out.1 HX7.out.2) (m8 _ HX7.out.2))
  clear b8 H8 m8 n8 k8 HRD HR3
  have hr0 := readp_any w8 M8 s 0 0 S8.out HH8.out.pq ca_small (by decide) (by rw [HA.out.q]; decide) HA.out.full HA.out.life
  rw [HA.out.l0] at hr0
  have HR0 := Lib.hid hr0
  clear hr0
  go_wp2_with fail
  refine HR0.out.mono ?_
  rintro e w9 ⟨a9, n9, c9, rfl, hS9, b9, -⟩
  have hn9 : n9 = 0 := hS9.len.symm
  subst hn9
  have hX9 := Blk.new w9 41 #[.int .i64 0, .slice a9 0 c9]
  have b10 := b9.alloc b9.size (.cells #[.int .i64 0, .slice a9 0 c9] 41)
  obtain ⟨M9, H9, m9, n9, k9⟩ := HH8.out.more b10
  have HX10 := Lib.hid (k9.blk HX8.out.1 HX8.out.2)
  have HH10 := Lib.hid H9
  have HX9 := Lib.hid hX9
  clear hS9 hX9 b10 b9 H9 m9 n9 k9
  go_upto_region 9 with (fail)
  generalize hGen : w9.alloc (.cells #[.int .i64 0, .slice a9 0 c9] 41) = w10 at HX10 HH10 HX9 ⊢
  clear hGen
  have q0 := HX10.out.cell 0
  have q1 := HX10.out.cell 1
  have y1 := HX9.out.cell 1
  simp only [List.getElem?_toArray, List.getElem?_cons_zero, List.getElem?_cons_succ] at q0 q1 y1
  have hsz : (secB 3 7 (oneS 120)).size = 256 := sec_size (one_good 120 (by decide) (by decide))
  have hraw := raw_cut
  have hac := pq_acts w10 p M9 T HH10.out.pq
  rw [HA.out.acts] at hac
  generalize secB 3 7 (oneS 120) = D at *
  have HAC := Lib.hid hac
  clear hac
  go_wp2_with fail
  refine HAC.out.mono ?_
  rintro e w11 ⟨rfl, rfl⟩
  go_wp2
  go_ret
  exact ⟨rfl, HH10.out.bel⟩
end Go.Proofs.YtnnppdjgmjgjhaaDoor.Twin
namespace Go.Proofs.YtnnppdjgmjgjhaaDoor.Twin
set_option maxRecDepth 100000
open Go.RowKit
open Go.Proofs.YtnnppdjgmjgjhaaDoor.Mem
open Go.Proofs.YtnnppdjgmjgjhaaDoor.Plate

def setP (V : Nat → Pg) (n : Nat) (x : Pg) : Nat → Pg := fun i => if i = n then x else V i
/-- a row of five pages -/
structure PRow (N : Nat → Prop) (w : World) (g : Nat) (f : Nat → Pg) : Prop where
  row : ∃ cs, Blk w g 41 cs ∧ 10 ≤ cs.size ∧ ∀ k, k < 5 → ∃ a m c, cs[k * 2]? = some (.int .i64 (f k).1) ∧ cs[k * 2 + 1]? = some (.slice a m c) ∧ SlotsM N w a m (f k).2
  ng : ¬ N g
section
variable {N N' M : Nat → Prop} {w w' : World} {g : Nat} {f : Nat → Pg}
theorem PRow.keep (h : PRow N w g f) (hk : Keep M w w') (hN : ∀ k, N k → M k) (hg : M g) : PRow N w' g f := by
  obtain ⟨cs, h1, h2, h3⟩ := h.row
  refine ⟨⟨cs, hk.blk h1 hg, h2, fun k hk5 => ?_⟩, h.ng⟩
  obtain ⟨a, m, c, e1, e2, e3⟩ := h3 k hk5
  exact ⟨a, m, c, e1, e2, e3.keep (hk.mono hN)⟩
theorem PRow.mono (h : PRow N w g f) (hN : ∀ k, N k → N' k) (hg : ¬ N' g) : PRow N' w g f := by
  obtain ⟨cs, h1, h2, h3⟩ := h.row
  refine ⟨⟨cs, h1, h2, fun k hk5 => ?_⟩, hg⟩
  obtain ⟨a, m, c, e1, e2, e3⟩ := h3 k hk5
  exact ⟨a, m, c, e1, e2, e3.mono hN⟩
theorem PRow.lt (h : PRow N w g f) : g < w.heap.size := by obtain ⟨cs, h1, -⟩ := h.row; exact h1.lt
theorem PRow.get (h : PRow N w g f) {k : Nat} (hk : k < 5) : ∃ a m c, w.cell? ⟨g, k * 2, none⟩ = some (.int .i64 (f k).1) ∧ w.cell? ⟨g, k * 2 + 1, none⟩ = some (.slice a m c) ∧ SlotsM N w a m (f k).2 ∧ w.frozen? ⟨g, k * 2, none⟩ = false ∧ w.frozen? ⟨g, k * 2 + 1, none⟩ = false := by
  obtain ⟨cs, h1, h2, h3⟩ := h.row
  obtain ⟨a, m, c, e1, e2, e3⟩ := h3 k hk
  exact ⟨a, m, c, (h1.cell _).trans e1, (h1.cell _).trans e2, e3, h1.frozen _, h1.frozen _⟩
theorem PRow.congr (h : PRow N w g f) {f' : Nat → Pg} (hf : ∀ k, k < 5 → f k = f' k) : PRow N w g f' := by
  obtain ⟨cs, h1, h2, h3⟩ := h.row
  exact ⟨⟨cs, h1, h2, fun k hk => by rw [← hf k hk]; exact h3 k hk⟩, h.ng⟩
theorem SlotsM.far {a : Option Addr} {m : Nat} {z : List Slab.Slot} (h : SlotsM N w a m z) (hg : ¬ N g) (i : Nat) (v : Value) : SlotsM N (w.setCell ⟨g, i, none⟩ v) a m z :=
  h.keep ((Keep.refl N w).set_ hg i v)
/-- a store of a page into another row -/
theorem PRow.far (h : PRow N w g f) {g' : Nat} (hne : g ≠ g') (hN : ¬ N g') (i j : Nat) (u v : Value) : PRow N ((w.setCell ⟨g', i, none⟩ u).setCell ⟨g', j, none⟩ v) g f := by
  obtain ⟨cs, h1, h2, h3⟩ := h.row
  refine ⟨⟨cs, (h1.far (p := ⟨g', i, none⟩) hne u).far (p := ⟨g', j, none⟩) hne v, h2, fun k hk => ?_⟩, h.ng⟩
  obtain ⟨a, m, c, e1, e2, e3⟩ := h3 k hk
  exact ⟨a, m, c, e1, e2, (e3.far hN i u).far hN j v⟩
theorem PRow.put (h : PRow N w g f) {k : Nat} (hk : k < 5) {l : Int} {a : Option Addr} {m c : Nat} {z : List Slab.Slot} (hs : SlotsM N w a m z) :
    PRow N ((w.setCell ⟨g, k * 2, none⟩ (.int .i64 l)).setCell ⟨g, k * 2 + 1, none⟩ (.slice a m c)) g (setP f k (l, z)) := by
  obtain ⟨cs, h1, h2, h3⟩ := h.row
  refine ⟨⟨_, (h1.set_ (k * 2) (.int .i64 l)).set_ (k * 2 + 1) (.slice a m c), by simpa using h2, fun j hj => ?_⟩, h.ng⟩
  unfold setP
  by_cases hjk : j = k
  · subst hjk
    rw [if_pos rfl]
    exact ⟨a, m, c, by simp only [Array.getElem?_setIfInBounds, Array.size_setIfInBounds]; rw [if_neg (by omega), if_pos True.intro, if_pos (by omega)], by simp only [Array.getElem?_setIfInBounds, Array.size_setIfInBounds]; rw [if_pos True.intro, if_pos (by omega)], (hs.far h.ng _ _).far h.ng _ _⟩
  · rw [if_neg hjk]
    obtain ⟨a', m', c', e1, e2, e3⟩ := h3 j hj
    refine ⟨a', m', c', ?_, ?_, (e3.far h.ng _ _).far h.ng _ _⟩
    · simp only [Array.getElem?_setIfInBounds]; rw [if_neg (by omega), if_neg (by omega)]; exact e1
    · simp only [Array.getElem?_setIfInBounds]; rw [if_neg (by omega), if_neg (by omega)]; exact e2
end
/-- the pages as a list's Write leaves them -/
def nextF (sure : Nat → Pg) : List Lf → Nat → Pg
  | [] => sure
  | x :: r => nextF (setP sure x.n.toNat (x.l, x.z)) r
theorem nextF_snoc (sure : Nat → Pg) (ls : List Lf) (x : Lf) : nextF sure (ls ++ [x]) = setP (nextF sure ls) x.n.toNat (x.l, x.z) := by
  induction ls generalizing sure with
  | nil => rfl
  | cons y r ih => exact ih _
theorem nextF_out {sure : Nat → Pg} {ls : List Lf} {n : Nat} (h : ∀ x ∈ ls, x.n.toNat ≠ n) : nextF sure ls n = sure n := by
  induction ls generalizing sure with
  | nil => rfl
  | cons y r ih =>
    show nextF (setP sure y.n.toNat (y.l, y.z)) r n = _
    rw [ih (fun x hx => h x (List.mem_cons_of_mem _ hx))]
    unfold setP
    rw [if_neg (fun e => h y List.mem_cons_self e.symm)]
theorem nextF_in {sure : Nat → Pg} {ls : List Lf} {n : Nat} {v : Pg} (h : ∃ x ∈ ls, x.n.toNat = n) (hv : ∀ x ∈ ls, x.n.toNat = n → (x.l, x.z) = v) : nextF sure ls n = v := by
  induction ls generalizing sure with
  | nil => obtain ⟨x, hx, -⟩ := h; cases hx
  | cons y r ih =>
    show nextF (setP sure y.n.toNat (y.l, y.z)) r n = _
    by_cases hr : ∃ x ∈ r, x.n.toNat = n
    · exact ih hr (fun x hx => hv x (List.mem_cons_of_mem _ hx))
    · rw [nextF_out (fun x hx e => hr ⟨x, hx, e⟩)]
      obtain ⟨x, hx, e⟩ := h
      rcases List.mem_cons.1 hx with rfl | h1
      · unfold setP; rw [if_pos e.symm]; exact hv x List.mem_cons_self e
      · exact absurd ⟨x, h1, e⟩ hr
theorem laid_takes {rs : List Ro} {b : UInt8} {L : Int} (h : Laid rs b L) (h0 : 0 ≤ L) (h1 : L ≤ 1000) : takesR CF (rs.map (·.x)) = true := by
  have hlen : (rs.map (·.x)).length ≤ 3 := by rw [List.length_map]; exact h.len
  have hall : ∀ k, k ≤ (rs.map (·.x)).length → oksR CF (rs.map (·.x)) k = true := by
    intro k
    induction k with
    | zero => intro _; rfl
    | succ k ih =>
      intro hk
      rw [oksR, ih (by omega)]
      have hkl : k < rs.length := by rw [List.length_map] at hk; omega
      have e : (rs.map (·.x)).getD k lf0 = rs[k].x := by simp [List.getD, hkl]
      obtain ⟨m, hm, e1, e2, e3⟩ := h.has rs[k] (List.getElem_mem hkl)
      have hg : Slab.goodB rs[k].x.l rs[k].x.z = true := by rw [e2, e3]; exact one_good b h0 (by omega)
      have hh : hasR CF (m : Int) = true := by
        unfold hasR
        rw [decide_eq_true (show (0 : Int) ≤ m by omega), decide_eq_true (show (m : Int) < (CF.pg : Int) by show (m : Int) < 5; omega)]
        rfl
      unfold okR
      rw [e, hg, e1, hh]
      have hany : (((rs.map (·.x)).take k).any fun y => decide (y.n = (m : Int))) = false := by
        rw [List.any_eq_false]
        intro y hy
        rw [List.mem_take_iff_getElem] at hy
        obtain ⟨j, hj, rfl⟩ := hy
        have hjl : j < rs.length := by rw [List.length_map] at hj; omega
        simp only [List.getElem_map, decide_eq_true_eq]
        intro e4
        have hnd := List.pairwise_iff_getElem.1 h.once j k (by rw [List.length_map]; omega) (by rw [List.length_map]; omega) (by omega)
        simp only [List.getElem_map] at hnd
        exact hnd (by rw [e4, e1])
      rw [hany]
      rfl
  unfold takesR
  rw [hall _ (Nat.le_refl _), decide_eq_true (show (rs.map (·.x)).length ≤ CF.tw from hlen)]
  rfl
theorem laid_newest {rs : List Ro} {b : UInt8} {L : Int} (h : Laid rs b L) (h0 : 0 ≤ L) (h1 : L ≤ 1000) (sure : Nat → Pg) : Newest (rs.map (·.x)) sure (nextF sure (rs.map (·.x))) L := by
  have hv : ∀ x ∈ rs.map (·.x), (x.l, x.z) = (L, oneS b) := fun x hx => by
    obtain ⟨r, hr, rfl⟩ := List.mem_map.1 hx
    obtain ⟨m, hm, e1, e2, e3⟩ := h.has r hr
    rw [e2, e3]; rfl
  refine ⟨laid_takes h h0 h1, fun x hx => ?_, fun n hn hx => ?_⟩
  · have e := hv x hx
    simp only [Prod.mk.injEq] at e
    exact ⟨e.1, by rw [nextF_in (v := (L, oneS b)) ⟨x, hx, rfl⟩ (fun y hy _ => hv y hy), e.2]⟩
  · refine nextF_out (fun x hx2 e => hx x hx2 ?_)
    obtain ⟨r, hr, rfl⟩ := List.mem_map.1 hx2
    obtain ⟨m, hm, e1, -⟩ := h.has r hr
    omega
theorem Calm.off {S : PS} {k : Nat} (h : Calm S (k + 1)) : Calm (offS S) k := by
  obtain ⟨h1, h2, h3, h4⟩ := h
  refine ⟨?_, by show S.acts + k ≤ _; omega, Nat.zero_le _, by show S.q.length + k ≤ _; omega⟩
  show (if S.off then S.life else S.life + 1) + k ≤ _
  split <;> omega
theorem Calm.on {S : PS} {k : Nat} (h : Calm S k) (fs : List Int) : Calm (onS S fs) k := by
  obtain ⟨h1, h2, h3, h4⟩ := h
  unfold onS
  split
  · exact ⟨h1, h2, h3, by show 0 + k ≤ _; omega⟩
  · exact ⟨h1, h2, h3, h4⟩
theorem Calm.arm' {S : PS} {k : Nat} (h : Calm S k) {n : Int} (hn : n ≤ 1000) : Calm (armS S n) k := ⟨h.life, h.acts, by show n.toNat ≤ _; omega, h.q⟩
theorem Calm.write' {C : Cfg} {S : PS} {k : Nat} {ls : List Lf} (h : Calm S (k + 2 * ls.length + 2)) : Calm (writeR C S ls).2 k := by
  unfold writeR
  split
  · have h1 : Calm (Twin.lay (wsOf C.twin ls) S).2 (k + ls.length + 1) := Calm.lay (h.mono (by rw [ws_len]; omega))
    split
    · exact Calm.lay (h1.mono (by rw [ws_len]; omega))
    · exact h1.mono (by omega)
  · exact h.mono (by omega)
theorem Calm.open' {C : Cfg} {S : PS} {k : Nat} (h : Calm S (k + C.pg + 1)) : Calm (openR C S).2 k := by
  have h1 : Calm (Twin.lay (repW C S) S).2 k := Calm.lay (h.mono (by have := rep_len C S; omega))
  unfold openR
  split
  · split <;> exact h1
  · exact h1
theorem Full.write' {C : Cfg} {S : PS} (h : Full S) (ls : List Lf) : Full (writeR C S ls).2 := by
  unfold writeR
  split
  · split
    · exact (h.lay _).lay _
    · exact h.lay _
  · exact h
theorem Full.open' {C : Cfg} {S : PS} (h : Full S) : Full (openR C S).2 := by
  unfold openR
  split
  · split <;> exact h.lay _
  · exact h.lay _
/-- the power goes, if it is on, and is back -/
theorem back_on {S : PS} (hN : S.N = 16) {sure next : Nat → Pg} {L : Int} (h : CrS S.sec sure next L) (hw : Wait S.q S.sec sure next L) (fs : List Int) :
    Calmed (onS (offS S) fs) ∧ CrS (onS (offS S) fs).sec sure next L ∧ (onS (offS S) fs).arm = 0 :=
  ⟨⟨rfl, rfl, hN⟩, h.back hw (fateZ fs), rfl⟩
theorem Downed.on {S T : PS} {sure next : Nat → Pg} {L : Int} (h : Downed S T sure next L) (fs : List Int) : Calmed (onS T fs) ∧ CrS (onS T fs).sec sure next L := by
  unfold onS
  rw [if_pos h.off]
  exact ⟨⟨rfl, rfl, h.N⟩, h.cr.back h.wait (fateZ fs)⟩
theorem wait_nil (f : Nat → Sec) (sure next : Nat → Pg) (L : Int) : Wait [] f sure next L := ⟨fun _ h => by simp at h, fun _ h => by simp at h⟩
/-- an opening that may be cut off, the power off and on again -/
theorem again {S : PS} (hS : Calmed S) {sure next : Nat → Pg} {L : Int} (h : CrS S.sec sure next L) (fs : List Int) :
    Calmed (onS (offS (openR CF S).2) fs) ∧ CrS (onS (offS (openR CF S).2) fs).sec sure next L ∧ (onS (offS (openR CF S).2) fs).arm = 0 := by
  rcases open_cases hS h with ⟨-, o⟩ | ⟨-, -, o⟩
  · exact back_on o.cal.N o.cr (by rw [o.cal.q]; exact wait_nil _ _ _ _) fs
  · exact back_on o.N o.cr o.wait fs
theorem open_on {S : PS} (hS : Calmed S) (ha : S.arm = 0) {sure next : Nat → Pg} {L : Int} (h : CrS S.sec sure next L) : (openR CF S).1 = 0 ∧ Opened S (openR CF S).2 sure next L := by
  rcases open_cases hS h with o | ⟨-, h1, -⟩
  · exact o
  · exact absurd ha h1
theorem Inv.cr {S : PS} {sure : Nat → Pg} {L : Int} (h : Inv S sure L) : CrS S.sec sure sure (L + 1) := ⟨fun n hn => .inl (h.home n hn), fun i hi => tw_old (by omega) (h.twin i hi)⟩
theorem Opened.inv {S T : PS} {sure next P : Nat → Pg} {L : Int} (h : Opened S T sure next L) (hP : ∀ n, n < 5 → HasP n (P n) (T.sec (3 + n))) : Inv T P L :=
  ⟨h.cal, hP, fun i hi => by
    rcases h.cr.twin i hi with h1 | h1 | ⟨m, l, z, a1, a2, a3, a4, -⟩
    · exact .inl h1
    · exact .inr (.inl h1)
    · exact .inr (.inr ⟨m, l, z, a1, a2, a3, a4⟩)⟩
theorem Inv.start : Inv (newS 16) (fun _ => (0, [])) 0 := ⟨⟨rfl, rfl, rfl⟩, fun _ _ => ⟨rfl, .inl ⟨rfl, rfl⟩⟩, fun _ _ => .inr (.inl rfl)⟩
theorem Inv.arm {S : PS} {sure : Nat → Pg} {L : Int} (h : Inv S sure L) (n : Int) : Inv (armS S n) sure L := ⟨⟨h.cal.off, h.cal.q, h.cal.N⟩, h.home, h.twin⟩
theorem pick {α : Type} [Inhabited α] {R : Nat → α → Prop} {m : Nat} (h : ∀ n, n < m → ∃ P, R n P) : ∃ f : Nat → α, ∀ n, n < m → R n (f n) := by
  classical
  refine ⟨fun n => if hn : n < m then (h n hn).choose else default, fun n hn => ?_⟩
  simp only [hn, dif_pos]
  exact (h n hn).choose_spec
def DD (M : Nat → Prop) (g1 g2 : Nat) : Nat → Prop := fun k => M k ∧ k ≠ g1 ∧ k ≠ g2
/-- two rows of pages, and the box of the losses -/
structure Two (w W : World) (p g1 g2 : Nat) (M : Nat → Prop) (f1 f2 : Nat → Pg) (S : PS) (cs : Array Value) : Prop where
  pw : Pw w W p M S
  r1 : PRow (DD M g1 g2) W g1 f1
  r2 : PRow (DD M g1 g2) W g2 f2
  m1 : M g1
  m2 : M g2
  ne : g1 ≠ g2
  b1 : w.heap.size < g1
  b2 : w.heap.size < g2
  box : Blk W w.heap.size 24 cs
  mb : M w.heap.size
section
variable {w W W' : World} {p g1 g2 : Nat} {M M' : Nat → Prop} {f1 f2 : Nat → Pg} {S S' : PS} {cs : Array Value}
theorem Two.next (h : Two w W p g1 g2 M f1 f2 S cs) (hp : PQ W' p M S') (hk : Keep M W W') : Two w W' p g1 g2 M f1 f2 S' cs :=
  ⟨h.pw.next hp hk, h.r1.keep hk (fun _ hk => hk.1) h.m1, h.r2.keep hk (fun _ hk => hk.1) h.m2, h.m1, h.m2, h.ne, h.b1, h.b2, hk.blk h.box h.mb, h.mb⟩
theorem DD.mono (hm : ∀ k, M k → M' k) : ∀ k, DD M g1 g2 k → DD M' g1 g2 k := fun k hk => ⟨hm k hk.1, hk.2⟩
theorem Two.more (h : Two w W p g1 g2 M f1 f2 S cs) (hb : Below W.heap.size W W') :
    ∃ M', Two w W' p g1 g2 M' f1 f2 S cs ∧ (∀ k, M k → M' k) ∧ (∀ k, W.heap.size ≤ k → k < W'.heap.size → DD M' g1 g2 k) ∧ Keep M W W' := by
  obtain ⟨M', a1, a2, a3, a4⟩ := h.pw.more hb
  refine ⟨M', ⟨a1, (h.r1.keep a4 (fun _ hk => hk.1) h.m1).mono (DD.mono a2) (fun hk => hk.2.1 rfl), (h.r2.keep a4 (fun _ hk => hk.1) h.m2).mono (DD.mono a2) (fun hk => hk.2.2 rfl), a2 _ h.m1, a2 _ h.m2, h.ne, h.b1, h.b2, a4.blk h.box h.mb, a2 _ h.mb⟩, a2, fun k h1 h2 => ⟨a3 k h1 h2, ?_, ?_⟩, a4⟩
  · have := h.r1.lt; omega
  · have := h.r2.lt; omega
/-- more blocks are known to be others' -/
theorem Two.wide (h : Two w W p g1 g2 M f1 f2 S cs) (hp : PQ W p M' S) (hm : ∀ k, M k → M' k) : Two w W p g1 g2 M' f1 f2 S cs :=
  ⟨⟨hp, h.pw.bel, fun k hk => hm k (h.pw.mb k hk)⟩, h.r1.mono (DD.mono hm) (fun hk => hk.2.1 rfl), h.r2.mono (DD.mono hm) (fun hk => hk.2.2 rfl), hm _ h.m1, hm _ h.m2, h.ne, h.b1, h.b2, h.box, hm _ h.mb⟩
theorem PQ.set2 {g : Nat} (h : PQ W p M S) (hg : M g) (i j : Nat) (u v : Value) : PQ ((W.setCell ⟨g, i, none⟩ u).setCell ⟨g, j, none⟩ v) p M S := by
  obtain ⟨sb, qv, h⟩ := h
  exact ⟨sb, qv, (h.set_ hg i u).set_ hg j v⟩
theorem Two.put2 (h : Two w W p g1 g2 M f1 f2 S cs) {k : Nat} (hk : k < 5) {l : Int} {a : Option Addr} {m c : Nat} {z : List Slab.Slot} (hs : SlotsM (DD M g1 g2) W a m z) :
    Two w ((W.setCell ⟨g2, k * 2, none⟩ (.int .i64 l)).setCell ⟨g2, k * 2 + 1, none⟩ (.slice a m c)) p g1 g2 M f1 (setP f2 k (l, z)) S cs :=
  ⟨⟨PQ.set2 h.pw.pq h.m2 _ _ _ _, (h.pw.bel.setCell (p := ⟨g2, k * 2, none⟩) (Nat.le_of_lt h.b2) _).setCell (p := ⟨g2, k * 2 + 1, none⟩) (Nat.le_of_lt h.b2) _, h.pw.mb⟩, h.r1.far h.ne (fun hk => hk.2.2 rfl) _ _ _ _, h.r2.put hk hs, h.m1, h.m2, h.ne, h.b1, h.b2,
    (h.box.far (p := ⟨g2, k * 2, none⟩) (Nat.ne_of_lt h.b2) _).far (p := ⟨g2, k * 2 + 1, none⟩) (Nat.ne_of_lt h.b2) _, h.mb⟩
theorem Two.put1 (h : Two w W p g1 g2 M f1 f2 S cs) {k : Nat} (hk : k < 5) {l : Int} {a : Option Addr} {m c : Nat} {z : List Slab.Slot} (hs : SlotsM (DD M g1 g2) W a m z) :
    Two w ((W.setCell ⟨g1, k * 2, none⟩ (.int .i64 l)).setCell ⟨g1, k * 2 + 1, none⟩ (.slice a m c)) p g1 g2 M (setP f1 k (l, z)) f2 S cs :=
  ⟨⟨PQ.set2 h.pw.pq h.m1 _ _ _ _, (h.pw.bel.setCell (p := ⟨g1, k * 2, none⟩) (Nat.le_of_lt h.b1) _).setCell (p := ⟨g1, k * 2 + 1, none⟩) (Nat.le_of_lt h.b1) _, h.pw.mb⟩, h.r1.put hk hs, h.r2.far h.ne.symm (fun hk => hk.2.1 rfl) _ _ _ _, h.m1, h.m2, h.ne, h.b1, h.b2,
    (h.box.far (p := ⟨g1, k * 2, none⟩) (Nat.ne_of_lt h.b1) _).far (p := ⟨g1, k * 2 + 1, none⟩) (Nat.ne_of_lt h.b1) _, h.mb⟩
theorem Sto.set2 {s : Nat} {C : Cfg} {lf g : Nat} (h : Sto M W s p C lf) (hg : s ≠ g) (i j : Nat) (u v : Value) : Sto M ((W.setCell ⟨g, i, none⟩ u).setCell ⟨g, j, none⟩ v) s p C lf :=
  ⟨(h.1.far (p := ⟨g, i, none⟩) hg u).far (p := ⟨g, j, none⟩) hg v, h.2⟩
theorem Leaves.set2 {N : Nat → Prop} {a : Option Addr} {n g : Nat} {ls : List Lf} (h : Leaves N W a n ls) (hg : ¬ N g) (i j : Nat) (u v : Value) : Leaves N ((W.setCell ⟨g, i, none⟩ u).setCell ⟨g, j, none⟩ v) a n ls :=
  h.keep (((Keep.refl N W).set_ hg i u).set_ hg j v)
theorem PRow.type (h : PRow M' W g1 f1) : ∃ cs, Blk W g1 41 cs := by obtain ⟨cs, h1, -⟩ := h.row; exact ⟨cs, h1⟩
/-- a store is no row of pages -/
theorem sto_ne {s : Nat} {C : Cfg} {lf : Nat} {N : Nat → Prop} (h : Sto M W s p C lf) (hr : PRow N W g1 f1) : s ≠ g1 := by
  rintro rfl
  obtain ⟨cs, h1⟩ := hr.type
  have h2 := h.1
  unfold Blk at h1 h2
  rw [h1] at h2
  simp only [Option.some.injEq, Obj.cells.injEq] at h2
  exact absurd h2.2.1 (by decide)
/-- a row of five pages that a call has made -/
theorem PRow.of_own {N : Nat → Prop} {B : Nat} {v : Value} {xs : List Value} {f : Nat → Pg} (h : W.ownsRow B 41 2 v 5 xs) (hx : ∀ k, k < 5 → ∃ a m c, xs[k * 2]? = some (.int .i64 (f k).1) ∧ xs[k * 2 + 1]? = some (.slice a m c) ∧ SlotsM N W a m (f k).2) :
    ∃ g cap, v = .slice (some ⟨g, 0, none⟩) 5 cap ∧ B ≤ g ∧ g < W.heap.size ∧ (¬ N g → PRow N W g f) := by
  obtain ⟨hl, ⟨-, h0⟩ | ⟨g, cap, cur, hv, hg, hc, h1, h2, h3, h4⟩⟩ := h
  · cases h0
  · refine ⟨g, cap, hv, hg, (Array.getElem?_eq_some_iff.1 hc).1, fun hN => ⟨⟨cur, hc, by omega, fun k hk => ?_⟩, hN⟩⟩
    obtain ⟨a, m, c, e1, e2, e3⟩ := hx k hk
    have hcell : ∀ j, j < 10 → cur[j]? = xs[j]? := fun j hj => by
      rw [← h4, List.getElem?_take_of_lt (by omega)]; simp
    exact ⟨a, m, c, (hcell _ (by omega)).trans e1, (hcell _ (by omega)).trans e2, e3⟩
end
end Go.Proofs.YtnnppdjgmjgjhaaDoor.Twin
