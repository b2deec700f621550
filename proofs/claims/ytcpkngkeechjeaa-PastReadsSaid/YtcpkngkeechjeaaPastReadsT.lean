/- Proved here: for every input the Go function PastReads returns true, ends, does not panic, and leaves its arguments as they were (what every list of entries tells of losers, of who is done, of pages is what the document says). Conditions: none beside the form's own. -/
import Derived.Test.YtcpkngkeechjeaaEntRows
import Derived.Test.YtcpkngkeechjeaaEntA
import Derived.Test.YtcpkngkeechjeaaMem
import Derived.Laws.MakeOwn
import Derived.Test.YtcpkngkeechjeaaPastAwake
import Derived.Test.YtcpkngkeechjeaaPastLaws
import Derived.Test.YtcpkngkeechjeaaPastIns
import Derived.Deep.Slices
import Derived.ChangeShapes
import Derived.Lib.SmallJoins
import Derived.SizedLaws
import Derived.OpenShut
import Derived.Test.YtcpkngkeechjeaaPastMapT
import Derived.Test.YtcpkngkeechjeaaPastEq
import Derived.Test.YtcpkngkeechjeaaPastURead
import Derived.ProofKit
import Derived.ShutString
import Derived.ChangeOld
import Derived.Below
import Derived.Carry
import Derived.ChangeMaps5
import Derived.KernelRfl
namespace Go.Proofs.Ytcpkngkeechjeaa.Patch
set_option maxRecDepth 100000
open Go.RowKit Go.Joins Go.ChangeShapes Go.WideShapes Go.Deep Go.Sort
open Go.Proofs.Ytcpkngkeechjeaa.Ent (Ent Ents EntAt noE)
section
variable {H : Type} {enc : TypeId × Value → H} {w : World} {base : Nat} {spare : Nat → Bool} {held : Bool}
theorem ents_cap {a : Option Addr} {n c : Nat} {d : DataW H} {p : List MemPlace} (h : DataW.Trod enc Try.prog w base spare held 22 (.slice a n c) d p) : n ≤ c := by
  obtain ⟨fuel, hf⟩ := h
  rcases open_slice Try.underlying22 (x := (d, p)) (by simpa [Value.cells] using hf) with ⟨e, _⟩ | ⟨a', len, cap, m, n', D, Pl, hcs, hb, hl, hm, hmm, hx, hi⟩
  · simp at e; omega
  · simp at hcs; obtain ⟨_, rfl, rfl⟩ := hcs; exact hl
end
/-- where a list's rest lies -/
def tailA (a : Option Addr) (c k : Nat) : Option Addr := if c = k then a else a.map (·.add (k * 13))
theorem size_ent (w : World) : (sizeOf 31).run Try.prog w = .ok 13 w := by have := Try.sizeOf31; exact this w
theorem run_tail (a : Option Addr) (n c k : Nat) (hk : k ≤ n) (W : World) : (Instr.slice 22 (.slice a n c) (some (.int .i64 (k : Int))) none none).run Try.prog W = .ok (.slice (tailA a c k) (n - k) (c - k)) W := by
  rw [run_slice_l (P := Try.prog) W 22 a n c (by kernel_rfl) .i64 (k : Int) (by omega) (by omega)]
  rw [show Try.prog.elem 22 = 31 by kernel_rfl, size_ent]
  simp [Result.andThen, sliced, tailA]
theorem ents_drop {w : World} {b off n : Nat} {xs : List Ent} (h : Ents w (some ⟨b, off, none⟩) n xs) {k : Nat} (hk : k ≤ n) : Ents w (some ⟨b, off + k * 13, none⟩) (n - k) (xs.drop k) := by
  obtain ⟨h1, h2, h3⟩ := h
  refine ⟨by rw [List.length_drop, h1], fun x hx => h2 x (List.mem_of_mem_drop hx), fun h0 => ?_⟩
  obtain ⟨b', off', e, hb, hc⟩ := h3 (by omega)
  injection e with e
  injection e with e1 e2
  subst e1 e2
  refine ⟨b, off + k * 13, rfl, hb, fun i hi => ?_⟩
  have := hc (k + i) (by omega)
  have e4 : (xs.drop k).getD i noE = xs.getD (k + i) noE := by simp [List.getD, List.getElem?_drop]
  rw [e4, show off + k * 13 + i * 13 = off + (k + i) * 13 by omega]
  exact this
theorem ents_tail {w : World} {a : Option Addr} {n c k : Nat} {xs : List Ent} (h : Ents w a n xs) (hk : k ≤ n) (hc : n ≤ c) : Ents w (tailA a c k) (n - k) (xs.drop k) := by
  by_cases h0 : n - k = 0
  · have : xs.drop k = [] := List.drop_eq_nil_of_le (by rw [h.1]; omega)
    rw [this, h0]
    exact ⟨rfl, by simp, fun h => absurd h (Nat.lt_irrefl 0)⟩
  · obtain ⟨b, off, rfl, _, _⟩ := h.2.2 (by omega)
    have e : tailA (some ⟨b, off, none⟩) c k = some ⟨b, off + k * 13, none⟩ := by
      unfold tailA
      rw [if_neg (by omega)]
      simp only [Option.map_some, Option.some.injEq]
      unfold Addr.add; split <;> simp_all
    rw [e]
    exact ents_drop h hk
end Go.Proofs.Ytcpkngkeechjeaa.Patch
namespace Go.Proofs.Ytcpkngkeechjeaa.Mem
set_option maxRecDepth 100000
open Go.RowKit
/-- a row of n in a block -/
def Arr (w : World) (g : Nat) (T : TypeId) (n : Nat) (e : Nat → Value) : Prop := ∃ cs, Blk w g T cs ∧ cs.size = n ∧ ∀ k, k < n → cs[k]? = some (e k)
section
variable {w w' : World} {g n : Nat} {T : TypeId} {e : Nat → Value}
theorem Arr.lt (h : Arr w g T n e) : g < w.heap.size := by obtain ⟨cs, h1, -⟩ := h; exact h1.lt
theorem Arr.at_ (h : Arr w g T n e) {k : Nat} (hk : k < n) : w.cell? ⟨g, k, none⟩ = some (e k) ∧ w.frozen? ⟨g, k, none⟩ = false := by
  obtain ⟨cs, h1, -, h3⟩ := h
  exact ⟨(h1.cell k).trans (h3 k hk), h1.frozen k⟩
theorem Arr.of_block (h : Arr w g T n e) (hb : w'.heap[g]? = w.heap[g]?) : Arr w' g T n e := by
  obtain ⟨cs, h1, h2⟩ := h
  exact ⟨cs, hb.trans h1, h2⟩
theorem Arr.keep {M : Nat → Prop} (h : Arr w g T n e) (hk : Keep M w w') (hm : M g) : Arr w' g T n e := h.of_block (hk.block g hm)
theorem Arr.below (h : Arr w g T n e) (hb : Below w.heap.size w w') : Arr w' g T n e := h.of_block (hb.block g h.lt)
theorem Arr.alloc (h : Arr w g T n e) (o : Obj) : Arr (w.alloc o) g T n e := h.of_block (Below.heap_alloc w o g h.lt)
theorem Arr.far (h : Arr w g T n e) {p : Addr} (hp : g ≠ p.block) (u : Value) : Arr (w.setCell p u) g T n e := h.of_block (Below.heap_setCell w p u g hp)
theorem Arr.set_ (h : Arr w g T n e) {k : Nat} (hk : k < n) (e' : Nat → Value) (he : ∀ j, e' j = if j = k then e' k else e j) : Arr (w.setCell ⟨g, k, none⟩ (e' k)) g T n e' := by
  obtain ⟨cs, h1, h2, h3⟩ := h
  refine ⟨_, h1.set_ k (e' k), by simpa using h2, fun j hj => ?_⟩
  by_cases e1 : j = k
  · subst e1
    rw [Array.getElem?_setIfInBounds, if_pos rfl, if_pos (by omega)]
  · rw [Array.getElem?_setIfInBounds, if_neg (fun h => e1 h.symm), he j, if_neg e1]
    exact h3 j hj
theorem Arr.made (w : World) (T : TypeId) (n : Nat) (z : Value) : Arr (w.alloc (.cells (madeCells #[z] n) T)) w.heap.size T n (fun _ => z) := by
  refine ⟨_, Blk.new w _ _, by simp [madeCells], fun k hk => ?_⟩
  simp [madeCells, hk, Nat.mod_one]
end
theorem cut_of (x : Int) (n : Int) (hn : 1 ≤ n) (hm : n ≤ 9223372036854775807) : ∃ K : Nat, wrap64 ((IntKind.u64.wrap x).tmod n) = (K : Int) ∧ (K : Int) < n := by
  have h0 : 0 ≤ IntKind.u64.wrap x := by rw [IntKind.wrap_u64]; omega
  rw [Int.tmod_eq_emod_of_nonneg h0]
  have h1 := Int.emod_nonneg (IntKind.u64.wrap x) (b := n) (by omega)
  have h2 := Int.emod_lt_of_pos (IntKind.u64.wrap x) (b := n) (by omega)
  generalize IntKind.u64.wrap x % n = z at h1 h2 ⊢
  exact ⟨z.toNat, by unfold wrap64; omega, by omega⟩
end Go.Proofs.Ytcpkngkeechjeaa.Mem
namespace Go.Proofs.Ytcpkngkeechjeaa.Past
set_option maxRecDepth 100000
open Go.RowKit
open Go.Proofs.Ytcpkngkeechjeaa.Mem
open Go.Proofs.Ytcpkngkeechjeaa.Ent (Ent goodB Ents EntAt SmallE noE entA cellsE)
def GreatRes (n : Nat) (w : World) (e : Ending) (w' : World) : Prop := ∃ G, e = .returned (.bool G) ∧ (G = false → n ≤ 80) ∧ w' = w
set_option maxRecDepth 100000 in
set_option maxHeartbeats 2000000 in
theorem great_any (a : Option Addr) (n c : Nat) (L : List Ent) (w : World) (h : Ents w a n L) :
    Calls Try.prog 9 #[.slice a n c] w (GreatRes n w) := by
  have HL := Lib.hid h
  clear h
  by_cases h2 : 80 < n
  · have e1 : decide ((n : Int) > 80) = true := decide_eq_true (by omega)
    go_enter Try.func9, Try.ntmps9
    go_wp2
    go_ret
    exact ⟨true, rfl, fun h => (by cases h), rfl⟩
  · have e1 : decide ((n : Int) > 80) = false := decide_eq_false (by omega)
    go_enter Try.func9, Try.ntmps9
    go_wp2
    go_loopw [3] (fun i wr => ∃ j : Nat, j ≤ n ∧ i = .int .i64 (j : Int) ∧ wr = w) (fun i _ => n - intN i)
    case atStart => exact ⟨0, Nat.zero_le _, rfl, rfl⟩
    case round =>
      obtain ⟨j, hj, rfl, rfl⟩ := hrel
      by_cases hlt2 : j < n
      · obtain ⟨z1, z2, z3⟩ := HL.out
        obtain ⟨b, off, rfl, hbw, hat⟩ := z3 (by omega)
        have hAt := hat j hlt2
        have hxk : L[j]? = some (L.getD j noE) := by simp [List.getD, show j < L.length by omega]
        have hsm : SmallE (L.getD j noE) := z2 _ (List.mem_of_getElem? hxk)
        clear z1 z2 z3 hat hxk
        generalize L.getD j noE = x at hAt hsm
        obtain ⟨s1, s2⟩ := hsm
        obtain ⟨_, _, _, _, _, _, _, _, _, c9, _, c11, _⟩ := hAt.cells
        by_cases hb1 : 1024 < x.wd.size
        · go_wp2
          go_ret
          exact ⟨true, rfl, fun h => (by cases h), rfl⟩
        · by_cases hb2 : 1024 < x.id.size
          · go_wp2
            go_ret
            exact ⟨true, rfl, fun h => (by cases h), rfl⟩
          · go_wp2
            go_roundw
            case rel => exact ⟨j + 1, by omega, by go_num, by first | rfl | trivial⟩
            case measure => simp [intN]; omega
      · obtain rfl : j = n := by omega
        go_wp2
        go_ret
        exact ⟨false, rfl, fun _ => by omega, rfl⟩
end Go.Proofs.Ytcpkngkeechjeaa.Past
namespace Go.Proofs.Ytcpkngkeechjeaa.Past
set_option maxRecDepth 100000
open Go.RowKit Go.Sort
open Go.Proofs.Ytcpkngkeechjeaa.Mem
open Go.Proofs.Ytcpkngkeechjeaa.Ent (Ent goodB Ents EntAt SmallE noE entA cellsE)
theorem sub_step {α : Type} [DecidableEq α] {w v : α} {W V : List α} (h : (v :: V).Sublist (w :: W)) : (w = v → V.Sublist W) ∧ (w ≠ v → (v :: V).Sublist W) := by
  constructor
  · intro _
    cases h with
    | cons _ h => exact List.sublist_of_cons_sublist h
    | cons_cons _ h => exact h
  · intro e
    cases h with
    | cons _ h => exact h
    | cons_cons _ h => exact absurd rfl e
/-- a view in a variable -/
structure VB (w : World) (u : Nat) (sl dn pg : Value) (V : Vw) : Prop where
  blk : Blk w u 37 #[sl, dn, pg]
  rows : ∃ B, Rows3 w B sl dn pg V
theorem VB.below {w w' : World} {u : Nat} {sl dn pg : Value} {V : Vw} (h : VB w u sl dn pg V) (hb : Below w.heap.size w w') : VB w' u sl dn pg V := by
  obtain ⟨B, hr⟩ := h.rows
  exact ⟨h.blk.below hb h.blk.lt, B, hr.below hb⟩
theorem VB.new {w : World} {B : Nat} {sl dn pg : Value} {V : Vw} (h : Rows3 w B sl dn pg V) : VB (w.alloc (.cells #[sl, dn, pg] 37)) w.heap.size sl dn pg V :=
  ⟨Blk.new w _ _, B, h.below (Ent.below_box _ _)⟩
theorem drewN_below (w : World) (q : Nat) : Below w.heap.size w (w.drewN q) := ⟨rfl, rfl, rfl, Nat.le_refl _, fun _ _ => rfl⟩
set_option maxRecDepth 100000 in
set_option maxHeartbeats 8000000 in
theorem needs_walk (a : Option Addr) (n c : Nat) (L : List Ent) (f0 : Int) (w : World) (h : Ents w a n L) (hc : n ≤ c) (_hf : -9223372036854775808 ≤ f0 ∧ f0 ≤ 9223372036854775807) :
    Calls Try.prog 5 #[.slice a n c, .int .i64 f0] w fun e w' => e = .returned (.bool true) ∧ Below w.heap.size w w' := by
  have HE := Lib.hid h
  have HG := Lib.hid (fun W (h : Ents W a n L) => great_any a n c L W h)
  have HL := Lib.hid h.1
  clear h
  obtain ⟨K, hKe, hK⟩ := cut_of f0 1000 (by omega) (by omega)
  go_enter Try.func5, Try.ntmps5
  go_wp2_with fail
  refine (awake_any _).mono ?_
  rintro e w1 ⟨rfl, b1⟩
  have HB1 := Lib.hid b1
  clear b1
  go_wp2_with fail
  refine (HG.out _ (HE.out.next HB1.out)).mono ?_
  rintro e w2 ⟨G, rfl, hG, rfl⟩
  clear HG
  cases G with
  | true =>
    go_wp2
    go_ret
    exact ⟨rfl, HB1.out⟩
  | false =>
    have hn80 := hG rfl
    clear hG
    have HE1 := Lib.hid (HE.out.next HB1.out)
    obtain ⟨fi, hfi⟩ : ∃ fi : Int, 1 + (K : Int) = fi := ⟨_, rfl⟩
    have hf1 : 1 ≤ fi := by omega
    have hf2 : fi ≤ 1000 := by omega
    have HFI := Lib.hid hfi
    have hw1 : IntKind.i64.wrap (1 + (K : Int)) = 1 + (K : Int) := by rw [IntKind.wrap_i64]; omega
    have hok : okFirst fi = true := by unfold okFirst; simp; omega
    have HNE := Lib.hid (needed_any a n c L fi w2 HE1.out (by omega))
    rw [needV_is, hok, if_pos rfl] at HNE
    have HRD : Hid (∀ W, Below w2.heap.size w2 W → Calls Try.prog 13 #[.slice a n c, .int .i64 fi] W (ViewRes (readN L fi L.length) W)) := Lib.hid fun W hb => by
      have := read_any a n c L fi W (HE1.out.next hb) (by omega)
      unfold readV at this
      rw [hok, if_pos rfl] at this
      exact this
    clear HE hok
    cases hni : needI L with
    | none =>
      rw [hni] at HNE
      have HLS := Lib.hid (need_none (first := fi) hni)
      have hz : needO fi none = 0 := rfl
      rw [hz] at HNE
      clear hni hz
      go_upto_region 6 with (fail)
      clear hfi
      go_wp2_with fail
      refine HNE.out.mono ?_
      rintro e w3 ⟨rfl, b3⟩
      have HB3 := Lib.hid b3
      clear b3 HNE
      go_wp2_with fail
      refine (HRD.out _ HB3.out).mono ?_
      rintro e w4 ⟨sl, dn, pg, rfl, hr, b4⟩
      have HB4 := Lib.hid (below_go (below_go HB1.out HB3.out) b4)
      have hlo := hr.lo
      rw [HLS.out] at hlo
      obtain ⟨sa, sc, rfl⟩ := own_shape hlo
      obtain ⟨da, dc, rfl⟩ := own_shape hr.tx
      obtain ⟨pa, pc, rfl⟩ := own_shape hr.fi
      have HB5 := Lib.hid (below_go HB4.out (Ent.below_box w4 (.cells #[.slice sa 0 sc, .slice da (readN L fi L.length).dn.length dc, .slice pa (readN L fi L.length).pg.length pc] 37)))
      clear hlo hr b4 HRD HLS
      go_wp2
      go_ret
      exact ⟨rfl, HB5.out⟩
    | some i =>
      rw [hni] at HNE
      obtain ⟨hil, hne⟩ := need_some (first := fi) hni
      have HSUB := Lib.hid (fun f2 => needs_sub (first := fi) (first2 := f2) hni)
      have hz : needO fi (some i) = fi + (i : Int) := rfl
      rw [hz] at HNE
      rw [HL.out] at hil
      have HNEL := Lib.hid hne
      clear hni hz hne
      go_upto_region 6 with (fail)
      clear hfi
      go_wp2_with fail
      refine HNE.out.mono ?_
      rintro e w3 ⟨rfl, b3⟩
      have HB3 := Lib.hid b3
      clear b3 HNE
      go_wp2_with fail
      refine (HRD.out _ HB3.out).mono ?_
      rintro e w4 ⟨sl, dn, pg, rfl, hr, b4⟩
      have HB34 := Lib.hid (below_go HB3.out b4)
      have HB4 := Lib.hid (below_go HB1.out HB34.out)
      have hvl : (readN L fi L.length).los.length ≤ 80 := by have := (read_len L fi L.length).1; have := HL.out; omega
      generalize readN L fi L.length = V at hr HNEL HSUB hvl
      obtain ⟨sa, sc, rfl⟩ := own_shape hr.lo
      obtain ⟨da, dc, rfl⟩ := own_shape hr.tx
      obtain ⟨pa, pc, rfl⟩ := own_shape hr.fi
      have hvb := VB.new hr
      have hbx := Ent.below_box w4 (.cells #[.slice sa V.los.length sc, .slice da V.dn.length dc, .slice pa V.pg.length pc] 37)
      have HB5 := Lib.hid (below_go HB4.out hbx)
      have HB25 := Lib.hid (below_go HB34.out hbx)
      have HVB := Lib.hid hvb
      have hn0 : (fi + (i : Int) == 0) = false := by simp; omega
      have hd1 : decide (fi + (i : Int) < fi) = false := decide_eq_false (by omega)
      have hw2 : IntKind.i64.wrap (fi + (i : Int) - fi) = (i : Int) := by rw [IntKind.wrap_i64]; omega
      have hd2 : decide ((i : Int) ≥ (n : Int)) = false := decide_eq_false (by omega)
      have htl := fun W => Patch.run_tail a n c i (by omega) W
      clear hr hvb hbx b4 HRD
      go_upto_region 8 with (fail)
      generalize w4.alloc (.cells #[.slice sa V.los.length sc, .slice da V.dn.length dc, .slice pa V.pg.length pc] 37) = w5 at HB5 HB25 HVB ⊢
      generalize w4.heap.size = u1 at HVB ⊢
      have HRD2 : Hid (Calls Try.prog 13 #[.slice (Patch.tailA a c i) (n - i) (c - i), .int .i64 (fi + (i : Int))] w5 (ViewRes (readN (L.drop i) (fi + (i : Int)) (L.drop i).length) w5)) := by
        have := read_any (Patch.tailA a c i) (n - i) (c - i) (L.drop i) (fi + (i : Int)) w5 (Patch.ents_tail (HE1.out.next HB25.out) (by omega) hc) (by omega)
        unfold readV at this
        rw [show okFirst (fi + (i : Int)) = true from by unfold okFirst; simp; omega, if_pos rfl] at this
        exact Lib.hid this
      go_wp2_with fail
      refine HRD2.out.mono ?_
      rintro e w6 ⟨sl2, dn2, pg2, rfl, hr, b6⟩
      have HS := Lib.hid (HSUB.out (fi + (i : Int)))
      have HV6 := Lib.hid (HVB.out.below b6)
      have HB6 := Lib.hid (below_go HB5.out b6)
      have hul : (readN (L.drop i) (fi + (i : Int)) (L.drop i).length).los.length ≤ 80 := by have := (read_len (L.drop i) (fi + (i : Int)) (L.drop i).length).1; rw [List.length_drop] at this ⊢; have := HL.out; omega
      generalize readN (L.drop i) (fi + (i : Int)) (L.drop i).length = U at hr HS hul
      obtain ⟨sa2, sc2, rfl⟩ := own_shape hr.lo
      obtain ⟨da2, dc2, rfl⟩ := own_shape hr.tx
      obtain ⟨pa2, pc2, rfl⟩ := own_shape hr.fi
      have hbx := Ent.below_box w6 (.cells #[.slice sa2 U.los.length sc2, .slice da2 U.dn.length dc2, .slice pa2 U.pg.length pc2] 37)
      have HU := Lib.hid (VB.new hr)
      have HV7 := Lib.hid (HV6.out.below hbx)
      have HB7 := Lib.hid (below_go HB6.out hbx)
      clear hr b6 hbx HRD2 HVB HV6 HSUB htl hw2 hd1 hd2 hn0
      go_upto_region 13 with (fail)
      generalize w6.alloc (.cells #[.slice sa2 U.los.length sc2, .slice da2 U.dn.length dc2, .slice pa2 U.pg.length pc2] 37) = w7 at HU HV7 HB7 ⊢
      generalize w6.heap.size = u2 at HU ⊢
      have hlen := HS.out.length_le
      have hpos : 0 < V.los.length := by
        have := HNEL.out
        cases e : V.los with
        | nil => exact absurd e this
        | cons _ _ => simp
      have v0 := HV7.out.blk.cell 0
      have z0 := HU.out.blk.cell 0
      have e1 : ((V.los.length : Int) == 0) = false := beq_eq_false_iff_ne.2 (by omega)
      have e2 : decide ((U.los.length : Int) < (V.los.length : Int)) = false := decide_eq_false (by omega)
      clear HB5 HB25 HE1 HB1 HB3 HB34 HB4 HNEL
      go_wp2
      go_loopw [8, 9] (fun kv iv wr => ∃ (k j q : Nat), k ≤ V.los.length ∧ j ≤ U.los.length ∧ kv = .int .i64 (k : Int) ∧ iv = .int .i64 (j : Int) ∧ wr = w7.drewN q ∧ Hid ((V.los.drop k).Sublist (U.los.drop j))) (fun _ iv _ => U.los.length - intN iv)
      case atStart => exact ⟨0, 0, 0, Nat.zero_le _, Nat.zero_le _, rfl, rfl, rfl, Lib.hid (by simpa using HS.out)⟩
      case round =>
        obtain ⟨k, j, q, hk, hj, rfl, rfl, rfl, HSJ⟩ := hrel
        have v0 : (w7.drewN q).cell? ⟨u1, 0, none⟩ = some (.slice sa V.los.length sc) := v0
        have z0 : (w7.drewN q).cell? ⟨u2, 0, none⟩ = some (.slice sa2 U.los.length sc2) := z0
        by_cases hjl : j < U.los.length
        · have f1 : decide ((j : Int) < (U.los.length : Int)) = true := decide_eq_true (by omega)
          by_cases hkl : k < V.los.length
          · have f2 : decide ((k : Int) < (V.los.length : Int)) = true := decide_eq_true (by omega)
            have hy : U.los[j]? = some (U.los[j]'hjl) := List.getElem?_eq_getElem hjl
            have hv : V.los[k]? = some (V.los[k]'hkl) := List.getElem?_eq_getElem hkl
            have hdy : U.los.drop j = U.los[j]'hjl :: U.los.drop (j + 1) := List.drop_eq_getElem_cons hjl
            have hdv : V.los.drop k = V.los[k]'hkl :: V.los.drop (k + 1) := List.drop_eq_getElem_cons hkl
            generalize U.los[j]'hjl = y at hy hdy
            generalize V.los[k]'hkl = v at hv hdv
            have hst := HSJ.out
            rw [hdy, hdv] at hst
            have HST := Lib.hid (sub_step hst)
            have HDV := Lib.hid hdv
            obtain ⟨BU, hru⟩ := HU.out.rows
            obtain ⟨BV, hrv⟩ := HV7.out.rows
            obtain ⟨g2, cc2, eU, hg2, -, y0, y1, y2, y3⟩ := hru.loser hy
            obtain ⟨g1, cc1, eV, hg1, -, x0, x1, x2, x3⟩ := hrv.loser hv
            injection eU with eU1 eU2 eU3
            injection eV with eV1 eV2 eV3
            subst eU1 eU3 eV1 eV3
            have y0 : (w7.drewN q).cell? ⟨g2, j * 4, none⟩ = some (.int .i64 y.1.cl) := y0
            have y1 : (w7.drewN q).cell? ⟨g2, j * 4 + 1, none⟩ = some (.int .i64 y.1.ep) := y1
            have y2 : (w7.drewN q).cell? ⟨g2, j * 4 + 2, none⟩ = some (.int .i64 y.1.n) := y2
            have y3 : (w7.drewN q).cell? ⟨g2, j * 4 + 3, none⟩ = some (.int .i64 y.2) := y3
            have x0 : (w7.drewN q).cell? ⟨g1, k * 4, none⟩ = some (.int .i64 v.1.cl) := x0
            have x1 : (w7.drewN q).cell? ⟨g1, k * 4 + 1, none⟩ = some (.int .i64 v.1.ep) := x1
            have x2 : (w7.drewN q).cell? ⟨g1, k * 4 + 2, none⟩ = some (.int .i64 v.1.n) := x2
            have x3 : (w7.drewN q).cell? ⟨g1, k * 4 + 3, none⟩ = some (.int .i64 v.2) := x3
            have hq := fun W => run_eq_lo y v W
            have hgd := fun (A B : Operand) xs ys W => run_guard_lo .eql A B xs ys W
            obtain ⟨sb, hsb⟩ : ∃ sb, sameLo y v = sb := ⟨_, rfl⟩
            rw [hsb] at hq
            have HSB := Lib.hid (show sb = decide (y = v) by rw [← hsb]; exact sameLo_eq y v)
            clear hsb hru hrv hy hv hst hdy hdv eU2 eV2 HSJ
            cases sb with
            | true =>
              have HN := Lib.hid (show (V.los.drop (k + 1)).Sublist (U.los.drop (j + 1)) from HST.out.1 (by have := HSB.out; simpa using this))
              clear HST HDV HSB
              go_upto_region 19 with (fail)
              go_quiet (fail)
              rw [World.drewN_drewN]
              go_wp2
              go_roundw
              case rel => exact ⟨k + 1, j + 1, q + nq, by omega, by omega, by go_num, by go_num, by first | rfl | trivial, HN⟩
              case measure => simp [intN]; omega
            | false =>
              have HN := Lib.hid (show (V.los.drop k).Sublist (U.los.drop (j + 1)) by rw [HDV.out]; exact HST.out.2 (by have := HSB.out; simpa using this))
              clear HST HDV HSB
              go_upto_region 19 with (fail)
              go_quiet (fail)
              rw [World.drewN_drewN]
              go_wp2
              go_roundw
              case rel => exact ⟨k, j + 1, q + nq, by omega, by omega, by first | rfl | go_num, by go_num, by first | rfl | trivial, HN⟩
              case measure => simp [intN]; omega
          · obtain rfl : k = V.los.length := by omega
            have f2 : decide ((V.los.length : Int) < (V.los.length : Int)) = false := decide_eq_false (by omega)
            have e9 : ((V.los.length : Int) == (V.los.length : Int)) = true := by simp
            have HF := Lib.hid (below_go HB7.out (drewN_below w7 q))
            clear HSJ HS
            go_wp2
            go_ret
            exact ⟨rfl, HF.out⟩
        · obtain rfl : j = U.los.length := by omega
          have f1 : decide ((U.los.length : Int) < (U.los.length : Int)) = false := decide_eq_false (by omega)
          have hkk : k = V.los.length := by
            have h1 := HSJ.out
            rw [List.drop_length] at h1
            have h2 := List.eq_nil_of_sublist_nil h1
            rw [List.drop_eq_nil_iff] at h2
            omega
          subst hkk
          have e9 : ((V.los.length : Int) == (V.los.length : Int)) = true := by simp
          have HF := Lib.hid (below_go HB7.out (drewN_below w7 q))
          clear HSJ HS
          go_wp2
          go_ret
          exact ⟨rfl, HF.out⟩
end Go.Proofs.Ytcpkngkeechjeaa.Past
namespace Go.Proofs.Ytcpkngkeechjeaa.Mem
set_option maxRecDepth 100000
open Go.RowKit Go.ChangeShapes Go.WideShapes Go.Deep

/-- zs, a row of integers in memory -/
def Ints (w : World) (a : Option Addr) (n : Nat) (zs : List Int) : Prop :=
  zs.length = n ∧ (∀ z ∈ zs, -9223372036854775808 ≤ z ∧ z ≤ 9223372036854775807) ∧ (0 < n → ∃ b off, a = some ⟨b, off, none⟩ ∧ b < w.heap.size ∧ ∀ i, i < n → w.cell? ⟨b, off + i, none⟩ = some (.int .i64 (zs.getD i 0)))
section
variable {w w' : World} {a : Option Addr} {n : Nat} {zs : List Int}
theorem Ints.nil (w : World) (a : Option Addr) : Ints w a 0 [] := ⟨rfl, by simp, fun h => absurd h (Nat.lt_irrefl 0)⟩
theorem Ints.below (h : Ints w a n zs) (hb : Below w.heap.size w w') : Ints w' a n zs := by
  obtain ⟨h1, h2, h3⟩ := h
  refine ⟨h1, h2, fun hn => ?_⟩
  obtain ⟨b, off, ha, hlt, hc⟩ := h3 hn
  exact ⟨b, off, ha, Nat.lt_of_lt_of_le hlt hb.size, fun i hi => (hb.cell (p := ⟨b, off + i, none⟩) hlt).trans (hc i hi)⟩
theorem Ints.drewN (h : Ints w a n zs) (q : Nat) : Ints (w.drewN q) a n zs := h
theorem Ints.at_ (h : Ints w a n zs) {k : Nat} (hk : k < n) : ∃ b off z, a = some ⟨b, off, none⟩ ∧ b < w.heap.size ∧ zs.getD k 0 = z ∧ w.cell? ⟨b, off + k, none⟩ = some (.int .i64 z) ∧ -9223372036854775808 ≤ z ∧ z ≤ 9223372036854775807 := by
  obtain ⟨h1, h2, h3⟩ := h
  obtain ⟨b, off, ha, hlt, hc⟩ := h3 (by omega)
  have hl : k < zs.length := by omega
  have e : zs.getD k 0 = zs[k] := by simp [List.getD, hl]
  have := h2 (zs.getD k 0) (by rw [e]; exact List.getElem_mem hl)
  exact ⟨b, off, _, ha, hlt, rfl, hc k hk, this.1, this.2⟩
theorem fits_i64 {a : Int} (h : (Lit.int .i64 a).wf = true) : -9223372036854775808 ≤ a ∧ a ≤ 9223372036854775807 := by
  unfold Lit.wf at h; simp [IntKind.min, IntKind.max, IntKind.signed, IntKind.bits] at h; omega
theorem byte_of {a : Int} (h : (Lit.int .u8 a).wf = true) : ∃ b : UInt8, a = (b.toNat : Int) := by
  have : 0 ≤ a ∧ a ≤ 255 := by unfold Lit.wf at h; simp [IntKind.min, IntKind.max, IntKind.signed, IntKind.bits] at h; omega
  exact ⟨UInt8.ofNat a.toNat, by simp; omega⟩
variable {H : Type} {enc : TypeId × Value → H} {base : Nat} {spare : Nat → Bool} {held : Bool}
theorem open_introw {r : Reach} {b0 : Nat} {v : Value} {d : DataW H} {p : List MemPlace} (hv : Value.okWide Try.prog w r b0 65 v) (h : DataW.Trod enc Try.prog w base spare held 65 v d p) :
    ∃ a n c zs, v = .slice a n c ∧ Ints w a n zs ∧ n ≤ maxLen := by
  obtain ⟨a0, len0, cap0, rfl⟩ := okWide_slice Try.underlying65 hv
  obtain ⟨fuel, hf⟩ := h
  rcases open_ints Try.underlying65 Try.underlying3 (by kernel_rfl) hf with ⟨hcs, _⟩ | ⟨x, l, c, zs, hcs, _, hl, hm, hz, _, hcell, hwz⟩
  · simp [Value.cells] at hcs
    obtain ⟨rfl, rfl, rfl⟩ := hcs
    exact ⟨none, 0, 0, [], rfl, Ints.nil _ _, Nat.zero_le _⟩
  · simp [Value.cells] at hcs
    obtain ⟨rfl, rfl, rfl⟩ := hcs
    have hzl : len0 ≤ zs.length := by rw [hz]; split <;> omega
    refine ⟨some x, len0, cap0, zs.take len0, rfl, ⟨by rw [List.length_take]; omega, fun z hz => fits_i64 (hwz z (List.mem_of_mem_take hz)), fun hn => ?_⟩, by omega⟩
    obtain ⟨b, off, spot⟩ := x
    have h0 := hcell 0 (by omega)
    have hspot : spot = none := by
      have := World.cell?_spot h0
      simpa [Addr.add] using this
    subst hspot
    have ea : ∀ j, (Addr.mk b off none).add j = ⟨b, off + j, none⟩ := fun j => by unfold Addr.add; split <;> simp_all
    refine ⟨b, off, rfl, ?_, fun i hi => ?_⟩
    · have := World.block_lt_of_cell? w _ h0
      simpa [Addr.add] using this
    · have := hcell i (by omega)
      rw [ea] at this
      rw [this]
      congr 2
      simp [List.getD, hi]
end
end Go.Proofs.Ytcpkngkeechjeaa.Mem
namespace Go.Proofs.Ytcpkngkeechjeaa.PTx
set_option maxRecDepth 100000
open Go.RowKit Go.Joins Go.ChangeShapes Go.WideShapes Go.Deep
open Go.Proofs.Ytcpkngkeechjeaa.Mem
structure Tn where
  cl : Int
  ep : Int
  n : Int
def noTn : Tn := ⟨0, 0, 0⟩
instance : Inhabited Tn := ⟨noTn⟩
def TnGood (x : Tn) : Prop := -9223372036854775808 ≤ x.cl ∧ x.cl ≤ 9223372036854775807 ∧ -9223372036854775808 ≤ x.ep ∧ x.ep ≤ 9223372036854775807 ∧ -9223372036854775808 ≤ x.n ∧ x.n ≤ 9223372036854775807
/-- the cells of the i-th -/
def TnAt (w : World) (b off i : Nat) (x : Tn) : Prop := w.cell? ⟨b, off + i * 3, none⟩ = some (.int .i64 x.cl) ∧ w.cell? ⟨b, off + i * 3 + 1, none⟩ = some (.int .i64 x.ep) ∧ w.cell? ⟨b, off + i * 3 + 1 + 1, none⟩ = some (.int .i64 x.n)
def Tns (w : World) (a : Option Addr) (n : Nat) (xs : List Tn) : Prop :=
  xs.length = n ∧ (∀ x ∈ xs, TnGood x) ∧ (0 < n → ∃ b off, a = some ⟨b, off, none⟩ ∧ b < w.heap.size ∧ ∀ i, i < n → TnAt w b off i (xs.getD i noTn))
theorem Tns.below {w w' : World} {a : Option Addr} {n : Nat} {xs : List Tn} (h : Tns w a n xs) (hb : Below w.heap.size w w') : Tns w' a n xs := by
  obtain ⟨h1, h2, h3⟩ := h
  refine ⟨h1, h2, fun hn => ?_⟩
  obtain ⟨b, off, ha, hlt, hc⟩ := h3 hn
  refine ⟨b, off, ha, Nat.lt_of_lt_of_le hlt hb.size, fun i hi => ?_⟩
  obtain ⟨c0, c1, c2⟩ := hc i hi
  exact ⟨(hb.cell (p := ⟨b, off + i * 3, none⟩) hlt).trans c0, (hb.cell (p := ⟨b, off + i * 3 + 1, none⟩) hlt).trans c1, (hb.cell (p := ⟨b, off + i * 3 + 1 + 1, none⟩) hlt).trans c2⟩
theorem Tns.at_ {w : World} {a : Option Addr} {n k : Nat} {xs : List Tn} (h : Tns w a n xs) (hk : k < n) :
    ∃ b off x, a = some ⟨b, off, none⟩ ∧ b < w.heap.size ∧ xs.getD k noTn = x ∧ TnAt w b off k x ∧ TnGood x := by
  obtain ⟨h1, h2, h3⟩ := h
  obtain ⟨b, off, ha, hlt, hc⟩ := h3 (by omega)
  have hl : k < xs.length := by omega
  have e : xs.getD k noTn = xs[k] := by simp [List.getD, hl]
  exact ⟨b, off, _, ha, hlt, rfl, hc k hk, by rw [e]; exact h2 _ (List.getElem_mem hl)⟩
section
variable {H : Type} {enc : TypeId × Value → H} {w : World} {base : Nat} {spare : Nat → Bool} {held : Bool}
theorem weights_all_in {P : Program} {e : TypeId} {d : DataW H} : ∀ {ds : List (DataW H)}, d ∈ ds → ∀ n ∈ d.weights P e, n ∈ DataW.weightsAll P e ds
  | x :: r, h, n, hn => by
    simp only [DataW.weightsAll, List.mem_append]
    rcases List.mem_cons.1 h with rfl | h
    · exact .inl hn
    · exact .inr (weights_all_in h n hn)
theorem open_tn_cells {fuel : Nat} {cs : List Value} {x : DataW H × List MemPlace} (h : DataW.trod enc Try.prog w base spare held fuel 24 cs = some x) (_hw : ∀ n ∈ x.1.weights Try.prog 24, n ≤ reachBytes) :
    ∃ y : Tn, cs = [.int .i64 y.cl, .int .i64 y.ep, .int .i64 y.n] ∧ TnGood y := by
  obtain ⟨xs, n, _, _, hcl, hxl, hf⟩ := DataW.trod_struct Try.underlying24 h
  have hl : cs.length = 3 := hcl.trans (by kernel_rfl)
  obtain ⟨c0, c1, c2, rfl⟩ : ∃ c0 c1 c2, cs = [c0, c1, c2] := by
    rcases cs with _ | ⟨c0, _ | ⟨c1, _ | ⟨c2, _ | ⟨c3, r⟩⟩⟩⟩ <;> simp at hl
    exact ⟨c0, c1, c2, rfl⟩
  have h0 := hf 0 _ rfl
  have h1 := hf 1 _ rfl
  have h2 := hf 2 _ rfl
  have k0 : Try.prog.cellsOf 3 = 1 := by kernel_rfl
  have k1 : Try.prog.cellsOf 3 = 1 := by kernel_rfl
  have k2 : Try.prog.cellsOf 3 = 1 := by kernel_rfl
  simp only [List.getElem_toArray, List.getElem_cons_zero, List.getElem_cons_succ, k0, List.drop_zero, List.take_succ_cons, List.take_zero, List.drop_succ_cons] at h0 h1 h2
  have hlen : xs.length = 3 := hxl
  obtain ⟨y0, y1, y2, rfl⟩ : ∃ y0 y1 y2, xs = [y0, y1, y2] := by
    rcases xs with _ | ⟨y0, _ | ⟨y1, _ | ⟨y2, _ | ⟨y3, r⟩⟩⟩⟩ <;> simp at hlen
    exact ⟨y0, y1, y2, rfl⟩
  obtain ⟨z0, e0, _, w0⟩ := DataW.trod_int Try.underlying3 h0
  obtain ⟨z1, e1, _, w1⟩ := DataW.trod_int Try.underlying3 h1
  obtain ⟨z2, e2, _, w2⟩ := DataW.trod_int Try.underlying3 h2
  simp only [List.cons.injEq, and_true] at e0 e1 e2
  subst e0 e1 e2
  have g0 := fits_i64 w0
  have g1 := fits_i64 w1
  have g2 := fits_i64 w2
  exact ⟨⟨z0, z1, z2⟩, rfl, ⟨g0.1, g0.2, g1.1, g1.2, g2.1, g2.2⟩⟩
theorem open_tns_cells {fuel : Nat} {cs : List Value} {x : DataW H × List MemPlace} (h : DataW.trod enc Try.prog w base spare held fuel 34 cs = some x) (hw : ∀ n ∈ x.1.weights Try.prog 34, n ≤ reachBytes) :
    ∃ a n c ps, cs = [.slice a n c] ∧ Tns w a n ps := by
  rcases open_slice Try.underlying34 h with ⟨rfl, _⟩ | ⟨a, len, cap, m, n, D, Pl, hcs, hb, hl, hm, hmm, hx, hi⟩
  · exact ⟨none, 0, 0, [], rfl, rfl, by simp, fun h => absurd h (Nat.lt_irrefl 0)⟩
  · have hml : len ≤ m := by rw [hmm]; split <;> omega
    have hone : ∀ i, i < len → ∃ y : Tn, w.cells? base (a.add (i * 3)) 3 = some [.int .i64 y.cl, .int .i64 y.ep, .int .i64 y.n] ∧ TnGood y := by
      intro i hil
      obtain ⟨cs', hc, ht⟩ := hi i (by omega)
      have k2 : Try.prog.cellsOf 24 = 3 := by kernel_rfl
      rw [k2] at hc
      obtain ⟨s, rfl, hs⟩ := open_tn_cells ht (fun n hn => hw n (by
        rw [hx]
        simp only [DataW.weights, Try.underlying34]
        refine List.mem_cons_of_mem _ (List.mem_append.2 (.inl (weights_all_in (d := D i) ?_ n hn)))
        exact List.mem_map.2 ⟨i, List.mem_range.2 hil, rfl⟩))
      exact ⟨s, hc, hs⟩
    obtain ⟨f, hf⟩ := choose_lt hone
    refine ⟨some a, len, cap, (List.range len).map f, hcs, by simp, ?_, fun hn => ?_⟩
    · intro y hy
      obtain ⟨i, hir, rfl⟩ := List.mem_map.1 hy
      exact (hf i (List.mem_range.1 hir)).2
    · obtain ⟨b, off, spot⟩ := a
      have hcell : ∀ i, i < len → w.cell? ((Addr.mk b off spot).add (i * 3)) = some (.int .i64 (f i).cl) ∧ w.cell? ((Addr.mk b off spot).add (i * 3 + 1)) = some (.int .i64 (f i).ep) ∧ w.cell? ((Addr.mk b off spot).add (i * 3 + 2)) = some (.int .i64 (f i).n) := by
        intro i hil
        obtain ⟨_, _, hat⟩ := World.cells?_some (hf i hil).1
        have h0 := hat 0 (by simp)
        have h1 := hat 1 (by simp)
        have h2 := hat 2 (by simp)
        rw [add_add] at h0 h1 h2
        exact ⟨by simpa using h0, by simpa using h1, by simpa using h2⟩
      have hc0 := (hcell 0 hn).1
      have hspot : spot = none := by
        have := World.cell?_spot hc0
        simpa [Addr.add] using this
      subst hspot
      refine ⟨b, off, rfl, ?_, fun i hil => ?_⟩
      · have := World.block_lt_of_cell? w _ hc0
        simpa [Addr.add] using this
      · have e : ((List.range len).map f).getD i noTn = f i := by simp [List.getD, hil]
        rw [e]
        have ea : ∀ j, (Addr.mk b off none).add j = ⟨b, off + j, none⟩ := fun j => by unfold Addr.add; split <;> simp_all
        have := hcell i hil
        rw [ea, ea, ea] at this
        exact this
theorem open_tns {r : Reach} {b0 : Nat} {v : Value} {d : DataW H} {p : List MemPlace} (hv : Value.okWide Try.prog w r b0 34 v) (h : DataW.Trod enc Try.prog w base spare held 34 v d p) (hw : ∀ n ∈ d.weights Try.prog 34, n ≤ reachBytes) :
    ∃ a n c ps, v = .slice a n c ∧ Tns w a n ps := by
  obtain ⟨fuel, hf⟩ := h
  obtain ⟨a, len, cap, rfl⟩ := okWide_slice Try.underlying34 hv
  obtain ⟨a', n, c, ps, e, hp⟩ := open_tns_cells (x := (d, p)) (by simpa [Value.cells] using hf) hw
  simp at e
  obtain ⟨rfl, rfl, rfl⟩ := e
  exact ⟨_, _, _, ps, rfl, hp⟩
end
end Go.Proofs.Ytcpkngkeechjeaa.PTx
namespace Go.Proofs.Ytcpkngkeechjeaa.Past
set_option maxRecDepth 100000
open Go.ChangeShapes Go.WideShapes
theorem open_name {H : Type} {enc : TypeId × Value → H} {w : World} {base : Nat} {spare : Nat → Bool} {held : Bool} {r : Reach} {b0 : Nat} {v : Value} {d : DataW H} {p : List MemPlace} (hv : Value.okWide Try.prog w r b0 24 v) (h : DataW.Trod enc Try.prog w base spare held 24 v d p) (hw : ∀ n ∈ d.weights Try.prog 24, n ≤ reachBytes) :
    ∃ x : T3, v = .agg #[.int .i64 x.cl, .int .i64 x.ep, .int .i64 x.n] ∧ SmT x := by
  obtain ⟨fuel, hf⟩ := h
  obtain ⟨cs, rfl, _⟩ := okWide_struct Try.underlying24 hv
  obtain ⟨e, he, hs⟩ := PTx.open_tn_cells (x := (d, p)) (by simpa [Value.cells] using hf) hw
  refine ⟨⟨e.cl, e.ep, e.n⟩, ?_, ?_⟩
  · have : cs = #[.int .i64 e.cl, .int .i64 e.ep, .int .i64 e.n] := Array.toList_inj.1 he
    rw [this]
  · obtain ⟨s1, s2, s3, s4, s5, s6⟩ := hs
    exact ⟨smI_of ⟨s1, s2⟩, smI_of ⟨s3, s4⟩, smI_of ⟨s5, s6⟩⟩
end Go.Proofs.Ytcpkngkeechjeaa.Past
namespace Go.Proofs.Ytcpkngkeechjeaa.Past
set_option maxRecDepth 100000
open Go.RowKit Go.Sort
open Go.Proofs.Ytcpkngkeechjeaa.Mem
set_option maxRecDepth 100000 in
set_option maxHeartbeats 16000000 in
theorem same_any (s1 d1 p1 s2 d2 p2 : Value) (V : Vw) (B1 B2 : Nat) (w : World) (h1 : Rows3 w B1 s1 d1 p1 V) (h2 : Rows3 w B2 s2 d2 p2 V) (hl : V.los.length ≤ 1000000 ∧ V.dn.length ≤ 1000000 ∧ V.pg.length ≤ 1000000) :
    Calls Try.prog 12 #[.agg #[s1, d1, p1], .agg #[s2, d2, p2]] w fun e w' => e = .returned (.bool true) ∧ Below w.heap.size w w' := by
  obtain ⟨hl1, hl2, hl3⟩ := hl
  obtain ⟨sa1, sc1, rfl⟩ := own_shape h1.lo
  obtain ⟨da1, dc1, rfl⟩ := own_shape h1.tx
  obtain ⟨pa1, pc1, rfl⟩ := own_shape h1.fi
  obtain ⟨sa2, sc2, rfl⟩ := own_shape h2.lo
  obtain ⟨da2, dc2, rfl⟩ := own_shape h2.tx
  obtain ⟨pa2, pc2, rfl⟩ := own_shape h2.fi
  have hbx := Ent.below_box w (.cells #[.slice sa1 V.los.length sc1, .slice da1 V.dn.length dc1, .slice pa1 V.pg.length pc1] 37)
  have hA := VB.new h1
  have hB := VB.new (h2.below hbx)
  have hs : (w.alloc (.cells #[.slice sa1 V.los.length sc1, .slice da1 V.dn.length dc1, .slice pa1 V.pg.length pc1] 37)).heap.size = w.heap.size + 1 := by simp
  have hby := Ent.below_box (w.alloc (.cells #[.slice sa1 V.los.length sc1, .slice da1 V.dn.length dc1, .slice pa1 V.pg.length pc1] 37)) (.cells #[.slice sa2 V.los.length sc2, .slice da2 V.dn.length dc2, .slice pa2 V.pg.length pc2] 37)
  have HA := Lib.hid (hA.below hby)
  have HB := Lib.hid hB
  have HBB := Lib.hid (below_go hbx hby)
  rw [hs] at HB
  clear h1 h2 hbx hA hB hby hs
  go_enter Try.func12, Try.ntmps12
  go_upto_region 1 with (fail)
  generalize (w.alloc (.cells #[.slice sa1 V.los.length sc1, .slice da1 V.dn.length dc1, .slice pa1 V.pg.length pc1] 37)).alloc (.cells #[.slice sa2 V.los.length sc2, .slice da2 V.dn.length dc2, .slice pa2 V.pg.length pc2] 37) = w4 at HA HB HBB ⊢
  have HSZ := Lib.hid (show w.heap.size ≤ w4.heap.size from HBB.out.size)
  obtain ⟨u1, hu1⟩ : ∃ u1, w.heap.size = u1 := ⟨_, rfl⟩
  have HU := Lib.hid hu1
  rw [hu1] at HA HB
  try rw [hu1]
  clear hu1
  obtain ⟨u2, hu2⟩ : ∃ u2, u1 + 1 = u2 := ⟨_, rfl⟩
  rw [hu2] at HB ⊢
  clear hu2
  have a0 := HA.out.blk.cell 0
  have a1 := HA.out.blk.cell 1
  have a2 := HA.out.blk.cell 2
  have b0 := HB.out.blk.cell 0
  have b1 := HB.out.blk.cell 1
  have b2 := HB.out.blk.cell 2
  have e1 : ((V.los.length : Int) != (V.los.length : Int)) = false := by simp
  have e2 : ((V.dn.length : Int) != (V.dn.length : Int)) = false := by simp
  have e3 : ((V.pg.length : Int) != (V.pg.length : Int)) = false := by simp
  go_wp2
  go_loopw [5] (fun iv wr => ∃ (j q : Nat), j ≤ V.los.length ∧ iv = .int .i64 (j : Int) ∧ wr = w4.drewN q) (fun iv _ => V.los.length - intN iv)
  case atStart => exact ⟨0, 0, Nat.zero_le _, rfl, rfl⟩
  case round =>
    obtain ⟨j, q, hj, rfl, rfl⟩ := hrel
    have a0 : (w4.drewN q).cell? ⟨u1, 0, none⟩ = some (.slice sa1 V.los.length sc1) := HA.out.blk.cell 0
    have b0 : (w4.drewN q).cell? ⟨u2, 0, none⟩ = some (.slice sa2 V.los.length sc2) := HB.out.blk.cell 0
    by_cases hjl : j < V.los.length
    · as_aux_lemma =>
        have hy : V.los[j]? = some (V.los[j]'hjl) := List.getElem?_eq_getElem hjl
        generalize V.los[j]'hjl = y at hy
        obtain ⟨B1, hr1⟩ := HA.out.rows
        obtain ⟨B2, hr2⟩ := HB.out.rows
        obtain ⟨g1, c1, eU, -, -, y0, y1, y2, y3⟩ := hr1.loser hy
        obtain ⟨g2, c2, eV, -, -, z0, z1, z2, z3⟩ := hr2.loser hy
        injection eU with eU1 eU2 eU3
        injection eV with eV1 eV2 eV3
        subst eU1 eU3 eV1 eV3
        have y0 : (w4.drewN q).cell? ⟨g1, j * 4, none⟩ = some (.int .i64 y.1.cl) := y0
        have y1 : (w4.drewN q).cell? ⟨g1, j * 4 + 1, none⟩ = some (.int .i64 y.1.ep) := y1
        have y2 : (w4.drewN q).cell? ⟨g1, j * 4 + 2, none⟩ = some (.int .i64 y.1.n) := y2
        have y3 : (w4.drewN q).cell? ⟨g1, j * 4 + 3, none⟩ = some (.int .i64 y.2) := y3
        have z0 : (w4.drewN q).cell? ⟨g2, j * 4, none⟩ = some (.int .i64 y.1.cl) := z0
        have z1 : (w4.drewN q).cell? ⟨g2, j * 4 + 1, none⟩ = some (.int .i64 y.1.ep) := z1
        have z2 : (w4.drewN q).cell? ⟨g2, j * 4 + 2, none⟩ = some (.int .i64 y.1.n) := z2
        have z3 : (w4.drewN q).cell? ⟨g2, j * 4 + 3, none⟩ = some (.int .i64 y.2) := z3
        have hd1 : decide ((j : Int) < (V.los.length : Int)) = true := decide_eq_true (by omega)
        have hq := fun W => run_ne_lo y y W
        rw [show sameLo y y = true by rw [sameLo_eq]; simp] at hq
        have hgd := fun (A B : Operand) xs ys W => run_guard_lo .neq A B xs ys W
        have HB5 := HBB
        clear hy hr1 hr2 eU2 eV2 HA HB HBB
        go_upto_region 6 with (fail)
        go_quiet (fail)
        rw [World.drewN_drewN]
        go_wp2
        go_roundw
        case rel => exact ⟨j + 1, q + nq, by omega, by go_num, by first | rfl | trivial⟩
        case measure => simp [intN]; omega
    · obtain rfl : j = V.los.length := by omega
      have hd1 : decide ((V.los.length : Int) < (V.los.length : Int)) = false := decide_eq_false (by omega)
      clear hjl hj
      have a1 : (w4.drewN q).cell? ⟨u1, 1, none⟩ = some (.slice da1 V.dn.length dc1) := HA.out.blk.cell 1
      go_wp2
      go_loopw [6] (fun iv wr => ∃ (j q : Nat), j ≤ V.dn.length ∧ iv = .int .i64 (j : Int) ∧ wr = w4.drewN q) (fun iv _ => V.dn.length - intN iv)
      case atStart => exact ⟨0, q, Nat.zero_le _, rfl, rfl⟩
      case round =>
        obtain ⟨j, q, hj, rfl, rfl⟩ := hrel
        have a1 : (w4.drewN q).cell? ⟨u1, 1, none⟩ = some (.slice da1 V.dn.length dc1) := HA.out.blk.cell 1
        have b1 : (w4.drewN q).cell? ⟨u2, 1, none⟩ = some (.slice da2 V.dn.length dc2) := HB.out.blk.cell 1
        by_cases hjl : j < V.dn.length
        · as_aux_lemma =>
            have hy : V.dn[j]? = some (V.dn[j]'hjl) := List.getElem?_eq_getElem hjl
            generalize V.dn[j]'hjl = y at hy
            obtain ⟨B1, hr1⟩ := HA.out.rows
            obtain ⟨B2, hr2⟩ := HB.out.rows
            obtain ⟨g1, c1, eU, -, -, y0, y1, y2⟩ := hr1.done hy
            obtain ⟨g2, c2, eV, -, -, z0, z1, z2⟩ := hr2.done hy
            injection eU with eU1 eU2 eU3
            injection eV with eV1 eV2 eV3
            subst eU1 eU3 eV1 eV3
            have y0 : (w4.drewN q).cell? ⟨g1, j * 3, none⟩ = some (.int .i64 y.cl) := y0
            have y1 : (w4.drewN q).cell? ⟨g1, j * 3 + 1, none⟩ = some (.int .i64 y.ep) := y1
            have y2 : (w4.drewN q).cell? ⟨g1, j * 3 + 2, none⟩ = some (.int .i64 y.n) := y2
            have z0 : (w4.drewN q).cell? ⟨g2, j * 3, none⟩ = some (.int .i64 y.cl) := z0
            have z1 : (w4.drewN q).cell? ⟨g2, j * 3 + 1, none⟩ = some (.int .i64 y.ep) := z1
            have z2 : (w4.drewN q).cell? ⟨g2, j * 3 + 2, none⟩ = some (.int .i64 y.n) := z2
            have hd1 : decide ((j : Int) < (V.dn.length : Int)) = true := decide_eq_true (by omega)
            have hq := fun W => run_ne_txn y y W
            rw [show sameT y y = true by rw [sameT_eq]; simp] at hq
            have hgd := fun (A B : Operand) xs ys W => run_guard_txn .neq A B xs ys W
            have HB5 := HBB
            clear hy hr1 hr2 eU2 eV2 HA HB HBB
            go_upto_region 11 with (fail)
            go_quiet (fail)
            rw [World.drewN_drewN]
            go_wp2
            go_roundw
            case rel => exact ⟨j + 1, q + nq, by omega, by go_num, by first | rfl | trivial⟩
            case measure => simp [intN]; omega
        · obtain rfl : j = V.dn.length := by omega
          have hd1 : decide ((V.dn.length : Int) < (V.dn.length : Int)) = false := decide_eq_false (by omega)
          clear hjl hj
          have a2 : (w4.drewN q).cell? ⟨u1, 2, none⟩ = some (.slice pa1 V.pg.length pc1) := HA.out.blk.cell 2
          go_wp2
          go_loopw [7] (fun iv wr => ∃ (j q : Nat), j ≤ V.pg.length ∧ iv = .int .i64 (j : Int) ∧ wr = w4.drewN q) (fun iv _ => V.pg.length - intN iv)
          case atStart => exact ⟨0, q, Nat.zero_le _, rfl, rfl⟩
          case round =>
            obtain ⟨j, q, hj, rfl, rfl⟩ := hrel
            have a2 : (w4.drewN q).cell? ⟨u1, 2, none⟩ = some (.slice pa1 V.pg.length pc1) := HA.out.blk.cell 2
            have b2 : (w4.drewN q).cell? ⟨u2, 2, none⟩ = some (.slice pa2 V.pg.length pc2) := HB.out.blk.cell 2
            by_cases hjl : j < V.pg.length
            · as_aux_lemma =>
                have hy : V.pg[j]? = some (V.pg[j]'hjl) := List.getElem?_eq_getElem hjl
                generalize V.pg[j]'hjl = y at hy
                obtain ⟨B1, hr1⟩ := HA.out.rows
                obtain ⟨B2, hr2⟩ := HB.out.rows
                obtain ⟨g1, c1, eU, -, -, y0, y1⟩ := hr1.page hy
                obtain ⟨g2, c2, eV, -, -, z0, z1⟩ := hr2.page hy
                injection eU with eU1 eU2 eU3
                injection eV with eV1 eV2 eV3
                subst eU1 eU3 eV1 eV3
                have y0 : (w4.drewN q).cell? ⟨g1, j * 2, none⟩ = some (.int .i64 y.1) := y0
                have y1 : (w4.drewN q).cell? ⟨g1, j * 2 + 1, none⟩ = some (.int .i64 y.2) := y1
                have z0 : (w4.drewN q).cell? ⟨g2, j * 2, none⟩ = some (.int .i64 y.1) := z0
                have z1 : (w4.drewN q).cell? ⟨g2, j * 2 + 1, none⟩ = some (.int .i64 y.2) := z1
                have hd1 : decide ((j : Int) < (V.pg.length : Int)) = true := decide_eq_true (by omega)
                have hq := fun W => run_ne_fi y y W
                rw [show sameFi y y = true by rw [sameFi_eq]; simp] at hq
                have hgd := fun (A B : Operand) xs ys W => run_guard_fi .neq A B xs ys W
                have HB5 := HBB
                clear hy hr1 hr2 eU2 eV2 HA HB HBB
                go_upto_region 16 with (fail)
                go_quiet (fail)
                rw [World.drewN_drewN]
                go_wp2
                go_roundw
                case rel => exact ⟨j + 1, q + nq, by omega, by go_num, by first | rfl | trivial⟩
                case measure => simp [intN]; omega
            · obtain rfl : j = V.pg.length := by omega
              have hd1 : decide ((V.pg.length : Int) < (V.pg.length : Int)) = false := decide_eq_false (by omega)
              have HF := Lib.hid (below_go HBB.out (drewN_below w4 q))
              clear HA HB HBB
              go_wp2
              go_ret
              exact ⟨rfl, HF.out⟩
end Go.Proofs.Ytcpkngkeechjeaa.Past
namespace Go.Proofs.Ytcpkngkeechjeaa.Past
set_option maxRecDepth 100000
open Go.RowKit Go.Sort
open Go.Proofs.Ytcpkngkeechjeaa.Mem
open Go.Proofs.Ytcpkngkeechjeaa.Ent (Ent goodB Ents EntAt SmallE noE entA cellsE)
set_option maxRecDepth 100000 in
set_option maxHeartbeats 16000000 in
theorem reads_walk (a : Option Addr) (n c : Nat) (L : List Ent) (first : Int) (t : T3) (w : World) (h : Ents w a n L) (_hf : -9223372036854775808 ≤ first ∧ first ≤ 9223372036854775807) (_ht : SmT t) :
    Calls Try.prog 3 #[.slice a n c, .int .i64 first, .agg #[.int .i64 t.cl, .int .i64 t.ep, .int .i64 t.n]] w fun e w' => e = .returned (.bool true) ∧ Below w.heap.size w w' := by
  have hb0 := Ent.below_box w (.cells #[.int .i64 t.cl, .int .i64 t.ep, .int .i64 t.n] 24)
  have HT := Lib.hid (Blk.new w 24 #[.int .i64 t.cl, .int .i64 t.ep, .int .i64 t.n])
  have HB0 := Lib.hid hb0
  have HG := Lib.hid (fun W (h : Ents W a n L) => great_any a n c L W h)
  have HE := Lib.hid (h.next hb0)
  have HL := Lib.hid h.1
  clear h hb0
  go_enter Try.func3, Try.ntmps3
  go_wp2_with fail
  generalize hGen : w.alloc (.cells #[.int .i64 t.cl, .int .i64 t.ep, .int .i64 t.n] 24) = W at HT HB0 HE ⊢
  clear hGen
  refine (awake_any _).mono ?_
  rintro e w1 ⟨rfl, b1⟩
  have HB1 := Lib.hid (below_go HB0.out b1)
  have HE1 := Lib.hid (HE.out.next b1)
  have HT1 := Lib.hid (HT.out.below b1 HT.out.lt)
  clear b1 HE HT HB0
  go_wp2_with fail
  refine (HG.out _ HE1.out).mono ?_
  rintro e w2 ⟨G, rfl, hG, rfl⟩
  clear HG
  cases G with
  | true =>
    go_wp2
    go_ret
    exact ⟨rfl, HB1.out⟩
  | false =>
    have hn80 := hG rfl
    clear hG
    obtain ⟨t0, t1, t2⟩ := tx_cells HT1.out
    have HOF := Lib.hid (of_any a n c L t w2 HE1.out (by omega))
    go_wp2_with fail
    refine HOF.out.mono ?_
    rintro e w3 ⟨v, rfl, ho, b3⟩
    have HB3 := Lib.hid (below_go HB1.out b3)
    have HE3 := Lib.hid (HE1.out.next b3)
    have HT3 := Lib.hid (HT1.out.below b3 HT1.out.lt)
    have HOS := Lib.hid (of_small (t := t) HE1.out.2.1)
    obtain ⟨oa, oc, rfl, hoe, -⟩ := ents_own ho HOS.out
    have HO3 := Lib.hid hoe
    clear ho hoe b3 HOF HE1 HB1 HT1 t0 t1 t2
    obtain ⟨t0, t1, t2⟩ := tx_cells HT3.out
    have HUF := Lib.hid (uof_any a n c L t w3 HE3.out (by omega))
    go_wp2_with fail
    refine HUF.out.mono ?_
    rintro e w4 ⟨v, rfl, ho, b4⟩
    have HB4 := Lib.hid (below_go HB3.out b4)
    have HE4 := Lib.hid (HE3.out.next b4)
    have HO4 := Lib.hid (HO3.out.next b4)
    obtain ⟨ua, uc, rfl, hue, -⟩ := ents_own ho HOS.out
    have HU4 := Lib.hid hue
    have hlen : (ofL L t).length ≤ 80 := by have := of_len L t; have := HL.out; omega
    generalize ofL L t = O at HO4 HU4 hlen
    have e1 : ((O.length : Int) != (O.length : Int)) = false := by simp
    clear ho hue b4 HUF HE3 HB3 HT3 HO3 HOS t0 t1 t2
    go_wp2
    go_loopw [9] (fun iv wr => ∃ (j q : Nat), j ≤ O.length ∧ iv = .int .i64 (j : Int) ∧ wr = w4.drewN q) (fun iv _ => O.length - intN iv)
    case atStart => exact ⟨0, 0, Nat.zero_le _, rfl, rfl⟩
    case round =>
      obtain ⟨j, q, hj, rfl, rfl⟩ := hrel
      by_cases hjl : j < O.length
      · as_aux_lemma =>
          have hy : O[j]? = some (O[j]'hjl) := List.getElem?_eq_getElem hjl
          generalize O[j]'hjl = y at hy
          obtain ⟨b1, o1, rfl, -, ha1, -, -⟩ := ents_mem HO4.out hy
          obtain ⟨b2, o2, rfl, -, ha2, -, -⟩ := ents_mem HU4.out hy
          have ha1 : EntAt (w4.drewN q) b1 (o1 + j * 13) y := ha1
          have ha2 : EntAt (w4.drewN q) b2 (o2 + j * 13) y := ha2
          obtain ⟨c0, c1, c2, c3, c4, c5, c6, c7, c8, c9, c10, c11, c12⟩ := ha1.cells
          obtain ⟨d0, d1, d2, d3, d4, d5, d6, d7, d8, d9, d10, d11, d12⟩ := ha2.cells
          have hd1 : decide ((j : Int) < (O.length : Int)) = true := decide_eq_true (by omega)
          have hq := fun W => Ent.run_ne_ent y y W
          rw [Ent.sameE_refl] at hq
          have hgd := fun (A B : Operand) xs ys W => Ent.run_guard_ent .neq A B xs ys W
          obtain ⟨wq, hwq⟩ : ∃ wq, w4.drewN q = wq := ⟨_, rfl⟩
          have HWQ := Lib.hid hwq
          rw [hwq] at c0 c1 c2 c3 c4 c5 c6 c7 c8 c9 c10 c11 c12 d0 d1 d2 d3 d4 d5 d6 d7 d8 d9 d10 d11 d12
          rw [hwq]
          clear hwq
          clear hy ha1 ha2 HO4 HU4 HB4 HE4
          go_upto_region 12 with (fail)
          go_quiet (fail)
          rw [← HWQ.out, World.drewN_drewN]
          clear c0 c1 c2 c3 c4 c5 c6 c7 c8 c9 c10 c11 c12 d0 d1 d2 d3 d4 d5 d6 d7 d8 d9 d10 d11 d12
          go_wp2
          go_roundw
          case rel => exact ⟨j + 1, q + nq, by omega, by go_num, by first | rfl | trivial⟩
          case measure => simp [intN]; omega
      · obtain rfl : j = O.length := by omega
        have hd1 : decide ((O.length : Int) < (O.length : Int)) = false := decide_eq_false (by omega)
        have HB5 := Lib.hid (below_go HB4.out (drewN_below w4 q))
        have HE5 := Lib.hid (HE4.out.next (drewN_below w4 q))
        clear HB4 HE4 HO4 HU4
        generalize w4.drewN q = w5 at HB5 HE5 ⊢
        have HVL := Lib.hid (show (readV L first).los.length ≤ 1000000 ∧ (readV L first).dn.length ≤ 1000000 ∧ (readV L first).pg.length ≤ 1000000 by
          unfold readV
          split
          · have := read_len L first L.length
            have h2 := HL.out
            exact ⟨by omega, by omega, by omega⟩
          · exact ⟨by simp [v0], by simp [v0], by simp [v0]⟩)
        have HR := Lib.hid (read_any a n c L first w5 HE5.out (by omega))
        go_wp2_with fail
        refine HR.out.mono ?_
        rintro e w6 ⟨s1, d1, p1, rfl, hr1, b6⟩
        have HB6 := Lib.hid (below_go HB5.out b6)
        have HE6 := Lib.hid (HE5.out.next b6)
        have HR1 := Lib.hid hr1
        obtain ⟨sa1, sc1, rfl⟩ := own_shape hr1.lo
        obtain ⟨da1, dc1, rfl⟩ := own_shape hr1.tx
        obtain ⟨pa1, pc1, rfl⟩ := own_shape hr1.fi
        have HUR := Lib.hid (ureadV_any a n c L first w6 HE6.out (by omega))
        clear hr1 b6 HR HE5 HB5
        go_wp2_with fail
        refine HUR.out.mono ?_
        rintro e w7 ⟨s2, d2, p2, rfl, hr2, b7⟩
        have HB7 := Lib.hid (below_go HB6.out b7)
        have HE7 := Lib.hid (HE6.out.next b7)
        have HS := Lib.hid (same_any _ _ _ _ _ _ _ _ _ w7 (HR1.out.below b7) hr2 HVL.out)
        obtain ⟨sa2, sc2, rfl⟩ := own_shape hr2.lo
        obtain ⟨da2, dc2, rfl⟩ := own_shape hr2.tx
        obtain ⟨pa2, pc2, rfl⟩ := own_shape hr2.fi
        clear hr2 b7 HUR HE6 HB6 HR1 HVL
        go_wp2_with fail
        refine HS.out.mono ?_
        rintro e w8 ⟨rfl, b8⟩
        have HB8 := Lib.hid (below_go HB7.out b8)
        have HE8 := Lib.hid (HE7.out.next b8)
        have HN := Lib.hid (needed_any a n c L first w8 HE8.out (by omega))
        clear b8 HS HE7 HB7
        go_wp2_with fail
        refine HN.out.mono ?_
        rintro e w9 ⟨rfl, b9⟩
        have HB9 := Lib.hid (below_go HB8.out b9)
        have HU := Lib.hid (uneeded_any a n c L first w9 (HE8.out.next b9) (by omega))
        clear b9 HN HE8 HB8
        generalize needV L first = R at HU ⊢
        have e2 : (R == R) = true := by simp
        go_wp2_with fail
        refine HU.out.mono ?_
        rintro e w10 ⟨rfl, b10⟩
        have HB10 := Lib.hid (below_go HB9.out b10)
        clear b10 HU HB9
        go_wp2
        go_ret
        exact ⟨by first | rfl | simp, HB10.out⟩
end Go.Proofs.Ytcpkngkeechjeaa.Past
namespace Go.Proofs.Ytcpkngkeechjeaa.pastReads
set_option maxRecDepth 100000
open Go.ChangeShapes Go.WideShapes Go.ChangeAt Go.RowKit
open Go.ChangeMaps (open_string)
theorem own : ownKnob Try.prog.godebug = none := by kernel_rfl
theorem laidOut : laidOutB Try.prog = true := by kernel_rfl
theorem fits_of {a : Int} (h : (Lit.int .i64 a).wf = true) : -9223372036854775808 ≤ a ∧ a ≤ 9223372036854775807 := by
  unfold Lit.wf at h; simp [IntKind.min, IntKind.max, IntKind.signed, IntKind.bits] at h; omega
set_option maxRecDepth 100000 in
theorem lifted (os : Os) (started : os.Started) (H : Type) (enc : TypeId × Value → H) :
    ReturnsInHanded {} Try.checked os 3 .any (Rows.pastReadsSpec.pre6 enc Try.prog Try.f3 Rows.pastReadsRow.domain false) (Rows.pastReadsSpec.post enc Try.prog Try.f3 false true false false) := by
  refine returnsInHanded_of_change_sized (C := Try.checked) own started (by kernel_rfl) Try.func3
    (ChangeSpec.witness6 (enc := enc) (C := Try.checked) false ⟨#[], #[.slice none 0 0, .int .i64 0, .agg #[.int .i64 0, .int .i64 0, .int .i64 0]], []⟩ 8 (by kernel_rfl) (by kernel_rfl) (by kernel_rfl) (by kernel_rfl)) ?_
  intro W base args ds gs before hval0 hW _ hsz0 _
  have hval : ∀ (j : Nat) t v, Try.f3.params[j]? = some t → args[j]? = some v → Value.okWide Try.prog W .any base t v := hval0
  have hsz : (DataW.weightsEach Try.prog (Try.f3.params.toList ++ Rows.pastReadsSpec.plain.varTypes Try.prog) (ds ++ gs)).all (· ≤ reachBytes) = true := hsz0
  have hW' := hW
  obtain ⟨p, q, hA0, hV, rfl, hfz, hnd⟩ := hW
  have hA : DataW.TrodAll enc Try.prog W 0 (fun _ => true) true Try.f3.params.toList args.toList ds p := hA0
  rw [Try.params3] at hA hval hsz
  obtain ⟨v0, vs0, d0, ds0, p0, q0, hargs, rfl, rfl, h0, r0⟩ := trodAll_cons hA
  obtain ⟨v1, vs1, d1, ds1, p1, q1, rfl, rfl, rfl, h1, r1⟩ := trodAll_cons r0
  obtain ⟨v2, vs2, d2, ds2, p2, q2, rfl, rfl, rfl, h2, r2⟩ := trodAll_cons r1
  obtain ⟨rfl, rfl, rfl⟩ := trodAll_nil r2
  obtain rfl : args = #[v0, v1, v2] := by cases args; simp_all
  obtain ⟨rfl, rfl⟩ := trodVars_none hV
  have k0 := h0
  have lt0 : ∀ x ∈ p0, x.block < W.heap.size := by obtain ⟨m, hm⟩ := k0; exact DataW.trod_lt m _ _ _ hm
  have k1 := h1
  have lt1 : ∀ x ∈ p1, x.block < W.heap.size := by obtain ⟨m, hm⟩ := k1; exact DataW.trod_lt m _ _ _ hm
  have k2 := h2
  have lt2 : ∀ x ∈ p2, x.block < W.heap.size := by obtain ⟨m, hm⟩ := k2; exact DataW.trod_lt m _ _ _ hm
  obtain ⟨a0, n0, c0, z0, rfl, s0⟩ := Ent.open_ents (hval 0 22 v0 rfl rfl) h0 (fun n hn => by have := List.all_eq_true.1 hsz _ (DataW.weights_mem_each (j := 0) (t := 22) (d := d0) rfl rfl n hn); simpa using this)
  obtain ⟨a1, rfl, rfl, rfl, w1⟩ := open_int Try.underlying3 (hval 1 3 v1 rfl rfl) h1
  obtain ⟨x2, rfl, s2⟩ := Past.open_name (hval 2 24 v2 rfl rfl) h2 (fun n hn => by have := List.all_eq_true.1 hsz _ (DataW.weights_mem_each (j := 2) (t := 24) (d := d2) rfl rfl n hn); simpa using this)
  clear hA0 hval0 hsz0
  refine (Past.reads_walk a0 n0 c0 z0 a1 x2 W s0 (fits_of w1) s2).mono fun e W' ⟨he, bel⟩ => ?_
  subst he
  exact ⟨_, rfl, _, _, _, [], _, [], hW', trodAll_mk1 (shut_bool Try.underlying4 _), (trodAll_cons_mk (Below.trod laidOut (by kernel_rfl) (of_decide_eq_true (by kernel_rfl)) k0 bel lt0) (trodAll_cons_mk (Below.trod laidOut (by kernel_rfl) (of_decide_eq_true (by kernel_rfl)) k1 bel lt1) (trodAll_cons_mk (Below.trod laidOut (by kernel_rfl) (of_decide_eq_true (by kernel_rfl)) k2 bel lt2) trodAll_mk0))), rfl, bel.frame _, fun h => by cases h⟩

theorem over : Rows.pastReadsRow.holds Try.pinned (OpenSpec.ofChange Rows.pastReadsSpec) :=
  OpenClaim.holds_of_wide 3 Try.f3 rfl rfl rfl rfl rfl rfl rfl ⟨rfl, rfl, rfl, rfl, rfl⟩ rfl rfl rfl rfl rfl (by kernel_rfl) Try.func3 (by kernel_rfl)
    (of_decide_eq_true (by kernel_rfl)) (by unfold Func.isWrapper; first | (rw [if_pos (by decide +kernel)]; kernel_rfl) | (rw [if_neg (by decide +kernel)]; exact ⟨rfl, rfl⟩))
    (fun os started H enc _ => lifted os started H enc)
end Go.Proofs.Ytcpkngkeechjeaa.pastReads
namespace Go.Proofs.Ytcpkngkeechjeaa
set_option maxRecDepth 100000
/-- THE STATEMENT -/
theorem pastReads_holds : Rows.PastReadsSaid := pastReads.over
end Go.Proofs.Ytcpkngkeechjeaa
