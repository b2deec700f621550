/- Proved here: for every input the Go function PastJoins returns true, ends, does not panic, and leaves its arguments as they were (what a log in two parts tells is what its parts tell, the second part read from behind the first). Conditions: none beside the form's own. -/
import Derived.Test.YtcpkngkeechjeaaEntRows
import Derived.Test.YtcpkngkeechjeaaEntA
import Derived.Test.YtcpkngkeechjeaaMem
import Derived.Laws.MakeOwn
import Derived.Test.YtcpkngkeechjeaaPastAwake
import Derived.Test.YtcpkngkeechjeaaPastLaws
import Derived.Test.YtcpkngkeechjeaaPastIns
import Derived.Test.YtcpkngkeechjeaaPastView
import Derived.Test.YtcpkngkeechjeaaPastNames
import Derived.Test.YtcpkngkeechjeaaPastRX
import Derived.ProofKit
import Derived.OpenShut
import Derived.ShutString
import Derived.ChangeOld
import Derived.Below
import Derived.Carry
import Derived.SizedLaws
import Derived.ChangeMaps5
import Derived.KernelRfl
namespace Go.Proofs.Ytcpkngkeechjeaa.Patch
set_option maxRecDepth 100000
open Go.RowKit Go.Joins Go.ChangeShapes Go.WideShapes Go.Deep Go.Sort
open Go.Proofs.Ytcpkngkeechjeaa.Ent (Ent Ents EntAt noE)
section
variable {H : Type} {enc : TypeId × Value → H} {w : World} {base : Nat} {spare : Nat → Bool} {held : Bool}
theorem ents_cap {a : Option Addr} {n c : Nat} {d : DataW H} {p : List MemPlace} (h : DataW.Trod enc Try.prog w base spare held 22 (.slice a n c) d p) : n ≤ c := by
  obtain ⟨fuel, hf⟩ := h
  rcases open_slice Try.underlying22 (x := (d, p)) (by simpa [Value.cells] using hf) with ⟨e, _⟩ | ⟨a', len, cap, m, n', D, Pl, hcs, hb, hl, hm, hmm, hx, hi⟩
  · simp at e; omega
  · simp at hcs; obtain ⟨_, rfl, rfl⟩ := hcs; exact hl
end
/-- where a list's rest lies -/
def tailA (a : Option Addr) (c k : Nat) : Option Addr := if c = k then a else a.map (·.add (k * 13))
theorem size_ent (w : World) : (sizeOf 31).run Try.prog w = .ok 13 w := by have := Try.sizeOf31; exact this w
theorem run_tail (a : Option Addr) (n c k : Nat) (hk : k ≤ n) (W : World) : (Instr.slice 22 (.slice a n c) (some (.int .i64 (k : Int))) none none).run Try.prog W = .ok (.slice (tailA a c k) (n - k) (c - k)) W := by
  rw [run_slice_l (P := Try.prog) W 22 a n c (by kernel_rfl) .i64 (k : Int) (by omega) (by omega)]
  rw [show Try.prog.elem 22 = 31 by kernel_rfl, size_ent]
  simp [Result.andThen, sliced, tailA]
theorem ents_drop {w : World} {b off n : Nat} {xs : List Ent} (h : Ents w (some ⟨b, off, none⟩) n xs) {k : Nat} (hk : k ≤ n) : Ents w (some ⟨b, off + k * 13, none⟩) (n - k) (xs.drop k) := by
  obtain ⟨h1, h2, h3⟩ := h
  refine ⟨by rw [List.length_drop, h1], fun x hx => h2 x (List.mem_of_mem_drop hx), fun h0 => ?_⟩
  obtain ⟨b', off', e, hb, hc⟩ := h3 (by omega)
  injection e with e
  injection e with e1 e2
  subst e1 e2
  refine ⟨b, off + k * 13, rfl, hb, fun i hi => ?_⟩
  have := hc (k + i) (by omega)
  have e4 : (xs.drop k).getD i noE = xs.getD (k + i) noE := by simp [List.getD, List.getElem?_drop]
  rw [e4, show off + k * 13 + i * 13 = off + (k + i) * 13 by omega]
  exact this
theorem ents_tail {w : World} {a : Option Addr} {n c k : Nat} {xs : List Ent} (h : Ents w a n xs) (hk : k ≤ n) (hc : n ≤ c) : Ents w (tailA a c k) (n - k) (xs.drop k) := by
  by_cases h0 : n - k = 0
  · have : xs.drop k = [] := List.drop_eq_nil_of_le (by rw [h.1]; omega)
    rw [this, h0]
    exact ⟨rfl, by simp, fun h => absurd h (Nat.lt_irrefl 0)⟩
  · obtain ⟨b, off, rfl, _, _⟩ := h.2.2 (by omega)
    have e : tailA (some ⟨b, off, none⟩) c k = some ⟨b, off + k * 13, none⟩ := by
      unfold tailA
      rw [if_neg (by omega)]
      simp only [Option.map_some, Option.some.injEq]
      unfold Addr.add; split <;> simp_all
    rw [e]
    exact ents_drop h hk
end Go.Proofs.Ytcpkngkeechjeaa.Patch
namespace Go.Proofs.Ytcpkngkeechjeaa.Mem
set_option maxRecDepth 100000
open Go.RowKit
/-- a row of n in a block -/
def Arr (w : World) (g : Nat) (T : TypeId) (n : Nat) (e : Nat → Value) : Prop := ∃ cs, Blk w g T cs ∧ cs.size = n ∧ ∀ k, k < n → cs[k]? = some (e k)
section
variable {w w' : World} {g n : Nat} {T : TypeId} {e : Nat → Value}
theorem Arr.lt (h : Arr w g T n e) : g < w.heap.size := by obtain ⟨cs, h1, -⟩ := h; exact h1.lt
theorem Arr.at_ (h : Arr w g T n e) {k : Nat} (hk : k < n) : w.cell? ⟨g, k, none⟩ = some (e k) ∧ w.frozen? ⟨g, k, none⟩ = false := by
  obtain ⟨cs, h1, -, h3⟩ := h
  exact ⟨(h1.cell k).trans (h3 k hk), h1.frozen k⟩
theorem Arr.of_block (h : Arr w g T n e) (hb : w'.heap[g]? = w.heap[g]?) : Arr w' g T n e := by
  obtain ⟨cs, h1, h2⟩ := h
  exact ⟨cs, hb.trans h1, h2⟩
theorem Arr.keep {M : Nat → Prop} (h : Arr w g T n e) (hk : Keep M w w') (hm : M g) : Arr w' g T n e := h.of_block (hk.block g hm)
theorem Arr.below (h : Arr w g T n e) (hb : Below w.heap.size w w') : Arr w' g T n e := h.of_block (hb.block g h.lt)
theorem Arr.alloc (h : Arr w g T n e) (o : Obj) : Arr (w.alloc o) g T n e := h.of_block (Below.heap_alloc w o g h.lt)
theorem Arr.far (h : Arr w g T n e) {p : Addr} (hp : g ≠ p.block) (u : Value) : Arr (w.setCell p u) g T n e := h.of_block (Below.heap_setCell w p u g hp)
theorem Arr.set_ (h : Arr w g T n e) {k : Nat} (hk : k < n) (e' : Nat → Value) (he : ∀ j, e' j = if j = k then e' k else e j) : Arr (w.setCell ⟨g, k, none⟩ (e' k)) g T n e' := by
  obtain ⟨cs, h1, h2, h3⟩ := h
  refine ⟨_, h1.set_ k (e' k), by simpa using h2, fun j hj => ?_⟩
  by_cases e1 : j = k
  · subst e1
    rw [Array.getElem?_setIfInBounds, if_pos rfl, if_pos (by omega)]
  · rw [Array.getElem?_setIfInBounds, if_neg (fun h => e1 h.symm), he j, if_neg e1]
    exact h3 j hj
theorem Arr.made (w : World) (T : TypeId) (n : Nat) (z : Value) : Arr (w.alloc (.cells (madeCells #[z] n) T)) w.heap.size T n (fun _ => z) := by
  refine ⟨_, Blk.new w _ _, by simp [madeCells], fun k hk => ?_⟩
  simp [madeCells, hk, Nat.mod_one]
end
theorem cut_of (x : Int) (n : Int) (hn : 1 ≤ n) (hm : n ≤ 9223372036854775807) : ∃ K : Nat, wrap64 ((IntKind.u64.wrap x).tmod n) = (K : Int) ∧ (K : Int) < n := by
  have h0 : 0 ≤ IntKind.u64.wrap x := by rw [IntKind.wrap_u64]; omega
  rw [Int.tmod_eq_emod_of_nonneg h0]
  have h1 := Int.emod_nonneg (IntKind.u64.wrap x) (b := n) (by omega)
  have h2 := Int.emod_lt_of_pos (IntKind.u64.wrap x) (b := n) (by omega)
  generalize IntKind.u64.wrap x % n = z at h1 h2 ⊢
  exact ⟨z.toNat, by unfold wrap64; omega, by omega⟩
end Go.Proofs.Ytcpkngkeechjeaa.Mem
namespace Go.Proofs.Ytcpkngkeechjeaa.Past
set_option maxRecDepth 100000
open Go.RowKit
open Go.Proofs.Ytcpkngkeechjeaa.Mem
open Go.Proofs.Ytcpkngkeechjeaa.Ent (Ent goodB Ents EntAt SmallE noE entA cellsE)
def GreatRes (n : Nat) (w : World) (e : Ending) (w' : World) : Prop := ∃ G, e = .returned (.bool G) ∧ (G = false → n ≤ 80) ∧ w' = w
set_option maxRecDepth 100000 in
set_option maxHeartbeats 2000000 in
theorem great_any (a : Option Addr) (n c : Nat) (L : List Ent) (w : World) (h : Ents w a n L) :
    Calls Try.prog 9 #[.slice a n c] w (GreatRes n w) := by
  have HL := Lib.hid h
  clear h
  by_cases h2 : 80 < n
  · have e1 : decide ((n : Int) > 80) = true := decide_eq_true (by omega)
    go_enter Try.func9, Try.ntmps9
    go_wp2
    go_ret
    exact ⟨true, rfl, fun h => (by cases h), rfl⟩
  · have e1 : decide ((n : Int) > 80) = false := decide_eq_false (by omega)
    go_enter Try.func9, Try.ntmps9
    go_wp2
    go_loopw [3] (fun i wr => ∃ j : Nat, j ≤ n ∧ i = .int .i64 (j : Int) ∧ wr = w) (fun i _ => n - intN i)
    case atStart => exact ⟨0, Nat.zero_le _, rfl, rfl⟩
    case round =>
      obtain ⟨j, hj, rfl, rfl⟩ := hrel
      by_cases hlt2 : j < n
      · obtain ⟨z1, z2, z3⟩ := HL.out
        obtain ⟨b, off, rfl, hbw, hat⟩ := z3 (by omega)
        have hAt := hat j hlt2
        have hxk : L[j]? = some (L.getD j noE) := by simp [List.getD, show j < L.length by omega]
        have hsm : SmallE (L.getD j noE) := z2 _ (List.mem_of_getElem? hxk)
        clear z1 z2 z3 hat hxk
        generalize L.getD j noE = x at hAt hsm
        obtain ⟨s1, s2⟩ := hsm
        obtain ⟨_, _, _, _, _, _, _, _, _, c9, _, c11, _⟩ := hAt.cells
        by_cases hb1 : 1024 < x.wd.size
        · go_wp2
          go_ret
          exact ⟨true, rfl, fun h => (by cases h), rfl⟩
        · by_cases hb2 : 1024 < x.id.size
          · go_wp2
            go_ret
            exact ⟨true, rfl, fun h => (by cases h), rfl⟩
          · go_wp2
            go_roundw
            case rel => exact ⟨j + 1, by omega, by go_num, by first | rfl | trivial⟩
            case measure => simp [intN]; omega
      · obtain rfl : j = n := by omega
        go_wp2
        go_ret
        exact ⟨false, rfl, fun _ => by omega, rfl⟩
end Go.Proofs.Ytcpkngkeechjeaa.Past
namespace Go.Proofs.Ytcpkngkeechjeaa.Past
set_option maxRecDepth 100000
open Go.RowKit Go.Sort
open Go.Proofs.Ytcpkngkeechjeaa.Mem
open Go.Proofs.Ytcpkngkeechjeaa.Ent (Ent goodB Ents EntAt SmallE noE entA cellsE)
theorem sub_step {α : Type} [DecidableEq α] {w v : α} {W V : List α} (h : (v :: V).Sublist (w :: W)) : (w = v → V.Sublist W) ∧ (w ≠ v → (v :: V).Sublist W) := by
  constructor
  · intro _
    cases h with
    | cons _ h => exact List.sublist_of_cons_sublist h
    | cons_cons _ h => exact h
  · intro e
    cases h with
    | cons _ h => exact h
    | cons_cons _ h => exact absurd rfl e
/-- a view in a variable -/
structure VB (w : World) (u : Nat) (sl dn pg : Value) (V : Vw) : Prop where
  blk : Blk w u 37 #[sl, dn, pg]
  rows : ∃ B, Rows3 w B sl dn pg V
theorem VB.below {w w' : World} {u : Nat} {sl dn pg : Value} {V : Vw} (h : VB w u sl dn pg V) (hb : Below w.heap.size w w') : VB w' u sl dn pg V := by
  obtain ⟨B, hr⟩ := h.rows
  exact ⟨h.blk.below hb h.blk.lt, B, hr.below hb⟩
theorem VB.new {w : World} {B : Nat} {sl dn pg : Value} {V : Vw} (h : Rows3 w B sl dn pg V) : VB (w.alloc (.cells #[sl, dn, pg] 37)) w.heap.size sl dn pg V :=
  ⟨Blk.new w _ _, B, h.below (Ent.below_box _ _)⟩
theorem drewN_below (w : World) (q : Nat) : Below w.heap.size w (w.drewN q) := ⟨rfl, rfl, rfl, Nat.le_refl _, fun _ _ => rfl⟩
set_option maxRecDepth 100000 in
set_option maxHeartbeats 8000000 in
theorem needs_walk (a : Option Addr) (n c : Nat) (L : List Ent) (f0 : Int) (w : World) (h : Ents w a n L) (hc : n ≤ c) (_hf : -9223372036854775808 ≤ f0 ∧ f0 ≤ 9223372036854775807) :
    Calls Try.prog 5 #[.slice a n c, .int .i64 f0] w fun e w' => e = .returned (.bool true) ∧ Below w.heap.size w w' := by
  have HE := Lib.hid h
  have HG := Lib.hid (fun W (h : Ents W a n L) => great_any a n c L W h)
  have HL := Lib.hid h.1
  clear h
  obtain ⟨K, hKe, hK⟩ := cut_of f0 1000 (by omega) (by omega)
  go_enter Try.func5, Try.ntmps5
  go_wp2_with fail
  refine (awake_any _).mono ?_
  rintro e w1 ⟨rfl, b1⟩
  have HB1 := Lib.hid b1
  clear b1
  go_wp2_with fail
  refine (HG.out _ (HE.out.next HB1.out)).mono ?_
  rintro e w2 ⟨G, rfl, hG, rfl⟩
  clear HG
  cases G with
  | true =>
    go_wp2
    go_ret
    exact ⟨rfl, HB1.out⟩
  | false =>
    have hn80 := hG rfl
    clear hG
    have HE1 := Lib.hid (HE.out.next HB1.out)
    obtain ⟨fi, hfi⟩ : ∃ fi : Int, 1 + (K : Int) = fi := ⟨_, rfl⟩
    have hf1 : 1 ≤ fi := by omega
    have hf2 : fi ≤ 1000 := by omega
    have HFI := Lib.hid hfi
    have hw1 : IntKind.i64.wrap (1 + (K : Int)) = 1 + (K : Int) := by rw [IntKind.wrap_i64]; omega
    have hok : okFirst fi = true := by unfold okFirst; simp; omega
    have HNE := Lib.hid (needed_any a n c L fi w2 HE1.out (by omega))
    rw [needV_is, hok, if_pos rfl] at HNE
    have HRD : Hid (∀ W, Below w2.heap.size w2 W → Calls Try.prog 13 #[.slice a n c, .int .i64 fi] W (ViewRes (readN L fi L.length) W)) := Lib.hid fun W hb => by
      have := read_any a n c L fi W (HE1.out.next hb) (by omega)
      unfold readV at this
      rw [hok, if_pos rfl] at this
      exact this
    clear HE hok
    cases hni : needI L with
    | none =>
      rw [hni] at HNE
      have HLS := Lib.hid (need_none (first := fi) hni)
      have hz : needO fi none = 0 := rfl
      rw [hz] at HNE
      clear hni hz
      go_upto_region 6 with (fail)
      clear hfi
      go_wp2_with fail
      refine HNE.out.mono ?_
      rintro e w3 ⟨rfl, b3⟩
      have HB3 := Lib.hid b3
      clear b3 HNE
      go_wp2_with fail
      refine (HRD.out _ HB3.out).mono ?_
      rintro e w4 ⟨sl, dn, pg, rfl, hr, b4⟩
      have HB4 := Lib.hid (below_go (below_go HB1.out HB3.out) b4)
      have hlo := hr.lo
      rw [HLS.out] at hlo
      obtain ⟨sa, sc, rfl⟩ := own_shape hlo
      obtain ⟨da, dc, rfl⟩ := own_shape hr.tx
      obtain ⟨pa, pc, rfl⟩ := own_shape hr.fi
      have HB5 := Lib.hid (below_go HB4.out (Ent.below_box w4 (.cells #[.slice sa 0 sc, .slice da (readN L fi L.length).dn.length dc, .slice pa (readN L fi L.length).pg.length pc] 37)))
      clear hlo hr b4 HRD HLS
      go_wp2
      go_ret
      exact ⟨rfl, HB5.out⟩
    | some i =>
      rw [hni] at HNE
      obtain ⟨hil, hne⟩ := need_some (first := fi) hni
      have HSUB := Lib.hid (fun f2 => needs_sub (first := fi) (first2 := f2) hni)
      have hz : needO fi (some i) = fi + (i : Int) := rfl
      rw [hz] at HNE
      rw [HL.out] at hil
      have HNEL := Lib.hid hne
      clear hni hz hne
      go_upto_region 6 with (fail)
      clear hfi
      go_wp2_with fail
      refine HNE.out.mono ?_
      rintro e w3 ⟨rfl, b3⟩
      have HB3 := Lib.hid b3
      clear b3 HNE
      go_wp2_with fail
      refine (HRD.out _ HB3.out).mono ?_
      rintro e w4 ⟨sl, dn, pg, rfl, hr, b4⟩
      have HB34 := Lib.hid (below_go HB3.out b4)
      have HB4 := Lib.hid (below_go HB1.out HB34.out)
      have hvl : (readN L fi L.length).los.length ≤ 80 := by have := (read_len L fi L.length).1; have := HL.out; omega
      generalize readN L fi L.length = V at hr HNEL HSUB hvl
      obtain ⟨sa, sc, rfl⟩ := own_shape hr.lo
      obtain ⟨da, dc, rfl⟩ := own_shape hr.tx
      obtain ⟨pa, pc, rfl⟩ := own_shape hr.fi
      have hvb := VB.new hr
      have hbx := Ent.below_box w4 (.cells #[.slice sa V.los.length sc, .slice da V.dn.length dc, .slice pa V.pg.length pc] 37)
      have HB5 := Lib.hid (below_go HB4.out hbx)
      have HB25 := Lib.hid (below_go HB34.out hbx)
      have HVB := Lib.hid hvb
      have hn0 : (fi + (i : Int) == 0) = false := by simp; omega
      have hd1 : decide (fi + (i : Int) < fi) = false := decide_eq_false (by omega)
      have hw2 : IntKind.i64.wrap (fi + (i : Int) - fi) = (i : Int) := by rw [IntKind.wrap_i64]; omega
      have hd2 : decide ((i : Int) ≥ (n : Int)) = false := decide_eq_false (by omega)
      have htl := fun W => Patch.run_tail a n c i (by omega) W
      clear hr hvb hbx b4 HRD
      go_upto_region 8 with (fail)
      generalize w4.alloc (.cells #[.slice sa V.los.length sc, .slice da V.dn.length dc, .slice pa V.pg.length pc] 37) = w5 at HB5 HB25 HVB ⊢
      generalize w4.heap.size = u1 at HVB ⊢
      have HRD2 : Hid (Calls Try.prog 13 #[.slice (Patch.tailA a c i) (n - i) (c - i), .int .i64 (fi + (i : Int))] w5 (ViewRes (readN (L.drop i) (fi + (i : Int)) (L.drop i).length) w5)) := by
        have := read_any (Patch.tailA a c i) (n - i) (c - i) (L.drop i) (fi + (i : Int)) w5 (Patch.ents_tail (HE1.out.next HB25.out) (by omega) hc) (by omega)
        unfold readV at this
        rw [show okFirst (fi + (i : Int)) = true from by unfold okFirst; simp; omega, if_pos rfl] at this
        exact Lib.hid this
      go_wp2_with fail
      refine HRD2.out.mono ?_
      rintro e w6 ⟨sl2, dn2, pg2, rfl, hr, b6⟩
      have HS := Lib.hid (HSUB.out (fi + (i : Int)))
      have HV6 := Lib.hid (HVB.out.below b6)
      have HB6 := Lib.hid (below_go HB5.out b6)
      have hul : (readN (L.drop i) (fi + (i : Int)) (L.drop i).length).los.length ≤ 80 := by have := (read_len (L.drop i) (fi + (i : Int)) (L.drop i).length).1; rw [List.length_drop] at this ⊢; have := HL.out; omega
      generalize readN (L.drop i) (fi + (i : Int)) (L.drop i).length = U at hr HS hul
      obtain ⟨sa2, sc2, rfl⟩ := own_shape hr.lo
      obtain ⟨da2, dc2, rfl⟩ := own_shape hr.tx
      obtain ⟨pa2, pc2, rfl⟩ := own_shape hr.fi
      have hbx := Ent.below_box w6 (.cells #[.slice sa2 U.los.length sc2, .slice da2 U.dn.length dc2, .slice pa2 U.pg.length pc2] 37)
      have HU := Lib.hid (VB.new hr)
      have HV7 := Lib.hid (HV6.out.below hbx)
      have HB7 := Lib.hid (below_go HB6.out hbx)
      clear hr b6 hbx HRD2 HVB HV6 HSUB htl hw2 hd1 hd2 hn0
      go_upto_region 13 with (fail)
      generalize w6.alloc (.cells #[.slice sa2 U.los.length sc2, .slice da2 U.dn.length dc2, .slice pa2 U.pg.length pc2] 37) = w7 at HU HV7 HB7 ⊢
      generalize w6.heap.size = u2 at HU ⊢
      have hlen := HS.out.length_le
      have hpos : 0 < V.los.length := by
        have := HNEL.out
        cases e : V.los with
        | nil => exact absurd e this
        | cons _ _ => simp
      have v0 := HV7.out.blk.cell 0
      have z0 := HU.out.blk.cell 0
      have e1 : ((V.los.length : Int) == 0) = false := beq_eq_false_iff_ne.2 (by omega)
      have e2 : decide ((U.los.length : Int) < (V.los.length : Int)) = false := decide_eq_false (by omega)
      clear HB5 HB25 HE1 HB1 HB3 HB34 HB4 HNEL
      go_wp2
      go_loopw [8, 9] (fun kv iv wr => ∃ (k j q : Nat), k ≤ V.los.length ∧ j ≤ U.los.length ∧ kv = .int .i64 (k : Int) ∧ iv = .int .i64 (j : Int) ∧ wr = w7.drewN q ∧ Hid ((V.los.drop k).Sublist (U.los.drop j))) (fun _ iv _ => U.los.length - intN iv)
      case atStart => exact ⟨0, 0, 0, Nat.zero_le _, Nat.zero_le _, rfl, rfl, rfl, Lib.hid (by simpa using HS.out)⟩
      case round =>
        obtain ⟨k, j, q, hk, hj, rfl, rfl, rfl, HSJ⟩ := hrel
        have v0 : (w7.drewN q).cell? ⟨u1, 0, none⟩ = some (.slice sa V.los.length sc) := v0
        have z0 : (w7.drewN q).cell? ⟨u2, 0, none⟩ = some (.slice sa2 U.los.length sc2) := z0
        by_cases hjl : j < U.los.length
        · have f1 : decide ((j : Int) < (U.los.length : Int)) = true := decide_eq_true (by omega)
          by_cases hkl : k < V.los.length
          · have f2 : decide ((k : Int) < (V.los.length : Int)) = true := decide_eq_true (by omega)
            have hy : U.los[j]? = some (U.los[j]'hjl) := List.getElem?_eq_getElem hjl
            have hv : V.los[k]? = some (V.los[k]'hkl) := List.getElem?_eq_getElem hkl
            have hdy : U.los.drop j = U.los[j]'hjl :: U.los.drop (j + 1) := List.drop_eq_getElem_cons hjl
            have hdv : V.los.drop k = V.los[k]'hkl :: V.los.drop (k + 1) := List.drop_eq_getElem_cons hkl
            generalize U.los[j]'hjl = y at hy hdy
            generalize V.los[k]'hkl = v at hv hdv
            have hst := HSJ.out
            rw [hdy, hdv] at hst
            have HST := Lib.hid (sub_step hst)
            have HDV := Lib.hid hdv
            obtain ⟨BU, hru⟩ := HU.out.rows
            obtain ⟨BV, hrv⟩ := HV7.out.rows
            obtain ⟨g2, cc2, eU, hg2, -, y0, y1, y2, y3⟩ := hru.loser hy
            obtain ⟨g1, cc1, eV, hg1, -, x0, x1, x2, x3⟩ := hrv.loser hv
            injection eU with eU1 eU2 eU3
            injection eV with eV1 eV2 eV3
            subst eU1 eU3 eV1 eV3
            have y0 : (w7.drewN q).cell? ⟨g2, j * 4, none⟩ = some (.int .i64 y.1.cl) := y0
            have y1 : (w7.drewN q).cell? ⟨g2, j * 4 + 1, none⟩ = some (.int .i64 y.1.ep) := y1
            have y2 : (w7.drewN q).cell? ⟨g2, j * 4 + 2, none⟩ = some (.int .i64 y.1.n) := y2
            have y3 : (w7.drewN q).cell? ⟨g2, j * 4 + 3, none⟩ = some (.int .i64 y.2) := y3
            have x0 : (w7.drewN q).cell? ⟨g1, k * 4, none⟩ = some (.int .i64 v.1.cl) := x0
            have x1 : (w7.drewN q).cell? ⟨g1, k * 4 + 1, none⟩ = some (.int .i64 v.1.ep) := x1
            have x2 : (w7.drewN q).cell? ⟨g1, k * 4 + 2, none⟩ = some (.int .i64 v.1.n) := x2
            have x3 : (w7.drewN q).cell? ⟨g1, k * 4 + 3, none⟩ = some (.int .i64 v.2) := x3
            have hq := fun W => run_eq_lo y v W
            have hgd := fun (A B : Operand) xs ys W => run_guard_lo .eql A B xs ys W
            obtain ⟨sb, hsb⟩ : ∃ sb, sameLo y v = sb := ⟨_, rfl⟩
            rw [hsb] at hq
            have HSB := Lib.hid (show sb = decide (y = v) by rw [← hsb]; exact sameLo_eq y v)
            clear hsb hru hrv hy hv hst hdy hdv eU2 eV2 HSJ
            cases sb with
            | true =>
              have HN := Lib.hid (show (V.los.drop (k + 1)).Sublist (U.los.drop (j + 1)) from HST.out.1 (by have := HSB.out; simpa using this))
              clear HST HDV HSB
              go_upto_region 19 with (fail)
              go_quiet (fail)
              rw [World.drewN_drewN]
              go_wp2
              go_roundw
              case rel => exact ⟨k + 1, j + 1, q + nq, by omega, by omega, by go_num, by go_num, by first | rfl | trivial, HN⟩
              case measure => simp [intN]; omega
            | false =>
              have HN := Lib.hid (show (V.los.drop k).Sublist (U.los.drop (j + 1)) by rw [HDV.out]; exact HST.out.2 (by have := HSB.out; simpa using this))
              clear HST HDV HSB
              go_upto_region 19 with (fail)
              go_quiet (fail)
              rw [World.drewN_drewN]
              go_wp2
              go_roundw
              case rel => exact ⟨k, j + 1, q + nq, by omega, by omega, by first | rfl | go_num, by go_num, by first | rfl | trivial, HN⟩
              case measure => simp [intN]; omega
          · obtain rfl : k = V.los.length := by omega
            have f2 : decide ((V.los.length : Int) < (V.los.length : Int)) = false := decide_eq_false (by omega)
            have e9 : ((V.los.length : Int) == (V.los.length : Int)) = true := by simp
            have HF := Lib.hid (below_go HB7.out (drewN_below w7 q))
            clear HSJ HS
            go_wp2
            go_ret
            exact ⟨rfl, HF.out⟩
        · obtain rfl : j = U.los.length := by omega
          have f1 : decide ((U.los.length : Int) < (U.los.length : Int)) = false := decide_eq_false (by omega)
          have hkk : k = V.los.length := by
            have h1 := HSJ.out
            rw [List.drop_length] at h1
            have h2 := List.eq_nil_of_sublist_nil h1
            rw [List.drop_eq_nil_iff] at h2
            omega
          subst hkk
          have e9 : ((V.los.length : Int) == (V.los.length : Int)) = true := by simp
          have HF := Lib.hid (below_go HB7.out (drewN_below w7 q))
          clear HSJ HS
          go_wp2
          go_ret
          exact ⟨rfl, HF.out⟩
end Go.Proofs.Ytcpkngkeechjeaa.Past
namespace Go.Proofs.Ytcpkngkeechjeaa.Past
set_option maxRecDepth 100000
open Go.RowKit Go.Sort
open Go.Proofs.Ytcpkngkeechjeaa.Mem
open Go.Proofs.Ytcpkngkeechjeaa.Ent (Ent goodB Ents EntAt SmallE noE entA cellsE cellsE_length cellsE_get)
theorem run_appW0 {P : Program} {w : World} (base : Nat) (t ty e : TypeId) (i : TypeInfo) (size : Nat) (ht : P.underlying t = some (.slice e)) (hi : P.info? e = some i)
    (v : Value) (n : Nat) (xs : List Value) (hown : w.ownsRow base e size v n xs) (a : Option Addr) (c : Nat) :
    (Builtin.append_ #[t, t] ty #[v, .slice a 0 c]).run P w = .ok v w := by
  rcases hown.2 with ⟨rfl, rfl⟩ | ⟨g, cap, cur, rfl, _, _, hnc, _⟩
  · cases a <;> simp [Builtin.append_, run_underlying ht, sizeOf, typeInfo, hi, Builtin.lenOf, Builtin.firstCells, loadCells, loadCellsFrom]
  · cases a <;> simp [Builtin.append_, run_underlying ht, sizeOf, typeInfo, hi, Builtin.lenOf, Builtin.firstCells, hnc, storeCells, loadCells, loadCellsFrom]
section
variable {w : World} {B : Nat}
theorem run_appW {T TL ty : TypeId} {z : Value} {size bytes : Nat} (ht : Try.prog.underlying TL = some (.slice T)) (hI : (Try.prog.info? T).map (fun i => (i.zero, i.size, i.bytes)) = some (some z, size, bytes)) (hzs : z.cells.size = size) (hsz : 0 < size) (hby : bytes ≤ 120)
    {v : Value} {n : Nat} {xs : List Value} (hown : w.ownsRow B T size v n xs) (a : Option Addr) (m c : Nat) (ys : List Value) (hl : ys.length = m * size)
    (hs : 0 < m → ∃ g, a = some g ∧ ∀ j u, ys[j]? = some u → w.cell? (g.add j) = some u) (h1 : ∀ u ∈ ys, u.oneCell' = true) (hn : n + m ≤ 1000000) (hB : B ≤ w.heap.size) :
    ∃ v' w', (Builtin.append_ #[TL, TL] ty #[v, .slice a m c]).run Try.prog w = .ok v' w' ∧ AppRes w w' B T size v v' (n + m) (xs ++ ys) := by
  obtain ⟨i0, hi, hz0, hz1, hz2⟩ := view_info hI
  rcases Nat.eq_zero_or_pos m with rfl | hm
  · have hy : ys = [] := List.eq_nil_of_length_eq_zero (by omega)
    subst hy
    refine ⟨v, w, run_appW0 B TL ty T i0 size ht hi v n xs hown a c, ?_, ⟨rfl, rfl, rfl, Nat.le_refl _, fun _ _ _ => rfl⟩, .inl rfl⟩
    rw [List.append_nil]
    exact hown
  · obtain ⟨g, rfl, hc⟩ := hs hm
    have hbb : (n + m) * bytes ≤ 140737488355328 := by
      have : (n + m) * bytes ≤ 1000000 * 120 := Nat.mul_le_mul hn hby
      omega
    obtain ⟨v', w', hr, h2, h3, _, h5⟩ := run_append_own_at (P := Try.prog) w B TL ty T i0 z size bytes ht hi hz0 hz1 hz2 hzs hsz v n xs hown g m c ys hl hc h1 (by unfold maxLen; omega) hbb hB
    exact ⟨v', w', hr, h2, h3, h5⟩
variable {ops : Array Oper} {rest : List Oper} {o : Oper} {a : Act} {Q : Exit → Act → World → Prop}
theorem wpList_wholeE (hgd : o.guard = none) (s x : Operand) (ho : o.op = .call { callee := .builtin .append, args := #[s, x], argTypes := #[22, 22] }) (B : Nat)
    (v : Value) (Z L : List Ent) (hs : a.eval s = v) (hown : w.ownsRow B 31 13 v Z.length (cellsE Z)) (ad : Option Addr) (m c : Nat) (hx : a.eval x = .slice ad m c) (hE : Ents w ad m L) (hn : Z.length + m ≤ 1000000) (hB : B ≤ w.heap.size)
    (hK : ∀ v' w', AppRes w w' B 31 13 v v' (Z ++ L).length (cellsE (Z ++ L)) → wpList Try.prog ops Q rest (a.put o.dst v') w') : wpList Try.prog ops Q (o :: rest) a w := by
  have hl := hE.1
  obtain ⟨v', w', hr, h2⟩ := run_appW (ty := o.type) (z := .agg #[.int .i64 0, .int .i64 0, .int .i64 0, .int .i64 0, .int .i64 0, .int .i64 0, .int .i64 0, .int .i64 0, .bool false, .string ⟨#[]⟩, .bool false, .string ⟨#[]⟩, .int .i64 0]) Try.underlying22 infoE rfl (by decide) (by decide) hown ad m c (cellsE L) (by rw [cellsE_length, hl]) (fun hm => by
      obtain ⟨b, off, rfl, hb, hc⟩ := hE.2.2 hm
      refine ⟨_, rfl, fun j u hj => ?_⟩
      have hlt := (List.getElem?_eq_some_iff.1 hj).1
      rw [cellsE_length] at hlt
      have hi : j / 13 < m := by rw [← hl]; exact Nat.div_lt_of_lt_mul (by omega)
      have hx : L[j / 13]? = some (L.getD (j / 13) noE) := by simp [List.getD, hl ▸ hi]
      have hm2 : (entA (L.getD (j / 13) noE))[j % 13]? = some ((entA (L.getD (j / 13) noE))[j % 13]'(Nat.mod_lt _ (by decide))) := Array.getElem?_eq_getElem _
      have h3 := cellsE_get hx (j % 13) _ hm2
      rw [show j / 13 * 13 + j % 13 = j by omega, hj] at h3
      have h4 := hc (j / 13) hi (j % 13) _ hm2
      rw [show off + j / 13 * 13 + j % 13 = off + j by omega] at h4
      rw [Addr.add_lit, h4, h3])
    (fun u hu => by
      obtain ⟨y, -, hy⟩ := List.mem_flatMap.1 hu
      simp [entA] at hy
      rcases hy with rfl | rfl | rfl | rfl | rfl | rfl | rfl | rfl | rfl | rfl | rfl | rfl | rfl <;> rfl) hn hB
  refine wpList_runG hgd s x ho hs hx hr (hK v' w' ?_)
  rw [List.length_append, hl]
  unfold cellsE at h2 ⊢
  rw [List.flatMap_append]
  exact h2
theorem wpList_wholeT (hgd : o.guard = none) (s x : Operand) (ho : o.op = .call { callee := .builtin .append, args := #[s, x], argTypes := #[34, 34] }) (B : Nat)
    (v : Value) (Z L : List T3) (hs : a.eval s = v) (hown : w.ownsRow B 24 3 v Z.length (cellsG txV Z)) (u : Value) (B2 : Nat) (hx : a.eval x = u) (hE : w.ownsRow B2 24 3 u L.length (cellsG txV L)) (hn : Z.length + L.length ≤ 1000000) (hB : B ≤ w.heap.size)
    (hK : ∀ v' w', AppRes w w' B 24 3 v v' (Z ++ L).length (cellsG txV (Z ++ L)) → wpList Try.prog ops Q rest (a.put o.dst v') w') : wpList Try.prog ops Q (o :: rest) a w := by
  obtain ⟨ad, c, rfl⟩ := own_shape hE
  obtain ⟨v', w', hr, h2⟩ := run_appW (ty := o.type) Try.underlying34 info_tx rfl (by decide) (by decide) hown ad L.length c (cellsG txV L) (cellsG_len (m := 3) (fun _ => rfl) L) (fun hm => by
      obtain ⟨g, c', e, -, -, hc⟩ := own_pos hE hm
      injection e with e1 e2 e3
      subst e1
      refine ⟨_, rfl, fun j u hj => ?_⟩
      have hlt := (List.getElem?_eq_some_iff.1 hj).1
      rw [cellsG_len (m := 3) (fun _ => rfl)] at hlt
      rw [Addr.add_lit, Nat.zero_add, hc j hlt, hj])
    (fun u hu => by
      obtain ⟨y, -, hy⟩ := List.mem_flatMap.1 hu
      simp [txV] at hy
      rcases hy with rfl | rfl | rfl <;> rfl) hn hB
  refine wpList_runG hgd s x ho hs hx hr (hK v' w' ?_)
  rw [List.length_append]
  unfold cellsG at h2 ⊢
  rw [List.flatMap_append]
  exact h2
end
end Go.Proofs.Ytcpkngkeechjeaa.Past
namespace Go.Proofs.Ytcpkngkeechjeaa.Past
set_option maxRecDepth 100000
open Go.Proofs.Ytcpkngkeechjeaa.Ent (Ent goodB)
structure JoinsP (V X Y : Vw) : Prop where
  dn : V.dn = X.dn ++ Y.dn.filter fun t => decide (t ∉ X.dn)
  pg : ∀ p, getK p V.pg = match getK p X.pg with | some n => some n | none => getK p Y.pg
  rv : Rise ltI V.pg
  rx : Rise ltI X.pg
  ry : Rise ltI Y.pg
  lens : V.dn.length ≤ 80 ∧ V.pg.length ≤ 80 ∧ X.dn.length ≤ 80 ∧ X.pg.length ≤ 80 ∧ Y.dn.length ≤ 80 ∧ Y.pg.length ≤ 80
theorem joins_of (A B : List Ent) (hA : A.length ≤ 40) (hB : B.length ≤ 40) : JoinsP (readV (A ++ B) 1) (readV A 1) (readV B (1 + (A.length : Int))) := by
  have hJ : (A ++ B).length = A.length + B.length := List.length_append
  unfold readV
  rw [if_pos (show okFirst 1 = true from rfl), if_pos (show okFirst 1 = true from rfl), if_pos (show okFirst (1 + (A.length : Int)) = true by unfold okFirst; exact decide_eq_true (by omega))]
  have l1 := read_len (A ++ B) 1 (A ++ B).length
  have l2 := read_len A 1 A.length
  have l3 := read_len B (1 + (A.length : Int)) B.length
  refine ⟨?_, fun p => ?_, (read_rise _).2, (read_rise _).2, (read_rise _).2, by omega, by omega, by omega, by omega, by omega, by omega⟩
  · rw [dn_get _ (Nat.le_refl _), dn_get _ (Nat.le_refl _), dn_get _ (Nat.le_refl _), List.take_length, List.take_length, List.take_length]
    exact dn_joins A B
  · rw [pg_get _ (Nat.le_refl _), pg_get _ (Nat.le_refl _), pg_get _ (Nat.le_refl _), List.take_length, List.take_length, List.take_length]
    exact join_pg A B p 1
theorem JoinsP.more {V X Y : Vw} (h : JoinsP V X Y) : X.pg.length ≤ V.pg.length ∧ Y.pg.length ≤ V.pg.length :=
  ⟨join_len order_int h.rx h.rv fun k hk => by
      rw [h.pg k]
      cases e : getK k X.pg with
      | none => exact absurd e hk
      | some v => simp,
    join_len order_int h.ry h.rv fun k hk => by
      rw [h.pg k]
      cases e : getK k X.pg with
      | none => exact hk
      | some v => simp⟩
/-- the last number told of a page -/
def tellF (p n0 : Int) (L : List (Int × Int)) : Int := L.foldl (fun n y => if y.1 = p then y.2 else n) n0
theorem tell_next {p n0 : Int} {L : List (Int × Int)} {k : Nat} {y : Int × Int} (h : L[k]? = some y) : tellF p n0 (L.take (k + 1)) = if y.1 = p then y.2 else tellF p n0 (L.take k) := by
  unfold tellF
  rw [List.take_add_one, h, List.foldl_append]; rfl
theorem tell_get : ∀ (L : List (Int × Int)) (p n0 : Int), Rise ltI L → tellF p n0 L = (getK p L).getD n0
  | [], p, n0, _ => rfl
  | y :: r, p, n0, h => by
    have h1 : ∀ z ∈ r, ltI y.1 z.1 = true := fun z hz => List.rel_of_pairwise_cons h hz
    have ih := fun n => tell_get r p n (List.Pairwise.of_cons h)
    rw [get_cons]
    show tellF p (if y.1 = p then y.2 else n0) r = _
    rw [ih]
    by_cases e : y.1 = p
    · rw [if_pos e, if_pos e]
      cases h3 : getK p r with
      | none => rfl
      | some v =>
        have h4 := h1 (p, v) (get_mem h3)
        rw [e, order_int.irr] at h4; cases h4
    · rw [if_neg e, if_neg e]
theorem JoinsP.tell {V X Y : Vw} (h : JoinsP V X Y) {i : Nat} {y : Int × Int} (hi : V.pg[i]? = some y) : tellF y.1 (tellF y.1 0 Y.pg) X.pg = y.2 := by
  have hg : getK y.1 V.pg = some y.2 := get_of_mem order_int h.rv (List.mem_of_getElem? hi)
  rw [h.pg] at hg
  rw [tell_get _ _ _ h.rx, tell_get _ _ _ h.ry]
  cases e : getK y.1 X.pg with
  | some v => rw [e] at hg; cases hg; rfl
  | none =>
    rw [e] at hg
    have hg : getK y.1 Y.pg = some y.2 := hg
    rw [hg]; rfl
/-- the names of both that are at their end, as far as they are told -/
def bothT (X Y : List T3) (j : Nat) : List T3 := X ++ (Y.take j).filter fun t => decide (t ∉ X)
theorem both_next {X Y : List T3} {j : Nat} {y : T3} (h : Y[j]? = some y) : bothT X Y (j + 1) = if y ∈ X then bothT X Y j else bothT X Y j ++ [y] := by
  unfold bothT
  rw [List.take_add_one, h, List.filter_append]
  by_cases e : y ∈ X
  · rw [if_pos e]; simp [e]
  · rw [if_neg e]; simp [e]
theorem both_zero (X Y : List T3) : bothT X Y 0 = X := by simp [bothT]
theorem both_all {V X Y : Vw} (h : JoinsP V X Y) : bothT X.dn Y.dn Y.dn.length = V.dn := by
  unfold bothT
  rw [List.take_length, h.dn]
theorem both_len (X Y : List T3) (j : Nat) : (bothT X Y j).length ≤ X.length + Y.length := by
  unfold bothT
  have h1 := List.length_filter_le (fun t => decide (t ∉ X)) (Y.take j)
  rw [List.length_append]
  rw [List.length_take] at h1
  omega
theorem hasT_next {O : List T3} {k : Nat} {x : T3} (p : T3 → Bool) (h : O[k]? = some x) : (O.take (k + 1)).any p = ((O.take k).any p || p x) := by
  rw [List.take_add_one, h, List.any_append]; simp
theorem hasT_mem (X : List T3) (y : T3) : X.any (fun s => sameT s y) = decide (y ∈ X) := by
  rw [Bool.eq_iff_iff, List.any_eq_true, decide_eq_true_iff]
  constructor
  · rintro ⟨s, hs, h⟩
    rw [sameT_eq] at h
    exact of_decide_eq_true h ▸ hs
  · intro h
    exact ⟨y, h, by rw [sameT_eq]; simp⟩
end Go.Proofs.Ytcpkngkeechjeaa.Past
namespace Go.Proofs.Ytcpkngkeechjeaa.Past
set_option maxRecDepth 100000
open Go.RowKit Go.Sort
open Go.Proofs.Ytcpkngkeechjeaa.Mem
open Go.Proofs.Ytcpkngkeechjeaa.Ent (Ent goodB Ents EntAt SmallE noE entA cellsE)
set_option maxRecDepth 100000 in
set_option maxHeartbeats 32000000 in
theorem joins_walk (a : Option Addr) (n c : Nat) (A : List Ent) (b : Option Addr) (m d : Nat) (B : List Ent) (w : World) (hA : Ents w a n A) (hB : Ents w b m B) :
    Calls Try.prog 7 #[.slice a n c, .slice b m d] w fun e w' => e = .returned (.bool true) ∧ Below w.heap.size w w' := by
  have HA := Lib.hid hA
  have HB := Lib.hid hB
  have HGA := Lib.hid (fun W (h : Ents W a n A) => great_any a n c A W h)
  have HGB := Lib.hid (fun W (h : Ents W b m B) => great_any b m d B W h)
  clear hA hB
  go_enter Try.func7, Try.ntmps7
  go_wp2_with fail
  refine (awake_any _).mono ?_
  rintro e w1 ⟨rfl, b1⟩
  have HA1 := Lib.hid (HA.out.next b1)
  have HB1 := Lib.hid (HB.out.next b1)
  have HW1 := Lib.hid b1
  clear b1 HA HB
  by_cases h1 : 40 < n
  · have e1 : decide ((n : Int) > 40) = true := decide_eq_true (by omega)
    go_wp2
    go_ret
    exact ⟨rfl, HW1.out⟩
  by_cases h2 : 40 < m
  · have e1 : decide ((n : Int) > 40) = false := decide_eq_false (by omega)
    have e2 : decide ((m : Int) > 40) = true := decide_eq_true (by omega)
    go_wp2
    go_ret
    exact ⟨rfl, HW1.out⟩
  have e1 : decide ((n : Int) > 40) = false := decide_eq_false (by omega)
  have e2 : decide ((m : Int) > 40) = false := decide_eq_false (by omega)
  go_wp2_with fail
  refine (HGA.out _ HA1.out).mono ?_
  rintro e w2 ⟨G, rfl, -, rfl⟩
  clear HGA
  cases G with
  | true =>
    go_wp2
    go_ret
    exact ⟨rfl, HW1.out⟩
  | false =>
  go_wp2_with fail
  refine (HGB.out _ HB1.out).mono ?_
  rintro e w3 ⟨G, rfl, -, rfl⟩
  clear HGB
  cases G with
  | true =>
    go_wp2
    go_ret
    exact ⟨rfl, HW1.out⟩
  | false =>
  clear e1 e2
  go_wp2_with (at_builtin; refine wpList_wholeE rfl _ _ rfl w3.heap.size _ [] A rfl (own_new w3 31 13) a n c rfl (HA1.out.next (Ent.below_box w3 _)) (by simp; omega) (by simp) ?_)
  intro v4 w4 hR4
  have HW4 := Lib.hid (show Below w3.heap.size w3 w4 from below_grown (Ent.below_box w3 _) (by simp) hR4.2.1 fun k e => own_ge (own_new w3 31 13) e)
  have hr4 := hR4.1
  try rw [List.nil_append] at hr4
  obtain ⟨va4, vc4, rfl⟩ := own_shape hr4
  have HR4 := Lib.hid hr4
  have hz4 : A.length + m ≤ 1000000 := by have := HA1.out.1; omega
  clear hR4 hr4
  go_wp2_with (at_builtin; refine wpList_wholeE rfl _ _ rfl w3.heap.size _ A B rfl HR4.out b m d rfl (HB1.out.next HW4.out) hz4 HW4.out.size ?_)
  intro v5 w5 hR5
  rw [← List.length_append] at hR5
  have HW5 := Lib.hid (below_go HW1.out (below_grown HW4.out HW4.out.size hR5.2.1 fun k e => own_ge HR4.out e))
  have HA5 := Lib.hid (HA1.out.next (below_grown HW4.out HW4.out.size hR5.2.1 fun k e => own_ge HR4.out e))
  have HB5 := Lib.hid (HB1.out.next (below_grown HW4.out HW4.out.size hR5.2.1 fun k e => own_ge HR4.out e))
  obtain ⟨va, vc, rfl, hve, -⟩ := ents_own hR5.1 (fun x hx => by
    rcases List.mem_append.1 hx with h | h
    · exact HA1.out.2.1 x h
    · exact HB1.out.2.1 x h)
  have HJP := Lib.hid (joins_of A B (by have := HA1.out.1; omega) (by have := HB1.out.1; omega))
  rw [HA1.out.1] at HJP
  have HRD := Lib.hid (read_any va _ vc _ 1 w5 hve (by have h3 := HA1.out.1; have h4 := HB1.out.1; simp; omega))
  have HRA := Lib.hid (fun W (h : Ents W a n A) => read_any a n c A 1 W h (by omega))
  have HRB := Lib.hid (fun W (h : Ents W b m B) => read_any b m d B (1 + (n : Int)) W h (by omega))
  generalize readV (A ++ B) 1 = V at HJP HRD
  generalize readV A 1 = X at HJP HRA
  generalize readV B (1 + (n : Int)) = Y at HJP HRB
  obtain ⟨q, hq⟩ : ∃ q, (A ++ B).length = q := ⟨_, rfl⟩
  rw [hq] at HRD ⊢
  clear hq hve hR5 hz4 HA1 HB1 HW1 HR4 HW4
  go_wp2_with fail
  refine HRD.out.mono ?_
  rintro e w6 ⟨sl1, dn1, pg1, rfl, hr, b6⟩
  have HW6 := Lib.hid (below_go HW5.out b6)
  have HA6 := Lib.hid (HA5.out.next b6)
  have HB6 := Lib.hid (HB5.out.next b6)
  obtain ⟨sa1, sc1, rfl⟩ := own_shape hr.lo
  obtain ⟨da1, dc1, rfl⟩ := own_shape hr.tx
  obtain ⟨pa1, pc1, rfl⟩ := own_shape hr.fi
  have HV := Lib.hid (VB.new hr)
  have hbx := Ent.below_box w6 (.cells #[.slice sa1 V.los.length sc1, .slice da1 V.dn.length dc1, .slice pa1 V.pg.length pc1] 37)
  have HW7 := Lib.hid (below_go HW6.out hbx)
  have HA7 := Lib.hid (HA6.out.next hbx)
  have HB7 := Lib.hid (HB6.out.next hbx)
  clear hr b6 hbx HRD HA5 HB5 HW5 HW6 HA6 HB6
  go_upto_region 6 with (fail)
  generalize w6.alloc (.cells #[.slice sa1 V.los.length sc1, .slice da1 V.dn.length dc1, .slice pa1 V.pg.length pc1] 37) = w7 at HV HW7 HA7 HB7 ⊢
  generalize w6.heap.size = u1 at HV ⊢
  have HRA2 := Lib.hid (HRA.out _ HA7.out)
  clear HRA
  go_wp2_with fail
  refine HRA2.out.mono ?_
  rintro e w8 ⟨sl2, dn2, pg2, rfl, hr, b8⟩
  obtain ⟨sa2, sc2, rfl⟩ := own_shape hr.lo
  obtain ⟨da2, dc2, rfl⟩ := own_shape hr.tx
  obtain ⟨pa2, pc2, rfl⟩ := own_shape hr.fi
  have HX := Lib.hid (VB.new hr)
  have hbx := Ent.below_box w8 (.cells #[.slice sa2 X.los.length sc2, .slice da2 X.dn.length dc2, .slice pa2 X.pg.length pc2] 37)
  have HW9 := Lib.hid (below_go HW7.out (below_go b8 hbx))
  have HB9 := Lib.hid (HB7.out.next (below_go b8 hbx))
  have HV9 := Lib.hid (HV.out.below (below_go b8 hbx))
  clear hr b8 hbx HRA2 HW7 HA7 HB7 HV
  go_upto_region 7 with (fail)
  generalize w8.alloc (.cells #[.slice sa2 X.los.length sc2, .slice da2 X.dn.length dc2, .slice pa2 X.pg.length pc2] 37) = w9 at HX HW9 HB9 HV9 ⊢
  generalize w8.heap.size = u2 at HX ⊢
  have HRB2 := Lib.hid (HRB.out _ HB9.out)
  clear HRB
  have hw : IntKind.i64.wrap (1 + (n : Int)) = 1 + (n : Int) := by rw [IntKind.wrap_i64]; omega
  go_wp2_with fail
  refine HRB2.out.mono ?_
  rintro e w10 ⟨sl3, dn3, pg3, rfl, hr, b10⟩
  obtain ⟨sa3, sc3, rfl⟩ := own_shape hr.lo
  obtain ⟨da3, dc3, rfl⟩ := own_shape hr.tx
  obtain ⟨pa3, pc3, rfl⟩ := own_shape hr.fi
  have HY := Lib.hid (VB.new hr)
  have hbx := Ent.below_box w10 (.cells #[.slice sa3 Y.los.length sc3, .slice da3 Y.dn.length dc3, .slice pa3 Y.pg.length pc3] 37)
  have HW := Lib.hid (below_go HW9.out (below_go b10 hbx))
  have HV := Lib.hid (HV9.out.below (below_go b10 hbx))
  have HX2 := Lib.hid (HX.out.below (below_go b10 hbx))
  clear hr b10 hbx HRB2 HW9 HB9 HV9 HX
  go_upto_region 8 with (fail)
  generalize w10.alloc (.cells #[.slice sa3 Y.los.length sc3, .slice da3 Y.dn.length dc3, .slice pa3 Y.pg.length pc3] 37) = w11 at HY HW HV HX2 ⊢
  generalize w10.heap.size = u3 at HY ⊢
  obtain ⟨BX, hrx⟩ := HX2.out.rows
  have x1 := (HX2.out.below (Ent.below_box w11 (.cells #[] 24))).blk.cell 1
  go_wp2_with (at_builtin; refine wpList_wholeT rfl _ _ rfl w11.heap.size _ [] X.dn rfl (own_new w11 24 3) _ BX rfl (own_below hrx.tx (Ent.below_box w11 _)) (by have := HJP.out.lens; simp; omega) (by simp) ?_)
  intro v12 w12 hR
  try rw [List.nil_append] at hR
  have H12 := Lib.hid (show w12.ownsRow w11.heap.size 24 3 v12 X.dn.length (cellsG txV X.dn) ∧ Below w11.heap.size w11 w12 from ⟨hR.1, below_grown (Ent.below_box w11 _) (by simp) hR.2.1 fun k e => own_ge (own_new w11 24 3) e⟩)
  clear hR hrx x1
  obtain ⟨va, vc, rfl⟩ := own_shape H12.out.1
  have hlens := HJP.out.lens
  go_wp2
  go_loopw [8, 9] (fun dv iv wr => ∃ j : Nat, j ≤ Y.dn.length ∧ iv = .int .i64 (j : Int) ∧ Hid (wr.ownsRow w11.heap.size 24 3 dv (bothT X.dn Y.dn j).length (cellsG txV (bothT X.dn Y.dn j)) ∧ Below w11.heap.size w11 wr)) (fun _ iv _ => Y.dn.length - intN iv)
  case atStart => exact ⟨0, Nat.zero_le _, rfl, by rw [both_zero]; exact H12⟩
  case round =>
    clear H12
    obtain ⟨j, hj, rfl, H⟩ := hrel
    obtain ⟨ga, gc, rfl⟩ := own_shape H.out.1
    have HXR := Lib.hid (HX2.out.below H.out.2)
    have HYR := Lib.hid (HY.out.below H.out.2)
    have y1 := HYR.out.blk.cell 1
    by_cases hjl : j < Y.dn.length
    · as_aux_lemma =>
        have hy : Y.dn[j]? = some (Y.dn[j]'hjl) := List.getElem?_eq_getElem hjl
        generalize Y.dn[j]'hjl = y at hy
        have hd1 : decide ((j : Int) < (Y.dn.length : Int)) = true := decide_eq_true (by omega)
        have HBN := Lib.hid (both_next (X := X.dn) hy)
        have HBL := Lib.hid (both_len X.dn Y.dn j)
        generalize bothT X.dn Y.dn j = O at H HBN HBL ⊢
        obtain ⟨BY, hry⟩ := HYR.out.rows
        obtain ⟨gy, cy, eY, -, -, t0, t1, t2⟩ := hry.done hy
        injection eY with eY1 eY2 eY3
        subst eY1 eY3
        have HT := Lib.hid (And.intro t0 (And.intro t1 t2))
        clear hry eY2 t0 t1 t2 hy
        go_wp2
        go_loopw [10, 11] (fun sv kv wz => ∃ (k : Nat) (ib : Bool) (q : Nat), k ≤ X.dn.length ∧ kv = .int .i64 (k : Int) ∧ sv = .bool ib ∧ wz = wr.drewN q ∧ Hid (ib = (X.dn.take k).any fun s => sameT s y)) (fun _ kv _ => X.dn.length - intN kv)
        case atStart => exact ⟨0, false, 0, Nat.zero_le _, rfl, rfl, rfl, Lib.hid (by simp)⟩
        case round =>
          clear y1
          obtain ⟨k, ib, q, hk, rfl, rfl, rfl, HIB⟩ := hrel
          have x1 : (wr.drewN q).cell? ⟨u2, 1, none⟩ = some (.slice da2 X.dn.length dc2) := HXR.out.blk.cell 1
          have y1 : (wr.drewN q).cell? ⟨u3, 1, none⟩ = some (.slice (some ⟨gy, 0, none⟩) Y.dn.length dc3) := HYR.out.blk.cell 1
          have t0 : (wr.drewN q).cell? ⟨gy, j * 3, none⟩ = some (.int .i64 y.cl) := HT.out.1
          have t1 : (wr.drewN q).cell? ⟨gy, j * 3 + 1, none⟩ = some (.int .i64 y.ep) := HT.out.2.1
          have t2 : (wr.drewN q).cell? ⟨gy, j * 3 + 2, none⟩ = some (.int .i64 y.n) := HT.out.2.2
          by_cases hkl : k < X.dn.length
          · as_aux_lemma =>
              have hx : X.dn[k]? = some (X.dn[k]'hkl) := List.getElem?_eq_getElem hkl
              generalize X.dn[k]'hkl = x at hx
              obtain ⟨BX2, hrx⟩ := HXR.out.rows
              obtain ⟨gx, cx, eX, -, -, s0, s1, s2⟩ := hrx.done hx
              injection eX with eX1 eX2 eX3
              subst eX1 eX3
              have s0 : (wr.drewN q).cell? ⟨gx, k * 3, none⟩ = some (.int .i64 x.cl) := s0
              have s1 : (wr.drewN q).cell? ⟨gx, k * 3 + 1, none⟩ = some (.int .i64 x.ep) := s1
              have s2 : (wr.drewN q).cell? ⟨gx, k * 3 + 2, none⟩ = some (.int .i64 x.n) := s2
              have hd3 : decide ((k : Int) < (X.dn.length : Int)) = true := decide_eq_true (by omega)
              have hq := fun W => run_eq_txn x y W
              have hgd := fun (A B : Operand) xs ys W => run_guard_txn .eql A B xs ys W
              have HNX := Lib.hid (hasT_next (fun s => sameT s y) hx)
              obtain ⟨sb, hsb⟩ : ∃ sb, sameT x y = sb := ⟨_, rfl⟩
              rw [hsb] at hq
              have HSB := Lib.hid hsb
              clear hx hrx eX2 hsb
              obtain ⟨wq, hwq⟩ : ∃ wq, wr.drewN q = wq := ⟨_, rfl⟩
              have HWQ := Lib.hid hwq
              rw [hwq] at x1 y1 s0 s1 s2 t0 t1 t2
              rw [hwq]
              clear hwq
              cases ib with
              | true =>
                have HE2 := Lib.hid (show true = (X.dn.take (k + 1)).any (fun s => sameT s y) by rw [HNX.out, ← HIB.out]; rfl)
                clear HNX HIB HSB HT HXR HYR H HBN HBL HX2 HY HV HW HJP
                go_upto_region 16 with (fail)
                go_quiet (fail)
                rw [← HWQ.out, World.drewN_drewN]
                go_wp2
                go_roundw
                case rel => exact ⟨k + 1, true, q + nq, by omega, by go_num, rfl, by first | rfl | trivial, HE2⟩
                case measure => simp [intN]; omega
              | false =>
                cases sb with
                | false =>
                  have HE2 := Lib.hid (show false = (X.dn.take (k + 1)).any (fun s => sameT s y) by rw [HNX.out, ← HIB.out, HSB.out]; rfl)
                  clear HNX HIB HSB HT HXR HYR H HBN HBL HX2 HY HV HW HJP
                  go_upto_region 16 with (fail)
                  go_quiet (fail)
                  rw [← HWQ.out, World.drewN_drewN]
                  go_wp2
                  go_roundw
                  case rel => exact ⟨k + 1, false, q + nq, by omega, by go_num, rfl, by first | rfl | trivial, HE2⟩
                  case measure => simp [intN]; omega
                | true =>
                  have HE2 := Lib.hid (show true = (X.dn.take (k + 1)).any (fun s => sameT s y) by rw [HNX.out, ← HIB.out, HSB.out]; rfl)
                  clear HNX HIB HSB HT HXR HYR H HBN HBL HX2 HY HV HW HJP
                  go_upto_region 16 with (fail)
                  go_quiet (fail)
                  rw [← HWQ.out, World.drewN_drewN]
                  go_wp2
                  go_roundw
                  case rel => exact ⟨k + 1, true, q + nq, by omega, by go_num, rfl, by first | rfl | trivial, HE2⟩
                  case measure => simp [intN]; omega
          · obtain rfl : k = X.dn.length := by omega
            have hd3 : decide ((X.dn.length : Int) < (X.dn.length : Int)) = false := decide_eq_false (by omega)
            have hib : ib = decide (y ∈ X.dn) := by rw [HIB.out, List.take_length, hasT_mem]
            have HQ := Lib.hid (quiet_next H.out.1 H.out.2 q)
            clear HIB H HXR HYR HT
            generalize wr.drewN q = w13 at HQ x1 y1 t0 t1 t2 ⊢
            cases ib with
            | true =>
              have HN2 := Lib.hid (show bothT X.dn Y.dn (j + 1) = O by rw [HBN.out, if_pos (of_decide_eq_true hib.symm)])
              clear HBN hib
              go_wp2
              go_roundw
              case rel => exact ⟨j + 1, by omega, by go_num, by rw [HN2.out]; exact HQ⟩
              case measure => simp [intN]; omega
            | false =>
              have HN2 := Lib.hid (show bothT X.dn Y.dn (j + 1) = O ++ [y] by rw [HBN.out, if_neg (of_decide_eq_false hib.symm)])
              clear HBN hib
              have hol : O.length ≤ 2000000 := by have := HBL.out; omega
              have hsz := HQ.out.2.size
              go_wp2_with (at_builtin; refine wpList_appT rfl _ _ rfl w11.heap.size _ O rfl y (own_below HQ.out.1 (Ent.below_box _ _)) w13.heap.size rfl (Blk.new w13 _ _) hol (by simp; omega) ?_)
              intro v6 w6 hA6
              obtain ⟨O2, hO2⟩ : ∃ O2, O ++ [y] = O2 := ⟨_, rfl⟩
              have hl2 : O.length + 1 = O2.length := by rw [← hO2]; simp
              rw [hl2, hO2] at hA6
              rw [hO2] at HN2
              have H6 := Lib.hid (app_next HQ.out.1 HQ.out.2 hA6)
              clear hl2 hO2 hA6 HQ
              go_wp2
              go_roundw
              case rel => exact ⟨j + 1, by omega, by go_num, by rw [HN2.out]; exact H6⟩
              case measure => simp [intN]; omega
    · obtain rfl : j = Y.dn.length := by omega
      have hd1 : decide ((Y.dn.length : Int) < (Y.dn.length : Int)) = false := decide_eq_false (by omega)
      have e1 : ((V.dn.length : Int) != (V.dn.length : Int)) = false := by simp
      have HVR := Lib.hid (HV.out.below H.out.2)
      rw [both_all HJP.out] at H
      rw [both_all HJP.out]
      have HWR := Lib.hid (below_go HW.out H.out.2)
      have HO := Lib.hid H.out.1
      have v1 := HVR.out.blk.cell 1
      clear H HW HV HX2 HY
      go_wp2
      go_loopw [12] (fun iv wz => ∃ (k q : Nat), k ≤ V.dn.length ∧ iv = .int .i64 (k : Int) ∧ wz = wr.drewN q) (fun iv _ => V.dn.length - intN iv)
      case atStart => exact ⟨0, 0, Nat.zero_le _, rfl, rfl⟩
      case round =>
        clear v1 y1 hd1
        obtain ⟨k, q, hk, rfl, rfl⟩ := hrel
        by_cases hkl : k < V.dn.length
        · as_aux_lemma =>
            have hx : V.dn[k]? = some (V.dn[k]'hkl) := List.getElem?_eq_getElem hkl
            generalize V.dn[k]'hkl = x at hx
            have hd3 : decide ((k : Int) < (V.dn.length : Int)) = true := decide_eq_true (by omega)
            have v1 : (wr.drewN q).cell? ⟨u1, 1, none⟩ = some (.slice da1 V.dn.length dc1) := HVR.out.blk.cell 1
            obtain ⟨BV, hrv⟩ := HVR.out.rows
            obtain ⟨gx, cx, eX, -, -, s0, s1, s2⟩ := hrv.done hx
            injection eX with eX1 eX2 eX3
            subst eX1 eX3
            obtain ⟨go, co, eO, -, -, -, hc⟩ := own_at (f := txV) (m := 3) (fun _ => rfl) HO.out hx
            have o0 := hc 0 _ (by decide) rfl
            have o1 := hc 1 _ (by decide) rfl
            have o2 := hc 2 _ (by decide) rfl
            injection eO with eO1 eO2 eO3
            subst eO1 eO3
            have s0 : (wr.drewN q).cell? ⟨gx, k * 3, none⟩ = some (.int .i64 x.cl) := s0
            have s1 : (wr.drewN q).cell? ⟨gx, k * 3 + 1, none⟩ = some (.int .i64 x.ep) := s1
            have s2 : (wr.drewN q).cell? ⟨gx, k * 3 + 2, none⟩ = some (.int .i64 x.n) := s2
            have o0 : (wr.drewN q).cell? ⟨go, k * 3, none⟩ = some (.int .i64 x.cl) := o0
            have o1 : (wr.drewN q).cell? ⟨go, k * 3 + 1, none⟩ = some (.int .i64 x.ep) := o1
            have o2 : (wr.drewN q).cell? ⟨go, k * 3 + 2, none⟩ = some (.int .i64 x.n) := o2
            have hq := fun W => run_ne_txn x x W
            rw [show sameT x x = true by rw [sameT_eq]; simp] at hq
            have hgd := fun (A B : Operand) xs ys W => run_guard_txn .neq A B xs ys W
            clear hx hrv eX2 eO2 hc HVR HXR HYR HO HWR HJP
            obtain ⟨wq, hwq⟩ : ∃ wq, wr.drewN q = wq := ⟨_, rfl⟩
            have HWQ := Lib.hid hwq
            rw [hwq] at v1 s0 s1 s2 o0 o1 o2
            rw [hwq]
            clear hwq
            go_upto_region 24 with (fail)
            go_quiet (fail)
            rw [← HWQ.out, World.drewN_drewN]
            go_wp2
            go_roundw
            case rel => exact ⟨k + 1, q + nq, by omega, by go_num, by first | rfl | trivial⟩
            case measure => simp [intN]; omega
        · obtain rfl : k = V.dn.length := by omega
          have hd3 : decide ((V.dn.length : Int) < (V.dn.length : Int)) = false := decide_eq_false (by omega)
          have hdb := drewN_below wr q
          have HW2 := Lib.hid (below_go HWR.out hdb)
          have HV3 := Lib.hid (HVR.out.below hdb)
          have HX3 := Lib.hid (HXR.out.below hdb)
          have HY3 := Lib.hid (HYR.out.below hdb)
          clear hdb HO HVR HXR HYR HWR
          generalize wr.drewN q = w15 at HW2 HV3 HX3 HY3 ⊢
          have v2 := HV3.out.blk.cell 2
          clear hw
          go_wp2
          go_loopw [13] (fun iv wz => ∃ (i q : Nat), i ≤ V.pg.length ∧ iv = .int .i64 (i : Int) ∧ wz = w15.drewN q) (fun iv _ => V.pg.length - intN iv)
          case atStart => exact ⟨0, 0, Nat.zero_le _, rfl, rfl⟩
          case round =>
            clear v2 hd3 hk hkl
            obtain ⟨i, q, hi, rfl, rfl⟩ := hrel
            have v2 : (w15.drewN q).cell? ⟨u1, 2, none⟩ = some (.slice pa1 V.pg.length pc1) := HV3.out.blk.cell 2
            by_cases hil : i < V.pg.length
            · as_aux_lemma =>
                have hz : V.pg[i]? = some (V.pg[i]'hil) := List.getElem?_eq_getElem hil
                generalize V.pg[i]'hil = z at hz
                have hd4 : decide ((i : Int) < (V.pg.length : Int)) = true := decide_eq_true (by omega)
                have HTELL := Lib.hid (HJP.out.tell hz)
                obtain ⟨BV, hrv⟩ := HV3.out.rows
                obtain ⟨gv, cv, eV, -, -, z0, z1⟩ := hrv.page hz
                injection eV with eV1 eV2 eV3
                subst eV1 eV3
                have HZ := Lib.hid (And.intro z0 z1)
                clear hrv eV2 z0 z1 hz HJP HW2
                go_wp2
                go_loopw [14, 15] (fun nv kv wz => ∃ (k : Nat) (nn : Int) (q : Nat), k ≤ Y.pg.length ∧ kv = .int .i64 (k : Int) ∧ nv = .int .i64 nn ∧ wz = w15.drewN q ∧ Hid (nn = tellF z.1 0 (Y.pg.take k))) (fun _ kv _ => Y.pg.length - intN kv)
                case atStart => exact ⟨0, 0, q, Nat.zero_le _, rfl, rfl, rfl, Lib.hid rfl⟩
                case round =>
                  clear v2
                  obtain ⟨k, nn, q, hk, rfl, rfl, rfl, HN⟩ := hrel
                  have y2 : (w15.drewN q).cell? ⟨u3, 2, none⟩ = some (.slice pa3 Y.pg.length pc3) := HY3.out.blk.cell 2
                  by_cases hkl : k < Y.pg.length
                  · as_aux_lemma =>
                      have hy : Y.pg[k]? = some (Y.pg[k]'hkl) := List.getElem?_eq_getElem hkl
                      generalize Y.pg[k]'hkl = y at hy
                      have hd5 : decide ((k : Int) < (Y.pg.length : Int)) = true := decide_eq_true (by omega)
                      obtain ⟨BY, hry⟩ := HY3.out.rows
                      obtain ⟨gy, cy, eY, -, -, s0, s1⟩ := hry.page hy
                      injection eY with eY1 eY2 eY3
                      subst eY1 eY3
                      have s0 : (w15.drewN q).cell? ⟨gy, k * 2, none⟩ = some (.int .i64 y.1) := s0
                      have z0 : (w15.drewN q).cell? ⟨gv, i * 2, none⟩ = some (.int .i64 z.1) := HZ.out.1
                      have v2 : (w15.drewN q).cell? ⟨u1, 2, none⟩ = some (.slice (some ⟨gv, 0, none⟩) V.pg.length pc1) := HV3.out.blk.cell 2
                      have HNX := Lib.hid (tell_next (p := z.1) (n0 := 0) hy)
                      have HC := Lib.hid s1
                      have HU := Lib.hid (HY3.out.blk.cell 2)
                      clear hry eY2 hy s1
                      obtain ⟨wq, hwq⟩ : ∃ wq, w15.drewN q = wq := ⟨_, rfl⟩
                      have HWQ := Lib.hid hwq
                      rw [hwq] at y2 v2 s0 z0
                      rw [hwq]
                      clear hwq
                      by_cases he : y.1 = z.1
                      · have f1 : (y.1 == z.1) = true := by simp [he]
                        have HE2 := Lib.hid (show y.2 = tellF z.1 0 (Y.pg.take (k + 1)) by rw [HNX.out, if_pos he])
                        clear he HNX HN
                        go_upto_region 33 with (fail)
                        go_quiet (fail)
                        rw [← HWQ.out, World.drewN_drewN]
                        clear y2 v2 s0 z0
                        have y2 : (w15.drewN (q + nq)).cell? ⟨u3, 2, none⟩ = some (.slice (some ⟨gy, 0, none⟩) Y.pg.length pc3) := HU.out
                        have s1 : (w15.drewN (q + nq)).cell? ⟨gy, k * 2 + 1, none⟩ = some (.int .i64 y.2) := HC.out
                        go_wp2
                        go_roundw
                        case rel => exact ⟨k + 1, y.2, q + nq, by omega, by go_num, by first | rfl | trivial, by first | rfl | trivial, HE2⟩
                        case measure => simp [intN]; omega
                      · have f1 : (y.1 == z.1) = false := by simp [he]
                        have HE2 := Lib.hid (show nn = tellF z.1 0 (Y.pg.take (k + 1)) by rw [HNX.out, if_neg he]; exact HN.out)
                        clear he HNX HN
                        go_upto_region 33 with (fail)
                        go_quiet (fail)
                        rw [← HWQ.out, World.drewN_drewN]
                        clear y2 v2 s0 z0
                        go_wp2
                        go_roundw
                        case rel => exact ⟨k + 1, nn, q + nq, by omega, by go_num, by first | rfl | trivial, by first | rfl | trivial, HE2⟩
                        case measure => simp [intN]; omega
                  · obtain rfl : k = Y.pg.length := by omega
                    have hd5 : decide ((Y.pg.length : Int) < (Y.pg.length : Int)) = false := decide_eq_false (by omega)
                    have hN := HN.out
                    rw [List.take_length] at hN
                    have HM := Lib.hid hN
                    clear hN HN
                    go_wp2
                    go_loopw [14, 16] (fun nv kv wz => ∃ (k : Nat) (n2 : Int) (q : Nat), k ≤ X.pg.length ∧ kv = .int .i64 (k : Int) ∧ nv = .int .i64 n2 ∧ wz = w15.drewN q ∧ Hid (n2 = tellF z.1 nn (X.pg.take k))) (fun _ kv _ => X.pg.length - intN kv)
                    case atStart => exact ⟨0, nn, q, Nat.zero_le _, rfl, rfl, rfl, Lib.hid rfl⟩
                    case round =>
                      clear y2 hd5 hk hkl
                      obtain ⟨k, n2, q, hk, rfl, rfl, rfl, HN⟩ := hrel
                      have y2 : (w15.drewN q).cell? ⟨u2, 2, none⟩ = some (.slice pa2 X.pg.length pc2) := HX3.out.blk.cell 2
                      by_cases hkl : k < X.pg.length
                      · as_aux_lemma =>
                          have hy : X.pg[k]? = some (X.pg[k]'hkl) := List.getElem?_eq_getElem hkl
                          generalize X.pg[k]'hkl = y at hy
                          have hd5 : decide ((k : Int) < (X.pg.length : Int)) = true := decide_eq_true (by omega)
                          obtain ⟨BY, hry⟩ := HX3.out.rows
                          obtain ⟨gy, cy, eY, -, -, s0, s1⟩ := hry.page hy
                          injection eY with eY1 eY2 eY3
                          subst eY1 eY3
                          have s0 : (w15.drewN q).cell? ⟨gy, k * 2, none⟩ = some (.int .i64 y.1) := s0
                          have z0 : (w15.drewN q).cell? ⟨gv, i * 2, none⟩ = some (.int .i64 z.1) := HZ.out.1
                          have v2 : (w15.drewN q).cell? ⟨u1, 2, none⟩ = some (.slice (some ⟨gv, 0, none⟩) V.pg.length pc1) := HV3.out.blk.cell 2
                          have HNX := Lib.hid (tell_next (p := z.1) (n0 := nn) hy)
                          have HC := Lib.hid s1
                          have HU := Lib.hid (HX3.out.blk.cell 2)
                          clear hry eY2 hy s1
                          obtain ⟨wq, hwq⟩ : ∃ wq, w15.drewN q = wq := ⟨_, rfl⟩
                          have HWQ := Lib.hid hwq
                          rw [hwq] at y2 v2 s0 z0
                          rw [hwq]
                          clear hwq
                          by_cases he : y.1 = z.1
                          · have f1 : (y.1 == z.1) = true := by simp [he]
                            have HE2 := Lib.hid (show y.2 = tellF z.1 nn (X.pg.take (k + 1)) by rw [HNX.out, if_pos he])
                            clear he HNX HN
                            go_upto_region 38 with (fail)
                            go_quiet (fail)
                            rw [← HWQ.out, World.drewN_drewN]
                            clear y2 v2 s0 z0
                            have y2 : (w15.drewN (q + nq)).cell? ⟨u2, 2, none⟩ = some (.slice (some ⟨gy, 0, none⟩) X.pg.length pc2) := HU.out
                            have s1 : (w15.drewN (q + nq)).cell? ⟨gy, k * 2 + 1, none⟩ = some (.int .i64 y.2) := HC.out
                            go_wp2
                            go_roundw
                            case rel => exact ⟨k + 1, y.2, q + nq, by omega, by go_num, by first | rfl | trivial, by first | rfl | trivial, HE2⟩
                            case measure => simp [intN]; omega
                          · have f1 : (y.1 == z.1) = false := by simp [he]
                            have HE2 := Lib.hid (show n2 = tellF z.1 nn (X.pg.take (k + 1)) by rw [HNX.out, if_neg he]; exact HN.out)
                            clear he HNX HN
                            go_upto_region 38 with (fail)
                            go_quiet (fail)
                            rw [← HWQ.out, World.drewN_drewN]
                            clear y2 v2 s0 z0
                            go_wp2
                            go_roundw
                            case rel => exact ⟨k + 1, n2, q + nq, by omega, by go_num, by first | rfl | trivial, by first | rfl | trivial, HE2⟩
                            case measure => simp [intN]; omega
                      · obtain rfl : k = X.pg.length := by omega
                        have hd5 : decide ((X.pg.length : Int) < (X.pg.length : Int)) = false := decide_eq_false (by omega)
                        have hN : n2 = z.2 := by
                          rw [HN.out, List.take_length, HM.out]
                          exact HTELL.out
                        have e2 : (z.2 != z.2) = false := by simp
                        have v2 : (w15.drewN q).cell? ⟨u1, 2, none⟩ = some (.slice (some ⟨gv, 0, none⟩) V.pg.length pc1) := HV3.out.blk.cell 2
                        have z1 : (w15.drewN q).cell? ⟨gv, i * 2 + 1, none⟩ = some (.int .i64 z.2) := HZ.out.2
                        clear HN HM HTELL
                        subst hN
                        go_wp2
                        go_roundw
                        case rel => exact ⟨i + 1, q, by omega, by go_num, rfl⟩
                        case measure => simp [intN]; omega
            · obtain rfl : i = V.pg.length := by omega
              have hd4 : decide ((V.pg.length : Int) < (V.pg.length : Int)) = false := decide_eq_false (by omega)
              have hm1 : X.pg.length ≤ V.pg.length := HJP.out.more.1
              have hm2 : Y.pg.length ≤ V.pg.length := HJP.out.more.2
              have hm3 : (X.pg.length : Int) ≤ (V.pg.length : Int) := by omega
              have hm4 : (Y.pg.length : Int) ≤ (V.pg.length : Int) := by omega
              have x2 : (w15.drewN q).cell? ⟨u2, 2, none⟩ = some (.slice pa2 X.pg.length pc2) := HX3.out.blk.cell 2
              have y2 : (w15.drewN q).cell? ⟨u3, 2, none⟩ = some (.slice pa3 Y.pg.length pc3) := HY3.out.blk.cell 2
              have HF := Lib.hid (below_go HW2.out (drewN_below w15 q))
              clear HW2 HJP HV3 HX3 HY3
              go_wp2
              go_ret
              exact ⟨by first | rfl | simp, HF.out⟩
end Go.Proofs.Ytcpkngkeechjeaa.Past
namespace Go.Proofs.Ytcpkngkeechjeaa.pastJoins
set_option maxRecDepth 100000
open Go.ChangeShapes Go.WideShapes Go.ChangeAt Go.RowKit
open Go.ChangeMaps (open_string)
theorem own : ownKnob Try.prog.godebug = none := by kernel_rfl
theorem laidOut : laidOutB Try.prog = true := by kernel_rfl
theorem fits_of {a : Int} (h : (Lit.int .i64 a).wf = true) : -9223372036854775808 ≤ a ∧ a ≤ 9223372036854775807 := by
  unfold Lit.wf at h; simp [IntKind.min, IntKind.max, IntKind.signed, IntKind.bits] at h; omega
set_option maxRecDepth 100000 in
theorem lifted (os : Os) (started : os.Started) (H : Type) (enc : TypeId × Value → H) :
    ReturnsInHanded {} Try.checked os 7 .any (Rows.pastJoinsSpec.pre6 enc Try.prog Try.f7 Rows.pastJoinsRow.domain false) (Rows.pastJoinsSpec.post enc Try.prog Try.f7 false true false false) := by
  refine returnsInHanded_of_change_sized (C := Try.checked) own started (by kernel_rfl) Try.func7
    (ChangeSpec.witness6 (enc := enc) (C := Try.checked) false ⟨#[], #[.slice none 0 0, .slice none 0 0], []⟩ 8 (by kernel_rfl) (by kernel_rfl) (by kernel_rfl) (by kernel_rfl)) ?_
  intro W base args ds gs before hval0 hW _ hsz0 _
  have hval : ∀ (j : Nat) t v, Try.f7.params[j]? = some t → args[j]? = some v → Value.okWide Try.prog W .any base t v := hval0
  have hsz : (DataW.weightsEach Try.prog (Try.f7.params.toList ++ Rows.pastJoinsSpec.plain.varTypes Try.prog) (ds ++ gs)).all (· ≤ reachBytes) = true := hsz0
  have hW' := hW
  obtain ⟨p, q, hA0, hV, rfl, hfz, hnd⟩ := hW
  have hA : DataW.TrodAll enc Try.prog W 0 (fun _ => true) true Try.f7.params.toList args.toList ds p := hA0
  rw [Try.params7] at hA hval hsz
  obtain ⟨v0, vs0, d0, ds0, p0, q0, hargs, rfl, rfl, h0, r0⟩ := trodAll_cons hA
  obtain ⟨v1, vs1, d1, ds1, p1, q1, rfl, rfl, rfl, h1, r1⟩ := trodAll_cons r0
  obtain ⟨rfl, rfl, rfl⟩ := trodAll_nil r1
  obtain rfl : args = #[v0, v1] := by cases args; simp_all
  obtain ⟨rfl, rfl⟩ := trodVars_none hV
  have k0 := h0
  have lt0 : ∀ x ∈ p0, x.block < W.heap.size := by obtain ⟨m, hm⟩ := k0; exact DataW.trod_lt m _ _ _ hm
  have k1 := h1
  have lt1 : ∀ x ∈ p1, x.block < W.heap.size := by obtain ⟨m, hm⟩ := k1; exact DataW.trod_lt m _ _ _ hm
  obtain ⟨a0, n0, c0, z0, rfl, s0⟩ := Ent.open_ents (hval 0 22 v0 rfl rfl) h0 (fun n hn => by have := List.all_eq_true.1 hsz _ (DataW.weights_mem_each (j := 0) (t := 22) (d := d0) rfl rfl n hn); simpa using this)
  obtain ⟨a1, n1, c1, z1, rfl, s1⟩ := Ent.open_ents (hval 1 22 v1 rfl rfl) h1 (fun n hn => by have := List.all_eq_true.1 hsz _ (DataW.weights_mem_each (j := 1) (t := 22) (d := d1) rfl rfl n hn); simpa using this)
  clear hA0 hval0 hsz0
  refine (Past.joins_walk a0 n0 c0 z0 a1 n1 c1 z1 W s0 s1).mono fun e W' ⟨he, bel⟩ => ?_
  subst he
  exact ⟨_, rfl, _, _, _, [], _, [], hW', trodAll_mk1 (shut_bool Try.underlying4 _), (trodAll_cons_mk (Below.trod laidOut (by kernel_rfl) (of_decide_eq_true (by kernel_rfl)) k0 bel lt0) (trodAll_cons_mk (Below.trod laidOut (by kernel_rfl) (of_decide_eq_true (by kernel_rfl)) k1 bel lt1) trodAll_mk0)), rfl, bel.frame _, fun h => by cases h⟩

theorem over : Rows.pastJoinsRow.holds Try.pinned (OpenSpec.ofChange Rows.pastJoinsSpec) :=
  OpenClaim.holds_of_wide 7 Try.f7 rfl rfl rfl rfl rfl rfl rfl ⟨rfl, rfl, rfl, rfl, rfl⟩ rfl rfl rfl rfl rfl (by kernel_rfl) Try.func7 (by kernel_rfl)
    (of_decide_eq_true (by kernel_rfl)) (by unfold Func.isWrapper; first | (rw [if_pos (by decide +kernel)]; kernel_rfl) | (rw [if_neg (by decide +kernel)]; exact ⟨rfl, rfl⟩))
    (fun os started H enc _ => lifted os started H enc)
end Go.Proofs.Ytcpkngkeechjeaa.pastJoins
namespace Go.Proofs.Ytcpkngkeechjeaa
set_option maxRecDepth 100000
/-- THE STATEMENT -/
theorem pastJoins_holds : Rows.PastJoinsSaid := pastJoins.over
end Go.Proofs.Ytcpkngkeechjeaa
