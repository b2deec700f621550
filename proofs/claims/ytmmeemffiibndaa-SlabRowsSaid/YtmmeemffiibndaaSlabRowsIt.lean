/- slab.Rows and what it hands back, an iterator over the slots that are used. -/
import Derived.Test.YtmmeemffiibndaaSlabClone
import Derived.Test.YtmmeemffiibndaaSlabLaws
namespace Go.Proofs.Ytmmeemffiibndaa.Slab
open Go.RowKit Go.Shelf Go.Sort
attribute [local go_sem] Oper.semAt_some

/-- a slot of Z that is used -/
structure Rw (Z : List Slot) where
  i : Nat
  d : ByteArray
  h : Z.getD i nos = ⟨true, d⟩
def encR {Z : List Slot} (x : Rw Z) : Array Value := #[.int .i64 (x.i : Int), .string x.d]
theorem Rw.lt {Z : List Slot} (x : Rw Z) : x.i < Z.length := by
  rcases Nat.lt_or_ge x.i Z.length with h | h
  · exact h
  · have := x.h; rw [getD_out h] at this; cases this
theorem slot_used {x : Slot} (h : x.u = true) : x = ⟨true, x.d⟩ := by obtain ⟨u, d⟩ := x; simp only at h; rw [h]
def rowAt (Z : List Slot) (k : Nat) : List (Rw Z) := if h : (Z.getD k nos).u = true then [⟨k, _, slot_used h⟩] else []
/-- the used slots below k, rising -/
def upTo (Z : List Slot) : Nat → List (Rw Z)
  | 0 => []
  | k + 1 => upTo Z k ++ rowAt Z k
theorem upTo_hit {Z : List Slot} {k : Nat} {d : ByteArray} (h : Z.getD k nos = ⟨true, d⟩) : upTo Z (k + 1) = upTo Z k ++ [⟨k, d, h⟩] := by
  have hd : (Z.getD k nos).d = d := by rw [h]
  subst hd
  rw [upTo, rowAt, dif_pos (by rw [h])]
theorem upTo_miss {Z : List Slot} {k : Nat} (h : (Z.getD k nos).u = false) : upTo Z (k + 1) = upTo Z k := by rw [upTo, rowAt, dif_neg (by rw [h]; simp), List.append_nil]
theorem upTo_lt {Z : List Slot} : ∀ {k : Nat} {x : Rw Z}, x ∈ upTo Z k → x.i < k
  | 0, x, h => by simp [upTo] at h
  | k + 1, x, h => by
    rw [upTo, List.mem_append] at h
    rcases h with h | h
    · have := upTo_lt h; omega
    · unfold rowAt at h
      split at h
      · simp at h; rw [h]; exact Nat.lt_succ_self k
      · cases h
theorem upTo_len (Z : List Slot) : ∀ k, (upTo Z k).length ≤ k
  | 0 => by simp [upTo]
  | k + 1 => by
    rw [upTo, List.length_append]
    have := upTo_len Z k
    have : (rowAt Z k).length ≤ 1 := by unfold rowAt; split <;> simp
    omega
theorem abides_alloc {β : Type} {B : Nat} {J : β → World → Prop} (h : AbidesFrom B J) {s : β} {W : World} (o : Obj) (hs : J s W) : J s (W.alloc o) :=
  h s W _ none hs (World.grownBy_alloc W o none) (fun _ e => by cases e)

set_option maxRecDepth 100000 in
set_option maxHeartbeats 2000000 in
theorem rows1_in (F : Fence) (n : Nat) (hf : F.fn 39) (hro : F.round = none) (hn : 1 ≤ n) (l Bs n₀ len cap B0 : Nat) (a : Option Addr) (Z : List Slot) (hlen : len ≤ 1000000) (J Jx : List (Rw Z) → World → Prop)
    (W : World) (hb : 0 < len → ∀ b off, a = some ⟨b, off, none⟩ → b < n₀) (hn0 : n₀ ≤ W.heap.size) (hJ : AbidesFrom B0 J)
    (hY : ∀ pre x W, J pre W → pre.length < len → YieldAt F (n - 1) Try.prog l (encR x) W fun e W' =>
      (e = .returned (.bool true) ∧ J (pre ++ [x]) W' ∧ Below n₀ W W') ∨ (e = .returned (.bool false) ∧ Jx (pre ++ [x]) W'))
    (hBs : W.cell? ⟨Bs, 0, none⟩ = some (.slice a len cap)) (hS : Slots W a len Z) (h0 : J [] W) :
    CallsIn F n Try.prog 39 #[.func (.yield l) #[] #[], .pointer (some ⟨Bs, 0, none⟩)] W fun e W' => (∃ v, e = .returned v) ∧
      ((∃ ys, ys = upTo Z len ∧ J ys W') ∨ (∃ pre, (∃ m, m ≤ len ∧ pre = upTo Z m) ∧ Jx pre W')) := by
  have HS := Lib.hid hS
  clear hS
  have HY := Lib.hid hY
  clear hY
  refine callsIn_of_wp Try.func39 rfl hf ?_ hro
  simp only [Try.ntmps39, List.size_toArray, List.length_cons, List.length_nil, Nat.reduceAdd, Nat.reduceSub, Array.replicate_succ, Array.replicate_zero, List.push_toArray, List.append_toArray, List.nil_append, List.cons_append]
  gi_wp2
  gi_loopw [7] (fun i wr => ∃ k : Nat, k ≤ len ∧ i = .int .i64 (k : Int) ∧ J (upTo Z k) wr ∧ Below n₀ W wr) (fun i _ => len - (intOf i).toNat)
  case atStart => exact ⟨0, Nat.zero_le _, rfl, h0, Below.refl _ _⟩
  case round =>
    obtain ⟨k, hk, rfl, hJs, hnx⟩ := hrel
    by_cases hlt : k < len
    · obtain ⟨b, off, u, d, rfl, hb1, hg, c1, c2, hd⟩ := HS.out.at_ hlt
      have hbn := hb (by omega) b off rfl
      have c1' := (hnx.cell (p := ⟨b, off + k * 2, none⟩) hbn).trans c1
      have c2' := (hnx.cell (p := ⟨b, off + k * 2 + 1, none⟩) hbn).trans c2
      clear c1 c2
      have hgd : Z.getD k nos = ⟨u, d⟩ := by simp [List.getD, hg]
      have hJa := abides_alloc hJ (.cells #[.bool u, .string d] 26) hJs
      have hba : Below n₀ W (wr.alloc (.cells #[.bool u, .string d] 26)) := hnx.alloc (Nat.le_trans hn0 hnx.size) _
      clear hg
      cases hu : u with
      | true =>
        rw [hu] at c1' hJa hba hgd
        obtain ⟨fn, tmps, assign, body, hy, hR⟩ := HY.out _ ⟨k, d, hgd⟩ _ hJa (by have := upTo_len Z k; omega)
        simp only [encR] at hy
        have HU := Lib.hid (upTo_hit hgd)
        clear hJs
        gi_wp2
        refine hR.mono ?_
        rintro e W3 (⟨rfl, hJ3, hk3⟩ | ⟨rfl, hJx3⟩)
        · gi_wp2
          go_roundw
          case rel => exact ⟨k + 1, by omega, by go_num, by rw [HU.out]; exact hJ3, hba.trans hk3⟩
          case measure => simp [intOf]; omega
        · gi_wp2
          refine bodyPost_ret (results_none rfl _ _ _) rfl ?_
          exact ⟨⟨_, rfl⟩, .inr ⟨_, ⟨k + 1, by omega, HU.out.symm⟩, hJx3⟩⟩
      | false =>
        rw [hu] at c1' hJa hba hgd
        have HU := Lib.hid (upTo_miss (Z := Z) (k := k) (by rw [hgd]))
        clear hgd hJs
        gi_wp2
        refine ⟨fun _ h => (by cases h), ?_⟩
        gi_wp2
        go_roundw
        case rel => exact ⟨k + 1, by omega, by go_num, by rw [HU.out]; exact hJa, hba⟩
        case measure => simp [intOf]; omega
    · obtain rfl : k = len := by omega
      gi_wp2
      go_end0
      exact ⟨⟨_, rfl⟩, .inl ⟨_, rfl, hJs⟩⟩
theorem rows_stops (F : Fence) (n : Nat) (hf : F.fn 39) (hro : F.round = none) (hn : 1 ≤ n) (Bs n₀ len cap : Nat) (a : Option Addr) (Z : List Slot) (hlen : len ≤ 1000000) (w : World) (hn0 : n₀ ≤ w.heap.size)
    (hb : 0 < len → ∀ b off, a = some ⟨b, off, none⟩ → b < n₀) (hBs : w.cell? ⟨Bs, 0, none⟩ = some (.slice a len cap)) (hBl : Bs < w.heap.size) (hS : Slots w a len Z) :
    SeqStopsK F n Try.prog 39 #[.pointer (some ⟨Bs, 0, none⟩)] encR (Below n₀) (fun ys => ys = upTo Z len) (fun pre => ∃ m, m ≤ len ∧ pre = upTo Z m) len w := fun l J Jx W hW hJ _ hY h0 =>
  rows1_in F n hf hro hn l Bs n₀ len cap _ a Z hlen J Jx W hb (Nat.le_trans hn0 hW.size) hJ hY ((hW.cell (p := ⟨Bs, 0, none⟩) hBl).trans hBs) (hS.below hW) h0

/-- what Rows hands back -/
def RowsRes (Z : List Slot) (w : World) (e : Ending) (w' : World) : Prop :=
  ∃ Bs a n c, e = .returned (.func (.func 39) #[] #[.pointer (some ⟨Bs, 0, none⟩)]) ∧ w'.cell? ⟨Bs, 0, none⟩ = some (.slice a n c) ∧ Bs < w'.heap.size ∧ w.heap.size ≤ Bs ∧ Slots w' a n Z ∧ n ≤ 32 ∧ Below w.heap.size w w' ∧ ∀ b off, a = some ⟨b, off, none⟩ → 0 < n → w.heap.size ≤ b
set_option maxRecDepth 100000 in
set_option maxHeartbeats 1000000 in
theorem rows_any (lsn : Int) (a : Option Addr) (n c : Nat) (zs : List Slot) (w : World) (h : Slots w a n zs) (hn : n ≤ 1000000) :
    Calls Try.prog 20 #[.agg #[.int .i64 lsn, .slice a n c]] w (RowsRes (if goodB lsn zs then zs else []) w) := by
  have hb0 : Below w.heap.size w ((w.alloc (.cells #[.int .i64 lsn, .slice a n c] 24)).alloc (.cells #[.slice none 0 0] 22)) := ((Below.refl _ _).alloc (Nat.le_refl _) _).alloc (by simp) _
  have hP := (Blk.new w 24 #[.int .i64 lsn, .slice a n c]).alloc (.cells #[.slice none 0 0] 22)
  have hV := Blk.new (w.alloc (.cells #[.int .i64 lsn, .slice a n c] 24)) 22 #[.slice none 0 0]
  rw [World.size_alloc] at hV
  have hmf : ∀ (fn : Fn) (first cap : Array Value) (w : World), (Instr.makeFunc fn first cap).run Try.prog w = .ok (.func fn first cap) w := fun _ _ _ _ => rfl
  have HS := Lib.hid h
  clear h
  cases hg : goodB lsn zs with
  | false =>
    have HG := Lib.hid hg
    clear hg
    go_enter Try.func20, Try.ntmps20
    go_wp2_with fail
    generalize hGen : (w.alloc (.cells #[.int .i64 lsn, .slice a n c] 24)).alloc (.cells #[.slice none 0 0] 22) = W at hb0 hP hV ⊢
    clear hGen
    refine (good_any lsn a n c zs _ (HS.out.below hb0) (by omega)).mono ?_
    rw [HG.out]
    rintro e w1 ⟨rfl, b1⟩
    have hV1 := hV.below b1 hV.lt
    go_wp2
    go_ret
    exact ⟨w.heap.size + 1, none, 0, 0, rfl, hV1.cell 0, hV1.lt, by omega, Slots.nil _ _, by omega, hb0.trans (b1.mono hb0.size), fun _ _ _ h => absurd h (by omega)⟩
  | true =>
    have hn32 : n ≤ 32 := by have := HS.out.len; have := (good_parts hg).2.2.1; omega
    have HG := Lib.hid hg
    clear hg
    go_enter Try.func20, Try.ntmps20
    go_wp2_with fail
    generalize hGen : (w.alloc (.cells #[.int .i64 lsn, .slice a n c] 24)).alloc (.cells #[.slice none 0 0] 22) = W at hb0 hP hV ⊢
    clear hGen
    refine (good_any lsn a n c zs _ (HS.out.below hb0) (by omega)).mono ?_
    rw [HG.out]
    rintro e w1 ⟨rfl, b1⟩
    have hV1 := hV.below b1 hV.lt
    have hP1 := hP.below b1 hP.lt
    have hb1 := hb0.trans (b1.mono hb0.size)
    have p0 := hP1.cell 0
    have p1 := hP1.cell 1
    go_wp2_with fail
    refine (clone_any a n c zs _ (HS.out.below hb1) (by omega)).mono ?_
    rintro e w2 ⟨a2, c2, rfl, s2, b2, g2⟩
    have hV2 := hV1.below b2 hV1.lt
    have hb2 := hb1.trans (b2.mono hb1.size)
    have v0 := hV2.cell 0
    have f0 := hV2.frozen 0
    have hvl := hV1.lt
    clear p0 p1
    go_wp2
    go_ret
    exact ⟨w.heap.size + 1, a2, n, c2, rfl, World.cell?_setCell_same _ _ _ (show w2.cell? ⟨w.heap.size + 1, 0, none⟩ = some (.slice none 0 0) from v0), by simpa using hV2.lt, by omega, s2.setCell _ (fun b off e _ => by have := g2 _ _ _ e; omega), hn32, hb2.setCell (p := ⟨w.heap.size + 1, 0, none⟩) (by simp) _, fun b off e _ => by have h1 := g2 _ _ _ e; have h2 := hb1.size; omega⟩
end Go.Proofs.Ytmmeemffiibndaa.Slab
