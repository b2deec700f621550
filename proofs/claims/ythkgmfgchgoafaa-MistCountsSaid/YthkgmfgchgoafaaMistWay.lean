/- What is under way on a way: the iterators' contracts; list, way, Count, find. -/
import Derived.Test.YthkgmfgchgoafaaMistMath
import Derived.Test.YthkgmfgchgoafaaMistRange
import Derived.Lib.SliceRun
import Derived.Shelf.Abstract
import Derived.Shelf.RegionOpen
namespace Go.Proofs.Ythkgmfgchgoafaa.Mist
set_option maxRecDepth 100000
open Go.RowKit Go.Shelf
open Go.Proofs.Ythkgmfgchgoafaa.Mem Go.Proofs.Ythkgmfgchgoafaa.CordG
attribute [local go_sem] Oper.semAt_some
/-- all cells but b's stay -/
def KeepN (b : Nat) (A C : World) : Prop := A.heap.size ≤ C.heap.size ∧ ∀ k cs T q, k ≠ b → A.heap[k]? = some (.cells cs T q) → C.heap[k]? = some (.cells cs T q)
theorem keepN_t {b : Nat} {A C D : World} (h : KeepN b A C) (k : KeepN b C D) : KeepN b A D := ⟨Nat.le_trans h.1 k.1, fun j cs T q hj hc => k.2 j cs T q hj (h.2 j cs T q hj hc)⟩
theorem keepN_b {b : Nat} (W : World) (l : Nat) (o o' : Obj) (h : W.heap[l]? = some o) (ho : o.isCells = false) : KeepN b W (W.putObj l o') := by
  refine ⟨by simp [World.putObj], fun k cs T q _ hc => ?_⟩
  have hne : k ≠ l := fun e => by subst e; rw [h] at hc; cases hc; cases ho
  rw [World.putObj_heap_other hne]; exact hc
theorem keepN_below {b : Nat} {A C : World} (h : Below A.heap.size A C) : KeepN b A C := ⟨h.size, fun k _ _ _ _ hc => (h.block k (Array.getElem?_eq_some_iff.1 hc).1).trans hc⟩
theorem keepN_set {b : Nat} (w : World) (j : Nat) (v : Value) : KeepN b w (w.setCell ⟨b, j, none⟩ v) :=
  ⟨by simp, fun k cs T q hk hc => (Below.heap_setCell w ⟨b, j, none⟩ v k hk).trans hc⟩
theorem keepN_grown {b : Nat} {A C : World} {row : Option Nat} (hg : A.grownBy C row) (hr : ∀ r, row = some r → ∃ o : Obj, A.heap[r]? = some o ∧ o.isCells = false) : KeepN b A C :=
  ⟨hg.size, fun k cs T q _ hc => (hg.block k (Array.getElem?_eq_some_iff.1 hc).1 (fun e => by obtain ⟨o, h1, h2⟩ := hr k e.symm; rw [hc] at h1; cases h1; cases h2)).trans hc⟩
theorem blkN {b : Nat} {A C : World} {g : Nat} {t : TypeId} {cs : Array Value} (h : KeepN b A C) (hb : Blk A g t cs) (hg : g ≠ b) : Blk C g t cs := h.2 g cs t _ hg hb
theorem others_below {W W' : World} (h : Below W.heap.size W W') : KeepsOthers W W' := ⟨h.size, fun k _ hk _ => (h.block k (Array.getElem?_eq_some_iff.1 hk).1).trans hk⟩
/-- a row of datagrams that can be read -/
def Src (w : World) (v : Value) (L : List Gr) : Prop :=
  (v = .slice none 0 0 ∧ L = []) ∨ ∃ g c cur, v = .slice (some ⟨g, 0, none⟩) L.length c ∧ Blk w g 29 cur ∧ cur.toList.take (L.length * 6) = gramsV L
theorem Src.shape {w : World} {v : Value} {L : List Gr} (h : Src w v L) : ∃ a c, v = .slice a L.length c := by
  rcases h with ⟨rfl, rfl⟩ | ⟨g, c, cur, rfl, _⟩
  · exact ⟨none, 0, rfl⟩
  · exact ⟨_, c, rfl⟩
theorem Src.keep {w w' : World} {b : Nat} {v : Value} {L : List Gr} (h : Src w v L) (hk : KeepN b w w') (hb : v.ownBlock ≠ some b) : Src w' v L := by
  rcases h with h | ⟨g, c, cur, rfl, h1, h2⟩
  · exact .inl h
  · exact .inr ⟨g, c, cur, rfl, blkN hk h1 (fun e => hb (by rw [e]; rfl)), h2⟩
theorem Src.below {w w' : World} {v : Value} {L : List Gr} (h : Src w v L) (hb : Below w.heap.size w w') : Src w' v L := by
  rcases h with h | ⟨g, c, cur, rfl, h1, h2⟩
  · exact .inl h
  · exact .inr ⟨g, c, cur, rfl, h1.below hb h1.lt, h2⟩
theorem src_own {w : World} {base : Nat} {v : Value} {L : List Gr} (h : w.ownsRow base 29 6 v L.length (gramsV L)) : Src w v L := by
  rcases h.2 with ⟨rfl, h0⟩ | ⟨g, c, cur, rfl, _, hc, h1, h2, h3, h4⟩
  · exact .inl ⟨rfl, List.eq_nil_of_length_eq_zero h0⟩
  · exact .inr ⟨g, c, cur, rfl, hc, h4⟩
def CellsG (w : World) (g i : Nat) (x : Gr) : Prop := w.cell? ⟨g, i * 6, none⟩ = some (.int .i64 x.cl) ∧ w.cell? ⟨g, i * 6 + 1, none⟩ = some (.bool x.up) ∧ w.cell? ⟨g, i * 6 + 2, none⟩ = some (.int .i64 x.ep) ∧ w.cell? ⟨g, i * 6 + 3, none⟩ = some (.int .i64 x.sq) ∧ w.cell? ⟨g, i * 6 + 4, none⟩ = some (.int .i64 x.ak) ∧ w.cell? ⟨g, i * 6 + 5, none⟩ = some (.string x.bd)
theorem Src.at_ {w : World} {v : Value} {L : List Gr} (h : Src w v L) {i : Nat} {x : Gr} (hi : L[i]? = some x) : ∃ g c, v = .slice (some ⟨g, 0, none⟩) L.length c ∧ v.ownBlock = some g ∧ g < w.heap.size ∧ CellsG w g i x := by
  rcases h with ⟨_, rfl⟩ | ⟨g, c, cur, rfl, h1, h2⟩
  · simp at hi
  · have hlt := (List.getElem?_eq_some_iff.1 hi).1
    have hc : ∀ j, j < 6 → w.cell? ⟨g, i * 6 + j, none⟩ = (gv x).toList[j]? := fun j hj => by
      rw [h1.cell, ← Array.getElem?_toList, ← grams_at L i x hi j hj, ← h2, List.getElem?_take_of_lt (by omega)]
    exact ⟨g, c, rfl, rfl, h1.lt, hc 0 (by decide), hc 1 (by decide), hc 2 (by decide), hc 3 (by decide), hc 4 (by decide), hc 5 (by decide)⟩
def encX (x : Gr × Nat) : Array Value := #[.int .i64 (x.2 : Int), .agg #[.int .i64 x.1.cl, .bool x.1.up, .int .i64 x.1.ep, .int .i64 x.1.sq, .int .i64 x.1.ak, .string x.1.bd]]
theorem abides_alloc {β : Type} {B : Nat} {J : β → World → Prop} (h : AbidesFrom B J) {s : β} {W : World} (o : Obj) (hs : J s W) : J s (W.alloc o) :=
  h s W _ none hs (World.grownBy_alloc W o none) (fun _ e => by cases e)
theorem own_below {β : Type} {B : Nat} {J : β → World → Prop} (h : OwnFrom B J) {s : β} {W W' : World} (hb : Below W.heap.size W W') (hs : J s W) : J s W' :=
  h s W W' none hs ⟨hb.os, hb.tape, hb.output, hb.size, fun k hk _ => hb.block k hk⟩ (fun _ e => by cases e)
set_option maxHeartbeats 4000000 in
set_option maxRecDepth 100000 in
theorem all1_in (n : Nat) (hn : 1 ≤ n) (l B1 b : Nat) (v : Value) (L : List Gr) (J Jx : List (Gr × Nat) → World → Prop) (W : World) (hs : Src W v L) (hvb : v.ownBlock ≠ some b) (hB : Blk W B1 67 #[v]) (hlen : L.length ≤ 1000000) (hJ : AbidesFrom W.heap.size J)
    (hY : ∀ pre x W1, J pre W1 → pre.length < L.length → YieldAt Fence.wide (n - 1) Try.prog l (encX x) W1 fun e W' =>
      (e = .returned (.bool true) ∧ J (pre ++ [x]) W' ∧ KeepN b W1 W') ∨ (e = .returned (.bool false) ∧ Jx (pre ++ [x]) W')) (h0 : J [] W) :
    CallsIn Fence.wide n Try.prog 69 #[.func (.yield l) #[] #[], .pointer (some ⟨B1, 0, none⟩)] W fun e W' => (∃ v, e = .returned v) ∧
      ((∃ ys, ys = L.zipIdx ∧ J ys W') ∨ (∃ pre, pre <+: L.zipIdx ∧ Jx pre W')) := by
  have p0 := hB.cell 0
  have HY := Lib.hid hY
  have HS := Lib.hid hs
  have HJ := Lib.hid hJ
  have J0 : Hid (J (L.zipIdx.take 0) W) := Lib.hid h0
  obtain ⟨a, cv, rfl⟩ := hs.shape
  clear hY hs hJ h0 hB
  refine callsIn_of_wp Try.func69 rfl trivial ?_ rfl
  simp only [Try.ntmps69, List.size_toArray, List.length_cons, List.length_nil, Nat.reduceAdd, Nat.reduceSub, Array.replicate_succ, Array.replicate_zero, List.push_toArray, List.append_toArray, List.nil_append, List.cons_append]
  gi_wp2
  gi_loopw [7] (fun i wr => ∃ k : Nat, k ≤ L.length ∧ i = .int .i64 (k : Int) ∧ Hid (J (L.zipIdx.take k) wr) ∧ Hid (KeepN b W wr)) (fun i _ => L.length - (intOf i).toNat)
  case atStart => exact ⟨0, Nat.zero_le _, rfl, J0, Lib.hid (keepN_below (Below.refl _ _))⟩
  case round =>
    obtain ⟨k, hk, rfl, hJs, HK⟩ := hrel
    clear J0
    by_cases hlt : k < L.length
    · have hx : L[k]? = some L[k] := List.getElem?_eq_getElem hlt
      have hTn := Lib.hid (show L.zipIdx.take k ++ [(L[k], k)] = L.zipIdx.take (k + 1) by rw [List.take_add_one, List.getElem?_zipIdx, hx]; simp)
      obtain ⟨g, cap, hv, _, hg, c0, c1, c2, c3, c4, c5⟩ := (HS.out.keep HK.out hvb).at_ hx
      generalize L[k] = x at c0 c1 c2 c3 c4 c5 hTn
      injection hv with e1 e2 e3
      subst e1; subst e3
      have hJa := abides_alloc HJ.out (.cells #[.int .i64 x.cl, .bool x.up, .int .i64 x.ep, .int .i64 x.sq, .int .i64 x.ak, .string x.bd] 29) hJs.out
      have HKa := Lib.hid (keepN_t HK.out (keepN_below ((Below.refl _ _).alloc (Nat.le_refl _) (.cells #[.int .i64 x.cl, .bool x.up, .int .i64 x.ep, .int .i64 x.sq, .int .i64 x.ak, .string x.bd] 29))))
      obtain ⟨fn, tmps, assign, body, hy, hR⟩ := HY.out _ (x, k) _ hJa (by rw [List.length_take, List.length_zipIdx]; omega)
      simp only [encX] at hy
      clear hJs hx
      gi_wp2
      refine hR.mono ?_
      rintro e W3 (⟨rfl, hJ3, hk3⟩ | ⟨rfl, hJx3⟩)
      · have HJ3 := Lib.hid (show J (L.zipIdx.take (k + 1)) W3 by rw [← hTn.out]; exact hJ3)
        have HK3 := Lib.hid (keepN_t HKa.out hk3)
        clear hJ3 hk3 hJa
        gi_wp2
        go_roundw
        case rel => exact ⟨k + 1, by omega, by go_num, HJ3, HK3⟩
        case measure => simp [intOf]; omega
      · clear hJa
        gi_wp2
        refine bodyPost_ret (results_none rfl _ _ _) rfl ?_
        exact ⟨⟨_, rfl⟩, .inr ⟨_, by rw [hTn.out]; exact List.take_prefix _ _, hJx3⟩⟩
    · obtain rfl : k = L.length := by omega
      have hJe := hJs.out
      rw [List.take_of_length_le (by rw [List.length_zipIdx]; omega)] at hJe
      gi_wp2
      go_end0
      exact ⟨⟨_, rfl⟩, .inl ⟨_, rfl, hJe⟩⟩
theorem all1_stops (n : Nat) (hn : 1 ≤ n) (B1 b : Nat) (v : Value) (L : List Gr) (w : World) (hs : Src w v L) (hvb : v.ownBlock ≠ some b) (hB : Blk w B1 67 #[v]) (hlen : L.length ≤ 1000000) :
    SeqStopsK Fence.wide n Try.prog 69 #[.pointer (some ⟨B1, 0, none⟩)] encX (KeepN b) (fun ys => ys = L.zipIdx) (fun pre => pre <+: L.zipIdx) L.length w := fun l J Jx W hW hJ _ hY h0 =>
  all1_in n hn l B1 b v L J Jx W (hs.below hW) hvb (hB.below hW hB.lt) hlen hJ hY h0
set_option maxRecDepth 100000 in
theorem way1_any (x : Gr) (C U : Nat) (c : Int) (u : Bool) (w : World) (hC : w.cell? ⟨C, 0, none⟩ = some (.int .i64 c)) (hU : w.cell? ⟨U, 0, none⟩ = some (.bool u)) :
    Calls Try.prog 51 #[.agg #[.int .i64 x.cl, .bool x.up, .int .i64 x.ep, .int .i64 x.sq, .int .i64 x.ak, .string x.bd], .pointer (some ⟨C, 0, none⟩), .pointer (some ⟨U, 0, none⟩)] w fun e w' => e = .returned (.bool (onW c u x)) ∧ Below w.heap.size w w' := by
  have lC := World.block_lt_of_cell? w _ hC
  have lU := World.block_lt_of_cell? w _ hU
  have hb := (Below.refl w.heap.size w).alloc (Nat.le_refl _) (.cells #[.int .i64 x.cl, .bool x.up, .int .i64 x.ep, .int .i64 x.sq, .int .i64 x.ak, .string x.bd] 29)
  have HB := Lib.hid hb
  have k0 := hb.cell (p := ⟨C, 0, none⟩) lC
  have k1 := hb.cell (p := ⟨U, 0, none⟩) lU
  clear hb
  unfold onW
  by_cases h : x.cl = c
  · subst h
    have h1 : (x.cl == x.cl) = true := by simp
    rw [h1]
    go_enter Try.func51, Try.ntmps51
    go_wp2
    go_ret
    exact ⟨by simp, HB.out⟩
  · have h1 : (x.cl == c) = false := by simp [h]
    rw [h1]
    go_enter Try.func51, Try.ntmps51
    go_wp2
    go_ret
    exact ⟨by simp, HB.out⟩
/-- all that a way's iterator reads -/
structure WB (w : World) (b B1 B2 B3 C U : Nat) (v : Value) (L : List Gr) (c : Int) (u : Bool) : Prop where
  src : Src w v L
  vb : v.ownBlock ≠ some b
  b1 : Blk w B1 67 #[v]
  b2 : Blk w B2 73 #[.func (.func 69) #[] #[.pointer (some ⟨B1, 0, none⟩)]]
  b3 : Blk w B3 101 #[.func (.func 51) #[] #[.pointer (some ⟨C, 0, none⟩), .pointer (some ⟨U, 0, none⟩)]]
  bc : Blk w C 3 #[.int .i64 c]
  bu : Blk w U 4 #[.bool u]
  n1 : B1 ≠ b
  n2 : B2 ≠ b
  n3 : B3 ≠ b
  nc : C ≠ b
  nu : U ≠ b
theorem WB.keep {w w' : World} {b B1 B2 B3 C U : Nat} {v : Value} {L : List Gr} {c : Int} {u : Bool} (h : WB w b B1 B2 B3 C U v L c u) (hk : KeepN b w w') : WB w' b B1 B2 B3 C U v L c u :=
  ⟨h.src.keep hk h.vb, h.vb, blkN hk h.b1 h.n1, blkN hk h.b2 h.n2, blkN hk h.b3 h.n3, blkN hk h.bc h.nc, blkN hk h.bu h.nu, h.n1, h.n2, h.n3, h.nc, h.nu⟩
theorem WB.below {w w' : World} {b B1 B2 B3 C U : Nat} {v : Value} {L : List Gr} {c : Int} {u : Bool} (h : WB w b B1 B2 B3 C U v L c u) (hk : Below w.heap.size w w') : WB w' b B1 B2 B3 C U v L c u := h.keep (keepN_below hk)
theorem filter_snoc (c : Int) (u : Bool) (pre : List (Gr × Nat)) (x : Gr × Nat) : (pre ++ [x]).filter (onX c u) = if onW c u x.1 = true then pre.filter (onX c u) ++ [x] else pre.filter (onX c u) := by
  rw [List.filter_append]
  by_cases h : onW c u x.1 = true
  · rw [if_pos h]; simp [onX, h]
  · rw [if_neg h]; simp [onX, h]
set_option maxHeartbeats 4000000 in
set_option maxRecDepth 100000 in
theorem only1_n (b B1 B2 B3 C U : Nat) (v : Value) (L : List Gr) (c : Int) (u : Bool) (w : World) (h : WB w b B1 B2 B3 C U v L c u) (hb : b < w.heap.size) (hlen : L.length ≤ 1000000) :
    SeqN 68 #[.pointer (some ⟨B2, 0, none⟩), .pointer (some ⟨B3, 0, none⟩)] encX (KeepN b) (fun ys => ys = wayL L c u) (fun pre => pre <+: wayL L c u) L.length w := by
  intro l J Jx W hW hJ hJx hY h0
  have hbW : b < W.heap.size := Nat.lt_of_lt_of_le hb hW.size
  have hWW := h.below hW
  have H := Lib.hid hWW
  have p0 := hWW.b2.cell 0
  have HJ := Lib.hid hJ
  have HJX := Lib.hid hJx
  have HY := Lib.hid hY
  have J0 := Lib.hid h0
  have HB := Lib.hid hbW
  clear h hWW hW hJ hJx hY h0 hb hbW
  refine (callsIn_wide (n := 6)).1 ?_
  refine callsIn_of_wp_marks Try.func68 rfl trivial ?_ rfl
  refine wpIn_wide.2 ?_
  simp only [Try.ntmps68, List.size_toArray, List.length_cons, List.length_nil, Nat.reduceAdd, Nat.reduceSub, Array.replicate_succ, Array.replicate_zero, List.push_toArray, List.append_toArray, List.nil_append, List.cons_append]
  have hb1 := (Below.refl W.heap.size W).alloc (Nat.le_refl _) (.cells #[.func (.yield l) #[] #[]] 121)
  have hY0 := Blk.new W 121 #[.func (.yield l) #[] #[]]
  have hW1 := H.out.below hb1
  have p1 := hW1.b2.cell 0
  clear p0
  have HW1 := Lib.hid hW1
  have HY0 := Lib.hid hY0
  have HB1 := Lib.hid hb1
  clear hW1 hY0 hb1
  go_wp2
  generalize hGen : W.alloc (.cells #[.func (.yield l) #[] #[]] 121) = W0 at HW1 HY0 HB1 p1 ⊢
  clear hGen
  refine (wpIn_wide (n := 6)).1 ?_
  apply wpIn_rangeFunc_ownH (F := Fence.wide) (n := 6) rfl (by omega) (gf := 69) (lb := #[.pointer (some ⟨B1, 0, none⟩)]) rfl trivial (enters_of Try.func69 (by kernel_rfl) rfl)
    (all1_stops 5 (by omega) B1 b v L W0 HW1.out.src HW1.out.vb HW1.out.b1 hlen)
    (fun h k => keepN_t h k) (fun X l o o' _ h ho _ => keepN_b X l o o' h ho) (Below.refl _ _) (fun _ => rfl)
    (fun pre X => J (pre.filter (onX c u)) X ∧ KeepN b W0 X)
    (fun c' pre X => c' = .ret ∧ Jx (pre.filter (onX c u)) X)
    (fun pre A B row h hg hr => ⟨HJ.out _ A B row h.1 hg (fun r e => ⟨Nat.le_trans HB1.out.size (hr r e).1, (hr r e).2⟩), keepN_t h.2 (keepN_grown hg (fun r e => (hr r e).2))⟩)
    (fun c' pre A B row h hg hr => ⟨h.1, HJX.out _ A B row h.2 hg (fun r e => ⟨Nat.le_trans HB1.out.size (hr r e).1, (hr r e).2⟩)⟩)
    ⟨own_below HJ.out HB1.out J0.out, keepN_below (Below.refl _ _)⟩
    (fun x a' X => ∃ Bx, Blk X Bx 29 (gv x.1) ∧ Bx ≠ b ∧ a' = { tmps := #[.func (.yield l) #[] #[], .pointer (some ⟨B2, 0, none⟩), .pointer (some ⟨B3, 0, none⟩), .pointer (some ⟨W.heap.size, 0, none⟩), .int .i64 (x.2 : Int), .pointer (some ⟨Bx, 0, none⟩), .func (.func 69) #[] #[.pointer (some ⟨B1, 0, none⟩)], .int .i64 (x.2 : Int), .agg (gv x.1), undef, undef, undef, undef, undef, undef, undef, undef, undef, undef], defers := [] })
    (fun x a' s A B row h hg hr => by obtain ⟨Bx, h1, h2, h3⟩ := h; exact ⟨Bx, blkN (keepN_grown (b := b) hg (fun r e => (hr r e).2)) h1 h2, h2, h3⟩)
  case hassign =>
    rintro l' pre x X K ⟨hj, hk⟩ hK
    have hbX := Nat.lt_of_lt_of_le (Nat.lt_of_lt_of_le HB.out HB1.out.size) hk.1
    have hbx := (Below.refl X.heap.size X).alloc (Nat.le_refl _) (.cells (gv x.1) 29)
    have HX := Lib.hid hbx
    have HK : Hid (_ ∧ _) := Lib.hid (And.intro hj hk)
    clear hbx hj hk
    dsimp only [encX]
    gi_wp2
    exact hK _ _ ((KeepsOthers.alloc _ _).from _) (keepN_below HX.out) ⟨own_below HJ.out HX.out HK.out.1, keepN_t HK.out.2 (keepN_below HX.out)⟩ ⟨X.heap.size, Blk.new X _ _, by omega, rfl⟩
  case hbody =>
    rintro l' pre x a' X hl' - ⟨hj, hk⟩ ⟨Bx, hBx, hne, rfl⟩ hlt
    have hX := HW1.out.keep hk
    have HYX := blkN hk HY0.out (by have := HB.out; omega)
    have HX := Lib.hid hX
    have HJJ := Lib.hid hj
    have HKX := Lib.hid hk
    have b3 := hX.b3.cell 0
    have x0 := hBx.cell 0
    have x1 := hBx.cell 1
    have x2 := hBx.cell 2
    have x3 := hBx.cell 3
    have x4 := hBx.cell 4
    have x5 := hBx.cell 5
    have HBX := Lib.hid hBx
    have HYY := Lib.hid HYX
    have HWA := Lib.hid (way1_any x.1 C U c u X (hX.bc.cell 0) (hX.bu.cell 0))
    have HSN := Lib.hid (filter_snoc c u pre x)
    have hlen2 : (pre.filter (onX c u)).length < L.length := Nat.lt_of_le_of_lt (List.length_filter_le _ _) hlt
    obtain ⟨g, k⟩ := x
    dsimp only [gv] at x0 x1 x2 x3 x4 x5 ⊢
    clear hX hj hk hBx HYX
    gi_wp2_with fail
    refine ⟨trivial, (CallsIn.inRound l' (callsIn_wide.2 HWA.out)).mono ?_⟩
    rintro e X2 ⟨rfl, b2⟩
    have J2 := own_below HJ.out b2 HJJ.out
    have HK2 := Lib.hid (keepN_t HKX.out (keepN_below b2))
    have HF2 := Lib.hid ((others_below b2).from W0.heap.size)
    have HN2 : Hid (KeepN b X X2) := Lib.hid (keepN_below b2)
    have hb2 := HBX.out.below b2 HBX.out.lt
    have y0 := (HYY.out.below b2 HYY.out.lt).cell 0
    replace x0 := hb2.cell 0
    replace x1 := hb2.cell 1
    replace x2 := hb2.cell 2
    replace x3 := hb2.cell 3
    replace x4 := hb2.cell 4
    replace x5 := hb2.cell 5
    dsimp only [gv] at x0 x1 x2 x3 x4 x5
    clear b2 hb2 HWA HBX HYY HJJ HKX b3
    cases hon : onW c u g with
    | false =>
      have HS2 : Hid ((pre ++ [(g, k)]).filter (onX c u) = pre.filter (onX c u)) := Lib.hid (by rw [HSN.out]; simp [hon])
      have HJ2 := Lib.hid J2
      clear J2 HSN hon
      gi_wp2
      refine ⟨fun _ h => (by cases h), ?_⟩
      gi_wp2
      exact ⟨HF2.out, HN2.out, by rw [HS2.out]; exact HJ2.out, HK2.out⟩
    | true =>
      have HS2 : Hid ((pre ++ [(g, k)]).filter (onX c u) = pre.filter (onX c u) ++ [(g, k)]) := Lib.hid (by rw [HSN.out]; simp [hon])
      obtain ⟨fn, tmps, assign, body, hy, hR⟩ := HY.out _ (g, k) _ J2 hlen2
      simp only [encX] at hy
      clear J2 HSN hon
      gi_wp2_with fail
      refine (round_any hR).mono ?_
      rintro e X3 ⟨hkf, (⟨rfl, hJ3, hk3⟩ | ⟨rfl, hJx3⟩)⟩
      · have HA := Lib.hid (HF2.out.trans (⟨hkf.size, fun k o hk => hkf.same k o (Nat.le_trans HB1.out.size hk)⟩ : KeepsFrom W0.heap.size X2 X3))
        have HB' := Lib.hid (keepN_t HN2.out hk3)
        have HC := Lib.hid (keepN_t HK2.out hk3)
        have HD := Lib.hid hJ3
        clear hkf hJ3 hk3
        gi_wp2
        exact ⟨HA.out, HB'.out, by rw [HS2.out]; exact HD.out, HC.out⟩
      · have HA := Lib.hid (HF2.out.trans (⟨hkf.size, fun k o hk => hkf.same k o (Nat.le_trans HB1.out.size hk)⟩ : KeepsFrom W0.heap.size X2 X3))
        have HD := Lib.hid hJx3
        clear hkf hJx3
        gi_wp2
        exact ⟨HA.out, rfl, by rw [HS2.out]; exact HD.out⟩
  case hdone =>
    rintro D ys X hD rfl ⟨hj, hk⟩ hK
    have hj2 := HJ.out.putObj (.deferred none) hj (Nat.le_trans HB1.out.size hD) hK rfl
    have HJ2 := Lib.hid hj2
    clear hj hj2
    go_wp2
    refine ⟨by simp, .inl ⟨_, _, rfl, run_takeDeferred hK, ?_⟩⟩
    exact ⟨_, results_none rfl _ _ _, ⟨_, rfl⟩, .inl ⟨_, rfl, HJ2.out⟩⟩
  case hstop =>
    rintro D c' pre X hD hS ⟨rfl, hj⟩ hK
    have hj2 := HJX.out.putObj (.deferred none) hj (Nat.le_trans HB1.out.size hD) hK rfl
    have HJ2 := Lib.hid hj2
    clear hj hj2
    gi_wp2
    refine ⟨by simp, .inl ⟨_, _, rfl, run_takeDeferred hK, ?_⟩⟩
    exact ⟨_, results_none rfl _ _ _, ⟨_, rfl⟩, .inr ⟨_, hS.filter _, HJ2.out⟩⟩
end Go.Proofs.Ythkgmfgchgoafaa.Mist
