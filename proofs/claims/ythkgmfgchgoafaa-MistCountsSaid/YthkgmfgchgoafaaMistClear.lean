/- slices.IndexFunc, slices.DeleteFunc over an own row; Clear. -/
import Derived.Test.YthkgmfgchgoafaaMistCopy
namespace Go.Proofs.Ythkgmfgchgoafaa.Mist
set_option maxRecDepth 100000
open Go.RowKit
open Go.Proofs.Ythkgmfgchgoafaa.Mem Go.Proofs.Ythkgmfgchgoafaa.CordG
def isC (c : Int) (x : Gr) : Bool := x.cl == c
def notC (c : Int) (x : Gr) : Bool := !(x.cl == c)
set_option maxRecDepth 100000 in
theorem clear1_any (x : Gr) (C : Nat) (c : Int) (w : World) (hC : w.cell? ⟨C, 0, none⟩ = some (.int .i64 c)) :
    Calls Try.prog 46 #[.agg #[.int .i64 x.cl, .bool x.up, .int .i64 x.ep, .int .i64 x.sq, .int .i64 x.ak, .string x.bd], .pointer (some ⟨C, 0, none⟩)] w fun e w' => e = .returned (.bool (isC c x)) ∧ Below w.heap.size w w' := by
  have lC := World.block_lt_of_cell? w _ hC
  have hb := (Below.refl w.heap.size w).alloc (Nat.le_refl _) (.cells #[.int .i64 x.cl, .bool x.up, .int .i64 x.ep, .int .i64 x.sq, .int .i64 x.ak, .string x.bd] 29)
  have HB := Lib.hid hb
  have k0 := hb.cell (p := ⟨C, 0, none⟩) lC
  clear hb
  go_enter Try.func46, Try.ntmps46
  go_wp2
  go_ret
  exact ⟨rfl, HB.out⟩
/-- a row that is worked on in place -/
def Rw (w : World) (g c : Nat) (A : List Gr) : Prop := ∃ cur, Blk w g 29 cur ∧ cur.size = c * 6 ∧ A.length ≤ c ∧ cur.toList.take (A.length * 6) = gramsV A
theorem Rw.same {w w' : World} {g c : Nat} {A : List Gr} (h : Rw w g c A) (hb : w'.heap[g]? = w.heap[g]?) : Rw w' g c A := by
  obtain ⟨cur, h1, h2⟩ := h
  exact ⟨cur, hb.trans h1, h2⟩
theorem Rw.lt {w : World} {g c : Nat} {A : List Gr} (h : Rw w g c A) : g < w.heap.size := by obtain ⟨cur, h1, _⟩ := h; exact h1.lt
theorem Rw.below {w w' : World} {g c : Nat} {A : List Gr} (h : Rw w g c A) (hb : Below w.heap.size w w') : Rw w' g c A := h.same (hb.block g h.lt)
theorem Rw.at_ {w : World} {g c i : Nat} {A : List Gr} {x : Gr} (h : Rw w g c A) (hi : A[i]? = some x) : CellsG w g i x ∧ w.frozen? ⟨g, i * 6, none⟩ = false ∧ w.frozen? ⟨g, i * 6 + 1, none⟩ = false ∧ w.frozen? ⟨g, i * 6 + 2, none⟩ = false ∧ w.frozen? ⟨g, i * 6 + 3, none⟩ = false ∧ w.frozen? ⟨g, i * 6 + 4, none⟩ = false ∧ w.frozen? ⟨g, i * 6 + 5, none⟩ = false := by
  obtain ⟨cur, h1, h2, h3, h4⟩ := h
  have hlt := (List.getElem?_eq_some_iff.1 hi).1
  have hc : ∀ j, j < 6 → w.cell? ⟨g, i * 6 + j, none⟩ = (gv x).toList[j]? := fun j hj => by
    rw [h1.cell, ← Array.getElem?_toList, ← grams_at A i x hi j hj, ← h4, List.getElem?_take_of_lt (by omega)]
  exact ⟨⟨hc 0 (by decide), hc 1 (by decide), hc 2 (by decide), hc 3 (by decide), hc 4 (by decide), hc 5 (by decide)⟩, h1.frozen _, h1.frozen _, h1.frozen _, h1.frozen _, h1.frozen _, h1.frozen _⟩
theorem grams_set : ∀ (A : List Gr) (i : Nat) (x : Gr), i < A.length →
    ((((((gramsV A).set (i * 6) (.int .i64 x.cl)).set (i * 6 + 1) (.bool x.up)).set (i * 6 + 2) (.int .i64 x.ep)).set (i * 6 + 3) (.int .i64 x.sq)).set (i * 6 + 4) (.int .i64 x.ak)).set (i * 6 + 5) (.string x.bd) = gramsV (A.set i x)
  | [], i, x, h => by simp at h
  | y :: r, 0, x, h => by simp [gramsV, gv]
  | y :: r, i + 1, x, h => by
    have := grams_set r i x (by simpa using h)
    have e : gramsV (y :: r) = .int .i64 y.cl :: .bool y.up :: .int .i64 y.ep :: .int .i64 y.sq :: .int .i64 y.ak :: .string y.bd :: gramsV r := by simp [gramsV, gv]
    have e2 : gramsV ((y :: r).set (i + 1) x) = .int .i64 y.cl :: .bool y.up :: .int .i64 y.ep :: .int .i64 y.sq :: .int .i64 y.ak :: .string y.bd :: gramsV (r.set i x) := by simp [gramsV, gv]
    rw [e, e2, ← this]
    have h6 : ∀ j, (i + 1) * 6 + j = i * 6 + j + 1 + 1 + 1 + 1 + 1 + 1 := fun j => by omega
    have h60 : (i + 1) * 6 = i * 6 + 1 + 1 + 1 + 1 + 1 + 1 := by omega
    rw [h6, h6, h6, h6, h6, h60]
    simp only [List.set_cons_succ]
def sixAt (w : World) (g i : Nat) (x : Gr) : World := (((((w.setCell ⟨g, i * 6, none⟩ (.int .i64 x.cl)).setCell ⟨g, i * 6 + 1, none⟩ (.bool x.up)).setCell ⟨g, i * 6 + 2, none⟩ (.int .i64 x.ep)).setCell ⟨g, i * 6 + 3, none⟩ (.int .i64 x.sq)).setCell ⟨g, i * 6 + 4, none⟩ (.int .i64 x.ak)).setCell ⟨g, i * 6 + 5, none⟩ (.string x.bd)
theorem Rw.six {w : World} {g c i : Nat} {A : List Gr} (h : Rw w g c A) (hi : i < A.length) (x : Gr) : Rw (sixAt w g i x) g c (A.set i x) := by
  obtain ⟨cur, h1, h2, h3, h4⟩ := h
  have h5 := (((((h1.set_ (i * 6) (.int .i64 x.cl)).set_ (i * 6 + 1) (.bool x.up)).set_ (i * 6 + 2) (.int .i64 x.ep)).set_ (i * 6 + 3) (.int .i64 x.sq)).set_ (i * 6 + 4) (.int .i64 x.ak)).set_ (i * 6 + 5) (.string x.bd)
  refine ⟨_, h5, by simpa using h2, by simpa using h3, ?_⟩
  simp only [Array.toList_setIfInBounds, List.length_set, List.take_set]
  rw [h4, grams_set A i x hi]
theorem sixAt_keep {w W : World} {g : Nat} {M : Nat → Prop} (h : Keep M w W) (hg : ¬ M g) (i : Nat) (x : Gr) : Keep M w (sixAt W g i x) :=
  (((((h.set_ hg _ _).set_ hg _ _).set_ hg _ _).set_ hg _ _).set_ hg _ _).set_ hg _ _
theorem rw_own {w : World} {base n : Nat} {a : Option Addr} {cc : Nat} {L : List Gr} (h : w.ownsRow base 29 6 (.slice a n cc) L.length (gramsV L)) (h0 : L ≠ []) : ∃ g, a = some ⟨g, 0, none⟩ ∧ n = L.length ∧ base ≤ g ∧ Rw w g cc L := by
  rcases h.2 with ⟨_, h1⟩ | ⟨g, c, cur, e, hg, hc, h1, h2, h3, h4⟩
  · exact absurd (List.eq_nil_of_length_eq_zero h1) h0
  · injection e with e1 e2 e3
    subst e1; subst e2; subst e3
    exact ⟨g, rfl, rfl, hg, cur, hc, h3, h1, h4⟩
/-- where the first one is -/
def IdxRes (L : List Gr) (c : Int) (w : World) (e : Ending) (w' : World) : Prop :=
  Below w.heap.size w w' ∧ ((∃ (k : Nat) (x : Gr), L[k]? = some x ∧ isC c x = true ∧ (∀ j y, j < k → L[j]? = some y → isC c y = false) ∧ e = .returned (.int .i64 (k : Int))) ∨ ((∀ (j : Nat) (y : Gr), L[j]? = some y → isC c y = false) ∧ e = .returned (.int .i64 (-1))))
set_option maxRecDepth 100000 in
set_option maxHeartbeats 1000000 in
theorem index_any (v : Value) (L : List Gr) (C : Nat) (c : Int) (w : World) (h : Src w v L) (hC : Blk w C 3 #[.int .i64 c]) (hlen : L.length ≤ 1000000) :
    Calls Try.prog 67 #[v, .func (.func 46) #[] #[.pointer (some ⟨C, 0, none⟩)]] w (IdxRes L c w) := by
  have H := Lib.hid h
  have HC := Lib.hid hC
  obtain ⟨a, cv, rfl⟩ := h.shape
  clear h hC
  have HB : Hid (Below w.heap.size w w) := Lib.hid (Below.refl _ _)
  have HN : Hid (∀ j y, j < 0 → L[j]? = some y → isC c y = false) := Lib.hid (fun j y hj => by omega)
  go_enter Try.func67, Try.ntmps67
  go_wp2_with fail
  go_loopw [8] (fun i wr => ∃ j : Nat, j ≤ L.length ∧ i = .int .i64 (j : Int) ∧ Hid (Below w.heap.size w wr) ∧ Hid (∀ k y, k < j → L[k]? = some y → isC c y = false)) (fun i _ => L.length - (intOf i).toNat)
  case atStart => exact ⟨0, Nat.zero_le _, rfl, HB, HN⟩
  case round =>
    obtain ⟨j, hj, rfl, HK, HNN⟩ := hrel
    clear HB HN
    by_cases hlt : j < L.length
    · have hx : L[j]? = some L[j] := List.getElem?_eq_getElem hlt
      generalize L[j] = x at hx
      obtain ⟨g, cap, hv, _, hg, c0, c1, c2, c3, c4, c5⟩ := (H.out.below HK.out).at_ hx
      injection hv with e1 e2 e3
      subst e1; subst e3
      have HF := Lib.hid (clear1_any x C c wr ((HC.out.below HK.out HC.out.lt).cell 0))
      have HX := Lib.hid hx
      clear hx
      go_wp2_with fail
      refine HF.out.mono ?_
      rintro e W1 ⟨rfl, b1⟩
      have HK1 := Lib.hid (HK.out.trans (b1.mono HK.out.size))
      clear b1 HF c0 c1 c2 c3 c4 c5 HK
      cases hp : isC c x with
      | true =>
        have FIN : Hid (IdxRes L c w (.returned (.int .i64 (j : Int))) W1) := Lib.hid ⟨HK1.out, .inl ⟨j, x, HX.out, hp, HNN.out, rfl⟩⟩
        clear hp
        go_wp2
        go_ret
        exact FIN.out
      | false =>
        have HN2 : Hid (∀ k y, k < j + 1 → L[k]? = some y → isC c y = false) := Lib.hid (fun k y hk hy => by
          by_cases e : k = j
          · subst e; rw [HX.out] at hy; injection hy with hy; rw [← hy]; exact hp
          · exact HNN.out k y (by omega) hy)
        clear hp
        go_wp2
        go_roundw
        case rel => exact ⟨j + 1, by omega, by go_num, HK1, HN2⟩
        case measure => simp [intOf]; omega
    · obtain rfl : j = L.length := by omega
      go_wp2
      go_ret
      exact ⟨HK.out, .inr ⟨fun k y hy => HNN.out k y (List.getElem?_eq_some_iff.1 hy).1 hy, rfl⟩⟩
theorem filter_all {L : List Gr} {c : Int} (h : ∀ (j : Nat) (y : Gr), L[j]? = some y → isC c y = false) : L.filter (notC c) = L := by
  rw [List.filter_eq_self]
  intro y hy
  obtain ⟨j, hj⟩ := List.mem_iff_getElem?.1 hy
  have := h j y hj
  unfold isC at this
  simp [notC, this]
/-- what the loop knows: A is in the row, j are looked at, i kept -/
structure DI (L A : List Gr) (c : Int) (i j : Nat) : Prop where
  len : A.length = L.length
  ij : i < j
  jl : j ≤ L.length
  il : i = ((L.take j).filter (notC c)).length
  tk : A.take i = (L.take j).filter (notC c)
  dr : A.drop j = L.drop j
theorem di_start {L : List Gr} {c : Int} {k : Nat} {x : Gr} (hx : L[k]? = some x) (hc : isC c x = true) (h : ∀ (j : Nat) (y : Gr), j < k → L[j]? = some y → isC c y = false) : DI L L c k (k + 1) := by
  have hk : k < L.length := (List.getElem?_eq_some_iff.1 hx).1
  have e1 : (L.take k).filter (notC c) = L.take k := filter_all fun j y hy => by
    rw [List.getElem?_take] at hy
    split at hy
    · rename_i hj; exact h j y hj hy
    · cases hy
  have e2 : (L.take (k + 1)).filter (notC c) = L.take k := by
    rw [List.take_add_one, hx, List.filter_append, e1]
    unfold isC at hc
    simp [notC, hc]
  exact ⟨rfl, by omega, by omega, by rw [e2, List.length_take]; omega, e2.symm, rfl⟩
theorem di_next {L A : List Gr} {c : Int} {i j : Nat} {x : Gr} (h : DI L A c i j) (hx : L[j]? = some x) : (isC c x = true → DI L A c i (j + 1)) ∧ (isC c x = false → DI L (A.set i x) c (i + 1) (j + 1)) := by
  have hj : j < L.length := (List.getElem?_eq_some_iff.1 hx).1
  have e : (L.take (j + 1)).filter (notC c) = (L.take j).filter (notC c) ++ [x].filter (notC c) := by
    rw [List.take_add_one, hx, List.filter_append]; rfl
  have hd : A.drop (j + 1) = L.drop (j + 1) := by
    have := congrArg (List.drop 1) h.dr
    simpa [List.drop_drop, Nat.add_comm] using this
  constructor
  · intro hc
    have e2 : (L.take (j + 1)).filter (notC c) = (L.take j).filter (notC c) := by rw [e]; unfold isC at hc; simp [notC, hc]
    exact ⟨h.len, by have := h.ij; omega, hj, by rw [e2]; exact h.il, by rw [e2]; exact h.tk, hd⟩
  · intro hc
    have e2 : (L.take (j + 1)).filter (notC c) = (L.take j).filter (notC c) ++ [x] := by rw [e]; unfold isC at hc; simp [notC, hc]
    have hij := h.ij
    refine ⟨by rw [List.length_set]; exact h.len, by omega, hj, by rw [e2, List.length_append, ← h.il]; rfl, ?_, ?_⟩
    · rw [e2, ← h.tk, List.take_add_one, List.take_set, List.set_eq_of_length_le (by rw [List.length_take]; omega), List.getElem?_set_self (by rw [h.len]; omega)]; rfl
    · rw [List.drop_set_of_lt (by omega)]; exact hd
theorem DI.at_ {L A : List Gr} {c : Int} {i j : Nat} {x : Gr} (h : DI L A c i j) (hx : L[j]? = some x) : A[j]? = some x := by
  have := congrArg (fun l => l[0]?) h.dr
  simp only [List.getElem?_drop, Nat.add_zero] at this
  rw [this]; exact hx
/-- the row is the call's own still -/
def DelRes (v : Value) (L' : List Gr) (w : World) (e : Ending) (w' : World) : Prop :=
  ∃ v', e = .returned v' ∧ w'.ownsRow 0 29 6 v' L'.length (gramsV L') ∧ w.grownBy w' v.ownBlock ∧ v'.ownBlock = v.ownBlock
def zl (k : Nat) : List Value := (Builtin.zeroCells (Value.agg #[.int .i64 0, .bool false, .int .i64 0, .int .i64 0, .int .i64 0, .string .empty]).cells k).toList
theorem zl_len (k : Nat) : (zl k).length = k * 6 := by simp [zl, Builtin.zeroCells, Value.cells]
theorem zl_one (k : Nat) : ∀ u ∈ zl k, u.oneCell' = true := by
  intro u hu
  simp only [zl, Builtin.zeroCells, Value.cells, Array.toList_map, List.mem_map] at hu
  obtain ⟨i, _, rfl⟩ := hu
  have h6 : i % (#[Value.int .i64 0, .bool false, .int .i64 0, .int .i64 0, .int .i64 0, .string .empty] : Array Value).size < 6 := Nat.mod_lt _ (by decide)
  generalize i % (#[Value.int .i64 0, .bool false, .int .i64 0, .int .i64 0, .int .i64 0, .string .empty] : Array Value).size = m at h6
  rcases (show m = 0 ∨ m = 1 ∨ m = 2 ∨ m = 3 ∨ m = 4 ∨ m = 5 by omega) with rfl | rfl | rfl | rfl | rfl | rfl <;> rfl
theorem Rw.own {w : World} {g c : Nat} {A : List Gr} (h : Rw w g c A) (hcm : c ≤ maxLen) : w.ownsRow 0 29 6 (.slice (some ⟨g, 0, none⟩) A.length c) A.length (gramsV A) := by
  obtain ⟨cur, h1, h2, h3, h4⟩ := h
  exact ⟨grams_len A, .inr ⟨g, c, cur, rfl, Nat.zero_le _, h1, h3, hcm, h2, h4⟩⟩
set_option maxRecDepth 100000 in
set_option maxHeartbeats 4000000 in
theorem delf_own (g cc C : Nat) (L : List Gr) (c : Int) (w : World) (hr : Rw w g cc L) (hcm : cc ≤ maxLen) (hC : Blk w C 3 #[.int .i64 c]) (hCg : C ≠ g) (hlen : L.length ≤ 1000000) :
    Calls Try.prog 45 #[.slice (some ⟨g, 0, none⟩) L.length cc, .func (.func 46) #[] #[.pointer (some ⟨C, 0, none⟩)]] w (DelRes (.slice (some ⟨g, 0, none⟩) L.length cc) (L.filter (notC c)) w) := by
  have HI := Lib.hid (index_any _ L C c w (src_own (hr.own hcm)) hC hlen)
  have hCw := hC.lt
  have hgw := hr.lt
  have HR0 := Lib.hid hr
  have HC := Lib.hid hC
  have hLc : L.length ≤ cc := by obtain ⟨_, _, _, h3, _⟩ := hr; exact h3
  clear hr hC
  go_enter Try.func45, Try.ntmps45
  go_wp2_with fail
  refine HI.out.mono ?_
  rintro e w1 ⟨b1, (⟨k, x, hx, hc, hno, rfl⟩ | ⟨hno, rfl⟩)⟩
  rotate_left
  · have FIN : Hid (DelRes (.slice (some ⟨g, 0, none⟩) L.length cc) (L.filter (notC c)) w (.returned (.slice (some ⟨g, 0, none⟩) L.length cc)) w1) := Lib.hid (by
      rw [filter_all hno]
      exact ⟨_, rfl, (HR0.out.below b1).own hcm, ⟨b1.os, b1.tape, b1.output, b1.size, fun k hk _ => b1.block k hk⟩, rfl⟩)
    clear b1 hno HI HC HR0
    go_wp2
    go_ret
    exact FIN.out
  have hkl : k < L.length := (List.getElem?_eq_some_iff.1 hx).1
  have ST : Hid (∃ A, DI L A c k (k + 1) ∧ Rw w1 g cc A ∧ Keep (fun j => j < w.heap.size ∧ j ≠ g) w w1) := Lib.hid ⟨L, di_start hx hc hno, HR0.out.below b1, Keep.mono (Keep.of_below (M := fun j => j < w.heap.size) b1 (fun _ h => h)) (fun _ h => h.1)⟩
  have hk1 : ¬ ((k : Int) = -1) := by omega
  have hk2 : ((k : Int) == -1) = false := by simp
  have hwn : IntKind.i64.wrap ((k : Int) + 1) = (k : Int) + 1 := by rw [IntKind.wrap_i64]; omega
  clear HI hx hc hno b1 HR0
  go_wp2_with fail
  go_loopw [5, 6] (fun ti tj wr => ∃ i j : Nat, ti = .int .i64 (i : Int) ∧ tj = .int .i64 (j : Int) ∧ i < j ∧ j ≤ L.length ∧ Hid (∃ A, DI L A c i j ∧ Rw wr g cc A ∧ Keep (fun j => j < w.heap.size ∧ j ≠ g) w wr)) (fun _ tj _ => L.length - (intOf tj).toNat)
  case atStart => exact ⟨k, k + 1, rfl, by simp, by omega, by omega, ST⟩
  case round =>
    obtain ⟨i, j, rfl, rfl, hij, hjl, HK⟩ := hrel
    clear ST hk1 hk2 hwn hkl
    by_cases hlt : j < L.length
    · have hx : L[j]? = some L[j] := List.getElem?_eq_getElem hlt
      generalize L[j] = y at hx
      obtain ⟨A, hD, hR, hK⟩ := HK.out
      obtain ⟨⟨c0, c1, c2, c3, c4, c5⟩, _⟩ := hR.at_ (hD.at_ hx)
      have hbx := below_box wr (.cells (gv y) 29)
      have hCr := hK.blk HC.out ⟨hCw, hCg⟩
      have HF := Lib.hid (clear1_any y C c _ ((hCr.below hbx hCr.lt).cell 0))
      have HX := Lib.hid hx
      have HD := Lib.hid hD
      have HR := Lib.hid (hR.below hbx)
      have HKK := Lib.hid (hK.trans (Keep.of_below (M := fun j => j < w.heap.size ∧ j ≠ g) hbx (fun k h => Nat.lt_of_lt_of_le h.1 hK.size)))
      have HBX := Lib.hid (Blk.new wr 29 (gv y))
      have hgr := hR.lt
      clear hx hD hR hK hCr hbx HK
      dsimp only [gv] at HF HR HKK HBX
      go_wp2_with fail
      refine HF.out.mono ?_
      rintro e W1 ⟨rfl, b1⟩
      have HR1 := Lib.hid (HR.out.below b1)
      have HK1 := Lib.hid (HKK.out.trans (Keep.of_below (M := fun j => j < w.heap.size ∧ j ≠ g) b1 (fun k h => Nat.lt_of_lt_of_le h.1 HKK.out.size)))
      have HX1 := Lib.hid (HBX.out.below b1 HBX.out.lt)
      clear b1 HF HR HKK HBX c0 c1 c2 c3 c4 c5 hgr
      cases hp : isC c y with
      | true =>
        have ST : Hid (∃ A, DI L A c i (j + 1) ∧ Rw W1 g cc A ∧ Keep (fun j => j < w.heap.size ∧ j ≠ g) w W1) := Lib.hid ⟨A, (di_next HD.out HX.out).1 hp, HR1.out, HK1.out⟩
        clear hp HR1 HK1 HX1 HD HX
        go_wp2
        go_roundw
        case rel => exact ⟨i, j + 1, rfl, by go_num, by omega, by omega, ST⟩
        case measure => simp [intOf]; omega
      | false =>
        have hiA : i < A.length := by rw [HD.out.len]; omega
        have hai : A[i]? = some A[i] := List.getElem?_eq_getElem hiA
        generalize A[i] = z at hai
        obtain ⟨⟨d0, d1, d2, d3, d4, d5⟩, f0, f1, f2, f3, f4, f5⟩ := HR1.out.at_ hai
        obtain ⟨x0, x1, x2, x3, x4, x5⟩ := blk_cells HX1.out
        obtain ⟨W2, hW2⟩ : ∃ W2, sixAt W1 g i y = W2 := ⟨_, rfl⟩
        have ST : Hid (∃ A, DI L A c (i + 1) (j + 1) ∧ Rw W2 g cc A ∧ Keep (fun j => j < w.heap.size ∧ j ≠ g) w W2) := Lib.hid ⟨A.set i y, (di_next HD.out HX.out).2 hp, by rw [← hW2]; exact HR1.out.six hiA y, by rw [← hW2]; exact sixAt_keep HK1.out (fun h => h.2 rfl) i y⟩
        have HW2 : Hid ((((((W1.setCell ⟨g, i * 6, none⟩ (.int .i64 y.cl)).setCell ⟨g, i * 6 + 1, none⟩ (.bool y.up)).setCell ⟨g, i * 6 + 2, none⟩ (.int .i64 y.ep)).setCell ⟨g, i * 6 + 3, none⟩ (.int .i64 y.sq)).setCell ⟨g, i * 6 + 4, none⟩ (.int .i64 y.ak)).setCell ⟨g, i * 6 + 5, none⟩ (.string y.bd) = W2) := Lib.hid hW2
        have hil : i < L.length := by omega
        clear hp HR1 HK1 HX1 HD HX hai hiA hW2
        go_upto_region 10 with (fail)
        rw [HW2.out]
        clear HW2 d0 d1 d2 d3 d4 d5 f0 f1 f2 f3 f4 f5 x0 x1 x2 x3 x4 x5
        go_wp2
        go_roundw
        case rel => exact ⟨i + 1, j + 1, by go_num, by go_num, by omega, by omega, ST⟩
        case measure => simp [intOf]; omega
    · obtain rfl : j = L.length := by omega
      obtain ⟨A, hD, hR, hK⟩ := HK.out
      obtain ⟨cur, h1, h2, h3, h4⟩ := hR
      have htk := hD.tk
      have hlen2 := hD.len
      rw [List.take_of_length_le (Nat.le_refl _)] at htk
      have hil := hD.il
      rw [List.take_of_length_le (Nat.le_refl _)] at hil
      have hg1 := setRow_heap wr g cur (splice cur.toList (i * 6) (zl (L.length - i))).toArray _ _ h1
      have hcl0 : cur.toList.length = cc * 6 := by simpa using h2
      have hcl : ∀ ty c2, (Builtin.clear_ #[67] ty #[.slice (some ⟨g, i * 6, none⟩) (L.length - i) c2]).run Try.prog wr = .ok (.tuple #[]) (wr.setRow g (splice cur.toList (i * 6) (zl (L.length - i))).toArray) := fun ty c2 => by
        have hst := run_storeCells_at Try.prog g (i * 6) 29 (zl (L.length - i)) 0 cur wr h1 (by rw [zl_len, h2]; omega) (zl_one _)
        simp only [Nat.add_zero] at hst
        obtain ⟨i0, hi0, hz0, hz1, hz2⟩ := info_parts info_gram
        obtain ⟨m, hm⟩ : ∃ m, L.length - i = m + 1 := ⟨L.length - i - 1, by omega⟩
        have hzv : ∀ w, (zeroValue 29).run Try.prog w = .ok (Value.agg #[.int .i64 0, .bool false, .int .i64 0, .int .i64 0, .int .i64 0, .string .empty]) w := fun w => by simp [zeroValue, typeInfo, hi0, hz0]
        rw [hm] at hst ⊢
        have hst2 : ∀ w', (storeCells ⟨g, i * 6, none⟩ (Builtin.zeroCells (Value.agg #[.int .i64 0, .bool false, .int .i64 0, .int .i64 0, .int .i64 0, .string .empty]).cells (m + 1)).toList 0).run Try.prog wr = .ok () w' → (storeCells ⟨g, i * 6, none⟩ (zl (m + 1)) 0).run Try.prog wr = .ok () w' := fun _ h => h
        unfold zl at hst
        simp [Builtin.clear_, run_underlying Try.underlying67, hzv, hst, splice, zl]
      obtain ⟨W2, hW2⟩ : ∃ W2, wr.setRow g (splice cur.toList (i * 6) (zl (L.length - i))).toArray = W2 := ⟨_, rfl⟩
      rw [hW2] at hg1 hcl
      have FIN : Hid (DelRes (.slice (some ⟨g, 0, none⟩) L.length cc) (L.filter (notC c)) w (.returned (.slice (some ⟨g, 0, none⟩) i cc)) W2) := by
        refine Lib.hid ⟨_, rfl, ⟨by rw [grams_len], .inr ⟨g, cc, _, by rw [hil], Nat.zero_le _, hg1, by omega, hcm, ?_, ?_⟩⟩, ?_, rfl⟩
        · rw [List.size_toArray, length_splice _ _ _ (by rw [zl_len]; omega)]; exact hcl0
        · rw [← hil, ← htk, ← grams_take, ← h4]
          unfold splice
          rw [List.take_append_of_le_length (by rw [List.length_take]; omega), List.take_take, Nat.min_self, List.take_take]
          congr 1
          omega
        · have hb : ∀ j, j ≠ g → W2.heap[j]? = wr.heap[j]? := fun j hj => by rw [← hW2]; exact setRow_other _ g j _ hj
          have hsz : W2.heap.size = wr.heap.size := by rw [← hW2]; simp [World.setRow]
          refine ⟨by rw [← hW2]; exact hK.os, by rw [← hW2]; exact hK.tape, by rw [← hW2]; exact hK.output, by rw [hsz]; exact hK.size, fun j hj hjr => ?_⟩
          have hjg : j ≠ g := fun e => hjr (by rw [e]; rfl)
          exact (hb j hjg).trans (hK.block j ⟨hj, hjg⟩)
      have HCL := Lib.hid hcl
      have hic : i ≤ cc := by omega
      have hicn : ¬ (cc = i) := by omega
      have hin : i ≤ L.length := by omega
      clear hD hK h1 h2 h4 htk hil hg1 hcl0 hcl HK
      have hcl := HCL.out
      clear HCL
      go_wp2
      go_ret
      exact FIN.out
set_option maxRecDepth 100000 in
set_option maxHeartbeats 1000000 in
theorem delf_nil (C : Nat) (c : Int) (w : World) (hC : Blk w C 3 #[.int .i64 c]) :
    Calls Try.prog 45 #[.slice none 0 0, .func (.func 46) #[] #[.pointer (some ⟨C, 0, none⟩)]] w (DelRes (.slice none 0 0) [] w) := by
  have HI := Lib.hid (index_any (.slice none 0 0) [] C c w (.inl ⟨rfl, rfl⟩) hC (Nat.zero_le _))
  clear hC
  go_enter Try.func45, Try.ntmps45
  go_wp2_with fail
  refine HI.out.mono ?_
  rintro e w1 ⟨b1, (⟨k, x, hx, hc, hno, rfl⟩ | ⟨hno, rfl⟩)⟩
  · simp at hx
  · have FIN : Hid (DelRes (.slice none 0 0) [] w (.returned (.slice none 0 0)) w1) := Lib.hid ⟨_, rfl, own_nil _ _ _ _, ⟨b1.os, b1.tape, b1.output, b1.size, fun k hk _ => b1.block k hk⟩, rfl⟩
    clear b1 hno HI
    go_wp2
    go_ret
    exact FIN.out
/-- DeleteFunc over a net's row -/
theorem delf_any (v : Value) (C : Nat) (L : List Gr) (c : Int) (w : World) (h : w.ownsRow 0 29 6 v L.length (gramsV L)) (hC : Blk w C 3 #[.int .i64 c]) (hCv : v.ownBlock ≠ some C) (hlen : L.length ≤ 1000000) :
    Calls Try.prog 45 #[v, .func (.func 46) #[] #[.pointer (some ⟨C, 0, none⟩)]] w (DelRes v (L.filter (notC c)) w) := by
  rcases h.2 with ⟨rfl, h0⟩ | ⟨g, cc, cur, rfl, hg, hc, h1, h2, h3, h4⟩
  · obtain rfl := List.eq_nil_of_length_eq_zero h0
    exact delf_nil C c w hC
  · exact delf_own g cc C L c w ⟨cur, hc, h3, h1, h4⟩ h2 hC (fun e => hCv (by rw [e]; rfl)) hlen
/-- Clear -/
def clearN (L : List Gr) (c : Int) : Int := (L.length : Int) - ((L.filter (notC c)).length : Int)
def ClearRes (p : Nat) (M : Nat → Prop) (L : List Gr) (c : Int) (w : World) (e : Ending) (w' : World) : Prop := e = .returned (.int .i64 (clearN L c)) ∧ PQ 69 w' p M (L.filter (notC c)) ∧ Keep M w w'
set_option maxRecDepth 100000 in
set_option maxHeartbeats 2000000 in
theorem clear_any (p : Nat) (M : Nat → Prop) (L : List Gr) (c : Int) (w : World) (h : PQ 69 w p M L) (hlen : L.length ≤ 1000000) :
    Calls Try.prog 27 #[.pointer (some ⟨p, 0, none⟩), .int .i64 c] w (ClearRes p M L c w) := by
  have hl := h.lt
  have hb := below_box w (.cells #[.int .i64 c] 3)
  have hX := Blk.new w 3 #[.int .i64 c]
  obtain ⟨v, h⟩ := h
  have h1 := h.alloc (.cells #[.int .i64 c] 3)
  have hk := Keep.of_below hb hl
  have hmf := hmakef
  have p0 := h1.blk.cell 0
  obtain ⟨W0, hW0⟩ : ∃ W0, w.alloc (.cells #[.int .i64 c] 3) = W0 := ⟨_, rfl⟩
  rw [hW0] at hX h1 hk
  have HD := Lib.hid (delf_any v w.heap.size L c W0 h1.own hX (fun e => by have := own_lt h.own e; omega) hlen)
  have H1 := Lib.hid h1
  have HK := Lib.hid hk
  have HW0 := Lib.hid hW0
  have hfl : (L.filter (notC c)).length ≤ L.length := List.length_filter_le _ _
  obtain ⟨av, cv, rfl⟩ := own_shape h1.own
  have hcn : clearN L c = (L.length : Int) - ((L.filter (notC c)).length : Int) := rfl
  generalize hlf : (L.filter (notC c)).length = m at hfl hcn
  have HLF := Lib.hid hlf
  have HCN := Lib.hid hcn
  clear h hb hX h1 hk hW0 hl hcn hlf
  go_enter Try.func27, Try.ntmps27
  go_wp2_with fail
  rw [HW0.out]
  clear HW0
  refine HD.out.mono ?_
  rintro e w2 ⟨v', rfl, ho, hgr, hv⟩
  obtain ⟨k1, k2, hA3, hk3⟩ := H1.out.laid (Below.refl _ _) ho hgr (fun g5 hg5 => .inl (hv.symm.trans hg5))
  have hs : ∃ a c', v' = .slice a m c' := by
    obtain ⟨a5, c5, e5⟩ := own_shape ho
    rw [HLF.out] at e5
    exact ⟨a5, c5, e5⟩
  obtain ⟨a5, c5, rfl⟩ := hs
  have q0 := hA3.blk.cell 0
  have FIN : Hid (ClearRes p M L c w (.returned (.int .i64 ((L.length : Int) - (m : Int)))) (w2.setCell ⟨p, 0, none⟩ (.slice a5 m c5))) := Lib.hid ⟨by rw [HCN.out], ⟨_, hA3.mono fun _ h => .inl h⟩, HK.out.trans (hk3.mono fun _ h => .inl h)⟩
  have hwn : IntKind.i64.wrap ((L.length : Int) - (m : Int)) = (L.length : Int) - (m : Int) := by rw [IntKind.wrap_i64]; omega
  clear HD H1 HK ho hgr hv hA3 hk3 p0
  go_wp2
  go_ret
  exact FIN.out
end Go.Proofs.Ythkgmfgchgoafaa.Mist
