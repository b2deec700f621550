/- slices.IndexFunc, ContainsFunc, DeleteFunc over a row of requests. -/
import Derived.Test.YthodggkpkjfggaaKeyMem
import Derived.Test.YthodggkpkjfggaaCopyK
namespace Go.Proofs.Ythodggkpkjfggaa.Key
set_option maxRecDepth 100000
open Go.RowKit
open Go.Proofs.Ythodggkpkjfggaa.Mem
theorem below_box (w : World) (o : Obj) : Below w.heap.size w (w.alloc o) := (Below.refl _ _).alloc (Nat.le_refl _) o
theorem info_req : (Try.prog.info? 65).map (fun i => (i.zero, i.size, i.bytes)) = some (some (.agg #[.int .i64 0, .int .i64 0]), 2, 16) := by kernel_rfl
def rv (x : Rq) : Array Value := #[.int .i64 x.cl, .int .i64 x.wants]
theorem req_atj (L : List Rq) (i : Nat) (x : Rq) (h : L[i]? = some x) : ∀ j, j < 2 → (reqV L)[i * 2 + j]? = (rv x).toList[j]? := by
  intro j hj
  obtain ⟨h1, h2⟩ := req_at L i x h
  rcases (show j = 0 ∨ j = 1 by omega) with rfl | rfl
  · exact h1
  · exact h2
theorem req_take : ∀ (k : Nat) (L : List Rq), (reqV L).take (k * 2) = reqV (L.take k)
  | 0, _ => by simp [reqV]
  | k + 1, [] => by simp [reqV]
  | k + 1, a :: l => by
    have e : reqV (a :: l) = .int .i64 a.cl :: .int .i64 a.wants :: reqV l := by simp [reqV]
    have e2 : (k + 1) * 2 = k * 2 + 1 + 1 := by omega
    rw [e, e2, List.take_succ_cons, List.take_succ_cons, req_take k l]
    simp [reqV]
theorem blk_cells {w : World} {g : Nat} {T : TypeId} {x : Rq} (h : Blk w g T (rv x)) : w.cell? ⟨g, 0, none⟩ = some (.int .i64 x.cl) ∧ w.cell? ⟨g, 1, none⟩ = some (.int .i64 x.wants) := ⟨h.cell 0, h.cell 1⟩
def Src (w : World) (v : Value) (L : List Rq) : Prop :=
  (v = .slice none 0 0 ∧ L = []) ∨ ∃ g c cur, v = .slice (some ⟨g, 0, none⟩) L.length c ∧ Blk w g 65 cur ∧ cur.toList.take (L.length * 2) = reqV L
theorem Src.shape {w : World} {v : Value} {L : List Rq} (h : Src w v L) : ∃ a c, v = .slice a L.length c := by
  rcases h with ⟨rfl, rfl⟩ | ⟨g, c, cur, rfl, _⟩
  · exact ⟨none, 0, rfl⟩
  · exact ⟨_, c, rfl⟩
theorem Src.below {w w' : World} {v : Value} {L : List Rq} (h : Src w v L) (hb : Below w.heap.size w w') : Src w' v L := by
  rcases h with h | ⟨g, c, cur, rfl, h1, h2⟩
  · exact .inl h
  · exact .inr ⟨g, c, cur, rfl, h1.below hb h1.lt, h2⟩
theorem src_own {w : World} {base : Nat} {v : Value} {L : List Rq} (h : w.ownsRow base 65 2 v L.length (reqV L)) : Src w v L := by
  rcases h.2 with ⟨rfl, h0⟩ | ⟨g, c, cur, rfl, _, hc, h1, h2, h3, h4⟩
  · exact .inl ⟨rfl, List.eq_nil_of_length_eq_zero h0⟩
  · exact .inr ⟨g, c, cur, rfl, hc, h4⟩
def CellsG (w : World) (g i : Nat) (x : Rq) : Prop := w.cell? ⟨g, i * 2, none⟩ = some (.int .i64 x.cl) ∧ w.cell? ⟨g, i * 2 + 1, none⟩ = some (.int .i64 x.wants)
theorem Src.at_ {w : World} {v : Value} {L : List Rq} (h : Src w v L) {i : Nat} {x : Rq} (hi : L[i]? = some x) : ∃ g c, v = .slice (some ⟨g, 0, none⟩) L.length c ∧ v.ownBlock = some g ∧ g < w.heap.size ∧ CellsG w g i x := by
  rcases h with ⟨_, rfl⟩ | ⟨g, c, cur, rfl, h1, h2⟩
  · simp at hi
  · have hlt := (List.getElem?_eq_some_iff.1 hi).1
    have hc : ∀ j, j < 2 → w.cell? ⟨g, i * 2 + j, none⟩ = (rv x).toList[j]? := fun j hj => by
      rw [h1.cell, ← Array.getElem?_toList, ← req_atj L i x hi j hj, ← h2, List.getElem?_take_of_lt (by omega)]
    exact ⟨g, c, rfl, rfl, h1.lt, hc 0 (by decide), hc 1 (by decide)⟩
def isC (c : Int) (x : Rq) : Bool := x.cl == c
def notC (c : Int) (x : Rq) : Bool := !(x.cl == c)
set_option maxRecDepth 100000 in
theorem clear1_any (x : Rq) (C : Nat) (c : Int) (w : World) (hC : w.cell? ⟨C, 0, none⟩ = some (.int .i64 c)) :
    Calls Try.prog 43 #[.agg #[.int .i64 x.cl, .int .i64 x.wants], .pointer (some ⟨C, 0, none⟩)] w fun e w' => e = .returned (.bool (isC c x)) ∧ Below w.heap.size w w' := by
  have lC := World.block_lt_of_cell? w _ hC
  have hb := (Below.refl w.heap.size w).alloc (Nat.le_refl _) (.cells #[.int .i64 x.cl, .int .i64 x.wants] 65)
  have HB := Lib.hid hb
  have k0 := hb.cell (p := ⟨C, 0, none⟩) lC
  clear hb
  go_enter Try.func43, Try.ntmps43
  go_wp2
  go_ret
  exact ⟨rfl, HB.out⟩
/-- a row that is worked on in place -/
def Rw (w : World) (g c : Nat) (A : List Rq) : Prop := ∃ cur, Blk w g 65 cur ∧ cur.size = c * 2 ∧ A.length ≤ c ∧ cur.toList.take (A.length * 2) = reqV A
theorem Rw.same {w w' : World} {g c : Nat} {A : List Rq} (h : Rw w g c A) (hb : w'.heap[g]? = w.heap[g]?) : Rw w' g c A := by
  obtain ⟨cur, h1, h2⟩ := h
  exact ⟨cur, hb.trans h1, h2⟩
theorem Rw.lt {w : World} {g c : Nat} {A : List Rq} (h : Rw w g c A) : g < w.heap.size := by obtain ⟨cur, h1, _⟩ := h; exact h1.lt
theorem Rw.below {w w' : World} {g c : Nat} {A : List Rq} (h : Rw w g c A) (hb : Below w.heap.size w w') : Rw w' g c A := h.same (hb.block g h.lt)
theorem Rw.at_ {w : World} {g c i : Nat} {A : List Rq} {x : Rq} (h : Rw w g c A) (hi : A[i]? = some x) : CellsG w g i x ∧ w.frozen? ⟨g, i * 2, none⟩ = false ∧ w.frozen? ⟨g, i * 2 + 1, none⟩ = false := by
  obtain ⟨cur, h1, h2, h3, h4⟩ := h
  have hlt := (List.getElem?_eq_some_iff.1 hi).1
  have hc : ∀ j, j < 2 → w.cell? ⟨g, i * 2 + j, none⟩ = (rv x).toList[j]? := fun j hj => by
    rw [h1.cell, ← Array.getElem?_toList, ← req_atj A i x hi j hj, ← h4, List.getElem?_take_of_lt (by omega)]
  exact ⟨⟨hc 0 (by decide), hc 1 (by decide)⟩, h1.frozen _, h1.frozen _⟩
theorem req_set : ∀ (A : List Rq) (i : Nat) (x : Rq), i < A.length →
    (((reqV A).set (i * 2) (.int .i64 x.cl)).set (i * 2 + 1) (.int .i64 x.wants)) = reqV (A.set i x)
  | [], i, x, h => by simp at h
  | y :: r, 0, x, h => by simp [reqV]
  | y :: r, i + 1, x, h => by
    have := req_set r i x (by simpa using h)
    have e : reqV (y :: r) = .int .i64 y.cl :: .int .i64 y.wants :: reqV r := by simp [reqV]
    have e2 : reqV ((y :: r).set (i + 1) x) = .int .i64 y.cl :: .int .i64 y.wants :: reqV (r.set i x) := by simp [reqV]
    rw [e, e2, ← this]
    have h6 : ∀ j, (i + 1) * 2 + j = i * 2 + j + 1 + 1 := fun j => by omega
    have h60 : (i + 1) * 2 = i * 2 + 1 + 1 := by omega
    rw [h6, h60]
    simp only [List.set_cons_succ]
def sixAt (w : World) (g i : Nat) (x : Rq) : World := ((w.setCell ⟨g, i * 2, none⟩ (.int .i64 x.cl)).setCell ⟨g, i * 2 + 1, none⟩ (.int .i64 x.wants))
theorem Rw.six {w : World} {g c i : Nat} {A : List Rq} (h : Rw w g c A) (hi : i < A.length) (x : Rq) : Rw (sixAt w g i x) g c (A.set i x) := by
  obtain ⟨cur, h1, h2, h3, h4⟩ := h
  have h5 := (h1.set_ (i * 2) (.int .i64 x.cl)).set_ (i * 2 + 1) (.int .i64 x.wants)
  refine ⟨_, h5, by simpa using h2, by simpa using h3, ?_⟩
  simp only [Array.toList_setIfInBounds, List.length_set, List.take_set]
  rw [h4, req_set A i x hi]
theorem sixAt_keep {w W : World} {g : Nat} {M : Nat → Prop} (h : Keep M w W) (hg : ¬ M g) (i : Nat) (x : Rq) : Keep M w (sixAt W g i x) :=
  (h.set_ hg _ _).set_ hg _ _
theorem rw_own {w : World} {base n : Nat} {a : Option Addr} {cc : Nat} {L : List Rq} (h : w.ownsRow base 65 2 (.slice a n cc) L.length (reqV L)) (h0 : L ≠ []) : ∃ g, a = some ⟨g, 0, none⟩ ∧ n = L.length ∧ base ≤ g ∧ Rw w g cc L := by
  rcases h.2 with ⟨_, h1⟩ | ⟨g, c, cur, e, hg, hc, h1, h2, h3, h4⟩
  · exact absurd (List.eq_nil_of_length_eq_zero h1) h0
  · injection e with e1 e2 e3
    subst e1; subst e2; subst e3
    exact ⟨g, rfl, rfl, hg, cur, hc, h3, h1, h4⟩
/-- where the first one is -/
def IdxRes (L : List Rq) (c : Int) (w : World) (e : Ending) (w' : World) : Prop :=
  Below w.heap.size w w' ∧ ((∃ (k : Nat) (x : Rq), L[k]? = some x ∧ isC c x = true ∧ (∀ j y, j < k → L[j]? = some y → isC c y = false) ∧ e = .returned (.int .i64 (k : Int))) ∨ ((∀ (j : Nat) (y : Rq), L[j]? = some y → isC c y = false) ∧ e = .returned (.int .i64 (-1))))
set_option maxRecDepth 100000 in
set_option maxHeartbeats 1000000 in
theorem index_any (v : Value) (L : List Rq) (C : Nat) (c : Int) (w : World) (h : Src w v L) (hC : Blk w C 3 #[.int .i64 c]) (hlen : L.length ≤ 1000000) :
    Calls Try.prog 42 #[v, .func (.func 43) #[] #[.pointer (some ⟨C, 0, none⟩)]] w (IdxRes L c w) := by
  have H := Lib.hid h
  have HC := Lib.hid hC
  obtain ⟨a, cv, rfl⟩ := h.shape
  clear h hC
  have HB : Hid (Below w.heap.size w w) := Lib.hid (Below.refl _ _)
  have HN : Hid (∀ j y, j < 0 → L[j]? = some y → isC c y = false) := Lib.hid (fun j y hj => by omega)
  go_enter Try.func42, Try.ntmps42
  go_wp2_with fail
  go_loopw [8] (fun i wr => ∃ j : Nat, j ≤ L.length ∧ i = .int .i64 (j : Int) ∧ Hid (Below w.heap.size w wr) ∧ Hid (∀ k y, k < j → L[k]? = some y → isC c y = false)) (fun i _ => L.length - (intOf i).toNat)
  case atStart => exact ⟨0, Nat.zero_le _, rfl, HB, HN⟩
  case round =>
    obtain ⟨j, hj, rfl, HK, HNN⟩ := hrel
    clear HB HN
    by_cases hlt : j < L.length
    · have hx : L[j]? = some L[j] := List.getElem?_eq_getElem hlt
      generalize L[j] = x at hx
      obtain ⟨g, cap, hv, _, hg, c0, c1⟩ := (H.out.below HK.out).at_ hx
      injection hv with e1 e2 e3
      subst e1; subst e3
      have HF := Lib.hid (clear1_any x C c wr ((HC.out.below HK.out HC.out.lt).cell 0))
      have HX := Lib.hid hx
      clear hx
      go_wp2_with fail
      refine HF.out.mono ?_
      rintro e W1 ⟨rfl, b1⟩
      have HK1 := Lib.hid (HK.out.trans (b1.mono HK.out.size))
      clear b1 HF c0 c1 HK
      cases hp : isC c x with
      | true =>
        have FIN : Hid (IdxRes L c w (.returned (.int .i64 (j : Int))) W1) := Lib.hid ⟨HK1.out, .inl ⟨j, x, HX.out, hp, HNN.out, rfl⟩⟩
        clear hp
        go_wp2
        go_ret
        exact FIN.out
      | false =>
        have HN2 : Hid (∀ k y, k < j + 1 → L[k]? = some y → isC c y = false) := Lib.hid (fun k y hk hy => by
          by_cases e : k = j
          · subst e; rw [HX.out] at hy; injection hy with hy; rw [← hy]; exact hp
          · exact HNN.out k y (by omega) hy)
        clear hp
        go_wp2
        go_roundw
        case rel => exact ⟨j + 1, by omega, by go_num, HK1, HN2⟩
        case measure => simp [intOf]; omega
    · obtain rfl : j = L.length := by omega
      go_wp2
      go_ret
      exact ⟨HK.out, .inr ⟨fun k y hy => HNN.out k y (List.getElem?_eq_some_iff.1 hy).1 hy, rfl⟩⟩
theorem filter_all {L : List Rq} {c : Int} (h : ∀ (j : Nat) (y : Rq), L[j]? = some y → isC c y = false) : L.filter (notC c) = L := by
  rw [List.filter_eq_self]
  intro y hy
  obtain ⟨j, hj⟩ := List.mem_iff_getElem?.1 hy
  have := h j y hj
  unfold isC at this
  simp [notC, this]
/-- what the loop knows: A is in the row, j are looked at, i kept -/
structure DI (L A : List Rq) (c : Int) (i j : Nat) : Prop where
  len : A.length = L.length
  ij : i < j
  jl : j ≤ L.length
  il : i = ((L.take j).filter (notC c)).length
  tk : A.take i = (L.take j).filter (notC c)
  dr : A.drop j = L.drop j
theorem di_start {L : List Rq} {c : Int} {k : Nat} {x : Rq} (hx : L[k]? = some x) (hc : isC c x = true) (h : ∀ (j : Nat) (y : Rq), j < k → L[j]? = some y → isC c y = false) : DI L L c k (k + 1) := by
  have hk : k < L.length := (List.getElem?_eq_some_iff.1 hx).1
  have e1 : (L.take k).filter (notC c) = L.take k := filter_all fun j y hy => by
    rw [List.getElem?_take] at hy
    split at hy
    · rename_i hj; exact h j y hj hy
    · cases hy
  have e2 : (L.take (k + 1)).filter (notC c) = L.take k := by
    rw [List.take_add_one, hx, List.filter_append, e1]
    unfold isC at hc
    simp [notC, hc]
  exact ⟨rfl, by omega, by omega, by rw [e2, List.length_take]; omega, e2.symm, rfl⟩
theorem di_next {L A : List Rq} {c : Int} {i j : Nat} {x : Rq} (h : DI L A c i j) (hx : L[j]? = some x) : (isC c x = true → DI L A c i (j + 1)) ∧ (isC c x = false → DI L (A.set i x) c (i + 1) (j + 1)) := by
  have hj : j < L.length := (List.getElem?_eq_some_iff.1 hx).1
  have e : (L.take (j + 1)).filter (notC c) = (L.take j).filter (notC c) ++ [x].filter (notC c) := by
    rw [List.take_add_one, hx, List.filter_append]; rfl
  have hd : A.drop (j + 1) = L.drop (j + 1) := by
    have := congrArg (List.drop 1) h.dr
    simpa [List.drop_drop, Nat.add_comm] using this
  constructor
  · intro hc
    have e2 : (L.take (j + 1)).filter (notC c) = (L.take j).filter (notC c) := by rw [e]; unfold isC at hc; simp [notC, hc]
    exact ⟨h.len, by have := h.ij; omega, hj, by rw [e2]; exact h.il, by rw [e2]; exact h.tk, hd⟩
  · intro hc
    have e2 : (L.take (j + 1)).filter (notC c) = (L.take j).filter (notC c) ++ [x] := by rw [e]; unfold isC at hc; simp [notC, hc]
    have hij := h.ij
    refine ⟨by rw [List.length_set]; exact h.len, by omega, hj, by rw [e2, List.length_append, ← h.il]; rfl, ?_, ?_⟩
    · rw [e2, ← h.tk, List.take_add_one, List.take_set, List.set_eq_of_length_le (by rw [List.length_take]; omega), List.getElem?_set_self (by rw [h.len]; omega)]; rfl
    · rw [List.drop_set_of_lt (by omega)]; exact hd
theorem DI.at_ {L A : List Rq} {c : Int} {i j : Nat} {x : Rq} (h : DI L A c i j) (hx : L[j]? = some x) : A[j]? = some x := by
  have := congrArg (fun l => l[0]?) h.dr
  simp only [List.getElem?_drop, Nat.add_zero] at this
  rw [this]; exact hx
/-- the row is the call's own still -/
def DelRes (v : Value) (L' : List Rq) (w : World) (e : Ending) (w' : World) : Prop :=
  ∃ v', e = .returned v' ∧ w'.ownsRow 0 65 2 v' L'.length (reqV L') ∧ w.grownBy w' v.ownBlock ∧ v'.ownBlock = v.ownBlock
def zl (k : Nat) : List Value := (Builtin.zeroCells (Value.agg #[.int .i64 0, .int .i64 0]).cells k).toList
theorem zl_len (k : Nat) : (zl k).length = k * 2 := by simp [zl, Builtin.zeroCells, Value.cells]
theorem zl_one (k : Nat) : ∀ u ∈ zl k, u.oneCell' = true := by
  intro u hu
  simp only [zl, Builtin.zeroCells, Value.cells, Array.toList_map, List.mem_map] at hu
  obtain ⟨i, _, rfl⟩ := hu
  have h6 : i % (#[Value.int .i64 0, .int .i64 0] : Array Value).size < 2 := Nat.mod_lt _ (by decide)
  generalize i % (#[Value.int .i64 0, .int .i64 0] : Array Value).size = m at h6
  rcases (show m = 0 ∨ m = 1 by omega) with rfl | rfl <;> rfl
theorem Rw.own {w : World} {g c : Nat} {A : List Rq} (h : Rw w g c A) (hcm : c ≤ maxLen) : w.ownsRow 0 65 2 (.slice (some ⟨g, 0, none⟩) A.length c) A.length (reqV A) := by
  obtain ⟨cur, h1, h2, h3, h4⟩ := h
  exact ⟨req_len A, .inr ⟨g, c, cur, rfl, Nat.zero_le _, h1, h3, hcm, h2, h4⟩⟩
set_option maxRecDepth 100000 in
set_option maxHeartbeats 4000000 in
theorem delf_own (g cc C : Nat) (L : List Rq) (c : Int) (w : World) (hr : Rw w g cc L) (hcm : cc ≤ maxLen) (hC : Blk w C 3 #[.int .i64 c]) (hCg : C ≠ g) (hlen : L.length ≤ 1000000) :
    Calls Try.prog 73 #[.slice (some ⟨g, 0, none⟩) L.length cc, .func (.func 43) #[] #[.pointer (some ⟨C, 0, none⟩)]] w (DelRes (.slice (some ⟨g, 0, none⟩) L.length cc) (L.filter (notC c)) w) := by
  have HI := Lib.hid (index_any _ L C c w (src_own (hr.own hcm)) hC hlen)
  have hCw := hC.lt
  have hgw := hr.lt
  have HR0 := Lib.hid hr
  have HC := Lib.hid hC
  have hLc : L.length ≤ cc := by obtain ⟨_, _, _, h3, _⟩ := hr; exact h3
  clear hr hC
  go_enter Try.func73, Try.ntmps73
  go_wp2_with fail
  refine HI.out.mono ?_
  rintro e w1 ⟨b1, (⟨k, x, hx, hc, hno, rfl⟩ | ⟨hno, rfl⟩)⟩
  rotate_left
  · have FIN : Hid (DelRes (.slice (some ⟨g, 0, none⟩) L.length cc) (L.filter (notC c)) w (.returned (.slice (some ⟨g, 0, none⟩) L.length cc)) w1) := Lib.hid (by
      rw [filter_all hno]
      exact ⟨_, rfl, (HR0.out.below b1).own hcm, ⟨b1.os, b1.tape, b1.output, b1.size, fun k hk _ => b1.block k hk⟩, rfl⟩)
    clear b1 hno HI HC HR0
    go_wp2
    go_ret
    exact FIN.out
  have hkl : k < L.length := (List.getElem?_eq_some_iff.1 hx).1
  have ST : Hid (∃ A, DI L A c k (k + 1) ∧ Rw w1 g cc A ∧ Keep (fun j => j < w.heap.size ∧ j ≠ g) w w1) := Lib.hid ⟨L, di_start hx hc hno, HR0.out.below b1, Keep.mono (Keep.of_below (M := fun j => j < w.heap.size) b1 (fun _ h => h)) (fun _ h => h.1)⟩
  have hk1 : ¬ ((k : Int) = -1) := by omega
  have hk2 : ((k : Int) == -1) = false := by simp
  have hwn : IntKind.i64.wrap ((k : Int) + 1) = (k : Int) + 1 := by rw [IntKind.wrap_i64]; omega
  clear HI hx hc hno b1 HR0
  go_wp2_with fail
  go_loopw [5, 6] (fun ti tj wr => ∃ i j : Nat, ti = .int .i64 (i : Int) ∧ tj = .int .i64 (j : Int) ∧ i < j ∧ j ≤ L.length ∧ Hid (∃ A, DI L A c i j ∧ Rw wr g cc A ∧ Keep (fun j => j < w.heap.size ∧ j ≠ g) w wr)) (fun _ tj _ => L.length - (intOf tj).toNat)
  case atStart => exact ⟨k, k + 1, rfl, by simp, by omega, by omega, ST⟩
  case round =>
    obtain ⟨i, j, rfl, rfl, hij, hjl, HK⟩ := hrel
    clear ST hk1 hk2 hwn hkl
    by_cases hlt : j < L.length
    · have hx : L[j]? = some L[j] := List.getElem?_eq_getElem hlt
      generalize L[j] = y at hx
      obtain ⟨A, hD, hR, hK⟩ := HK.out
      obtain ⟨⟨c0, c1⟩, _⟩ := hR.at_ (hD.at_ hx)
      have hbx := below_box wr (.cells (rv y) 65)
      have hCr := hK.blk HC.out ⟨hCw, hCg⟩
      have HF := Lib.hid (clear1_any y C c _ ((hCr.below hbx hCr.lt).cell 0))
      have HX := Lib.hid hx
      have HD := Lib.hid hD
      have HR := Lib.hid (hR.below hbx)
      have HKK := Lib.hid (hK.trans (Keep.of_below (M := fun j => j < w.heap.size ∧ j ≠ g) hbx (fun k h => Nat.lt_of_lt_of_le h.1 hK.size)))
      have HBX := Lib.hid (Blk.new wr 65 (rv y))
      have hgr := hR.lt
      clear hx hD hR hK hCr hbx HK
      dsimp only [rv] at HF HR HKK HBX
      go_wp2_with fail
      refine HF.out.mono ?_
      rintro e W1 ⟨rfl, b1⟩
      have HR1 := Lib.hid (HR.out.below b1)
      have HK1 := Lib.hid (HKK.out.trans (Keep.of_below (M := fun j => j < w.heap.size ∧ j ≠ g) b1 (fun k h => Nat.lt_of_lt_of_le h.1 HKK.out.size)))
      have HX1 := Lib.hid (HBX.out.below b1 HBX.out.lt)
      clear b1 HF HR HKK HBX c0 c1 hgr
      cases hp : isC c y with
      | true =>
        have ST : Hid (∃ A, DI L A c i (j + 1) ∧ Rw W1 g cc A ∧ Keep (fun j => j < w.heap.size ∧ j ≠ g) w W1) := Lib.hid ⟨A, (di_next HD.out HX.out).1 hp, HR1.out, HK1.out⟩
        clear hp HR1 HK1 HX1 HD HX
        go_wp2
        go_roundw
        case rel => exact ⟨i, j + 1, rfl, by go_num, by omega, by omega, ST⟩
        case measure => simp [intOf]; omega
      | false =>
        have hiA : i < A.length := by rw [HD.out.len]; omega
        have hai : A[i]? = some A[i] := List.getElem?_eq_getElem hiA
        generalize A[i] = z at hai
        obtain ⟨⟨d0, d1⟩, f0, f1⟩ := HR1.out.at_ hai
        obtain ⟨x0, x1⟩ := blk_cells HX1.out
        obtain ⟨W2, hW2⟩ : ∃ W2, sixAt W1 g i y = W2 := ⟨_, rfl⟩
        have ST : Hid (∃ A, DI L A c (i + 1) (j + 1) ∧ Rw W2 g cc A ∧ Keep (fun j => j < w.heap.size ∧ j ≠ g) w W2) := Lib.hid ⟨A.set i y, (di_next HD.out HX.out).2 hp, by rw [← hW2]; exact HR1.out.six hiA y, by rw [← hW2]; exact sixAt_keep HK1.out (fun h => h.2 rfl) i y⟩
        have HW2 : Hid ((W1.setCell ⟨g, i * 2, none⟩ (.int .i64 y.cl)).setCell ⟨g, i * 2 + 1, none⟩ (.int .i64 y.wants) = W2) := Lib.hid hW2
        have hil : i < L.length := by omega
        clear hp HR1 HK1 HX1 HD HX hai hiA hW2
        go_upto_region 10 with (fail)
        rw [HW2.out]
        clear HW2 d0 d1 f0 f1 x0 x1
        go_wp2
        go_roundw
        case rel => exact ⟨i + 1, j + 1, by go_num, by go_num, by omega, by omega, ST⟩
        case measure => simp [intOf]; omega
    · obtain rfl : j = L.length := by omega
      obtain ⟨A, hD, hR, hK⟩ := HK.out
      obtain ⟨cur, h1, h2, h3, h4⟩ := hR
      have htk := hD.tk
      have hlen2 := hD.len
      rw [List.take_of_length_le (Nat.le_refl _)] at htk
      have hil := hD.il
      rw [List.take_of_length_le (Nat.le_refl _)] at hil
      have hg1 := setRow_heap wr g cur (splice cur.toList (i * 2) (zl (L.length - i))).toArray _ _ h1
      have hcl0 : cur.toList.length = cc * 2 := by simpa using h2
      have hcl : ∀ ty c2, (Builtin.clear_ #[63] ty #[.slice (some ⟨g, i * 2, none⟩) (L.length - i) c2]).run Try.prog wr = .ok (.tuple #[]) (wr.setRow g (splice cur.toList (i * 2) (zl (L.length - i))).toArray) := fun ty c2 => by
        have hst := run_storeCells_at Try.prog g (i * 2) 65 (zl (L.length - i)) 0 cur wr h1 (by rw [zl_len, h2]; omega) (zl_one _)
        simp only [Nat.add_zero] at hst
        obtain ⟨i0, hi0, hz0, hz1, hz2⟩ := info_parts info_req
        obtain ⟨m, hm⟩ : ∃ m, L.length - i = m + 1 := ⟨L.length - i - 1, by omega⟩
        have hzv : ∀ w, (zeroValue 65).run Try.prog w = .ok (Value.agg #[.int .i64 0, .int .i64 0]) w := fun w => by simp [zeroValue, typeInfo, hi0, hz0]
        rw [hm] at hst ⊢
        have hst2 : ∀ w', (storeCells ⟨g, i * 2, none⟩ (Builtin.zeroCells (Value.agg #[.int .i64 0, .int .i64 0]).cells (m + 1)).toList 0).run Try.prog wr = .ok () w' → (storeCells ⟨g, i * 2, none⟩ (zl (m + 1)) 0).run Try.prog wr = .ok () w' := fun _ h => h
        unfold zl at hst
        simp [Builtin.clear_, run_underlying Try.underlying63, hzv, hst, splice, zl]
      obtain ⟨W2, hW2⟩ : ∃ W2, wr.setRow g (splice cur.toList (i * 2) (zl (L.length - i))).toArray = W2 := ⟨_, rfl⟩
      rw [hW2] at hg1 hcl
      have FIN : Hid (DelRes (.slice (some ⟨g, 0, none⟩) L.length cc) (L.filter (notC c)) w (.returned (.slice (some ⟨g, 0, none⟩) i cc)) W2) := by
        refine Lib.hid ⟨_, rfl, ⟨by rw [req_len], .inr ⟨g, cc, _, by rw [hil], Nat.zero_le _, hg1, by omega, hcm, ?_, ?_⟩⟩, ?_, rfl⟩
        · rw [List.size_toArray, length_splice _ _ _ (by rw [zl_len]; omega)]; exact hcl0
        · rw [← hil, ← htk, ← req_take, ← h4]
          unfold splice
          rw [List.take_append_of_le_length (by rw [List.length_take]; omega), List.take_take, Nat.min_self, List.take_take]
          congr 1
          omega
        · have hb : ∀ j, j ≠ g → W2.heap[j]? = wr.heap[j]? := fun j hj => by rw [← hW2]; exact setRow_other _ g j _ hj
          have hsz : W2.heap.size = wr.heap.size := by rw [← hW2]; simp [World.setRow]
          refine ⟨by rw [← hW2]; exact hK.os, by rw [← hW2]; exact hK.tape, by rw [← hW2]; exact hK.output, by rw [hsz]; exact hK.size, fun j hj hjr => ?_⟩
          have hjg : j ≠ g := fun e => hjr (by rw [e]; rfl)
          exact (hb j hjg).trans (hK.block j ⟨hj, hjg⟩)
      have HCL := Lib.hid hcl
      have hic : i ≤ cc := by omega
      have hicn : ¬ (cc = i) := by omega
      have hin : i ≤ L.length := by omega
      clear hD hK h1 h2 h4 htk hil hg1 hcl0 hcl HK
      have hcl := HCL.out
      clear HCL
      go_wp2
      go_ret
      exact FIN.out
set_option maxRecDepth 100000 in
set_option maxHeartbeats 1000000 in
theorem delf_nil (C : Nat) (c : Int) (w : World) (hC : Blk w C 3 #[.int .i64 c]) :
    Calls Try.prog 73 #[.slice none 0 0, .func (.func 43) #[] #[.pointer (some ⟨C, 0, none⟩)]] w (DelRes (.slice none 0 0) [] w) := by
  have HI := Lib.hid (index_any (.slice none 0 0) [] C c w (.inl ⟨rfl, rfl⟩) hC (Nat.zero_le _))
  clear hC
  go_enter Try.func73, Try.ntmps73
  go_wp2_with fail
  refine HI.out.mono ?_
  rintro e w1 ⟨b1, (⟨k, x, hx, hc, hno, rfl⟩ | ⟨hno, rfl⟩)⟩
  · simp at hx
  · have FIN : Hid (DelRes (.slice none 0 0) [] w (.returned (.slice none 0 0)) w1) := Lib.hid ⟨_, rfl, own_nil _ _ _ _, ⟨b1.os, b1.tape, b1.output, b1.size, fun k hk _ => b1.block k hk⟩, rfl⟩
    clear b1 hno HI
    go_wp2
    go_ret
    exact FIN.out
/-- DeleteFunc over a net's row -/
theorem delf_any (v : Value) (C : Nat) (L : List Rq) (c : Int) (w : World) (h : w.ownsRow 0 65 2 v L.length (reqV L)) (hC : Blk w C 3 #[.int .i64 c]) (hCv : v.ownBlock ≠ some C) (hlen : L.length ≤ 1000000) :
    Calls Try.prog 73 #[v, .func (.func 43) #[] #[.pointer (some ⟨C, 0, none⟩)]] w (DelRes v (L.filter (notC c)) w) := by
  rcases h.2 with ⟨rfl, h0⟩ | ⟨g, cc, cur, rfl, hg, hc, h1, h2, h3, h4⟩
  · obtain rfl := List.eq_nil_of_length_eq_zero h0
    exact delf_nil C c w hC
  · exact delf_own g cc C L c w ⟨cur, hc, h3, h1, h4⟩ h2 hC (fun e => hCv (by rw [e]; rfl)) hlen
set_option maxRecDepth 100000 in
/-- of -/
theorem of_any (c : Int) (w : World) :
    Calls Try.prog 26 #[.int .i64 c] w fun e w' => e = .returned (.func (.func 43) #[] #[.pointer (some ⟨w.heap.size, 0, none⟩)]) ∧ w' = w.alloc (.cells #[.int .i64 c] 3) := by
  go_enter Try.func26, Try.ntmps26
  go_wp2
  go_ret
  exact ⟨rfl, rfl⟩
set_option maxRecDepth 100000 in
theorem has_any (v : Value) (L : List Rq) (C : Nat) (c : Int) (w : World) (h : Src w v L) (hC : Blk w C 3 #[.int .i64 c]) (hlen : L.length ≤ 1000000) :
    Calls Try.prog 25 #[v, .func (.func 43) #[] #[.pointer (some ⟨C, 0, none⟩)]] w fun e w' => e = .returned (.bool (L.any (isC c))) ∧ Below w.heap.size w w' := by
  have HI := Lib.hid (index_any v L C c w h hC hlen)
  obtain ⟨a, cv, rfl⟩ := h.shape
  clear h hC
  obtain ⟨bb, hbb⟩ : ∃ bb, L.any (isC c) = bb := ⟨_, rfl⟩
  rw [hbb]
  have HY := Lib.hid hbb
  clear hbb
  go_enter Try.func25, Try.ntmps25
  go_wp2_with fail
  refine HI.out.mono ?_
  rintro e w1 ⟨b1, (⟨k, x, hx, hc, hno, rfl⟩ | ⟨hno, rfl⟩)⟩
  · have hy : L.any (isC c) = true := List.any_eq_true.2 ⟨x, List.mem_of_getElem? hx, hc⟩
    obtain rfl : bb = true := HY.out.symm.trans hy
    have hk : (0 : Int) ≤ (k : Int) := by omega
    have HB := Lib.hid b1
    clear hx hc hno b1 hy HI HY
    go_wp2
    go_ret
    exact ⟨rfl, HB.out⟩
  · have hy : L.any (isC c) = false := List.any_eq_false.2 fun x hx => by
      obtain ⟨j, hj⟩ := List.mem_iff_getElem?.1 hx
      simp [hno j x hj]
    obtain rfl : bb = false := HY.out.symm.trans hy
    have HB := Lib.hid b1
    clear hno b1 hy HI HY
    go_wp2
    go_ret
    exact ⟨rfl, HB.out⟩
end Go.Proofs.Ythodggkpkjfggaa.Key
