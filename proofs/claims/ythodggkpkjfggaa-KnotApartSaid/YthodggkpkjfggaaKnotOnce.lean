/- once, place, head; slices.Reverse, Max, of rows of one's own. -/
import Derived.Test.YthodggkpkjfggaaKnotWalk
import Derived.Test.YthodggkpkjfggaaShelf
import Derived.Test.YthodggkpkjfggaaShelf3
import Derived.Sort.OwnSortedInts
namespace Go.Proofs.Ythodggkpkjfggaa.Knot
set_option maxRecDepth 100000
open Go.RowKit
open Go.Proofs.Ythodggkpkjfggaa.Mem
/-! plain -/
theorem keeps_iff (d : Array Int) (m : Nat) : Lib.keeps d m = true ↔ (m = 0 ∨ d[m]! ≠ d[m - 1]!) := by unfold Lib.keeps; simp
theorem compact_upTo (d : Array Int) (hs : ∀ i j, i ≤ j → j < d.size → d[i]! ≤ d[j]!) : ∀ m, m ≤ d.size →
    (Lib.compactUpTo d m).Pairwise (· < ·) ∧ (∀ x, x ∈ Lib.compactUpTo d m ↔ ∃ j, j < m ∧ d[j]! = x)
  | 0, _ => ⟨by simp [Lib.compactUpTo], fun x => by simp [Lib.compactUpTo]⟩
  | m + 1, hm => by
    obtain ⟨h1, h2⟩ := compact_upTo d hs m (by omega)
    rw [Lib.compactUpTo_succ]
    have hall : ∀ x ∈ Lib.compactUpTo d m, x ≤ d[m]! := fun x hx => by
      obtain ⟨j, hj, e⟩ := (h2 x).1 hx
      rw [← e]; exact hs j m (by omega) (by omega)
    by_cases hk : Lib.keeps d m = true
    · rw [if_pos hk]
      refine ⟨List.pairwise_append.2 ⟨h1, by simp, fun x hx y hy => ?_⟩, fun x => ?_⟩
      · obtain rfl := List.mem_singleton.1 hy
        obtain ⟨j, hj, e⟩ := (h2 x).1 hx
        rcases (keeps_iff d m).1 hk with h3 | h3
        · omega
        · have h4 := hs (m - 1) m (by omega) (by omega)
          have h5 := hs j (m - 1) (by omega) (by omega)
          omega
      · rw [List.mem_append, h2, List.mem_singleton]
        constructor
        · rintro (⟨j, hj, e⟩ | e)
          · exact ⟨j, by omega, e⟩
          · exact ⟨m, by omega, e.symm⟩
        · rintro ⟨j, hj, e⟩
          by_cases ej : j = m
          · subst ej; exact .inr e.symm
          · exact .inl ⟨j, by omega, e⟩
    · rw [if_neg hk, List.append_nil]
      refine ⟨h1, fun x => ?_⟩
      rw [h2]
      constructor
      · rintro ⟨j, hj, e⟩; exact ⟨j, by omega, e⟩
      · rintro ⟨j, hj, e⟩
        by_cases ej : j = m
        · subst ej
          have h3 : j ≠ 0 ∧ d[j]! = d[j - 1]! := by
            constructor
            · intro h0; exact hk ((keeps_iff d j).2 (.inl h0))
            · exact Decidable.byContradiction fun h0 => hk ((keeps_iff d j).2 (.inr h0))
          exact ⟨j - 1, by omega, by rw [← h3.2]; exact e⟩
        · exact ⟨j, by omega, e⟩
/-- sorted and made compact -/
def onceL (zs : List Int) : List Int := Lib.compact (zs.mergeSort fun x y => decide (x ≤ y))
theorem once_is (zs : List Int) : (onceL zs).Pairwise (· < ·) ∧ (∀ x, x ∈ onceL zs ↔ x ∈ zs) ∧ (onceL zs).length ≤ zs.length := by
  have hp := List.pairwise_mergeSort (le := fun x y : Int => decide (x ≤ y)) (fun a b c h1 h2 => by simp at *; omega) (fun a b => by simp; omega) zs
  have hperm := List.mergeSort_perm zs (fun x y : Int => decide (x ≤ y))
  unfold onceL
  generalize zs.mergeSort (fun x y => decide (x ≤ y)) = L at hp hperm
  have hget : ∀ j, (h : j < L.length) → L.toArray[j]! = L[j] := fun j h => by simp [getElem!_pos, h]
  have hs : ∀ i j, i ≤ j → j < L.toArray.size → L.toArray[i]! ≤ L.toArray[j]! := fun i j hij hj => by
    have hj : j < L.length := by simpa using hj
    rw [hget i (by omega), hget j hj]
    by_cases e : i = j
    · subst e; exact Int.le_refl _
    · have := (List.pairwise_iff_getElem.1 hp) i j (by omega) hj (by omega)
      simpa using this
  obtain ⟨h1, h2⟩ := compact_upTo L.toArray hs L.length (by simp)
  refine ⟨h1, fun x => ?_, ?_⟩
  · show x ∈ Lib.compactUpTo L.toArray L.length ↔ _
    rw [h2, ← hperm.mem_iff, List.mem_iff_getElem]
    constructor
    · rintro ⟨j, hj, e⟩; exact ⟨j, hj, by rw [← hget j hj]; exact e⟩
    · rintro ⟨j, hj, e⟩; exact ⟨j, hj, by rw [hget j hj]; exact e⟩
  · show (Lib.compactUpTo L.toArray L.length).length ≤ _
    rw [← hperm.length_eq]
    unfold Lib.compactUpTo
    rw [List.length_map]
    exact Nat.le_trans (List.length_filter_le _ _) (by simp)
theorem maxOf_mem : ∀ (zs : List Int), zs ≠ [] → Lib.maxOf zs ∈ zs := by
  have key : ∀ (l : List Int) (a : Int), l.foldl max a = a ∨ l.foldl max a ∈ l := by
    intro l
    induction l with
    | nil => intro a; exact .inl rfl
    | cons b l ih =>
      intro a
      rw [List.foldl_cons]
      rcases ih (max a b) with h | h
      · rw [h]
        by_cases e : a ≤ b
        · right; rw [Int.max_eq_right e]; exact List.mem_cons_self
        · left; exact Int.max_eq_left (by omega)
      · exact .inr (List.mem_cons_of_mem _ h)
  intro zs hz
  cases zs with
  | nil => exact absurd rfl hz
  | cons a l =>
    unfold Lib.maxOf
    rcases key (a :: l) ((a :: l).headD 0) with h | h
    · rw [h]; exact List.mem_cons_self
    · exact h
/-! in memory -/
section
variable {w : World} {B : Nat}
theorem own_cases {v : Value} {zs : List Int} (h : w.ownsRow B 3 1 v zs.length (iv zs)) : (v = .slice none 0 0 ∧ zs = []) ∨ ∃ g cap cur, v = .slice (some ⟨g, 0, none⟩) zs.length cap ∧ B ≤ g ∧ w.heap[g]? = some (.cells cur 3 (0, 0)) ∧ zs.length ≤ cap ∧ cap ≤ maxLen ∧ cur.size = cap * 1 ∧ cur.toList.take zs.length = iv zs := by
  rcases h.2 with ⟨rfl, h0⟩ | ⟨g, cap, cur, rfl, hb, hc, h1, h2, h3, h4⟩
  · exact .inl ⟨rfl, List.eq_nil_of_length_eq_zero h0⟩
  · exact .inr ⟨g, cap, cur, rfl, hb, hc, h1, h2, h3, by rw [← h4, Nat.mul_one]⟩
theorem below_put {g n : Nat} {os : Array Obj} {d : Array Int} (hg : B ≤ g) (hB : B ≤ w.heap.size) : Below B w (Go.Sort.grow (Go.Sort.putRow (Value.int .i64) (Go.Sort.ahead w n) g 0 d) os) := by
  have h := grownBy_sortedI (w := w) (g := g) (n := n) (os := os) d
  exact ⟨h.os, h.tape, h.output, h.size, fun k hk => h.block k (by omega) (fun e => by injection e with e; omega)⟩
/-- slices.Sort of an own row -/
theorem sort_any (v : Value) (zs : List Int) (h : w.ownsRow B 3 1 v zs.length (iv zs)) (hB : B ≤ w.heap.size) (hn : zs.length ≤ 1000000) :
    Calls Try.prog 55 #[v] w fun e w' => e = .returned (.tuple #[]) ∧ w'.ownsRow B 3 1 v (zs.mergeSort fun x y => decide (x ≤ y)).length (iv (zs.mergeSort fun x y => decide (x ≤ y))) ∧ Below B w w' := by
  rcases own_cases h with ⟨rfl, rfl⟩ | ⟨g, cap, cur, rfl, hb, hc, h1, h2, h3, h4⟩
  · refine (Try.slices_Sort_int_none none 0 w).mono ?_
    rintro e w' ⟨rfl, rfl⟩
    exact ⟨rfl, by simpa [iv] using own_nil _ _ _ _, Below.refl _ _⟩
  · refine (Try.slices_Sort_int g 0 cap zs w (holds_of_blockI hc h4) (Array.getElem?_eq_some_iff.1 hc).1 (by omega)).mono ?_
    rintro e w' ⟨rfl, n, os, rfl⟩
    have hl : (zs.mergeSort fun x y => decide (x ≤ y)).length = zs.length := List.length_mergeSort _
    refine ⟨rfl, ?_, below_put hb hB⟩
    rw [hl]
    exact ownsRow_sortedI hl hb hc h1 h2 h3
/-- slices.Compact of an own row -/
theorem compact_any (v : Value) (zs : List Int) (h : w.ownsRow B 3 1 v zs.length (iv zs)) (hB : B ≤ w.heap.size) :
    Calls Try.prog 67 #[v] w fun e w' => ∃ v', e = .returned v' ∧ w'.ownsRow B 3 1 v' (Lib.compact zs).length (iv (Lib.compact zs)) ∧ Below B w w' := by
  rcases own_cases h with ⟨rfl, rfl⟩ | ⟨g, cap, cur, rfl, hb, hc, h1, h2, h3, h4⟩
  · refine (Try.slices_Compact_int_empty none 0 w).mono ?_
    rintro e w' ⟨rfl, rfl⟩
    exact ⟨_, rfl, by simpa [iv, Lib.compact, Lib.compactUpTo] using own_nil _ _ _ _, Below.refl _ _⟩
  · have hle : (Lib.compact zs).length ≤ zs.length := by
      unfold Lib.compact Lib.compactUpTo
      rw [List.length_map]
      exact Nat.le_trans (List.length_filter_le _ _) (by simp)
    refine (Try.slices_Compact_int g 0 cap zs w (holds_of_blockI hc h4) (by unfold maxLen at h2; omega) h1).mono ?_
    rintro e w' ⟨rfl, q, rfl⟩
    have hl : (Lib.compact zs ++ List.replicate (zs.length - (Lib.compact zs).length) 0).length = zs.length := by rw [List.length_append, List.length_replicate]; omega
    have ho := ownsRow_sortedI (n := q) (os := #[]) hl hb hc h1 h2 h3
    have hbe := below_put (w := w) (B := B) (n := q) (os := #[]) (d := (Lib.compact zs ++ List.replicate (zs.length - (Lib.compact zs).length) 0).toArray) hb hB
    rw [Go.Sort.grow_empty] at ho hbe
    have hcut := own_cut ho hle
    refine ⟨_, rfl, ?_, hbe⟩
    rw [Nat.mul_one, List.map_append, List.take_left' (by simp)] at hcut
    exact hcut
/-- slices.Reverse of an own row -/
theorem reverse_any (v : Value) (zs : List Int) (h : w.ownsRow B 3 1 v zs.length (iv zs)) (hB : B ≤ w.heap.size) :
    Calls Try.prog 71 #[v] w fun e w' => e = .returned (.tuple #[]) ∧ w'.ownsRow B 3 1 v zs.reverse.length (iv zs.reverse) ∧ Below B w w' := by
  rcases own_cases h with ⟨rfl, rfl⟩ | ⟨g, cap, cur, rfl, hb, hc, h1, h2, h3, h4⟩
  · refine (Try.slices_Reverse_int_empty none 0 w).mono ?_
    rintro e w' ⟨rfl, rfl⟩
    exact ⟨rfl, own_nil _ _ _ _, Below.refl _ _⟩
  · refine (Try.slices_Reverse_int g 0 cap zs w (holds_of_blockI hc h4) (by unfold maxLen at h2; omega)).mono ?_
    rintro e w' ⟨rfl, q, rfl⟩
    have hl : zs.reverse.length = zs.length := by simp
    have ho := ownsRow_sortedI (n := q) (os := #[]) hl hb hc h1 h2 h3
    have hbe := below_put (w := w) (B := B) (n := q) (os := #[]) (d := zs.reverse.toArray) hb hB
    rw [Go.Sort.grow_empty] at ho hbe
    refine ⟨rfl, ?_, hbe⟩
    rw [hl]; exact ho
/-- slices.Max of a row that can be read -/
theorem max_any (v : Value) (zs : List Int) (h : IR w v zs) (h0 : zs ≠ []) (hn : zs.length ≤ 1000000) :
    Calls Try.prog 72 #[v] w fun e w' => (∃ x, e = .returned (.int .i64 x) ∧ x ∈ zs) ∧ w = w' := by
  obtain ⟨a, c, rfl, h1, h2⟩ := h
  have hpos := List.length_pos_iff.2 h0
  obtain ⟨b, off, rfl, h3, h4⟩ := h2 hpos
  refine (Try.slices_Max_int b off zs.length c zs w hpos (Nat.le_refl _) (by omega) fun j hj => ?_).mono ?_
  · rw [h4 j zs[j] (List.getElem?_eq_getElem hj)]; simp [List.getD, hj]
  · rintro e w' ⟨rfl, rfl⟩
    refine ⟨⟨_, rfl, ?_⟩, rfl⟩
    rw [List.take_length]
    exact maxOf_mem zs h0
/-- where a name stands -/
def PlaceRes (zs : List Int) (x : Int) (w : World) (e : Ending) (w' : World) : Prop :=
  (∃ i : Nat, e = .returned (.tuple #[.int .i64 (i : Int), .bool (decide (x ∈ zs))]) ∧ (x ∈ zs → zs[i]? = some x)) ∧ ∃ q, w' = w.drewN q
theorem count_at : ∀ (zs : List Int) (x : Int), zs.Pairwise (· < ·) → x ∈ zs → zs[zs.countP (· < x)]? = some x
  | [], x, _, h => by cases h
  | a :: l, x, hp, h => by
    obtain ⟨p1, p2⟩ := List.pairwise_cons.1 hp
    rcases List.mem_cons.1 h with rfl | h
    · have : (x :: l).countP (· < x) = 0 := by
        rw [List.countP_eq_zero]
        intro y hy
        rcases List.mem_cons.1 hy with rfl | hy
        · simp
        · have := p1 y hy; simp; omega
      rw [this]; rfl
    · have h1 := p1 x h
      rw [List.countP_cons_of_pos (by simpa using h1), List.getElem?_cons_succ]
      exact count_at l x p2 h
set_option maxRecDepth 100000 in
theorem search_any (v : Value) (zs : List Int) (x : Int) (h : IR w v zs) (hs : zs.Pairwise (· < ·)) (hn : zs.length ≤ 1000000) :
    Calls Try.prog 80 #[v, .int .i64 x] w (PlaceRes zs x w) := by
  obtain ⟨a, c, rfl, h1, h2⟩ := h
  by_cases h0 : zs = []
  · subst h0
    have FIN : Hid (PlaceRes [] x w (.returned (.tuple #[.int .i64 0, .bool false])) w) := Lib.hid ⟨⟨0, by simp, fun h => by cases h⟩, 0, rfl⟩
    clear h1 h2
    go_enter Try.func80, Try.ntmps80
    go_wp2_with fail
    go_loopw [7, 8] (fun t u wr => t = .int .i64 0 ∧ u = .int .i64 0 ∧ w = wr) (fun _ _ _ => 0)
    case atStart => exact ⟨rfl, rfl, rfl⟩
    case round =>
      obtain ⟨rfl, rfl, rfl⟩ := hrel
      go_wp2
      refine bodyPost_ret (results_tmp2 rfl _ _ _) rfl ?_
      exact FIN.out
  · obtain ⟨b, off, rfl, h3, h4⟩ := h2 (List.length_pos_iff.2 h0)
    have hcon := Go.Proofs.AnyG.slices_BinarySearch_int Try.searchN b off zs.length c zs x w (Nat.le_refl _) (by omega) (fun j hj => by rw [h4 j zs[j] (List.getElem?_eq_getElem hj)]; simp [List.getD, hj]) (by rw [List.take_length]; exact hs.imp fun h => by omega)
    refine Calls.mono hcon ?_
    rintro e w' ⟨rfl, q, rfl⟩
    rw [List.take_length]
    refine ⟨⟨_, ?_, count_at zs x hs⟩, q, rfl⟩
    simp
set_option maxRecDepth 100000 in
theorem place_any (v : Value) (zs : List Int) (x : Int) (h : IR w v zs) (hs : zs.Pairwise (· < ·)) (hn : zs.length ≤ 1000000) :
    Calls Try.prog 68 #[v, .int .i64 x] w (PlaceRes zs x w) := by
  have HS := Lib.hid (search_any v zs x h hs hn)
  obtain ⟨a, c, rfl⟩ := h.shape
  clear h hs
  go_enter Try.func68, Try.ntmps68
  go_wp2_with fail
  refine HS.out.mono ?_
  rintro e w1 ⟨⟨i, rfl, hi⟩, q, rfl⟩
  have FIN : Hid (PlaceRes zs x w (.returned (.tuple #[.int .i64 (i : Int), .bool (decide (x ∈ zs))])) (w.drewN q)) := Lib.hid ⟨⟨i, rfl, hi⟩, q, rfl⟩
  clear HS hi
  generalize decide (x ∈ zs) = bb at *
  go_wp2
  refine bodyPost_ret (results_tmp2 rfl _ _ _) rfl ?_
  exact FIN.out
def OnceRes (B : Nat) (zs : List Int) (w : World) (e : Ending) (w' : World) : Prop := ∃ v', e = .returned v' ∧ w'.ownsRow B 3 1 v' (onceL zs).length (iv (onceL zs)) ∧ Below B w w'
set_option maxRecDepth 100000 in
theorem once_any (v : Value) (zs : List Int) (h : w.ownsRow B 3 1 v zs.length (iv zs)) (hB : B ≤ w.heap.size) (hn : zs.length ≤ 1000000) :
    Calls Try.prog 51 #[v] w (OnceRes B zs w) := by
  have HS := Lib.hid (sort_any v zs h hB hn)
  obtain ⟨a, c, rfl⟩ := own_shape h
  clear h
  go_enter Try.func51, Try.ntmps51
  go_wp2_with fail
  refine HS.out.mono ?_
  rintro e w1 ⟨rfl, h1, hb1⟩
  have HC := Lib.hid (compact_any _ _ h1 (Nat.le_trans hB hb1.size))
  have HB1 := Lib.hid hb1
  clear h1 hb1 HS
  go_wp2_with fail
  refine HC.out.mono ?_
  rintro e w2 ⟨v2, rfl, h2, hb2⟩
  have FIN : Hid (OnceRes B zs w (.returned v2) w2) := Lib.hid ⟨v2, rfl, h2, HB1.out.trans hb2⟩
  clear h2 hb2 HC HB1
  go_wp2
  go_ret
  exact FIN.out
/-- a web in memory: names, and for each the place of its head -/
def WebM (w : World) (vn vh : Value) (names : List Int) (heads : List Nat) : Prop := IR w vn names ∧ IR w vh (nv heads) ∧ names.Pairwise (· < ·) ∧ heads.length = names.length ∧ (∀ x ∈ heads, x < names.length) ∧ names.length ≤ 1000000
theorem WebM.below {w w' : World} {vn vh : Value} {names : List Int} {heads : List Nat} (h : WebM w vn vh names heads) (hb : Below w.heap.size w w') : WebM w' vn vh names heads := ⟨h.1.below hb, h.2.1.below hb, h.2.2⟩
def headF (names : List Int) (heads : List Nat) (k : Int) : Int := if k ∈ names then names.getD (heads.getD (names.idxOf k) 0) 0 else k
theorem idx_of {names : List Int} {k : Int} {i : Nat} (hs : names.Pairwise (· < ·)) (h : names[i]? = some k) : names.idxOf k = i := by
  have hmem := List.mem_of_getElem? h
  have h1 := List.idxOf_lt_length_of_mem hmem
  have h2 := List.getElem_idxOf h1
  obtain ⟨h3, h4⟩ := List.getElem?_eq_some_iff.1 h
  have hp := List.pairwise_iff_getElem.1 hs
  rcases Nat.lt_trichotomy (names.idxOf k) i with h5 | h5 | h5
  · have := hp _ _ h1 h3 h5; omega
  · exact h5
  · have := hp _ _ h3 h1 h5; omega
set_option maxRecDepth 100000 in
set_option maxHeartbeats 1000000 in
theorem head_any (vn vh : Value) (names : List Int) (heads : List Nat) (k : Int) (w : World) (h : WebM w vn vh names heads) :
    Calls Try.prog 53 #[.agg #[vn, vh], .int .i64 k] w fun e w' => e = .returned (.int .i64 (headF names heads k)) ∧ Below w.heap.size w w' := by
  have hb := below_box w (.cells #[vn, vh] 98)
  have hB2 := Blk.new w 98 #[vn, vh]
  obtain ⟨W1, hW1⟩ : ∃ W1, w.alloc (.cells #[vn, vh] 98) = W1 := ⟨_, rfl⟩
  rw [hW1] at hb hB2
  have h1 := h.below hb
  have HB := Lib.hid hb
  have H1 := Lib.hid h1
  have HPL := Lib.hid (place_any vn names k h1.1 h1.2.2.1 h1.2.2.2.2.2)
  have HW1 := Lib.hid hW1
  have HBK := Lib.hid hB2
  obtain ⟨an, cn, rfl⟩ := h.1.shape
  obtain ⟨ah, ch, rfl⟩ := h.2.1.shape
  have c0 : W1.cell? ⟨w.heap.size, 0, none⟩ = some (.slice an names.length cn) := hB2.cell 0
  have c1 : W1.cell? ⟨w.heap.size, 1, none⟩ = some (.slice ah (nv heads).length ch) := hB2.cell 1
  have hne := h.2.2.2.1
  obtain ⟨F, hF0⟩ : ∃ F, headF names heads k = F := ⟨_, rfl⟩
  rw [hF0]
  have HF := Lib.hid hF0
  clear h h1 hb hB2 hW1 hF0
  go_enter Try.func53, Try.ntmps53
  go_upto_region 1 with (fail)
  rw [HW1.out]
  go_wp2_with fail
  refine HPL.out.mono ?_
  rintro e w2 ⟨⟨i, rfl, hi⟩, q, rfl⟩
  have HI := Lib.hid hi
  have HB2 : Hid (Below w.heap.size w (W1.drewN q)) := Lib.hid (HB.out.trans ((drew_below W1 q).mono HB.out.size))
  clear hi HPL HW1
  by_cases hk : k ∈ names
  · have e1 : decide (k ∈ names) = true := by simpa using hk
    have hi := HI.out hk
    obtain ⟨hh, hhi⟩ : ∃ hh, heads[i]? = some hh := ⟨_, List.getElem?_eq_getElem (by rw [hne]; exact (List.getElem?_eq_some_iff.1 hi).1)⟩
    have hhl := H1.out.2.2.2.2.1 hh (List.mem_of_getElem? hhi)
    obtain ⟨r, hr⟩ : ∃ r, names[hh]? = some r := ⟨_, List.getElem?_eq_getElem hhl⟩
    obtain ⟨bh, oh, c9, g1, -, -, d1⟩ := H1.out.2.1.at_ (nv_at hhi)
    injection g1 with g1 g2 g3
    clear g2
    subst g1; subst g3
    obtain ⟨bn, on, c8, g1, -, -, d2⟩ := H1.out.1.at_ hr
    injection g1 with g1 g2 g3
    clear g2
    subst g1; subst g3
    obtain rfl : F = r := by
      rw [← HF.out]
      unfold headF
      rw [if_pos hk, idx_of H1.out.2.2.1 hi]
      simp [List.getD, hhi, hr]
    have hiN : i < (nv heads).length := by rw [nv_len]; exact (List.getElem?_eq_some_iff.1 hhi).1
    obtain ⟨nn, hnn⟩ : ∃ nn, (nv heads).length = nn := ⟨_, rfl⟩
    rw [e1]
    rw [hnn] at c1 hiN
    obtain ⟨nm, hnm⟩ : ∃ nm, names.length = nm := ⟨_, rfl⟩
    rw [hnm] at c0 hhl ⊢
    rw [hnn]
    clear e1 HF hi hhi hr HI H1 hk hne hnn hnm HB HBK
    obtain ⟨W2, hW2⟩ : ∃ W2, W1.drewN q = W2 := ⟨_, rfl⟩
    have c0 : W2.cell? ⟨w.heap.size, 0, none⟩ = some (.slice (some ⟨bn, on, none⟩) nm cn) := by rw [← hW2]; exact c0
    have c1 : W2.cell? ⟨w.heap.size, 1, none⟩ = some (.slice (some ⟨bh, oh, none⟩) nn ch) := by rw [← hW2]; exact c1
    have d1 : W2.cell? ⟨bh, oh + i, none⟩ = some (.int .i64 (hh : Int)) := by rw [← hW2]; exact d1
    have d2 : W2.cell? ⟨bn, on + hh, none⟩ = some (.int .i64 F) := by rw [← hW2]; exact d2
    rw [hW2] at HB2 ⊢
    clear hW2
    go_upto_region 4 with (fail)
    go_quiet (fail)
    have FIN : Hid (Below w.heap.size w (W2.drewN nq)) := Lib.hid (HB2.out.trans ((drew_below W2 nq).mono HB2.out.size))
    clear HB2 c0 c1 d1 d2
    go_wp2
    go_ret
    exact ⟨rfl, FIN.out⟩
  · have e1 : decide (k ∈ names) = false := by simpa using hk
    obtain rfl : F = k := by rw [← HF.out]; unfold headF; rw [if_neg hk]
    rw [e1]
    clear e1 HF hk HI H1 hne HB HBK
    obtain ⟨W2, hW2⟩ : ∃ W2, W1.drewN q = W2 := ⟨_, rfl⟩
    rw [hW2] at HB2 ⊢
    clear hW2 c0 c1
    go_wp2
    go_ret
    exact ⟨rfl, HB2.out⟩
end
end Go.Proofs.Ythodggkpkjfggaa.Knot
