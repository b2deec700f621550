/- Rows of edges: sorted, made compact. -/
import Derived.Test.YthodggkpkjfggaaKeyGone0
import Derived.Test.YthodggkpkjfggaaShelf2
namespace Go.Proofs.Ythodggkpkjfggaa.Key
set_option maxRecDepth 100000
open Go.RowKit
open Go.Proofs.Ythodggkpkjfggaa.Mem
open Go.Maps
theorem info_edge : (Try.prog.info? 52).map (fun i => (i.zero, i.size, i.bytes)) = some (some (.agg #[.int .i64 0, .int .i64 0]), 2, 16) := by kernel_rfl
instance : Inhabited Rq := ⟨⟨0, 0⟩⟩
/-- a row that is worked on in place -/
def RwE (w : World) (g c : Nat) (A : List Rq) : Prop := ∃ cur, Blk w g 52 cur ∧ cur.size = c * 2 ∧ A.length ≤ c ∧ cur.toList.take (A.length * 2) = reqV A
theorem RwE.same {w w' : World} {g c : Nat} {A : List Rq} (h : RwE w g c A) (hb : w'.heap[g]? = w.heap[g]?) : RwE w' g c A := by
  obtain ⟨cur, h1, h2⟩ := h
  exact ⟨cur, hb.trans h1, h2⟩
theorem RwE.lt {w : World} {g c : Nat} {A : List Rq} (h : RwE w g c A) : g < w.heap.size := by obtain ⟨cur, h1, _⟩ := h; exact h1.lt
theorem RwE.below {w w' : World} {g c : Nat} {A : List Rq} (h : RwE w g c A) (hb : Below w.heap.size w w') : RwE w' g c A := h.same (hb.block g h.lt)
theorem RwE.at_ {w : World} {g c i : Nat} {A : List Rq} {x : Rq} (h : RwE w g c A) (hi : A[i]? = some x) : CellsG w g i x ∧ w.frozen? ⟨g, i * 2, none⟩ = false ∧ w.frozen? ⟨g, i * 2 + 1, none⟩ = false := by
  obtain ⟨cur, h1, h2, h3, h4⟩ := h
  have hlt := (List.getElem?_eq_some_iff.1 hi).1
  have hc : ∀ j, j < 2 → w.cell? ⟨g, i * 2 + j, none⟩ = (rv x).toList[j]? := fun j hj => by
    rw [h1.cell, ← Array.getElem?_toList, ← req_atj A i x hi j hj, ← h4, List.getElem?_take_of_lt (by omega)]
  exact ⟨⟨hc 0 (by decide), hc 1 (by decide)⟩, h1.frozen _, h1.frozen _⟩
def sixE (w : World) (g i : Nat) (x : Rq) : World := ((w.setCell ⟨g, i * 2, none⟩ (.int .i64 x.cl)).setCell ⟨g, i * 2 + 1, none⟩ (.int .i64 x.wants))
theorem RwE.six {w : World} {g c i : Nat} {A : List Rq} (h : RwE w g c A) (hi : i < A.length) (x : Rq) : RwE (sixE w g i x) g c (A.set i x) := by
  obtain ⟨cur, h1, h2, h3, h4⟩ := h
  have h5 := (h1.set_ (i * 2) (.int .i64 x.cl)).set_ (i * 2 + 1) (.int .i64 x.wants)
  refine ⟨_, h5, by simpa using h2, by simpa using h3, ?_⟩
  simp only [Array.toList_setIfInBounds, List.length_set, List.take_set]
  rw [h4, req_set A i x hi]
theorem sixE_keep {w W : World} {g : Nat} {M : Nat → Prop} (h : Keep M w W) (hg : ¬ M g) (i : Nat) (x : Rq) : Keep M w (sixE W g i x) :=
  (h.set_ hg _ _).set_ hg _ _
theorem rwE_own {w : World} {base n : Nat} {a : Option Addr} {cc : Nat} {L : List Rq} (h : w.ownsRow base 52 2 (.slice a n cc) L.length (reqV L)) (h0 : L ≠ []) : ∃ g, a = some ⟨g, 0, none⟩ ∧ n = L.length ∧ base ≤ g ∧ RwE w g cc L := by
  rcases h.2 with ⟨_, h1⟩ | ⟨g, c, cur, e, hg, hc, h1, h2, h3, h4⟩
  · exact absurd (List.eq_nil_of_length_eq_zero h1) h0
  · injection e with e1 e2 e3
    subst e1; subst e2; subst e3
    exact ⟨g, rfl, rfl, hg, cur, hc, h3, h1, h4⟩
theorem RwE.own {w : World} {g c : Nat} {A : List Rq} (h : RwE w g c A) (hcm : c ≤ maxLen) : w.ownsRow 0 52 2 (.slice (some ⟨g, 0, none⟩) A.length c) A.length (reqV A) := by
  obtain ⟨cur, h1, h2, h3, h4⟩ := h
  exact ⟨req_len A, .inr ⟨g, c, cur, rfl, Nat.zero_le _, h1, h3, hcm, h2, h4⟩⟩
/-- append of one edge to an own row -/
theorem wpList_appE {w : World} {ops : Array Oper} {rest : List Oper} {o : Oper} {a : Act} {Q : Exit → Act → World → Prop} (hgd : o.guard = none) (s x : Operand)
    (ho : o.op = .call { callee := .builtin .append, args := #[s, x], argTypes := #[37, 37] }) (B : Nat)
    (v : Value) (L : List Rq) (hs : a.eval s = v) (hown : w.ownsRow B 52 2 v L.length (reqV L)) (vb : Nat) (y : Rq) (hx : a.eval x = .slice (some ⟨vb, 0, none⟩) 1 1)
    (hb : Blk w vb 52 (rv y)) (hn : L.length ≤ 4000000) (hB : B ≤ w.heap.size)
    (h : ∀ v' w', w'.ownsRow B 52 2 v' (L ++ [y]).length (reqV (L ++ [y])) → w.grownBy w' v.ownBlock → (v'.ownBlock = v.ownBlock ∨ v'.ownBlock = some w.heap.size) → wpList Try.prog ops Q rest (a.put o.dst v') w') : wpList Try.prog ops Q (o :: rest) a w := by
  obtain ⟨i0, hi, hz0, hz1, hz2⟩ := info_parts info_edge
  refine wpList_append_own_at w hgd s x 37 ho B 52 i0 (.agg #[.int .i64 0, .int .i64 0]) 2 16 Try.underlying37 hi hz0 hz1 hz2 rfl (by decide) v L.length (reqV L) hs hown ⟨vb, 0, none⟩ 1 1 (rv y).toList hx rfl (fun j z hj => ?_) (fun z hz => ?_) (by unfold maxLen; omega) (by omega) hB ?_
  · rw [Addr.add_lit, hb.cell, Nat.zero_add, ← Array.getElem?_toList]; exact hj
  · simp [rv] at hz; rcases hz with rfl | rfl <;> rfl
  · intro v' w' h1 h2 _ h4
    refine h v' w' ?_ h2 h4
    have e : reqV [y] = (rv y).toList := by simp [reqV, rv]
    rw [List.length_append, req_app, e]; exact h1
def sameR (x y : Rq) : Bool := (x.cl == y.cl) && (x.wants == y.wants)
set_option maxRecDepth 100000 in
set_option maxHeartbeats 800000 in
theorem run_eq_edge (x y : Rq) (w : World) : (binOp .eql 52 (.agg #[.int .i64 x.cl, .int .i64 x.wants]) (.agg #[.int .i64 y.cl, .int .i64 y.wants])).run Try.prog w = .ok (.bool (sameR x y)) w := by
  have u4 := Try.underlying3
  have a4 := Try.isAgg3
  have z4 := Try.sizeOf3
  have hS : Try.prog.underlying 52 = some (.struct (Try.prog.fieldsOf 52)) := by kernel_rfl
  have hp : Try.prog.stoodInHeld 52 = false := by kernel_rfl
  rw [run_eql_struct, show (10000 : Nat) = 9999 + 1 from rfl, run_equalIn_agg w 9999 52 _ _ hS hp]
  clear hS hp
  simp only [Program.fieldsOf, Try.underlying52]
  go_simp
  unfold sameR
  by_cases h0 : x.cl = y.cl
  rotate_left
  · simp [h0]
  by_cases h1 : x.wants = y.wants
  rotate_left
  · simp [h0, h1]
  simp [h0, h1]
theorem run_ne_edge (x y : Rq) (w : World) : (binOp .neq 52 (.agg #[.int .i64 x.cl, .int .i64 x.wants]) (.agg #[.int .i64 y.cl, .int .i64 y.wants])).run Try.prog w = .ok (.bool (!sameR x y)) w := by
  have h := run_eq_edge x y w
  simp only [binOp] at h ⊢
  simp only [Sem.run_bind] at h ⊢
  generalize (Op.equal 52 (.agg #[.int .i64 x.cl, .int .i64 x.wants]) (.agg #[.int .i64 y.cl, .int .i64 y.wants])).run Try.prog w = r at h ⊢
  cases r with
  | ok b w1 => simp at h ⊢; obtain ⟨rfl, rfl⟩ := h; exact ⟨rfl, rfl⟩
  | halt x w1 => simp at h
theorem run_guard_edge (op : BinOp) (A B : Operand) (xs ys : Array Value) (w : World) : (eqGuard op 52 A B (.agg xs) (.agg ys)).run Try.prog w = .ok () w := run_eqGuard_agg w op 52 A B xs ys (by kernel_rfl)
/-! the order -/
def cmpE (x y : Rq) : Int := if Lib.compareInt x.cl y.cl = 0 then Lib.compareInt x.wants y.wants else Lib.compareInt x.cl y.cl
theorem ltE (x y : Rq) : ltOf cmpE x y = decide (x.cl < y.cl ∨ (x.cl = y.cl ∧ x.wants < y.wants)) := by
  unfold ltOf cmpE Lib.compareInt
  by_cases h1 : x.cl < y.cl
  · simp [h1]
  · by_cases h2 : x.cl > y.cl
    · have h3 : ¬ x.cl = y.cl := by omega
      simp [h1, h2, h3]
    · have h3 : x.cl = y.cl := by omega
      by_cases h4 : x.wants < y.wants
      · simp [h3, h4]
      · by_cases h5 : x.wants > y.wants
        · simp [h3, h4, h5]
        · simp [h3, h4, h5]
theorem swoE : Go.Sort.SWO (ltOf cmpE) where
  irrefl x := by rw [ltE]; simp
  trans x y z h1 h2 := by rw [ltE] at *; simp at *; omega
  ntrans x y z h1 h2 := by rw [ltE] at *; simp at *; omega
set_option maxRecDepth 100000 in
set_option maxHeartbeats 1000000 in
theorem or_any (sb : Nat) (a b : Int) (w : World) (h : Blk w sb 3 #[.int .i64 a, .int .i64 b]) :
    Calls Try.prog 33 #[.slice (some ⟨sb, 0, none⟩) 2 2] w fun e w' => e = .returned (.int .i64 (if a = 0 then b else a)) ∧ w = w' := by
  have c0 : w.cell? ⟨sb, 0, none⟩ = some (.int .i64 a) := h.cell 0
  have c1 : w.cell? ⟨sb, 1, none⟩ = some (.int .i64 b) := h.cell 1
  have c1' : w.cell? ⟨sb, 0 + 1, none⟩ = some (.int .i64 b) := h.cell 1
  clear h
  obtain ⟨r, hr⟩ : ∃ r, (if a = 0 then b else a) = r := ⟨_, rfl⟩
  rw [hr]
  have HR := Lib.hid hr
  clear hr
  go_enter Try.func33, Try.ntmps33
  go_wp2_with fail
  go_loopw [8] (fun i wr => ∃ j : Nat, j ≤ 2 ∧ i = .int .i64 (j : Int) ∧ w = wr ∧ Hid ((1 ≤ j → a = 0) ∧ (2 ≤ j → b = 0))) (fun i _ => 2 - (intOf i).toNat)
  case atStart => exact ⟨0, by omega, rfl, rfl, Lib.hid ⟨fun h => by omega, fun h => by omega⟩⟩
  case round =>
    obtain ⟨j, hj, rfl, rfl, HZ⟩ := hrel
    rcases (show j = 0 ∨ j = 1 ∨ j = 2 by omega) with rfl | rfl | rfl
    · by_cases ha : a = 0
      · subst ha
        clear hj HZ
        go_wp2
        go_roundw
        case rel => exact ⟨1, by omega, rfl, by first | rfl | trivial, Lib.hid (by simp)⟩
        case measure => simp [intOf]
      · obtain rfl : r = a := by rw [← HR.out, if_neg ha]
        have h1 : (r == 0) = false := by simp [ha]
        have h2 : (r != 0) = true := by simp [bne, h1]
        clear hj HZ ha HR
        go_wp2
        go_ret
        exact ⟨rfl, rfl⟩
    · have ha := HZ.out.1 (by omega)
      subst ha
      obtain rfl : r = b := by rw [← HR.out, if_pos rfl]
      clear HR
      by_cases hb : r = 0
      · subst hb
        clear hj HZ
        go_wp2
        go_roundw
        case rel => exact ⟨2, by omega, rfl, by first | rfl | trivial, Lib.hid (by simp)⟩
        case measure => simp [intOf]
      · have h1 : (r == 0) = false := by simp [hb]
        have h2 : (r != 0) = true := by simp [bne, h1]
        clear hj HZ hb
        go_wp2
        go_ret
        exact ⟨rfl, rfl⟩
    · have ha := HZ.out.1 (by omega)
      have hb := HZ.out.2 (by omega)
      subst ha; subst hb
      obtain rfl : r = 0 := by rw [← HR.out, if_pos rfl]
      clear hj HZ HR
      go_wp2
      go_ret
      exact ⟨rfl, rfl⟩
set_option maxRecDepth 100000 in
set_option maxHeartbeats 1000000 in
theorem waitsCmp_any (x y : Rq) (w : World) :
    Calls Try.prog 32 #[.agg #[.int .i64 x.cl, .int .i64 x.wants], .agg #[.int .i64 y.cl, .int .i64 y.wants]] w fun e w' => e = .returned (.int .i64 (cmpE x y)) ∧ ∃ q os', w' = Go.Sort.grow (w.drewN q) os' := by
  have hc : (if Lib.compareInt x.cl y.cl = 0 then Lib.compareInt x.wants y.wants else Lib.compareInt x.cl y.cl) = cmpE x y := rfl
  generalize cmpE x y = r at hc ⊢
  have HC1 : Hid (∀ W, Calls Try.prog 34 #[.int .i64 x.cl, .int .i64 y.cl] W fun e w' => e = .returned (.int .i64 (Lib.compareInt x.cl y.cl)) ∧ w' = W) := Lib.hid fun W => Try.cmp_Compare_int x.cl y.cl W
  have HC2 : Hid (∀ W, Calls Try.prog 34 #[.int .i64 x.wants, .int .i64 y.wants] W fun e w' => e = .returned (.int .i64 (Lib.compareInt x.wants y.wants)) ∧ w' = W) := Lib.hid fun W => Try.cmp_Compare_int x.wants y.wants W
  generalize Lib.compareInt x.cl y.cl = a at *
  generalize Lib.compareInt x.wants y.wants = b at *
  obtain ⟨x1, x2⟩ := x
  obtain ⟨y1, y2⟩ := y
  dsimp only at HC1 HC2 ⊢
  obtain ⟨W0, hW0⟩ : ∃ W0, (w.alloc (.cells #[.int .i64 x1, .int .i64 x2] 52)).alloc (.cells #[.int .i64 y1, .int .i64 y2] 52) = W0 := ⟨_, rfl⟩
  have HW : Hid (∃ q os', (W0.alloc (.cells #[.int .i64 a, .int .i64 b] 3)).drew = Go.Sort.grow (w.drewN q) os') := Lib.hid ⟨1, _, by rw [← hW0, Go.Sort.alloc_eq_grow, Go.Sort.alloc_eq_grow, Go.Sort.alloc_eq_grow, Go.Sort.grow_grow, Go.Sort.grow_grow]; rfl⟩
  have hB1 : Blk W0 w.heap.size 52 #[.int .i64 x1, .int .i64 x2] := by rw [← hW0]; exact (Blk.new w _ _).alloc _
  have hB2 : Blk W0 (w.heap.size + 1) 52 #[.int .i64 y1, .int .i64 y2] := by
    have := Blk.new (w.alloc (.cells #[.int .i64 x1, .int .i64 x2] 52)) 52 #[.int .i64 y1, .int .i64 y2]
    rw [hW0] at this
    simpa using this
  have hb3 := below_box W0 (.cells #[.int .i64 a, .int .i64 b] 3)
  have HZ : Hid (∀ W', Below W0.heap.size W0 W' → W'.cell? ⟨w.heap.size, 0, none⟩ = some (.int .i64 x1) ∧ W'.cell? ⟨w.heap.size, 1, none⟩ = some (.int .i64 x2) ∧ W'.cell? ⟨w.heap.size + 1, 0, none⟩ = some (.int .i64 y1) ∧ W'.cell? ⟨w.heap.size + 1, 1, none⟩ = some (.int .i64 y2)) := Lib.hid fun W' hb =>
    ⟨(hB1.below hb hB1.lt).cell 0, (hB1.below hb hB1.lt).cell 1, (hB2.below hb hB2.lt).cell 0, (hB2.below hb hB2.lt).cell 1⟩
  have HZ0 := Lib.hid (HZ.out _ (Below.refl _ _))
  have HZ1 := Lib.hid (HZ.out _ (Below.refl _ _).drew)
  have HZa := Lib.hid (HZ.out _ hb3)
  have HZb := Lib.hid (HZ.out _ hb3.drew)
  have HO1 := Lib.hid (or_any W0.heap.size a b _ (Blk.new W0 3 #[.int .i64 a, .int .i64 b]))
  have HO2 := Lib.hid (or_any W0.heap.size a b (W0.alloc (.cells #[.int .i64 a, .int .i64 b] 3)).drew (Blk.new W0 3 #[.int .i64 a, .int .i64 b]))
  rw [hc] at HO1 HO2
  have HW0 := Lib.hid hW0
  clear hW0 hB1 hB2 hb3 HZ hc
  go_enter Try.func32, Try.ntmps32
  go_upto_region 1 with (fail)
  rw [HW0.out]
  have z1 := HZ0.out.1
  have z2 := HZ0.out.2.1
  have z3 := HZ0.out.2.2.1
  have z4 := HZ0.out.2.2.2
  clear HW0
  go_region_held3 (fun W' => W'.cell? ⟨w.heap.size, 0, none⟩ = some (.int .i64 x1) ∧ W'.cell? ⟨w.heap.size, 1, none⟩ = some (.int .i64 x2) ∧ W'.cell? ⟨w.heap.size + 1, 0, none⟩ = some (.int .i64 y1) ∧ W'.cell? ⟨w.heap.size + 1, 1, none⟩ = some (.int .i64 y2))
    (first | (with_reducible assumption) | (with_reducible exact HZ0.out) | (with_reducible exact HZ1.out) | (with_reducible exact HZa.out) | (with_reducible exact HZb.out)) (first
    | (go_at_call 34; (first | (with_reducible refine (HC1.out _).mono ?_) | (with_reducible refine (HC2.out _).mono ?_)); rintro e w2 ⟨rfl, rfl⟩)
    | (go_at_call 33; (first | (with_reducible refine HO1.out.mono ?_) | (with_reducible refine HO2.out.mono ?_)); rintro e w2 ⟨rfl, rfl⟩))
  all_goals
    clear HC1 HC2 HZ0 HZ1 HZa HZb HO1 HO2
    go_wp2
    go_ret
    exact ⟨rfl, HW.out⟩
/-! sorted -/
def encE (x : Rq) : List Value := [.int .i64 x.cl, .int .i64 x.wants]
theorem isAggE (w : World) : (isAgg 52).run Try.prog w = .ok true w := by kernel_rfl
theorem sizeOfE (w : World) : (Go.sizeOf 52).run Try.prog w = .ok 2 w := by kernel_rfl
theorem flat_get (L : List Rq) (t : Nat) (ht : t < L.length * 2) : (Go.Sort.flatK encE 2 L.toArray)[t]? = (reqV L)[t]? := by
  have h2 : t / 2 < L.length := by omega
  have hx : L[t / 2]? = some L[t / 2] := List.getElem?_eq_getElem h2
  have hj := req_atj L (t / 2) _ hx (t % 2) (by omega)
  have e : t / 2 * 2 + t % 2 = t := by omega
  rw [e] at hj
  rw [hj]
  simp only [Go.Sort.flatK, Array.getElem?_map]
  have hr : (Array.range (L.toArray.size * 2))[t]? = some t := by simp [ht]
  rw [hr]
  simp only [Option.map_some]
  have hi : L.toArray[t / 2]! = L[t / 2] := by simp [h2]
  rw [hi]
  generalize L[t / 2] = x
  rcases (show t % 2 = 0 ∨ t % 2 = 1 by omega) with h | h <;> rw [h] <;> simp [encE, rv]
theorem flat_list (L : List Rq) : (Go.Sort.flatK encE 2 L.toArray).toList = reqV L := by
  apply List.ext_getElem?
  intro t
  by_cases ht : t < L.length * 2
  · rw [Array.getElem?_toList, flat_get L t ht]
  · rw [List.getElem?_eq_none (by simp; omega), List.getElem?_eq_none (by rw [req_len]; omega)]
theorem holds_edges {w : World} {g c : Nat} {L : List Rq} (h : RwE w g c L) : Go.Sort.HoldsK encE 2 w g 0 L.toArray := by
  obtain ⟨cur, h1, h2, h3, h4⟩ := h
  intro j hj
  have hj' : j < L.length * 2 := by simpa using hj
  refine ⟨?_, h1.frozen _⟩
  have e : (Go.Sort.flatK encE 2 L.toArray)[j]! = (Go.Sort.flatK encE 2 L.toArray)[j]'hj := getElem!_pos (Go.Sort.flatK encE 2 L.toArray) j hj
  rw [Nat.zero_add, h1.cell, ← Array.getElem?_toList, e]
  have h5 : (cur.toList.take (L.length * 2))[j]? = (reqV L)[j]? := by rw [h4]
  rw [List.getElem?_take_of_lt hj'] at h5
  rw [h5, ← flat_get L j hj', Array.getElem?_eq_getElem hj]
  rfl
theorem sorted_row {w : World} {g c n : Nat} {L L' : List Rq} {os : Array Obj} (h : RwE w g c L) (hl : L'.length = L.length) : RwE (sortWorldK encE 2 w g 0 n L'.toArray os) g c L' := by
  obtain ⟨cur, h1, h2, h3, h4⟩ := h
  refine ⟨Go.Sort.putCells id 0 (Go.Sort.flatK encE 2 L'.toArray) cur, ?_, by simpa [Go.Sort.putCells] using h2, by omega, ?_⟩
  · unfold Blk sortWorldK
    rw [Go.Sort.heap_grow_old _ _ (by simpa [Go.Sort.putRowK, Go.Sort.putRow, Go.Sort.mapBlock, Go.Sort.ahead] using h1.lt)]
    simp [Go.Sort.putRowK, Go.Sort.putRow, Go.Sort.mapBlock, Go.Sort.ahead, Array.getElem?_modify, show w.heap[g]? = _ from h1, Go.Sort.onCells]
  · rw [← flat_list L']
    apply List.ext_getElem?
    intro j
    by_cases hj : j < L'.length * 2
    · rw [List.getElem?_take_of_lt hj, Array.getElem?_toList, Array.getElem?_toList]
      simp [Go.Sort.putCells, show j < cur.size by omega, hj]
    · rw [List.getElem?_take_eq_none (by omega), List.getElem?_eq_none (by simp; omega)]
theorem sorted_grown {w : World} {g n : Nat} {L' : List Rq} {os : Array Obj} : w.grownBy (sortWorldK encE 2 w g 0 n L'.toArray os) (some g) := by
  refine ⟨rfl, rfl, rfl, by simp [sortWorldK, Go.Sort.putRowK, Go.Sort.putRow, Go.Sort.mapBlock, Go.Sort.ahead, Go.Sort.grow], fun k hk hne => ?_⟩
  unfold sortWorldK
  rw [Go.Sort.heap_grow_old _ _ (by simpa [Go.Sort.putRowK, Go.Sort.putRow, Go.Sort.mapBlock, Go.Sort.ahead] using hk)]
  have : g ≠ k := fun e => hne (by rw [e])
  simp [Go.Sort.putRowK, Go.Sort.putRow, Go.Sort.mapBlock, Go.Sort.ahead, Array.getElem?_modify, this]
def SortERes (B : Nat) (v : Value) (L : List Rq) (w : World) (e : Ending) (w' : World) : Prop := e = .returned (.tuple #[]) ∧ ∃ L', L'.length = L.length ∧ (∀ x ∈ L', x ∈ L) ∧ w'.ownsRow B 52 2 v L'.length (reqV L') ∧ Below B w w'
theorem cmpLaysE (blk off size : Nat) (w : World) : CmpLays Try.prog 32 #[] encE 2 cmpE blk off size w := fun _ _ _ _ x y => waitsCmp_any x y _
theorem sortE_any (B : Nat) (v : Value) (L : List Rq) (w : World) (h : w.ownsRow B 52 2 v L.length (reqV L)) (hl : L.length ≤ 1000000) :
    Calls Try.prog 31 #[v, .func (.func 32) #[] #[]] w (SortERes B v L w) := by
  rcases h.2 with ⟨rfl, h0⟩ | ⟨g, cap, cur, rfl, hbase, hb, h1, h2, h3, h4⟩
  · obtain rfl := List.eq_nil_of_length_eq_zero h0
    refine (Try.sortE_none none 0 _ w).mono ?_
    rintro e w' ⟨rfl, rfl⟩
    exact ⟨rfl, [], rfl, fun x hx => hx, own_nil _ _ _ _, Below.refl _ _⟩
  · have hR : RwE w g cap L := ⟨cur, hb, h3, h1, h4⟩
    have eg : ∀ args w, (callFunc 32 args).run Try.prog w = .ok (.enter 32 args) w := enters_of Try.func32 (by kernel_rfl) rfl
    have hcon := AnyQ.slices_SortFunc Try.sortE 2 isAggE sizeOfE encE (fun _ => rfl) (fun x v hv => by simp [encE] at hv; rcases hv with rfl | rfl <;> rfl) cmpE swoE 32 #[] g 0 cap L.toArray w eg (cmpLaysE _ _ _ _) (holds_edges hR) hR.lt (by simp; omega)
    refine Calls.mono hcon ?_
    rintro e w' ⟨rfl, d', n, os, hp, _, rfl⟩
    have hsz : d'.toList.length = L.length := by simpa using hp.1
    have hd : d' = d'.toList.toArray := by simp
    have hRow := sorted_row (n := n) (os := os) hR hsz
    have hG := sorted_grown (w := w) (g := g) (n := n) (L' := d'.toList) (os := os)
    rw [← hd] at hRow hG
    refine ⟨rfl, d'.toList, hsz, fun x hx => ?_, ?_, ⟨hG.os, hG.tape, hG.output, hG.size, fun k hk => ?_⟩⟩
    · have h5 := hp.2.2
      have e1 : d'.extract 0 L.toArray.size = d' := by
        apply Array.ext_getElem?; intro i
        rw [Array.getElem?_extract]
        by_cases hi : i < L.length
        · rw [if_pos (by rw [hp.1]; simpa using hi)]; simp
        · rw [if_neg (by rw [hp.1]; simpa using hi), Array.getElem?_eq_none (by rw [hp.1]; simpa using hi)]
      have e2 : L.toArray.extract 0 L.toArray.size = L.toArray := by simp
      rw [e1, e2] at h5
      exact h5.mem_iff.1 hx
    · obtain ⟨cur', hc1, hc2, hc3, hc4⟩ := hRow
      exact ⟨req_len _, .inr ⟨g, cap, cur', by rw [hsz], hbase, hc1, hc3, h2, hc2, hc4⟩⟩
    · by_cases hkw : k < w.heap.size
      · exact hG.block k hkw (fun e => by injection e with e; omega)
      · have := hR.lt; omega
end Go.Proofs.Ythodggkpkjfggaa.Key
