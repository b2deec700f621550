/- Calls of a nil purse; going over a purse. -/
import Derived.Test.YtoiakenepmbalaaPurseCalls
import Derived.Lib.SliceRun
import Derived.RangeFuncBox
import Derived.RangeFuncLeaves
import Derived.RangeFuncFrom
import Derived.RangeFuncCalls
import Derived.RangeFuncNested
import Derived.OwnWalkIn
import Derived.TacticsInMore
import Derived.LoopNIn
import Derived.LoopIn
namespace Go.Proofs.Ytoiakenepmbalaa.Purse
set_option maxRecDepth 100000
open Go.RowKit Go.Shelf
open Go.Proofs.Ytoiakenepmbalaa.Mem
attribute [local go_sem] Oper.semAt_some
theorem run_nilp (w : World) : (binOp .eql 24 (.pointer none) (.pointer none)).run Try.prog w = .ok (.bool true) w := by kernel_rfl
set_option maxRecDepth 100000 in
theorem ask_nil (k n room : Int) (w : World) : Calls Try.prog 9 #[.pointer none, .int .i64 k, .int .i64 n, .int .i64 room] w fun e w' => e = .returned (.bool false) ∧ w = w' := by
  go_enter Try.func9, Try.ntmps9
  go_wp2
  go_ret
  exact ⟨rfl, rfl⟩
set_option maxRecDepth 100000 in
theorem take_nil (k n : Int) (w : World) : Calls Try.prog 11 #[.pointer none, .int .i64 k, .int .i64 n] w fun e w' => e = .returned (.int .i64 0) ∧ w = w' := by
  go_enter Try.func11, Try.ntmps11
  go_wp2_with fail
  refine (find_nil _ _).mono ?_; rintro e w1 ⟨rfl, rfl⟩
  go_wp2
  go_ret
  exact ⟨rfl, rfl⟩
/-- dues handed back in new memory -/
def CloneRes (L : List Due) (w : World) (e : Ending) (w' : World) : Prop :=
  ∃ v, e = .returned v ∧ w'.ownsRow w.heap.size 53 2 v L.length (cellsP L) ∧ Below w.heap.size w w'
theorem own_new (w : World) (t : TypeId) (size : Nat) : (w.alloc (.cells #[] t)).ownsRow w.heap.size t size (.slice (some ⟨w.heap.size, 0, none⟩) 0 0) 0 [] :=
  ⟨by simp, .inr ⟨w.heap.size, 0, #[], rfl, Nat.le_refl _, World.alloc_heap_new _ _, Nat.le_refl _, by decide, by simp, by simp⟩⟩
set_option maxRecDepth 100000 in
set_option maxHeartbeats 1000000 in
theorem clone_any (p : Nat) (v : Value) (M : Nat → Prop) (L : List Due) (w : World) (h : PA w p v M L) (hn : L.length ≤ 1000000) :
    Calls Try.prog 23 #[v] w (CloneRes L w) := by
  have q22 : ∀ (w : World) (a : Option Addr) (n c n' c' : Nat), (binOp .eql 46 (.slice a n c) (.slice none n' c')).run Try.prog w = .ok (.bool a.isNone) w := fun w a n c n' c' => Lib.run_eql_slice_nil w _ _ a n c n' c' Try.underlying46
  obtain ⟨i0, hi0, hz0, hz1, hz2⟩ := info_parts info_due
  rcases h.row with ⟨rfl, h0⟩ | ⟨g, c, rfl, hc, hg, _, hcs⟩
  · obtain rfl := List.eq_nil_of_length_eq_zero h0
    clear h
    go_enter Try.func23, Try.ntmps23
    go_wp2
    go_ret
    exact ⟨_, rfl, own_nil _ _ _ _, Below.refl _ _⟩
  · have hnews : ∀ j u, (cellsP L)[j]? = some u → (w.alloc (.cells #[] 53)).cell? ((⟨g, 0, none⟩ : Addr).add j) = some u := fun j u hj => by
      have hj2 : j < L.length * 2 := by rw [← cells_len]; exact (List.getElem?_eq_some_iff.1 hj).1
      have hlt : j / 2 < L.length := by omega
      have e : L[j / 2]? = some L[j / 2] := List.getElem?_eq_getElem hlt
      obtain ⟨d1, d2, _⟩ := hcs _ _ e
      obtain ⟨c1, c2⟩ := cells_at L _ _ e
      rw [Addr.add_lit, Nat.zero_add, ((Below.refl w.heap.size w).alloc (Nat.le_refl _) (.cells #[] 53)).cell (p := ⟨g, j, none⟩) hg]
      rcases Nat.mod_two_eq_zero_or_one j with hm | hm
      · have hj3 : j = j / 2 * 2 := by omega
        rw [← hj3] at d1 c1
        rw [d1, ← c1]; exact hj
      · have hj3 : j = j / 2 * 2 + 1 := by omega
        rw [← hj3] at d2 c2
        rw [d2, ← c2]; exact hj
    have HW := Lib.hid hnews
    clear h hcs hnews
    go_enter Try.func23, Try.ntmps23
    go_wp2_with (at_builtin; refine wpList_append_own_at _ rfl _ _ 46 rfl w.heap.size 53 i0 (.agg #[.int .i64 0, .int .i64 0]) 2 16 Try.underlying46 hi0 hz0 hz1 hz2 rfl (by decide) _ 0 [] rfl (own_new w _ 2) ⟨g, 0, none⟩ L.length c (cellsP L) rfl (cells_len L) HW.out (cells_one L) ?c3 ?c4 ?c5 ?_)
    case c3 => unfold maxLen; omega
    case c4 => omega
    case c5 => simp
    intro v' w1 hown hgr _ hat
    have hb : Below w.heap.size w w1 := ((Below.refl w.heap.size w).alloc (Nat.le_refl _) (.cells #[] 53)).grown hgr (by simp) (fun k e => by simp [Value.ownBlock] at e; omega)
    have HO := Lib.hid hown
    have HB := Lib.hid hb
    clear hown hgr hat hb
    go_wp2
    go_ret
    exact ⟨_, rfl, by simpa using HO.out, HB.out⟩
/-- cells from B on stay -/
def KeepC (B : Nat) (A C : World) : Prop := A.heap.size ≤ C.heap.size ∧ ∀ k cs T q, B ≤ k → A.heap[k]? = some (.cells cs T q) → C.heap[k]? = some (.cells cs T q)
theorem keepC_t {B : Nat} {A C D : World} (h : KeepC B A C) (k : KeepC B C D) : KeepC B A D := ⟨Nat.le_trans h.1 k.1, fun j cs T q hj hc => k.2 j cs T q hj (h.2 j cs T q hj hc)⟩
theorem keepC_b {B : Nat} (W : World) (l : Nat) (o o' : Obj) (h : W.heap[l]? = some o) (ho : o.isCells = false) : KeepC B W (W.putObj l o') := by
  refine ⟨by simp [World.putObj], fun k cs T q _ hc => ?_⟩
  have hne : k ≠ l := fun e => by subst e; rw [h] at hc; cases hc; cases ho
  rw [World.putObj_heap_other hne]; exact hc
theorem keepC_below {B : Nat} {A C : World} (h : Below A.heap.size A C) : KeepC B A C := ⟨h.size, fun k _ _ _ _ hc => (h.block k (Array.getElem?_eq_some_iff.1 hc).1).trans hc⟩
theorem keepC_set {B : Nat} (w : World) {g : Nat} (hg : g < B) (j : Nat) (v : Value) : KeepC B w (w.setCell ⟨g, j, none⟩ v) :=
  ⟨by simp, fun k cs T q hk hc => (Below.heap_setCell w ⟨g, j, none⟩ v k (show k ≠ g by omega)).trans hc⟩
theorem blk_grows {w w' : World} {row : Option Nat} {g : Nat} {T : TypeId} {cs : Array Value} (h : Blk w g T cs) (hg : w.grownBy w' row) (hr : ∀ r, row = some r → ∃ o : Obj, w.heap[r]? = some o ∧ o.isCells = false) : Blk w' g T cs :=
  h.grown hg (fun e => by
    obtain ⟨o, h1, h2⟩ := hr g e.symm
    unfold Blk at h
    rw [h] at h1; cases h1; cases h2)
/-- what All hands back -/
def AllRes (p : Nat) (w : World) (e : Ending) (w' : World) : Prop := ∃ Bs, e = .returned (.func (.func 22) #[] #[.pointer (some ⟨Bs, 0, none⟩)]) ∧ Blk w' Bs 24 #[.pointer (some ⟨p, 0, none⟩)] ∧ w.heap.size ≤ Bs ∧ Below w.heap.size w w'
theorem hmakef : ∀ (fn : Fn) (first cap : Array Value) (w : World), (Instr.makeFunc fn first cap).run Try.prog w = .ok (.func fn first cap) w := fun _ _ _ _ => rfl
set_option maxRecDepth 100000 in
theorem all_any (w : World) (p : Nat) :
    Calls Try.prog 17 #[.pointer (some ⟨p, 0, none⟩)] w (AllRes p w) := by
  have hmf := hmakef
  have hB := Blk.new w 24 #[.pointer (some ⟨p, 0, none⟩)]
  have hb := (Below.refl w.heap.size w).alloc (Nat.le_refl _) (.cells #[.pointer (some ⟨p, 0, none⟩)] 24)
  go_enter Try.func17, Try.ntmps17
  go_wp2
  go_ret
  exact ⟨_, rfl, hB, Nat.le_refl _, hb⟩
def encT (t : Due) : Array Value := #[.int .i64 t.1, .int .i64 t.2]
theorem abides_alloc {β : Type} {B : Nat} {J : β → World → Prop} (h : AbidesFrom B J) {s : β} {W : World} (o : Obj) (hs : J s W) : J s (W.alloc o) :=
  h s W _ none hs (World.grownBy_alloc W o none) (fun _ e => by cases e)
theorem abides_below {β : Type} {B : Nat} {J : β → World → Prop} (h : AbidesFrom B J) {s : β} {W W' : World} (hb : Below W.heap.size W W') (hs : J s W) : J s W' :=
  h s W W' none hs ⟨hb.os, hb.tape, hb.output, hb.size, fun k hk _ => hb.block k hk⟩ (fun _ e => by cases e)
theorem row_at {w1 wr : World} {base B : Nat} {v : Value} {L : List Due} (h : w1.ownsRow base 53 2 v L.length (cellsP L)) (hB : B ≤ base) (hk : KeepC B w1 wr) {k : Nat} {x : Due} (hx : L[k]? = some x) :
    ∃ g cap, v = .slice (some ⟨g, 0, none⟩) L.length cap ∧ g < wr.heap.size ∧ wr.cell? ⟨g, k * 2, none⟩ = some (.int .i64 x.1) ∧ wr.cell? ⟨g, k * 2 + 1, none⟩ = some (.int .i64 x.2) := by
  have hkl : k < L.length := (List.getElem?_eq_some_iff.1 hx).1
  obtain ⟨hl, ⟨rfl, h0⟩ | ⟨g, cap, cur, rfl, hg, hc, h1, h2, h3, h4⟩⟩ := h
  · omega
  · have hr := hk.2 g _ _ _ (by omega) hc
    have hcell : ∀ j, j < L.length * 2 → wr.cell? ⟨g, j, none⟩ = (cellsP L)[j]? := fun j hj => by
      have : wr.cell? ⟨g, j, none⟩ = cur[j]? := by simp [World.cell?, hr]
      rw [this, ← h4, List.getElem?_take_of_lt hj]
      simp
    obtain ⟨t0, t1⟩ := cells_at L k x hx
    exact ⟨g, cap, rfl, (Array.getElem?_eq_some_iff.1 hr).1, (hcell _ (by omega)).trans t0, (hcell _ (by omega)).trans t1⟩
set_option maxHeartbeats 4000000 in
set_option maxRecDepth 100000 in
theorem all1_in (n : Nat) (hn : 1 ≤ n) (l Bs B p : Nat) (M : Nat → Prop) (L : List Due) (J Jx : List Due → World → Prop) (W : World) (h : PQ W p M L) (hlen : L.length ≤ 1000000) (hBl : B ≤ W.heap.size) (hJ : AbidesFrom W.heap.size J)
    (hY : ∀ pre x W1, J pre W1 → pre.length < L.length → YieldAt Fence.wide (n - 1) Try.prog l (encT x) W1 fun e W' =>
      (e = .returned (.bool true) ∧ J (pre ++ [x]) W' ∧ KeepC B W1 W') ∨ (e = .returned (.bool false) ∧ Jx (pre ++ [x]) W'))
    (hBs : W.cell? ⟨Bs, 0, none⟩ = some (.pointer (some ⟨p, 0, none⟩))) (h0 : J [] W) :
    CallsIn Fence.wide n Try.prog 22 #[.func (.yield l) #[] #[], .pointer (some ⟨Bs, 0, none⟩)] W fun e W' => (∃ v, e = .returned v) ∧
      ((∃ ys, ys = L ∧ J ys W') ∨ (∃ pre, (∃ m, m ≤ L.length ∧ pre = L.take m) ∧ Jx pre W')) := by
  obtain ⟨v, h⟩ := h
  obtain ⟨p0, _, _, _⟩ := h.at_
  have HY := Lib.hid hY
  have HT := Lib.hid (clone_any p v M L W h hlen)
  obtain ⟨av, cv, rfl⟩ := own_shape h.own
  clear hY h
  refine callsIn_of_wp Try.func22 rfl trivial ?_ rfl
  simp only [Try.ntmps22, List.size_toArray, List.length_cons, List.length_nil, Nat.reduceAdd, Nat.reduceSub, Array.replicate_succ, Array.replicate_zero, List.push_toArray, List.append_toArray, List.nil_append, List.cons_append]
  gi_wp2_with fail
  refine ⟨trivial, (callsIn_wide.2 HT.out).mono ?_⟩
  rintro e w1 ⟨v1, rfl, hown, b1⟩
  obtain ⟨a1, c1, rfl⟩ := own_shape hown
  have HO := Lib.hid hown
  have J1 := abides_below hJ b1 h0
  have HJ := Lib.hid hJ
  have hWw := b1.size
  clear HT hown h0 hBs b1 p0
  gi_wp2
  gi_loopw [13] (fun i wr => ∃ k : Nat, k ≤ L.length ∧ i = .int .i64 (k : Int) ∧ J (L.take k) wr ∧ Hid (KeepC B w1 wr)) (fun i _ => L.length - (intOf i).toNat)
  case atStart => exact ⟨0, Nat.zero_le _, rfl, J1, Lib.hid (keepC_below (Below.refl _ _))⟩
  case round =>
    obtain ⟨k, hk, rfl, hJs, HK⟩ := hrel
    clear J1
    by_cases hlt : k < L.length
    · have hx : L[k]? = some L[k] := List.getElem?_eq_getElem hlt
      obtain ⟨g, cap, hv, hg, c0, c1'⟩ := row_at HO.out hBl HK.out hx
      have hTn := Lib.hid (show L.take k ++ [L[k]] = L.take (k + 1) from (List.take_succ_eq_append_getElem hlt).symm)
      generalize L[k] = x at c0 c1' hTn
      injection hv with e1 e2 e3
      subst e1; subst e3
      have hJa := abides_alloc HJ.out (.cells #[.int .i64 x.1, .int .i64 x.2] 53) hJs
      have HKa := Lib.hid (keepC_t HK.out (keepC_below ((Below.refl _ _).alloc (Nat.le_refl _) (.cells #[.int .i64 x.1, .int .i64 x.2] 53))))
      obtain ⟨fn, tmps, assign, body, hy, hR⟩ := HY.out _ x _ hJa (by rw [List.length_take]; omega)
      simp only [encT] at hy
      clear hJs hx
      gi_wp2
      refine hR.mono ?_
      rintro e W3 (⟨rfl, hJ3, hk3⟩ | ⟨rfl, hJx3⟩)
      · have HJ3 := Lib.hid (show J (L.take (k + 1)) W3 by rw [← hTn.out]; exact hJ3)
        have HK3 := Lib.hid (keepC_t HKa.out hk3)
        clear hJ3 hk3 hJa
        gi_wp2
        go_roundw
        case rel => exact ⟨k + 1, by omega, by go_num, HJ3.out, HK3⟩
        case measure => simp [intOf]; omega
      · clear hJa
        gi_wp2
        refine bodyPost_ret (results_none rfl _ _ _) rfl ?_
        exact ⟨⟨_, rfl⟩, .inr ⟨_, ⟨k + 1, by omega, hTn.out⟩, hJx3⟩⟩
    · obtain rfl : k = L.length := by omega
      rw [List.take_length] at hJs
      gi_wp2
      go_end0
      exact ⟨⟨_, rfl⟩, .inl ⟨_, rfl, hJs⟩⟩
theorem all_stops (n : Nat) (hn : 1 ≤ n) (Bs B p : Nat) (M : Nat → Prop) (L : List Due) (w : World) (h : PQ w p M L) (hlen : L.length ≤ 1000000) (hB : B ≤ w.heap.size) (hBs : w.cell? ⟨Bs, 0, none⟩ = some (.pointer (some ⟨p, 0, none⟩))) :
    SeqStopsK Fence.wide n Try.prog 22 #[.pointer (some ⟨Bs, 0, none⟩)] encT (KeepC B) (fun ys => ys = L) (fun pre => ∃ m, m ≤ L.length ∧ pre = L.take m) L.length w := fun l J Jx W hW hJ _ hY h0 =>
  all1_in n hn l Bs B p M L J Jx W (h.below hW) hlen (Nat.le_trans hB hW.size) hJ hY ((hW.cell (p := ⟨Bs, 0, none⟩) (World.block_lt_of_cell? _ _ hBs)).trans hBs) h0
end Go.Proofs.Ytoiakenepmbalaa.Purse
