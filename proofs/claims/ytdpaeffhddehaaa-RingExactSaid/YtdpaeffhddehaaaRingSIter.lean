/- Going over a ring. -/
import Derived.Test.YtdpaeffhddehaaaRingSAll
import Derived.Test.YtdpaeffhddehaaaRingKin
import Derived.RangeFuncBox
import Derived.RangeFuncLeaves
import Derived.RangeFuncFrom
import Derived.RangeFuncCalls
import Derived.RangeFuncNested
import Derived.OwnWalkIn
import Derived.TacticsInMore
import Derived.LoopNIn
import Derived.LoopIn
namespace Go.Proofs.Ytdpaeffhddehaaa.RingS
set_option maxRecDepth 100000
open Go.RowKit Go.Shelf
open Go.Proofs.Ytdpaeffhddehaaa.Mem
open Go.Proofs.Ytdpaeffhddehaaa.Ring
attribute [local go_sem] Oper.semAt_some

/-- cells from B on stay -/
def KeepC (B : Nat) (A C : World) : Prop := A.heap.size ≤ C.heap.size ∧ ∀ k cs T q, B ≤ k → A.heap[k]? = some (.cells cs T q) → C.heap[k]? = some (.cells cs T q)
theorem keepC_t {B : Nat} {A C D : World} (h : KeepC B A C) (k : KeepC B C D) : KeepC B A D := ⟨Nat.le_trans h.1 k.1, fun j cs T q hj hc => k.2 j cs T q hj (h.2 j cs T q hj hc)⟩
theorem keepC_b {B : Nat} (W : World) (l : Nat) (o o' : Obj) (h : W.heap[l]? = some o) (ho : o.isCells = false) : KeepC B W (W.putObj l o') := by
  refine ⟨by simp [World.putObj], fun k cs T q _ hc => ?_⟩
  have hne : k ≠ l := fun e => by subst e; rw [h] at hc; cases hc; cases ho
  rw [World.putObj_heap_other hne]; exact hc
theorem keepC_below {B : Nat} {A C : World} (h : Below A.heap.size A C) : KeepC B A C := ⟨h.size, fun k _ _ _ _ hc => (h.block k (Array.getElem?_eq_some_iff.1 hc).1).trans hc⟩
section
variable {p fb : Nat} {ad : Nat → Nat} {M : Nat → Prop} {S : RState}
theorem del_ra (k : Int) (w : World) (h : RA w p fb ad M S) :
    Calls Try.prog 15 #[.pointer (some ⟨p, 0, none⟩), .int .i64 k] w fun e w' => e = .returned (.tuple #[.string (delR (⟨#[]⟩ : ByteArray) S k).1, .bool (delR (⟨#[]⟩ : ByteArray) S k).2.1]) ∧ RA w' p fb ad M (delR (⟨#[]⟩ : ByteArray) S k).2.2 ∧ Keep M w w' := by
  have hF := find_any k w h
  have hN := h.wf.n2
  cases hk : atS S k with
  | none =>
    rw [atS_no hk] at hF
    have hr : delR (⟨#[]⟩ : ByteArray) S k = ((⟨#[]⟩ : ByteArray), false, S) := by unfold delR; rw [hk]
    rw [hr]
    have HF := Lib.hid hF
    have HA := Lib.hid h
    clear hF h hk hr
    go_enter Try.func15, Try.ntmps15
    go_wp2_with fail
    refine HF.out.mono ?_
    simp only [idx]
    rintro e w1 ⟨rfl, b1⟩
    go_wp2
    go_ret2
    exact ⟨rfl, HA.out.below b1, Keep.of_below b1 HA.out.lt⟩
  | some x =>
    obtain ⟨i, t⟩ := x
    have hr : delR (⟨#[]⟩ : ByteArray) S k = (t.val, true, putAt S i none) := by unfold delR; rw [hk]
    rw [hr]
    obtain ⟨e1, h2, h3, -, -⟩ := atS_is hk
    rw [e1] at hF
    have HF := Lib.hid hF
    have HA := Lib.hid h
    clear hF h hk hr e1
    go_enter Try.func15, Try.ntmps15
    go_wp2_with fail
    refine HF.out.mono ?_
    simp only [idx]
    rintro e w1 ⟨rfl, b1⟩
    have h1 := HA.out.below b1
    obtain ⟨c0, -, -⟩ := h1.get
    obtain ⟨d0, -, d1, -, -, -, -, -⟩ := h1.on h2 h3
    have fz := (h1.at_ h2).2
    have HU := Lib.hid (h1.clear (i := i))
    have HK := Lib.hid ((Keep.of_below b1 HA.out.lt).set_ HA.out.m1 i (.pointer none))
    clear h1 h3
    generalize S.N = N at c0 h2 hN
    go_wp2
    go_ret2
    exact ⟨rfl, HU.out, HK.out⟩
theorem put_nil (k : Int) (v : ByteArray) (w : World) :
    Calls Try.prog 11 #[.pointer none, .int .i64 k, .string v] w fun e w' => e = .returned (.tuple #[.agg #[.int .i64 0, .string (⟨#[]⟩ : ByteArray), .bool false], .bool false]) ∧ Below w.heap.size w w' := by
  have hO := Blk.new w 31 #[.int .i64 0, .string (⟨#[]⟩ : ByteArray), .bool false]
  have hb := (Below.refl w.heap.size w).alloc (Nat.le_refl _) (.cells #[.int .i64 0, .string (⟨#[]⟩ : ByteArray), .bool false] 31)
  have q0 := hO.cell 0
  have q1 := hO.cell 1
  have q2 := hO.cell 2
  go_enter Try.func11, Try.ntmps11
  go_wp2
  exact ⟨rfl, .tuple #[.agg #[.int .i64 0, .string (⟨#[]⟩ : ByteArray), .bool false], .bool false], by simp [results, Try.results11, go_sem], rfl, hb⟩
theorem get_nil (k : Int) (w : World) :
    Calls Try.prog 13 #[.pointer none, .int .i64 k] w fun e w' => e = .returned (.tuple #[.string (⟨#[]⟩ : ByteArray), .bool false]) ∧ Below w.heap.size w w' := by
  go_enter Try.func13, Try.ntmps13
  go_wp2_with fail
  refine (thing_nil k w).mono ?_
  rintro e w1 ⟨rfl, b1⟩
  go_wp2
  go_ret2
  exact ⟨rfl, b1⟩
theorem pin_nil (k : Int) (w : World) :
    Calls Try.prog 17 #[.pointer none, .int .i64 k] w fun e w' => e = .returned (.bool false) ∧ Below w.heap.size w w' := by
  go_enter Try.func17, Try.ntmps17
  go_wp2_with fail
  refine (thing_nil k w).mono ?_
  rintro e w1 ⟨rfl, b1⟩
  go_wp2
  go_ret
  exact ⟨rfl, b1⟩
theorem let_nil (k : Int) (w : World) :
    Calls Try.prog 19 #[.pointer none, .int .i64 k] w fun e w' => e = .returned (.bool false) ∧ Below w.heap.size w w' := by
  go_enter Try.func19, Try.ntmps19
  go_wp2_with fail
  refine (thing_nil k w).mono ?_
  rintro e w1 ⟨rfl, b1⟩
  go_wp2
  go_ret
  exact ⟨rfl, b1⟩
theorem pins_nil (k : Int) (w : World) :
    Calls Try.prog 20 #[.pointer none, .int .i64 k] w fun e w' => e = .returned (.int .i64 0) ∧ Below w.heap.size w w' := by
  go_enter Try.func20, Try.ntmps20
  go_wp2_with fail
  refine (thing_nil k w).mono ?_
  rintro e w1 ⟨rfl, b1⟩
  go_wp2
  go_ret
  exact ⟨rfl, b1⟩
/-- the blocks that aren't the ring's own -/
def Others (w : World) (p fb : Nat) (ad : Nat → Nat) (S : RState) (k : Nat) : Prop := k < w.heap.size ∧ k ≠ p ∧ k ≠ fb ∧ ∀ i t, i < S.N → S.f i = some t → k ≠ ad i
theorem RA.most {w : World} (h : RA w p fb ad M S) : RA w p fb ad (Others w p fb ad S) S :=
  ⟨h.blk, h.row, h.th, h.n0, fun i t hi ht => ⟨(h.n1 i t hi ht).1, (h.n1 i t hi ht).2.1, fun hk => hk.2.2.2 i t hi ht rfl⟩, h.inj, fun hk => hk.2.1 rfl, fun hk => hk.2.2.1 rfl, fun _ hk => hk.1, h.wf⟩
/-- the ring's own blocks are as they were -/
theorem RA.own {w w' : World} (h : RA w p fb ad M S) (hs : ∀ k cs T q, w.heap[k]? = some (.cells cs T q) → (k = p ∨ k = fb ∨ ∃ i t, i < S.N ∧ S.f i = some t ∧ k = ad i) → w'.heap[k]? = some (.cells cs T q)) : RA w' p fb ad (fun _ => False) S := by
  obtain ⟨cs, h1, h2, h3⟩ := h.row
  exact ⟨hs p _ _ _ h.blk (.inl rfl), ⟨cs, hs fb _ _ _ h1 (.inr (.inl rfl)), h2, h3⟩, fun i t hi ht => hs _ _ _ _ (h.th i t hi ht) (.inr (.inr ⟨i, t, hi, ht, rfl⟩)), h.n0, fun i t hi ht => ⟨(h.n1 i t hi ht).1, (h.n1 i t hi ht).2.1, fun h => h⟩, h.inj, fun h => h, fun h => h, fun _ h => h.elim, h.wf⟩
theorem RA.grows {w w' : World} {row : Option Nat} (h : RA w p fb ad M S) (hg : w.grownBy w' row) (hr : ∀ r, row = some r → ∃ o : Obj, w.heap[r]? = some o ∧ o.isCells = false) : RA w' p fb ad (fun _ => False) S :=
  h.own (fun k cs T q hc _ => (hg.block k (Array.getElem?_eq_some_iff.1 hc).1 (fun e => by
    obtain ⟨o, h1, h2⟩ := hr k e.symm
    rw [hc] at h1; cases h1; cases h2)).trans hc)


theorem others_keepC {B : Nat} {w w' : World} (h : Keep (Others w p fb ad S) w w') (hp : p < B) (hf : fb < B) (ha : ∀ i t, i < S.N → S.f i = some t → ad i < B) : KeepC B w w' :=
  ⟨h.size, fun k cs T q hk hc => (h.block k ⟨(Array.getElem?_eq_some_iff.1 hc).1, by omega, by omega, fun i t hi ht => by have := ha i t hi ht; omega⟩).trans hc⟩
theorem others_keeps {w w' : World} (r : RA w p fb ad M S) (h : Keep (Others w p fb ad S) w w') : KeepsOthers w w' := by
  refine ⟨h.size, fun k o hk ho => ?_⟩
  have hc : ∀ {g : Nat} {T : TypeId} {cs : Array Value}, Blk w g T cs → k ≠ g := fun hb e => by subst e; unfold Blk at hb; rw [hk] at hb; cases hb; cases ho
  obtain ⟨cs, h1, -, -⟩ := r.row
  exact (h.block k ⟨(Array.getElem?_eq_some_iff.1 hk).1, hc r.blk, hc h1, fun i t hi ht => hc (r.th i t hi ht)⟩).trans hk
theorem RA.own2 {w w' : World} (h : RA w p fb ad M S) (hsz : w.heap.size ≤ w'.heap.size) (hs : ∀ k cs T q, w.heap[k]? = some (.cells cs T q) → (k = p ∨ k = fb ∨ ∃ i t, i < S.N ∧ S.f i = some t ∧ k = ad i) → w'.heap[k]? = some (.cells cs T q)) : RA w' p fb ad M S := by
  obtain ⟨cs, h1, h2, h3⟩ := h.row
  exact ⟨hs p _ _ _ h.blk (.inl rfl), ⟨cs, hs fb _ _ _ h1 (.inr (.inl rfl)), h2, h3⟩, fun i t hi ht => hs _ _ _ _ (h.th i t hi ht) (.inr (.inr ⟨i, t, hi, ht, rfl⟩)), h.n0, h.n1, h.inj, h.m0, h.m1, fun k hk => Nat.lt_of_lt_of_le (h.lt k hk) hsz, h.wf⟩
theorem RA.grows2 {w w' : World} {row : Option Nat} (h : RA w p fb ad M S) (hg : w.grownBy w' row) (hr : ∀ r, row = some r → ∃ o : Obj, w.heap[r]? = some o ∧ o.isCells = false) : RA w' p fb ad M S :=
  h.own2 hg.size (fun k cs T q hc _ => (hg.block k (Array.getElem?_eq_some_iff.1 hc).1 (fun e => by
    obtain ⟨o, h1, h2⟩ := hr k e.symm
    rw [hc] at h1; cases h1; cases h2)).trans hc)
theorem RA.sub {w : World} (h : RA w p fb ad M S) {k : Nat} (hk : M k) : Others w p fb ad S k := ⟨h.lt k hk, fun e => h.m0 (e ▸ hk), fun e => h.m1 (e ▸ hk), fun i t hi ht e => (h.n1 i t hi ht).2.2 (e ▸ hk)⟩
theorem keepC_set {B : Nat} (w : World) {g : Nat} (hg : g < B) (j : Nat) (v : Value) : KeepC B w (w.setCell ⟨g, j, none⟩ v) :=
  ⟨by simp, fun k cs T q hk hc => (Below.heap_setCell w ⟨g, j, none⟩ v k (show k ≠ g by omega)).trans hc⟩
theorem blk_grows {w w' : World} {row : Option Nat} {g : Nat} {T : TypeId} {cs : Array Value} (h : Blk w g T cs) (hg : w.grownBy w' row) (hr : ∀ r, row = some r → ∃ o : Obj, w.heap[r]? = some o ∧ o.isCells = false) : Blk w' g T cs :=
  h.grown hg (fun e => by
    obtain ⟨o, h1, h2⟩ := hr g e.symm
    unfold Blk at h
    rw [h] at h1; cases h1; cases h2)
/-- what All hands back -/
def AllRes (p : Nat) (w : World) (e : Ending) (w' : World) : Prop := ∃ Bs, e = .returned (.func (.func 43) #[] #[.pointer (some ⟨Bs, 0, none⟩)]) ∧ Blk w' Bs 24 #[.pointer (some ⟨p, 0, none⟩)] ∧ w.heap.size ≤ Bs ∧ Below w.heap.size w w'
theorem all_any (w : World) (p : Nat) :
    Calls Try.prog 22 #[.pointer (some ⟨p, 0, none⟩)] w (AllRes p w) := by
  have hmf := hmakef
  have hB := Blk.new w 24 #[.pointer (some ⟨p, 0, none⟩)]
  have hb := (Below.refl w.heap.size w).alloc (Nat.le_refl _) (.cells #[.pointer (some ⟨p, 0, none⟩)] 24)
  go_enter Try.func22, Try.ntmps22
  go_wp2
  go_ret
  exact ⟨_, rfl, hB, Nat.le_refl _, hb⟩
def encT (t : Thing) : Array Value := #[.int .i64 t.key, .string t.val]
theorem abides_alloc {β : Type} {B : Nat} {J : β → World → Prop} (h : AbidesFrom B J) {s : β} {W : World} (o : Obj) (hs : J s W) : J s (W.alloc o) :=
  h s W _ none hs (World.grownBy_alloc W o none) (fun _ e => by cases e)
theorem abides_below {β : Type} {B : Nat} {J : β → World → Prop} (h : AbidesFrom B J) {s : β} {W W' : World} (hb : Below W.heap.size W W') (hs : J s W) : J s W' :=
  h s W W' none hs ⟨hb.os, hb.tape, hb.output, hb.size, fun k hk _ => hb.block k hk⟩ (fun _ e => by cases e)
theorem row_at {w1 wr : World} {base B : Nat} {v : Value} {L : List Thing} (h : w1.ownsRow base 75 4 v L.length (tcells L)) (hB : B ≤ base) (hk : KeepC B w1 wr) {k : Nat} {x : Thing} (hx : L[k]? = some x) :
    ∃ g cap, v = .slice (some ⟨g, 0, none⟩) L.length cap ∧ g < wr.heap.size ∧ wr.cell? ⟨g, k * 4, none⟩ = some (.int .i64 x.key) ∧ wr.cell? ⟨g, k * 4 + 1, none⟩ = some (.string x.val) ∧ wr.cell? ⟨g, k * 4 + 1 + 1, none⟩ = some (.int .i64 (x.pins : Int)) ∧ wr.cell? ⟨g, k * 4 + 1 + 1 + 1, none⟩ = some (.bool x.fresh) := by
  have hkl : k < L.length := (List.getElem?_eq_some_iff.1 hx).1
  obtain ⟨hl, ⟨rfl, h0⟩ | ⟨g, cap, cur, rfl, hg, hc, h1, h2, h3, h4⟩⟩ := h
  · omega
  · have hr := hk.2 g _ _ _ (by omega) hc
    have hcell : ∀ j, j < L.length * 4 → wr.cell? ⟨g, j, none⟩ = (tcells L)[j]? := fun j hj => by
      have : wr.cell? ⟨g, j, none⟩ = cur[j]? := by simp [World.cell?, hr]
      rw [this, ← h4, List.getElem?_take_of_lt hj]
      simp
    obtain ⟨t0, t1, t2, t3⟩ := tcells_get hx
    exact ⟨g, cap, rfl, (Array.getElem?_eq_some_iff.1 hr).1, (hcell _ (by omega)).trans t0, (hcell _ (by omega)).trans t1, (hcell _ (by omega)).trans t2, (hcell _ (by omega)).trans t3⟩
set_option maxHeartbeats 4000000 in
theorem all1_in (n : Nat) (hn : 1 ≤ n) (l Bs B : Nat) (J Jx : List Thing → World → Prop) (W : World) (h : RA W p fb ad M S) (hBl : B ≤ W.heap.size) (hJ : AbidesFrom W.heap.size J)
    (hY : ∀ pre x W1, J pre W1 → pre.length < (thingsR S).length → YieldAt Fence.wide (n - 1) Try.prog l (encT x) W1 fun e W' =>
      (e = .returned (.bool true) ∧ J (pre ++ [x]) W' ∧ KeepC B W1 W') ∨ (e = .returned (.bool false) ∧ Jx (pre ++ [x]) W'))
    (hBs : W.cell? ⟨Bs, 0, none⟩ = some (.pointer (some ⟨p, 0, none⟩))) (h0 : J [] W) :
    CallsIn Fence.wide n Try.prog 43 #[.func (.yield l) #[] #[], .pointer (some ⟨Bs, 0, none⟩)] W fun e W' => (∃ v, e = .returned v) ∧
      ((∃ ys, ys = thingsR S ∧ J ys W') ∨ (∃ pre, (∃ m, m ≤ (thingsR S).length ∧ pre = (thingsR S).take m) ∧ Jx pre W')) := by
  have HY := Lib.hid hY
  have HT := Lib.hid (things_any W h)
  have hlen : (thingsR S).length ≤ 64 := Nat.le_trans (thingsF_len S.f S.N) h.wf.n2
  clear hY h
  obtain ⟨L, hL⟩ : ∃ L, L = thingsR S := ⟨_, rfl⟩
  rw [← hL] at HY HT hlen ⊢
  clear hL
  refine callsIn_of_wp Try.func43 rfl trivial ?_ rfl
  simp only [Try.ntmps43, List.size_toArray, List.length_cons, List.length_nil, Nat.reduceAdd, Nat.reduceSub, Array.replicate_succ, Array.replicate_zero, List.push_toArray, List.append_toArray, List.nil_append, List.cons_append]
  gi_wp2_with fail
  refine ⟨trivial, (callsIn_wide.2 HT.out).mono ?_⟩
  rintro e w1 ⟨a, c, rfl, hown, b1⟩
  have HO := Lib.hid hown
  have J1 := abides_below hJ b1 h0
  have HJ := Lib.hid hJ
  have hWw := b1.size
  clear HT hown h0 hBs b1
  gi_wp2
  gi_loopw [8] (fun i wr => ∃ k : Nat, k ≤ L.length ∧ i = .int .i64 (k : Int) ∧ J (L.take k) wr ∧ Hid (KeepC B w1 wr)) (fun i _ => L.length - (intOf i).toNat)
  case atStart => exact ⟨0, Nat.zero_le _, rfl, J1, Lib.hid (keepC_below (Below.refl _ _))⟩
  case round =>
    obtain ⟨k, hk, rfl, hJs, HK⟩ := hrel
    clear J1
    by_cases hlt : k < L.length
    · have hx : L[k]? = some L[k] := List.getElem?_eq_getElem hlt
      obtain ⟨g, cap, hv, hg, c0, c1, c2, c3⟩ := row_at HO.out hBl HK.out hx
      have hTn := Lib.hid (show L.take k ++ [L[k]] = L.take (k + 1) from (List.take_succ_eq_append_getElem hlt).symm)
      generalize L[k] = x at c0 c1 c2 c3 hTn
      cases hv
      have hJa := abides_alloc HJ.out (.cells #[.int .i64 x.key, .string x.val, .int .i64 (x.pins : Int), .bool x.fresh] 75) hJs
      have HKa := Lib.hid (keepC_t HK.out (keepC_below ((Below.refl _ _).alloc (Nat.le_refl _) (.cells #[.int .i64 x.key, .string x.val, .int .i64 (x.pins : Int), .bool x.fresh] 75))))
      obtain ⟨fn, tmps, assign, body, hy, hR⟩ := HY.out _ x _ hJa (by rw [List.length_take]; omega)
      simp only [encT] at hy
      clear hJs hx
      gi_wp2
      refine hR.mono ?_
      rintro e W3 (⟨rfl, hJ3, hk3⟩ | ⟨rfl, hJx3⟩)
      · have HJ3 := Lib.hid (show J (L.take (k + 1)) W3 by rw [← hTn.out]; exact hJ3)
        have HK3 := Lib.hid (keepC_t HKa.out hk3)
        clear hJ3 hk3 hJa
        gi_wp2
        go_roundw
        case rel => exact ⟨k + 1, by omega, by go_num, HJ3.out, HK3⟩
        case measure => simp [intOf]; omega
      · clear hJa
        gi_wp2
        refine bodyPost_ret (results_none rfl _ _ _) rfl ?_
        exact ⟨⟨_, rfl⟩, .inr ⟨_, ⟨k + 1, by omega, hTn.out⟩, hJx3⟩⟩
    · obtain rfl : k = L.length := by omega
      rw [List.take_length] at hJs
      gi_wp2
      go_end0
      exact ⟨⟨_, rfl⟩, .inl ⟨_, rfl, hJs⟩⟩
theorem all_stops (n : Nat) (hn : 1 ≤ n) (Bs B : Nat) (w : World) (h : RA w p fb ad M S) (hB : B ≤ w.heap.size) (hBs : w.cell? ⟨Bs, 0, none⟩ = some (.pointer (some ⟨p, 0, none⟩))) :
    SeqStopsK Fence.wide n Try.prog 43 #[.pointer (some ⟨Bs, 0, none⟩)] encT (KeepC B) (fun ys => ys = thingsR S) (fun pre => ∃ m, m ≤ (thingsR S).length ∧ pre = (thingsR S).take m) (thingsR S).length w := fun l J Jx W hW hJ _ hY h0 =>
  all1_in n hn l Bs B J Jx W (h.below hW) (Nat.le_trans hB hW.size) hJ hY ((hW.cell (p := ⟨Bs, 0, none⟩) (World.block_lt_of_cell? _ _ hBs)).trans hBs) h0
end
end Go.Proofs.Ytdpaeffhddehaaa.RingS
