/- mend.Rows: all records of pages. -/
import Derived.Test.YtkeocnhndnbamaaGreatQBook5
import Derived.Test.YtkeocnhndnbamaaGreatQBook6
import Derived.Test.YtkeocnhndnbamaaGreatQBook11
import Derived.Deep.RegionHeld3
import Derived.Deep.RegionLaw
import Derived.Deep.Cut
import Derived.RangeFuncBox
import Derived.RangeFuncNested
namespace Go.Proofs.YtkeocnhndnbamaaGreat.Mend
set_option maxRecDepth 100000
open Go.RowKit Go.Shelf Go.Sort Go.Maps
attribute [local go_sem] Oper.semAt_some
open Go.Proofs.YtkeocnhndnbamaaGreat.Mem
open Go.Proofs.YtkeocnhndnbamaaGreat.Slab (Slot Slots nos atL Rw upTo upTo_len encR RowsRes)
open Go.Proofs.YtkeocnhndnbamaaGreat.Past (AppRes cellsG cellsG_len cellsG_snoc run_appG own_at)
open Go.Proofs.YtkeocnhndnbamaaGreat.Latch (MapN Sm sm_of)
set_option maxRecDepth 100000 in
theorem numb_any (n : Int) (w : World) : Calls Tryz.prog 37 #[.int .i64 n] w fun e w' => e = .returned (.bool (numB n)) ∧ w' = w := by
  obtain ⟨b, hb⟩ : ∃ b, numB n = b := ⟨_, rfl⟩
  rw [hb]
  have HB := Lib.hid hb
  clear hb
  unfold numB at HB
  by_cases h1 : 0 ≤ n
  · have e1 : decide (0 ≤ n) = true := decide_eq_true h1
    by_cases h2 : n < 1024
    · have e2 : decide (n < 1024) = true := decide_eq_true h2
      have HF := Lib.hid (show true = b by rw [← HB.out]; exact (decide_eq_true ⟨h1, h2⟩).symm)
      clear HB
      go_enter Tryz.func37, Tryz.ntmps37
      go_wp2
      go_ret
      exact ⟨by rw [← HF.out]; rfl, rfl⟩
    · have e2 : decide (n < 1024) = false := decide_eq_false h2
      have HF := Lib.hid (show false = b by rw [← HB.out]; exact (decide_eq_false fun h => h2 h.2).symm)
      clear HB
      go_enter Tryz.func37, Tryz.ntmps37
      go_wp2
      go_ret
      exact ⟨by rw [← HF.out]; rfl, rfl⟩
  · have e1 : decide (0 ≤ n) = false := decide_eq_false h1
    have HF := Lib.hid (show false = b by rw [← HB.out]; exact (decide_eq_false fun h => h1 h.1).symm)
    clear HB
    go_enter Tryz.func37, Tryz.ntmps37
    go_wp2
    go_ret
    exact ⟨by rw [← HF.out]; rfl, rfl⟩
theorem zero_page (w : World) : (zeroValue 52).run Tryz.prog w = .ok (.agg #[.int .i64 0, .slice none 0 0]) w := by kernel_rfl
theorem leafOf_snoc (A : List Lf) (x : Lf) (n : Int) : leafOf (A ++ [x]) n = match leafOf A n with
    | some y => some y
    | none => if numB n = true ∧ x.n = n then some x else none := by
  unfold leafOf
  by_cases hn : numB n = true
  · rw [if_pos hn, if_pos hn, List.find?_append]
    cases hf : A.find? (fun y => decide (y.n = n)) with
    | some y => rfl
    | none =>
      dsimp only [Option.none_or]
      by_cases he : x.n = n
      · rw [if_pos ⟨hn, he⟩, List.find?_cons_of_pos (by simpa using he)]
      · rw [if_neg fun h => he h.2, List.find?_cons_of_neg (by simpa using he)]; rfl
  · rw [if_neg hn, if_neg hn]
    dsimp only
    rw [if_neg fun h => hn h.1]
/-- the map of pages -/
structure RS1 (w wr : World) (mb j : Nat) (A : List Lf) (F : Int → Option Value) : Prop where
  mp : MapN wr mb j F
  vl : ∀ n, match leafOf A n with
    | none => F n = none
    | some x => ∃ a n' c', F n = some (.agg #[.int .i64 x.l, .slice a n' c']) ∧ Slots w a n' x.z ∧ n' ≤ 1000000
  mb : w.heap.size ≤ mb
  bel : Below w.heap.size w wr
section
variable {w wr wr' : World} {mb j : Nat} {A : List Lf} {F : Int → Option Value}
theorem RS1.below (h : RS1 w wr mb j A F) (hb : Below wr.heap.size wr wr') : RS1 w wr' mb j A F := ⟨h.mp.same (hb.block _ h.mp.lt), h.vl, h.mb, below_go h.bel hb⟩
theorem RS1.skip (h : RS1 w wr mb j A F) {x : Lf} (hx : F x.n ≠ none ∨ numB x.n = false) : RS1 w wr mb (j + 1) (A ++ [x]) F := by
  refine ⟨h.mp.mono (Nat.le_succ _), fun n => ?_, h.mb, h.bel⟩
  have hv := h.vl n
  rw [leafOf_snoc]
  cases hl : leafOf A n with
  | some y => rw [hl] at hv; exact hv
  | none =>
    rw [hl] at hv
    dsimp only at hv ⊢
    rw [if_neg]
    · exact hv
    · rintro ⟨h1, rfl⟩
      rcases hx with hx | hx
      · exact hx hv
      · rw [h1] at hx; cases hx
theorem RS1.put (h : RS1 w wr mb j A F) {x : Lf} {a : Option Addr} {n' c' : Nat} (hx : F x.n = none) (hn : numB x.n = true) (hs : Slots w a n' x.z) (hl : n' ≤ 1000000) (hj : j ≤ 1000) :
    ∃ w', (Instr.mapUpdate 99 (.map (some mb)) (.int .i64 x.n) (.agg #[.int .i64 x.l, .slice a n' c'])).run Tryz.prog wr = .ok () w' ∧
      RS1 w w' mb (j + 1) (A ++ [x]) (fun y => if y = x.n then some (.agg #[.int .i64 x.l, .slice a n' c']) else F y) ∧ wr.heap.size ≤ w'.heap.size := by
  have hb : 0 ≤ x.n ∧ x.n < 1024 := by unfold numB at hn; simpa using hn
  obtain ⟨w', hr, hm, ht⟩ := h.mp.put Tryz.underlying99 (sm_of (x := x.n) (by omega)) (by unfold maxLen; omega) (.agg #[.int .i64 x.l, .slice a n' c'])
  refine ⟨w', hr, ⟨hm, fun n => ?_, h.mb, Past.below_grown h.bel h.bel.size ht.grown (fun k e => by injection e with e; rw [← e]; exact h.mb)⟩, ht.grown.size⟩
  have hv := h.vl n
  rw [leafOf_snoc]
  by_cases he : n = x.n
  · subst he
    cases hl2 : leafOf A x.n with
    | some y =>
      rw [hl2] at hv
      obtain ⟨_, _, _, e, _⟩ := hv
      rw [hx] at e; cases e
    | none =>
      dsimp only
      rw [if_pos ⟨hn, rfl⟩]
      exact ⟨a, n', c', by rw [if_pos rfl], hs, hl⟩
  · cases hl2 : leafOf A n with
    | some y =>
      rw [hl2] at hv
      dsimp only at hv ⊢
      rw [if_neg he]
      exact hv
    | none =>
      rw [hl2] at hv
      dsimp only at hv ⊢
      rw [if_neg fun h => he h.2.symm]
      dsimp only
      rw [if_neg he]
      exact hv
end
theorem info_row : (Tryz.prog.info? 73).map (fun i => (i.zero, i.size, i.bytes)) = some (some (.agg #[.int .i64 0, .int .i64 0, .string ⟨#[]⟩]), 3, 32) := by kernel_rfl
/-- the records so far, beside the map, the numbers and the marks of the ranges that are over -/
structure RS2 (w W : World) (mb m g8 B2 : Nat) (kv rv : Value) (ls : List Lf) (F : Int → Option Value) (R : List Rc) (Ds : List Nat) : Prop where
  s1 : RS1 w W mb m ls F
  box : Blk W g8 70 #[rv]
  row : W.ownsRow w.heap.size 73 3 rv R.length (cellsG rcV R)
  keys : W.ownsRow B2 3 1 kv (numsL ls).length ((numsL ls).map (Value.int .i64))
  hg : w.heap.size ≤ g8
  nd : Ds.Nodup
  ds : ∀ D ∈ Ds, w.heap.size ≤ D ∧ W.heap[D]? = some (.deferred (some []))
section
variable {w W W' : World} {mb m g8 B2 : Nat} {kv rv : Value} {ls : List Lf} {F : Int → Option Value} {R : List Rc} {Ds : List Nat}
theorem RS2.below (h : RS2 w W mb m g8 B2 kv rv ls F R Ds) (hb : Below W.heap.size W W') : RS2 w W' mb m g8 B2 kv rv ls F R Ds :=
  ⟨h.s1.below hb, h.box.below hb h.box.lt, own_below h.row hb, own_below h.keys hb, h.hg, h.nd, fun D hD => ⟨(h.ds D hD).1, (hb.block D (Array.getElem?_eq_some_iff.1 (h.ds D hD).2).1).trans (h.ds D hD).2⟩⟩
/-- a block that is no cells turns, neither the map nor a mark -/
theorem RS2.turn (h : RS2 w W mb m g8 B2 kv rv ls F R Ds) {row : Option Nat} (hg : W.grownBy W' row) (hr : ∀ r, row = some r → w.heap.size ≤ r ∧ r ≠ mb ∧ r ∉ Ds ∧ ∃ o : Obj, W.heap[r]? = some o ∧ o.isCells = false) : RS2 w W' mb m g8 B2 kv rv ls F R Ds := by
  have hno : ∀ (k : Nat) (cs : Array Value) (t : TypeId) (fr : _), W.heap[k]? = some (.cells cs t fr) → some k ≠ row := fun k cs t fr hk e => by
    obtain ⟨-, -, -, o, h1, h2⟩ := hr k e.symm
    rw [hk] at h1
    cases h1
    cases h2
  have hown : ∀ {B size n : Nat} {t : TypeId} {v : Value} {xs : List Value}, W.ownsRow B t size v n xs → W'.ownsRow B t size v n xs := fun {B size n t v xs} ho => own_same ho fun k e => by
    have hlt := own_lt ho e
    refine hg.block k hlt fun e2 => ?_
    obtain ⟨_, ⟨rfl, _⟩ | ⟨gg, cap, cur, rfl, _, hb, _⟩⟩ := ho
    · cases e
    · simp [Value.ownBlock] at e
      subst e
      exact hno _ _ _ _ hb e2
  refine ⟨⟨h.s1.mp.same (hg.block _ h.s1.mp.lt fun e => (hr mb e.symm).2.1 rfl), h.s1.vl, h.s1.mb, Past.below_grown h.s1.bel h.s1.bel.size hg fun k e => (hr k e).1⟩, h.box.grown hg (fun e => hno _ _ _ _ h.box e), hown h.row, hown h.keys, h.hg, h.nd, fun D hD => ⟨(h.ds D hD).1, (hg.block D (Array.getElem?_eq_some_iff.1 (h.ds D hD).2).1 fun e => (hr D e.symm).2.2.1 hD).trans (h.ds D hD).2⟩⟩
/-- one record more -/
theorem RS2.app (h : RS2 w W mb m g8 B2 kv rv ls F R Ds) {rv' : Value} {r : Rc} {w6 : World} {o : Obj} (ha : AppRes (W.alloc o) w6 w.heap.size 73 3 rv rv' (R ++ [r]).length (cellsG rcV (R ++ [r]))) :
    RS2 w (w6.setCell ⟨g8, 0, none⟩ rv') mb m g8 B2 kv rv' ls F (R ++ [r]) Ds ∧ w6.cell? ⟨g8, 0, none⟩ = some rv ∧ w6.frozen? ⟨g8, 0, none⟩ = false ∧ KeepsOthers W (w6.setCell ⟨g8, 0, none⟩ rv') ∧
      (∀ (k : Nat) (t : TypeId) (cs : Array Value), t ≠ 73 → k ≠ g8 → Blk W k t cs → Blk (w6.setCell ⟨g8, 0, none⟩ rv') k t cs) ∧
      (∀ M : Nat → Prop, (∀ k, M k → k < W.heap.size ∧ rv.ownBlock ≠ some k ∧ k ≠ g8) → KeepM M W (w6.setCell ⟨g8, 0, none⟩ rv') ∧ ∀ k, M k → rv'.ownBlock ≠ some k) := by
  obtain ⟨ho, hg, hu⟩ := ha
  have h1 := h.below (Ent.below_box W o)
  have hty := own_ty h1.row h1.box (by decide)
  have hbox6 := h1.box.grown hg (fun e => hty e.symm)
  have hty6 := own_ty ho hbox6 (by decide)
  have hset : ∀ k, k ≠ g8 → (w6.setCell ⟨g8, 0, none⟩ rv').heap[k]? = w6.heap[k]? := fun k hk => Below.heap_setCell w6 _ _ k hk
  have hmb : mb ≠ g8 := h1.s1.mp.not_cells h1.box
  have hrc : ∀ k, rv.ownBlock = some k → ∃ cs fr, (W.alloc o).heap[k]? = some (.cells cs 73 fr) := fun k e => own_cells h1.row e
  have hmr : ∀ k, rv.ownBlock = some k → k ≠ mb := fun k e e2 => by
    subst e2
    obtain ⟨cs, fr, hk⟩ := hrc k e
    obtain ⟨_, ⟨_, _, h3, _⟩, _⟩ := h1.s1.mp
    rw [h3] at hk; cases hk
  have hkeys6 : w6.ownsRow B2 3 1 kv (numsL ls).length ((numsL ls).map (Value.int .i64)) := own_same h1.keys fun k e => hg.block k (own_lt h1.keys e) fun e2 => own_own h1.row h1.keys (by decide) k e2.symm e
  have hkg : kv.ownBlock ≠ some g8 := own_ty h1.keys h1.box (by decide)
  refine ⟨⟨⟨(h1.s1.mp.same (hg.block _ h1.s1.mp.lt fun e => hmr mb e.symm rfl)).same (hset mb hmb), h1.s1.vl, h1.s1.mb, (Past.below_grown h1.s1.bel h1.s1.bel.size hg fun k e => Past.own_ge h1.row e).setCell (p := ⟨g8, 0, none⟩) h.hg _⟩, ?_, ?_, own_set hkeys6 hkg 0 rv', h.hg, h.nd, fun D hD => ⟨(h.ds D hD).1, ?_⟩⟩, hbox6.cell 0, hbox6.frozen 0, ?_, fun k t cs ht hk hb => ?_, fun M hM => ⟨?_, fun k hk e => ?_⟩⟩
  · exact hbox6.set_ 0 rv'
  · exact own_set ho hty6 0 rv'
  · have hd := (h1.ds D hD).2
    have hDg : D ≠ g8 := fun e => by
      subst e
      have := h1.box
      unfold Blk at this
      rw [hd] at this; cases this
    rw [hset D hDg]
    refine (hg.block D (Array.getElem?_eq_some_iff.1 hd).1 fun e => ?_).trans hd
    obtain ⟨cs, fr, hk⟩ := hrc D e.symm
    rw [hd] at hk; cases hk
  · refine ((KeepsOthers.alloc W o).trans (KeepsOthers.of_grownBy hg fun j o2 ej hj => ?_)).trans (KeepsOthers.setCell _ _ _)
    obtain ⟨cs, fr, hk⟩ := hrc j ej
    rw [hk] at hj; cases hj; rfl
  · exact ((hb.alloc o).grown hg (fun e => own_ty h1.row (hb.alloc o) ht e.symm)).far (p := ⟨g8, 0, none⟩) hk rv'
  · exact keepM_t (keepM_below (Ent.below_box W o)) (keepM_t (keepM_grown hg fun k e hk => (hM k hk).2.1 e) (keepM_set _ (fun hk => (hM _ hk).2.2 rfl) _ _))
  · rcases hu with hu | hu
    · rw [hu] at e; exact (hM k hk).2.1 e
    · rw [hu] at e
      injection e with e
      have := (hM k hk).1
      simp at e
      omega
end
theorem wpListIn_appR {F : Fence} {n : Nat} {w : World} {ops : Array Oper} {rest : List Oper} {o : Oper} {a : Act} {Q : Exit → Act → World → Prop} (hgd : o.guard = none) (s x : Operand)
    (ho : o.op = .call { callee := .builtin .append, args := #[s, x], argTypes := #[70, 70] }) (B : Nat) (v : Value) (L : List Rc) (hs : a.eval s = v) (y : Rc) (hown : w.ownsRow B 73 3 v L.length (cellsG rcV L)) (vb : Nat) (hx : a.eval x = .slice (some ⟨vb, 0, none⟩) 1 1)
    (hb : Blk w vb 73 #[.int .i64 y.n, .int .i64 (y.k : Int), .string y.d]) (hn : L.length ≤ 2000000) (hB : B ≤ w.heap.size)
    (hK : ∀ v' w', AppRes w w' B 73 3 v v' (L ++ [y]).length (cellsG rcV (L ++ [y])) → wpListIn F n Tryz.prog ops Q rest (a.put o.dst v') w') : wpListIn F n Tryz.prog ops Q (o :: rest) a w := by
  obtain ⟨v', w', hr, h2⟩ := run_appG (ty := o.type) (f := rcV) Tryz.underlying70 info_row rfl (by decide) (by decide) (fun _ => rfl) (fun x u hu => by simp [rcV] at hu; rcases hu with rfl | rfl | rfl <;> rfl) hown (y := y) hb hn hB
  refine wpListIn_plain hgd fun K hK' => ?_
  unfold Oper.wpIn
  refine ⟨?_, ?_⟩
  · simp [Oper.about, ho, resolve, Target.leads, Sem.run_pure]
  · rw [Oper.semAt_plain F _ _ (by rw [ho]; intro c hc'; cases hc')]
    simp [execOp, ho, resolve, invoke, builtin, hs, hx, hr, Result.andThen]
    exact hK' _ _ (hK v' w' h2)
def markD (D : Nat) : Deferred := { target := .collected D, args := #[] }
/-- the marks of ranges that are over are taken, one by one -/
theorem leaves_marks {F : Fence} {n : Nat} {fn : Func} {tmps : Array Value} {R : Ending → World → Prop} (I : World → Prop) (lo : Nat) (hput : ∀ W D, lo ≤ D → I W → W.heap[D]? = some (.deferred (some [])) → I (W.putObj D (.deferred none))) (hend : ∀ W, I W → LeavesIn F n Tryz.prog fn tmps R [] .returning W) :
    ∀ (Ds : List Nat) (W : World), Ds.Nodup → I W → (∀ D ∈ Ds, lo ≤ D ∧ W.heap[D]? = some (.deferred (some []))) → LeavesInM F n Tryz.prog fn tmps R (Ds.map markD) .returning W
  | [], W, _, hI, _ => hend W hI
  | D :: Ds, W, hn, hI, hD => by
    obtain ⟨h1, h2⟩ := List.nodup_cons.1 hn
    have hd := hD D List.mem_cons_self
    refine ⟨by simp, .inl ⟨D, _, rfl, run_takeDeferred hd.2, leaves_marks I lo hput hend Ds _ h2 (hput W D hd.1 hI hd.2) fun E hE => ⟨(hD E (List.mem_cons_of_mem _ hE)).1, ?_⟩⟩⟩
    have hne : E ≠ D := fun e => h1 (by rw [← e]; exact hE)
    rw [World.putObj_heap_other hne]
    exact (hD E (List.mem_cons_of_mem _ hE)).2
/-- between two rounds of the inner range -/
structure JR (w : World) (mb m g8 B2 g10 : Nat) (kv : Value) (ls : List Lf) (F : Int → Option Value) (R : List Rc) (Ds : List Nat) (n : Int) (M : Nat → Prop) (V : World) {Z : List Slot} (pre : List (Rw Z)) (X : World) : Prop where
  rs : ∃ ra rk, RS2 w X mb m g8 B2 kv (.slice ra (R ++ pre.map fun r => (⟨n, r.i, r.d⟩ : Rc)).length rk) ls F (R ++ pre.map fun r => (⟨n, r.i, r.d⟩ : Rc)) Ds ∧ ∀ k, M k → (Value.slice ra (R ++ pre.map fun r => (⟨n, r.i, r.d⟩ : Rc)).length rk).ownBlock ≠ some k
  ten : Blk X g10 3 #[.int .i64 n]
  sz : V.heap.size ≤ X.heap.size
theorem jr_own {w : World} {mb m g8 B2 g10 : Nat} {kv : Value} {ls : List Lf} {F : Int → Option Value} {R : List Rc} {Ds : List Nat} {n : Int} {M : Nat → Prop} {V : World} {Z : List Slot} (hw : w.heap.size ≤ V.heap.size) (hmb : mb < V.heap.size) (hDs : ∀ D ∈ Ds, D < V.heap.size) :
    OwnFrom V.heap.size (JR w mb m g8 B2 g10 kv ls F R Ds n M V (Z := Z)) := fun s W W' row hs hg hr => by
  obtain ⟨⟨ra, rk, h1, h2⟩, h3, h4⟩ := hs
  refine ⟨⟨ra, rk, h1.turn hg fun r e => ?_, h2⟩, h3.grown hg fun e => ?_, Nat.le_trans h4 hg.size⟩
  · obtain ⟨q1, q2⟩ := hr r e
    exact ⟨by omega, by omega, fun hm => by have := hDs r hm; omega, q2⟩
  · obtain ⟨-, o, q1, q2⟩ := hr g10 e.symm
    unfold Blk at h3
    rw [h3] at q1
    cases q1
    cases q2
def RowsG (ls : List Lf) (w : World) (e : Ending) (w' : World) : Prop :=
  ∃ v, e = .returned v ∧ w'.ownsRow w.heap.size 73 3 v (rowsL ls).length (cellsG rcV (rowsL ls)) ∧ Below w.heap.size w w'
set_option maxRecDepth 100000 in
set_option maxHeartbeats 8000000 in
theorem mrows_any (a : Option Addr) (m c : Nat) (ls : List Lf) (w : World) (h : LeavesI w a m ls) (hm : m ≤ 100) (h50 : ∀ x ∈ ls, x.z.length ≤ 50) :
    Calls Tryz.prog 23 #[.slice a m c] w (RowsG ls w) := by
  have HL := Lib.hid h
  have HZ := Lib.hid h50
  have hlen := h.1
  clear h h50
  refine (callsIn_wide (n := 6)).1 ?_
  refine callsIn_of_wp_marks Tryz.func23 rfl trivial ?_ rfl
  refine wpIn_wide.2 ?_
  simp only [Tryz.ntmps23, List.size_toArray, List.length_cons, List.length_nil, Nat.reduceAdd, Nat.reduceSub, Array.replicate_succ, Array.replicate_zero, List.push_toArray, List.append_toArray, List.nil_append, List.cons_append]
  have hmm := @run_makeMap Tryz.prog
  have hnil : ∀ n, leafOf [] n = none := fun n => by unfold leafOf; split <;> rfl
  have H0 := Lib.hid (show RS1 w (w.alloc (.map #[] 0)) w.heap.size 0 [] (fun _ => none) from ⟨Latch.map_made w, fun n => by rw [hnil n], Nat.le_refl _, (Below.refl _ _).alloc (Nat.le_refl _) _⟩)
  clear hnil
  obtain ⟨mb, hmb⟩ : ∃ mb, w.heap.size = mb := ⟨_, rfl⟩
  go_upto_region 2 with (fail)
  rw [hmb] at H0
  have HMB := Lib.hid hmb
  clear hmb
  generalize w.alloc (.map #[] 0) = w1 at H0 ⊢
  go_wp2_with fail
  go_loopw [16] (fun iv wr => ∃ (j : Nat) (F : Int → Option Value), j ≤ m ∧ iv = .int .i64 (j : Int) ∧ Hid (RS1 w wr mb j (ls.take j) F)) (fun iv _ => m - intN iv)
  case atStart => exact ⟨0, _, Nat.zero_le _, rfl, H0⟩
  case round =>
    obtain ⟨j, F, hj, rfl, HR⟩ := hrel
    clear H0
    by_cases hjl : j < m
    · obtain ⟨b, off, a', n', c', x, rfl, hbl, hx, c1, c2, c3, hsl, hml⟩ := (HL.out.below HR.out.bel).at_ hjl
      have hd : decide ((j : Int) < (m : Int)) = true := decide_eq_true (by omega)
      have hn5 : n' ≤ 50 := by have := hsl.len; have := HZ.out x (List.mem_of_getElem? hx); omega
      have HX := Lib.hid (show ls.take (j + 1) = ls.take j ++ [x] by rw [List.take_add_one, hx]; rfl)
      have hsm := sm_of (HL.out.2.1 x (List.mem_of_getElem? hx))
      have HSL := Lib.hid (show Slots w a' n' x.z from by
        obtain ⟨b2, off2, a2, n2, c22, x2, e2, -, hx2, -, -, d3, hs2, -⟩ := HL.out.at_ hjl
        rw [hx] at hx2
        injection hx2 with hx2
        injection e2 with e2
        injection e2 with e21 e22
        subst e21 e22 hx2
        rw [(HR.out.bel.cell (p := ⟨_, _, none⟩) (World.block_lt_of_cell? w _ d3)).trans d3] at c3
        injection c3 with c3
        injection c3 with q1 q2 q3
        subst q1 q2
        exact hs2)
      have R1 := Lib.hid (HR.out.below (Ent.below_box wr (.cells #[.int .i64 x.n, .int .i64 x.l, .slice a' n' c'] 54)))
      have l1 := R1.out.mp.look_ok Tryz.underlying99 (zero_page _) hsm
      clear hsl hml HR
      cases hF : F x.n with
      | some v =>
        have hv := R1.out.vl x.n
        cases hlo : leafOf (ls.take j) x.n with
        | none => rw [hlo, hF] at hv; cases hv
        | some y =>
          rw [hlo] at hv
          obtain ⟨a2, n2, c22, e, -, -⟩ := hv
          rw [hF] at e
          injection e with e
          subst e
          have R2 := Lib.hid ((R1.out.below (Ent.below_box _ (.cells #[.int .i64 y.l, .slice a2 n2 c22] 52))).skip (x := x) (.inl (by rw [hF]; simp)))
          rw [hF, Option.getD_some, Option.isSome_some] at l1
          clear hF hlo R1 hsm
          go_wp2_with fail
          go_roundw
          case rel => exact ⟨j + 1, _, by omega, by go_num, by rw [HX.out]; exact R2⟩
          case measure => simp [intN]; omega
      | none =>
        rw [hF, Option.getD_none, Option.isSome_none] at l1
        have R2 := Lib.hid (R1.out.below (Ent.below_box _ (.cells #[.int .i64 0, .slice none 0 0] 52)))
        clear R1 hsm
        cases hnb : numB x.n with
        | false =>
          have R3 := Lib.hid (R2.out.skip (x := x) (.inr hnb))
          have hcn := fun W => numb_any x.n W
          rw [hnb] at hcn
          clear R2 hnb hF
          go_wp2_with ((with_reducible refine (hcn _).mono ?_); rintro e w5 ⟨rfl, rfl⟩)
          go_roundw
          case rel => exact ⟨j + 1, _, by omega, by go_num, by rw [HX.out]; exact R3⟩
          case measure => simp [intN]; omega
        | true =>
          obtain ⟨w6, hr6, R6, -⟩ := R2.out.put (x := x) (a := a') (n' := n') (c' := c') hF hnb HSL.out (by omega) (by omega)
          have R3 := Lib.hid R6
          have hcn := fun W => numb_any x.n W
          rw [hnb] at hcn
          clear R2 hnb hF R6
          go_wp2_with ((with_reducible refine (hcn _).mono ?_); rintro e w5 ⟨rfl, rfl⟩)
          go_roundw
          case rel => exact ⟨j + 1, _, by omega, by go_num, by rw [HX.out]; exact R3⟩
          case measure => simp [intN]; omega
    · obtain rfl : j = m := by omega
      have hd : decide ((j : Int) < (j : Int)) = false := decide_eq_false (by omega)
      have R := HR.out
      rw [List.take_of_length_le (by omega)] at R
      have HRR := Lib.hid R
      clear R HR
      go_upto_region 10 with (fail)
      obtain ⟨g8, hg8⟩ : ∃ g8, wr.heap.size = g8 := ⟨_, rfl⟩
      have RB := HRR.out.below (Ent.below_box wr (.cells #[.slice none 0 0] 70))
      have hB8 := Blk.new wr 70 #[.slice none 0 0]
      have h8 := HRR.out.bel.size
      rw [hg8] at hB8 h8
      try rw [hg8]
      have HG8 := Lib.hid hg8
      clear hg8
      generalize hGen : wr.alloc (.cells #[.slice none 0 0] 70) = W2 at RB hB8 ⊢
      clear hGen
      have HK1 := Lib.hid (keysG_any (some mb) W2)
      have HS1 := Lib.hid (sortedG_any RB.mp (by omega) (numsL_rise ls) (fun n => (numsL_mem ls n).trans (by
        have hv := RB.vl n
        cases hl : leafOf ls n with
        | none => rw [hl] at hv; rw [hv]; simp
        | some x => rw [hl] at hv; obtain ⟨_, _, _, e, _⟩ := hv; rw [e]; simp)))
      have hb2 := Ent.below_box W2 (.cells #[.map (some mb)] 99)
      have H8 := Lib.hid h8
      have HB8 := Lib.hid hB8
      have HRB := Lib.hid RB
      have HB2 := Lib.hid hb2
      clear RB hB8 h8 hb2
      go_wp2_with fail
      refine HK1.out.mono ?_
      rintro e w5 ⟨rfl, rfl⟩
      go_wp2_with fail
      refine HS1.out.mono ?_
      rintro e w6 ⟨kv, rfl, hrow, b6⟩
      obtain ⟨ka, kc, rfl⟩ := own_shape hrow
      obtain ⟨B2, hBB⟩ : ∃ B2, (W2.alloc (.cells #[.map (some mb)] 99)).heap.size = B2 := ⟨_, rfl⟩
      have H2 := Lib.hid (show RS2 w w6 mb j g8 B2 (.slice ka (numsL ls).length kc) (.slice none 0 0) ls F [] [] from
        ⟨(HRB.out.below HB2.out).below b6, (HB8.out.below HB2.out HB8.out.lt).below b6 (HB8.out.below HB2.out HB8.out.lt).lt, own_nil _ _ _ _, by rw [← hBB]; exact hrow, H8.out, List.nodup_nil, fun D h => nomatch h⟩)
      clear hBB hrow b6 HK1 HS1 HRB HB2 HB8 H8 HRR HG8
      go_wp2_with fail
      obtain ⟨fv, hfv⟩ : ∃ fv, Value.func (Fn.func 66) #[] #[Value.pointer (some ⟨W2.heap.size, 0, none⟩)] = fv := ⟨_, rfl⟩
      rw [hfv]
      clear hfv
      refine wp_loop (fun a' w' => ∃ (k : Nat) (ra : Option Addr) (rk : Nat) (Ds : List Nat) (u10 u11 u12 u45 u46 u47 u48 u49 u50 u51 u52 u53 u54 u55 u56 u57 u58 u59 u60 u61 : Value), k ≤ (numsL ls).length ∧ Hid (RS2 w w' mb j g8 B2 (.slice ka (numsL ls).length kc) (.slice ra (((numsL ls).take k).flatMap (recsN ls)).length rk) ls F (((numsL ls).take k).flatMap (recsN ls)) Ds) ∧ a' = { tmps := #[.slice a j c, undef, .slice none 0 0, .map (some mb), undef, u5, u6, u7, .pointer (some ⟨g8, 0, none⟩), undef, u10, u11, u12, .map (some mb), .slice a j c, .int .i64 (j : Int), .int .i64 (j : Int), .bool false, u18, u19, u20, u21, u22, u23, u24, u25, u26, u27, u28, u29, u30, u31, u32, u33, u34, u35, u36, u37, u38, u39, .map (some mb), fv, .slice ka (numsL ls).length kc, .int .i64 ((numsL ls).length : Int), .int .i64 (k : Int), u45, u46, u47, u48, u49, u50, u51, u52, u53, u54, u55, u56, u57, u58, u59, u60, u61, undef], defers := Ds.map markD }) (fun a' _ => (numsL ls).length - intN (a'.tmps.getD 44 undef)) ⟨0, none, 0, [], undef, undef, undef, undef, undef, undef, undef, undef, undef, undef, undef, undef, undef, undef, undef, undef, undef, undef, undef, undef, Nat.zero_le _, H2, rfl⟩ ?_
      rintro _ wr2 ⟨k, ra, rk, Ds, u10, u11, u12, u45, u46, u47, u48, u49, u50, u51, u52, u53, u54, u55, u56, u57, u58, u59, u60, u61, hk, HR, rfl⟩
      clear H2
      by_cases hkl : k < (numsL ls).length
      · have hd2 : decide ((k : Int) < ((numsL ls).length : Int)) = true := decide_eq_true (by omega)
        obtain ⟨gk, ck, ek, -, -, hck⟩ := own_pos HR.out.keys (by omega)
        injection ek with ek1 ek2 ek3
        subst ek1 ek3
        have ck0 := hck k (by omega)
        have hx : (numsL ls)[k]? = some (numsL ls)[k] := List.getElem?_eq_getElem hkl
        have hnmem : (numsL ls)[k] ∈ numsL ls := List.getElem_mem hkl
        have HTK := Lib.hid (show (numsL ls).take (k + 1) = (numsL ls).take k ++ [(numsL ls)[k]] by rw [List.take_add_one, hx]; rfl)
        rw [List.getElem?_map, hx] at ck0
        generalize (numsL ls)[k] = n at ck0 hnmem HTK
        simp only [Option.map_some] at ck0
        have hleaf := (numsL_mem ls n).1 hnmem
        have hvl := HR.out.s1.vl n
        cases hlo : leafOf ls n with
        | none => exact absurd hlo hleaf
        | some x =>
        rw [hlo] at hvl
        obtain ⟨a', n', c', hF, hsl, hn'⟩ := hvl
        have HREC := Lib.hid (show recsN ls n = recs x by unfold recsN; rw [hlo])
        have hxn := (leafOf_n hlo).1
        have hnum := (leafOf_n hlo).2.2
        have hsm : Sm n := sm_of (by have : 0 ≤ n ∧ n < 1024 := by (unfold numB at hnum; simpa using hnum)
                                     omega)
        have R1 := Lib.hid (HR.out.below (Ent.below_box wr2 (.cells #[.int .i64 n] 3)))
        have h10 := Lib.hid (Blk.new wr2 3 #[.int .i64 n])
        have l1 := R1.out.s1.mp.look Tryz.underlying99 (zero_page _) hsm
        rw [hF, Option.getD_some] at l1
        have h8l := HR.out.box.lt
        have HW := Lib.hid HR.out.s1.bel.size
        have HSL := Lib.hid hsl
        clear hF hsl hlo hleaf hnmem hnum hsm hck hx
        obtain ⟨g10, hg10⟩ : ∃ g10, wr2.heap.size = g10 := ⟨_, rfl⟩
        go_upto_region 13 with (fail)
        rw [hg10] at h10
        try rw [hg10]
        rw [hg10] at h8l
        clear hg10
        generalize hGen : wr2.alloc (.cells #[.int .i64 n] 3) = W4 at R1 h10 l1 ⊢
        clear hGen
        have t10 := h10.out.cell 0
        go_wp2_with fail
        refine (Slab.rows_any x.l a' n' c' x.z W4 (HSL.out.below R1.out.s1.bel) (by omega)).mono ?_
        rintro e V ⟨Bs, aS, nS, cS, rfl, hBs, hBl, hBg, sS, hnS, b5, hbg⟩
        have sS' : Slots V aS nS (rowsZ x.l x.z) := sS
        clear sS
        have RV := Lib.hid (R1.out.below b5)
        have T10 := Lib.hid (h10.out.below b5 h10.out.lt)
        have HSV := Lib.hid sS'
        have HZL := Lib.hid (show nS = (rowsZ x.l x.z).length from sS'.len.symm)
        have hs4 := R1.out.s1.bel.size
        have h10l := h10.out.lt
        have hrl := Lib.hid (fun g (e : (Value.slice ra (((numsL ls).take k).flatMap (recsN ls)).length rk).ownBlock = some g) => own_lt R1.out.row e)
        have HM := Lib.hid (show ∀ k, (k = Bs ∨ ∃ off, aS = some ⟨k, off, none⟩ ∧ 0 < nS) → W4.heap.size ≤ k ∧ k < V.heap.size from fun k hk => by
          rcases hk with rfl | ⟨off, e, h0⟩
          · exact ⟨hBg, hBl⟩
          · obtain ⟨b', off', e', hlt, _⟩ := sS'.2.2 h0
            rw [e] at e'
            cases e'
            exact ⟨hbg _ _ e h0, hlt⟩)
        have h8v := Lib.hid RV.out.box.lt
        have hmv := Lib.hid RV.out.s1.mp.lt
        have hdv := Lib.hid (fun D hD => (Array.getElem?_eq_some_iff.1 (RV.out.ds D hD).2).1)
        have hwv := Lib.hid RV.out.s1.bel.size
        have hRl := Lib.hid (show (((numsL ls).take k).flatMap (recsN ls)).length ≤ 32768 from by
          have h1 := flat_len (recsN ls) 32 (recsN_len ls) ((numsL ls).take k)
          have h2 := numsL_len ls
          rw [List.length_take] at h1
          omega)
        have hmin : k ≤ 1024 := by have := numsL_len ls; omega
        have h8w : g8 < W4.heap.size := by omega
        have H8W := Lib.hid h8w
        obtain ⟨R, hR⟩ : ∃ R, ((numsL ls).take k).flatMap (recsN ls) = R := ⟨_, rfl⟩
        rw [hR] at HR RV hrl hRl
        try rw [hR]
        have HRQ := Lib.hid hR
        clear hR
        clear R1 h10 HR l1 t10 b5 hbg hBg hBl h8l hs4 h10l sS'
        go_wp2_with fail
        refine (wpIn_wide (n := 6)).1 ?_
        apply wpIn_rangeFunc_ownF (F := Fence.wide) (n := 6) rfl (by omega) (gf := 67) (lb := #[.pointer (some ⟨Bs, 0, none⟩)]) rfl trivial (enters_of Tryz.func67 (by kernel_rfl) rfl)
          (rows2_stops Fence.wide 5 trivial rfl (by omega) Bs nS cS aS (rowsZ x.l x.z) (fun k => k = Bs ∨ ∃ off, aS = some ⟨k, off, none⟩ ∧ 0 < nS) (by omega) V (.inl rfl) (fun b off e h0 => .inr ⟨off, e, h0⟩) hBs HSV.out)
          (fun h k => keepM_t h k) (fun W l o o' _ h ho _ => keepM_b W l o o' h ho) (Below.refl _ _) (fun _ => rfl)
          (JR w mb j g8 B2 g10 (.slice (some ⟨gk, 0, none⟩) (numsL ls).length kc) ls F R Ds n (fun k => k = Bs ∨ ∃ off, aS = some ⟨k, off, none⟩ ∧ 0 < nS) V)
          (fun _ _ _ => False) (jr_own hwv.out hmv.out hdv.out) (fun _ _ _ _ _ hs _ _ => hs)
          ⟨⟨ra, rk, by rw [List.map_nil, List.append_nil]; exact RV.out, fun g hg e => by
            rw [List.map_nil, List.append_nil] at e
            have := hrl.out g e
            have := (HM.out g hg).1
            omega⟩, T10.out, Nat.le_refl _⟩
        case hassign =>
          intro l y X K hK
          dsimp only [encR]
          gi_wp2
          exact hK
        case hbody =>
          rintro l pre y X ⟨⟨ra2, rk2, H, hM⟩, h10, hsz⟩ hlt
          obtain ⟨R2, hR2⟩ : ∃ R2, (R ++ pre.map fun r => (⟨n, r.i, r.d⟩ : Rc)) = R2 := ⟨_, rfl⟩
          have hlp : R2.length ≤ 1000000 := by rw [← hR2, List.length_append, List.length_map]; have := hRl.out; omega
          rw [hR2] at H hM
          have t8 := H.box.cell 0
          have t10 := h10.cell 0
          have hHH := Lib.hid H
          have hMM := Lib.hid hM
          have hTT := Lib.hid h10
          have hLP := Lib.hid hlp
          have HR2 := Lib.hid hR2
          have hXS := Lib.hid (show w.heap.size ≤ X.heap.size from Nat.le_trans hwv.out hsz)
          have hSZ := Lib.hid hsz
          have hN10 : g10 ≠ g8 := fun e => by
            subst e
            have q := H.box
            unfold Blk at q h10
            rw [q] at h10
            cases h10
          have HN10 := Lib.hid hN10
          obtain ⟨yi, yd, yh⟩ := y
          have hl1 := Lib.hid (show (R2 ++ [(⟨n, yi, yd⟩ : Rc)]).length = R2.length + 1 by simp)
          clear H hM h10 hlp hsz hN10 hR2
          gi_wp2_with (gi_at_builtin; refine wpListIn_appR rfl _ _ rfl w.heap.size _ R2 rfl ⟨n, yi, yd⟩ (own_below hHH.out.row (Ent.below_box _ _)) X.heap.size rfl (Blk.new X _ _) (by have := hLP.out; omega) (by have := hXS.out; simp; omega) ?_; intro v6 w6 hA; rw [hl1.out] at hA; obtain ⟨va, vc, rfl⟩ := own_shape hA.1; obtain ⟨k1, k2, k3, k4, k5, k6⟩ := hHH.out.app (r := ⟨n, yi, yd⟩) (by rw [hl1.out]; exact hA); have HF := Lib.hid (show KeepsOthers X (w6.setCell ⟨g8, 0, none⟩ (.slice va (R2.length + 1) vc)) ∧ KeepM (fun k => k = Bs ∨ ∃ off, aS = some ⟨k, off, none⟩ ∧ 0 < nS) X (w6.setCell ⟨g8, 0, none⟩ (.slice va (R2.length + 1) vc)) ∧ JR w mb j g8 B2 g10 (.slice (some ⟨gk, 0, none⟩) (numsL ls).length kc) ls F R Ds n (fun k => k = Bs ∨ ∃ off, aS = some ⟨k, off, none⟩ ∧ 0 < nS) V (pre ++ [⟨yi, yd, yh⟩]) (w6.setCell ⟨g8, 0, none⟩ (.slice va (R2.length + 1) vc)) from by
            obtain ⟨m1, m2⟩ := k6 (fun k => k = Bs ∨ ∃ off, aS = some ⟨k, off, none⟩ ∧ 0 < nS) (fun k hk => ⟨by have h1 := (HM.out k hk).2; have h2 := hSZ.out; omega, hMM.out k hk, by have h1 := (HM.out k hk).1; have h2 := H8W.out; omega⟩)
            have e : (R ++ (pre ++ [(⟨yi, yd, yh⟩ : Rw (rowsZ x.l x.z))]).map fun r => (⟨n, r.i, r.d⟩ : Rc)) = R2 ++ [⟨n, yi, yd⟩] := by rw [← HR2.out, List.map_append, List.append_assoc]; rfl
            refine ⟨k4, m1, ⟨va, vc, ?_, ?_⟩, k5 g10 _ _ (by decide) HN10.out hTT.out, Nat.le_trans hSZ.out k4.size⟩
            · rw [e, hl1.out]; exact k1
            · rw [e, hl1.out]; exact m2); clear k1 k4 k5 k6 hA hHH)
          exact HF.out
        case hstop =>
          rintro D c pre W hD _ hx _
          exact hx.elim
        case hdone =>
          rintro D ys W hD rfl ⟨⟨ra2, rk2, H, -⟩, -, hsz⟩ hK
          have e1 : (upTo (rowsZ x.l x.z) nS).map (fun r => (⟨n, r.i, r.d⟩ : Rc)) = recsN ls n := by
            rw [HREC.out, HZL.out]
            unfold recs
            rw [hxn]
          rw [e1] at H
          have H' := H
          have HD := Lib.hid (show RS2 w W mb j g8 B2 (.slice (some ⟨gk, 0, none⟩) (numsL ls).length kc) (.slice ra2 (R ++ recsN ls n).length rk2) ls F (R ++ recsN ls n) (D :: Ds) from
            ⟨H.s1, H.box, H.row, H.keys, H.hg, List.nodup_cons.2 ⟨fun hm => (by have := hdv.out D hm; omega), H.nd⟩, fun E hE => (List.mem_cons.1 hE).elim (fun e => by rw [e]; exact ⟨Nat.le_trans hwv.out hD, hK⟩) (H.ds E)⟩)
          clear H H' hK hsz e1
          go_wp2_with fail
          refine ⟨⟨k + 1, ra2, rk2, D :: Ds, _, _, _, _, _, _, _, _, _, _, _, _, _, _, _, _, _, _, _, _, by omega, ?_, rfl⟩, ?_⟩
          · rw [HTK.out, List.flatMap_append, List.flatMap_cons, List.flatMap_nil, List.append_nil, HRQ.out]
            exact HD
          · simp [intN]; omega
      · obtain rfl : k = (numsL ls).length := by omega
        have hd2 : decide (((numsL ls).length : Int) < ((numsL ls).length : Int)) = false := decide_eq_false (by omega)
        have h1 := HR.out
        rw [List.take_length, show (numsL ls).flatMap (recsN ls) = rowsL ls from rfl] at h1
        have b0 := h1.box.cell 0
        have HE := Lib.hid h1
        clear HR h1
        go_wp2_with fail
        refine leaves_marks (fun W => W.ownsRow w.heap.size 73 3 (.slice ra (rowsL ls).length rk) (rowsL ls).length (cellsG rcV (rowsL ls)) ∧ Below w.heap.size w W) w.heap.size (fun W D hlo hI hd => ⟨ownsRow_putObj hI.1 _ hd rfl, hI.2.grown (grownBy_putObj' _ _ _) hI.2.size (fun k e => by cases e; exact hlo)⟩) (fun W hI => ?_) Ds wr2 HE.out.nd ⟨HE.out.row, HE.out.s1.bel⟩ (fun D hD => HE.out.ds D hD)
        exact ⟨_, results_tmp rfl _ _ _, .slice ra (rowsL ls).length rk, rfl, hI.1, hI.2⟩
end Go.Proofs.YtkeocnhndnbamaaGreat.Mend
