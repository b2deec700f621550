/- What the transactions leave whose Commit is in a log: the statements' own fold. What the laws of layer 18 ask of pages and of logs, joined with memory. -/
import Derived.Test.YtkeocnhndnbamaaGreatQBook30
import Derived.Test.YtkeocnhndnbamaaGreatQBook15
import Derived.Deep.WholeRow
import Derived.Deep.MidRow
import Derived.OwnWalk
import Derived.Test.YtkeocnhndnbamaaGreatQBook27
namespace Go.Proofs.YtkeocnhndnbamaaGreat.Mend
set_option maxRecDepth 100000
open Go.RowKit Go.Sort
open Go.Proofs.YtkeocnhndnbamaaGreat.Mem
open Go.Proofs.YtkeocnhndnbamaaGreat.Slab (Slot nos)
open Go.Proofs.YtkeocnhndnbamaaGreat.Ent (Ent Ents EntAt goodB)
open Go.Proofs.YtkeocnhndnbamaaGreat.Past (T3 txE)
open Go.Proofs.YtkeocnhndnbamaaGreat.MLog
def WantAt (A : Array Value) (f : Int → Int → Slot) : Prop :=
  A.size = 40 ∧ ∀ n k : Nat, n < 4 → k < 5 → A[n * 10 + k * 2]? = some (.bool (f n k).u) ∧ A[n * 10 + k * 2 + 1]? = some (.string (f n k).d)
theorem want_is (f : Int → Int → Slot) : WantAt (wantA f) f := ⟨rfl, fun _ _ hn hk => want_at f hn hk⟩
theorem WantAt.eq {A : Array Value} {f : Int → Int → Slot} (h : WantAt A f) : A = wantA f := by
  apply Array.ext_getElem?
  intro j
  by_cases hj : j < 40
  · have h1 := h.2 (j / 10) (j % 10 / 2) (by omega) (by omega)
    have h2 := (want_is f).2 (j / 10) (j % 10 / 2) (by omega) (by omega)
    rcases (show j % 2 = 0 ∨ j % 2 = 1 by omega) with e | e
    · rw [show j = j / 10 * 10 + j % 10 / 2 * 2 by omega, h1.1, h2.1]
    · rw [show j = j / 10 * 10 + j % 10 / 2 * 2 + 1 by omega, h1.2, h2.2]
  · rw [Array.getElem?_eq_none (by rw [h.1]; omega), Array.getElem?_eq_none (by show 40 ≤ j; omega)]
theorem want_set (f : Int → Int → Slot) {n k : Nat} (hn : n < 4) (hk : k < 5) (x : Slot) :
    ((wantA f).setIfInBounds (n * 10 + k * 2) (.bool x.u)).setIfInBounds (n * 10 + k * 2 + 1) (.string x.d) = wantA (fun a b => if a = n ∧ b = k then x else f a b) := by
  refine WantAt.eq ⟨by simp [wantA], fun a b ha hb => ?_⟩
  have hw := want_at f ha hb
  have hs : (wantA f).size = 40 := rfl
  by_cases e : a = n ∧ b = k
  · obtain ⟨rfl, rfl⟩ := e
    dsimp only
    rw [if_pos (show (a : Int) = a ∧ (b : Int) = b from ⟨rfl, rfl⟩)]
    constructor
    · rw [Array.getElem?_setIfInBounds_ne (by omega), Array.getElem?_setIfInBounds_self_of_lt (by omega)]
    · rw [Array.getElem?_setIfInBounds_self_of_lt (by rw [Array.size_setIfInBounds]; omega)]
  · dsimp only
    rw [if_neg (show ¬ ((a : Int) = n ∧ (b : Int) = k) from fun h => e ⟨by omega, by omega⟩)]
    constructor
    · rw [Array.getElem?_setIfInBounds_ne (by omega), Array.getElem?_setIfInBounds_ne (by omega)]; exact hw.1
    · rw [Array.getElem?_setIfInBounds_ne (by omega), Array.getElem?_setIfInBounds_ne (by omega)]; exact hw.2
/-- the loops' own steps -/
def commP (L : List Ent) (t : T3) (f : Int → Int → Slot) : Int → Int → Slot := comm (L.map enE) t f
theorem comm_next {L : List Ent} {k : Nat} {x : Ent} (t : T3) (f : Int → Int → Slot) (h : L[k]? = some x) :
    commP (L.take (k + 1)) t f = if txE x = t then (fun a b => if a = x.page ∧ b = x.slot then ⟨x.iu, x.id⟩ else commP (L.take k) t f a b) else commP (L.take k) t f := by
  unfold commP
  rw [List.take_add_one, h]
  funext a b
  rw [show List.map enE (List.take k L ++ (some x).toList) = List.map enE (List.take k L) ++ [enE x] by simp, comm_one]
  by_cases ht : txE x = t
  · rw [if_pos ht, if_pos (show (enE x).t = t from ht)]; rfl
  · rw [if_neg ht, if_neg (show ¬ (enE x).t = t from ht)]
theorem fold_next {L : List Ent} {i : Nat} {x : Ent} (h : L[i]? = some x) : fold0 (L.take (i + 1)) = if x.kind = 3 then commP (L.take i) (txE x) (fold0 (L.take i)) else fold0 (L.take i) := by
  unfold fold0 commP
  rw [List.take_add_one, h, show List.map enE (List.take i L ++ (some x).toList) = List.map enE (List.take i L) ++ [enE x] by simp, fold_snoc]
  have : (enE x).kind = 3 ↔ x.kind = 3 := by
    have : (enE x).kind = x.kind.toNat := rfl
    rw [this]; omega
  by_cases hk : x.kind = 3
  · rw [if_pos hk, if_pos (this.2 hk)]; rfl
  · rw [if_neg hk, if_neg fun h => hk (this.1 h)]
/-! ### Arrays of 20 slots, with no unrolling -/
@[irreducible] def zw : Array Value := wantA (fun _ _ => nos)
theorem zw_eq : zw = wantA (fun _ _ => nos) := by unfold zw; rfl
theorem want_one (f : Int → Int → Slot) : (wantA f).all (·.oneCell') = true := by unfold wantA; simp [Value.oneCell']
theorem info_w0 : (Tryz.prog.info? 43).map (fun i => (i.zero, i.size)) = some (some (.agg (wantA (fun _ _ => nos))), 40) := by kernel_rfl
theorem info_w : (Tryz.prog.info? 43).map (fun i => (i.zero, i.size)) = some (some (.agg zw), 40) := by rw [zw_eq]; exact info_w0
theorem info_ws : (Tryz.prog.info? 43).map (·.size) = some 40 := by kernel_rfl
section
variable {ops : Array Oper} {rest : List Oper} {o : Oper} {a : Act} {w : World} {Q : Exit → Act → World → Prop}
theorem wbig_build (hg : o.guard = none) (ho : o.op = .build 43 #[]) (h : wpList Tryz.prog ops Q rest (a.put o.dst (.agg zw)) w) : wpList Tryz.prog ops Q (o :: rest) a w :=
  wpList_plain hg fun _ hK => by
    unfold Oper.wp execOp
    have hz := (zero_of_info info_w).1 w
    have hs : (sizeOf 42).run Tryz.prog w = .ok 10 w := Tryz.sizeOf42 w
    have hu := run_underlying Tryz.underlying43 w
    simp only [ho, Instr.build, Sem.run_bind, Sem.run_pure, hz, hu, hs, Result.andThen_ok, Array.map_empty, Instr.fill, Value.cells]
    exact hK _ _ h
theorem wbig_alloc (hg : o.guard = none) (ho : o.op = .alloc 43) (h : wpList Tryz.prog ops Q rest (a.put o.dst (.pointer (some ⟨w.heap.size, 0, none⟩))) (w.alloc (.cells zw 43))) : wpList Tryz.prog ops Q (o :: rest) a w :=
  wpList_plain hg fun _ hK => by
    unfold Oper.wp execOp
    have hz := (zero_of_info info_w).1 w
    simp only [ho, Instr.alloc, Sem.run_bind, Sem.run_pure, hz, Result.andThen_ok, newVar]
    exact hK _ _ h
theorem wbig_store (hg : o.guard = none) (x y : Operand) (ho : o.op = .store 43 x y) (W : World) (hw : w = W.alloc (.cells zw 43)) (hx : a.eval x = .pointer (some ⟨W.heap.size, 0, none⟩)) (hy : a.eval y = .agg zw)
    (h : wpList Tryz.prog ops Q rest (a.put o.dst undef) w) : wpList Tryz.prog ops Q (o :: rest) a w :=
  wpList_plain hg fun _ hK => by
    subst hw
    unfold Oper.wp execOp
    simp only [ho, hx, hy, run_storeAt_new W 43 zw zw (by rw [zw_eq]; exact info_ws) rfl (by rw [zw_eq]; exact want_one _), Sem.run_bind, Sem.run_pure, Result.andThen_ok]
    exact hK _ _ h
end
theorem below_cells {B b : Nat} {a : World} (hb : B ≤ b) : ∀ (vs : List Value) (o : Nat) (w : World), Below B a w → Below B a (w.setCells b o vs)
  | [], _, _, h => h
  | v :: r, o, _, h => below_cells hb r (o + 1) _ (h.setCell (p := ⟨b, o, none⟩) hb v)
theorem results_cell {fn : Func} {a : Tmp} {t : TypeId} (h : fn.results = #[.cell a t]) (tmps : Array Value) (P : Program) (w : World) {v : Value} {p : Addr} (hp : tmps.getD a undef = .pointer (some p)) (hl : (loadVar t p).run P w = .ok v w) :
    (results fn tmps).run P w = .ok v w := by
  simp only [Array.getD_eq_getD_getElem?] at hp
  simp [results, h, hp, asAddr, hl]
theorem blk_range {w : World} {g : Nat} {t : TypeId} {A : Array Value} (h : Blk w g t A) : w.rangeAt g 0 A.toList := fun j v hj => by rw [h.cell, Nat.zero_add]; simpa using hj
theorem blk_there {w : World} {g : Nat} {t : TypeId} {A : Array Value} (h : Blk w g t A) : w.there g 0 A.size := fun j hj => ⟨by rw [h.cell, Nat.zero_add]; simp [hj], h.frozen _⟩
set_option maxRecDepth 100000 in
set_option maxHeartbeats 8000000 in
theorem foldp_any (a : Option Addr) (n c : Nat) (L : List Ent) (w : World) (h : Ents w a n L) (hg : ∀ x ∈ L, goodB x = true) (hr : ∀ x ∈ L, (0 ≤ x.page ∧ x.page ≤ 3) ∧ (0 ≤ x.slot ∧ x.slot ≤ 4)) (hn : n ≤ 1000000) :
    Calls Tryz.prog 14 #[.slice a n c] w fun e w' => e = .returned (.agg (wantA (fold0 L))) ∧ Below w.heap.size w w' := by
  have HE := Lib.hid h
  have HG := Lib.hid hg
  have HR := Lib.hid hr
  have hL := h.1
  clear h hg hr
  go_enter Tryz.func14, Tryz.ntmps14
  go_upto_region 2 with (first
    | (refine wbig_build rfl rfl ?_)
    | (refine wbig_alloc rfl rfl ?_)
    | (refine wbig_store rfl _ _ rfl (w.alloc (.cells zw 43)) rfl rfl rfl ?_))
  have hsz : (w.alloc (.cells zw 43)).heap.size = w.heap.size + 1 := by simp
  have hb := below_go (Ent.below_box w (.cells zw 43)) (Ent.below_box _ (.cells zw 43))
  have hR := (Blk.new w 43 zw).alloc (.cells zw 43)
  have hO := Blk.new (w.alloc (.cells zw 43)) 43 zw
  rw [hsz] at hO
  rw [hsz]
  have HS := Lib.hid (show Below w.heap.size w ((w.alloc (.cells zw 43)).alloc (.cells zw 43)) ∧ Blk ((w.alloc (.cells zw 43)).alloc (.cells zw 43)) w.heap.size 43 zw ∧ Blk ((w.alloc (.cells zw 43)).alloc (.cells zw 43)) (w.heap.size + 1) 43 (wantA (fold0 (L.take 0))) from ⟨hb, hR, by
    rw [← show zw = wantA (fold0 (L.take 0)) from zw_eq]
    exact hO⟩)
  clear hsz hb hR hO
  generalize (w.alloc (.cells zw 43)).alloc (.cells zw 43) = W2 at HS ⊢
  obtain ⟨g, hg⟩ : ∃ g, w.heap.size = g := ⟨_, rfl⟩
  have HGG := Lib.hid hg
  rw [hg] at HS
  rw [hg]
  clear hg
  have hZs : zw.size = 40 := by rw [zw_eq]; rfl
  generalize zw = Z at HS hZs ⊢
  go_wp2
  go_loopw [4] (fun iv wr => ∃ i : Nat, i ≤ n ∧ iv = .int .i64 (i : Int) ∧ Hid (Below g w wr ∧ Blk wr g 43 Z ∧ Blk wr (g + 1) 43 (wantA (fold0 (L.take i))))) (fun iv _ => n - intN iv)
  case atStart => exact ⟨0, Nat.zero_le _, rfl, HS⟩
  case round =>
    obtain ⟨i, hi, rfl, H⟩ := hrel
    by_cases hil : i < n
    · as_aux_lemma =>
        have hx : L[i]? = some (L[i]'(by omega)) := List.getElem?_eq_getElem _
        generalize L[i]'(by omega) = x at hx
        have hd : decide ((i : Int) < (n : Int)) = true := decide_eq_true (by omega)
        have HFN := Lib.hid (fold_next hx)
        have HEW := Lib.hid (HE.out.next (by rw [HGG.out]; exact H.out.1))
        obtain ⟨b, off, rfl, -, hat, -, -⟩ := Past.ents_mem HEW.out hx
        have HAT := Lib.hid hat
        obtain ⟨s0, _⟩ := hat.cells
        clear hat
        by_cases hk3 : x.kind = 3
        · have e1 : (x.kind != 3) = false := by simp [hk3]
          go_wp2
          go_loopw [5] (fun kv wz => ∃ k : Nat, k ≤ i ∧ kv = .int .i64 (k : Int) ∧ Hid (Below g w wz ∧ Blk wz g 43 Z ∧ Blk wz (g + 1) 43 (wantA (commP (L.take k) (txE x) (fold0 (L.take i)))))) (fun kv _ => i - intN kv)
          case atStart => exact ⟨0, Nat.zero_le _, rfl, H⟩
          case round =>
            clear s0 HAT HEW
            obtain ⟨k, hk, rfl, H2⟩ := hrel
            by_cases hkl : k < i
            · have hy : L[k]? = some (L[k]'(by omega)) := List.getElem?_eq_getElem _
              generalize L[k]'(by omega) = y at hy
              have hd2 : decide ((k : Int) < (i : Int)) = true := decide_eq_true (by omega)
              have HC := Lib.hid (comm_next (txE x) (fold0 (L.take i)) hy)
              have HEW := Lib.hid (HE.out.next (by rw [HGG.out]; exact H2.out.1))
              obtain ⟨b2, off2, e2, -, hat1, -, -⟩ := Past.ents_mem HEW.out hx
              injection e2 with e2
              injection e2 with e2 e3
              subst e2 e3
              obtain ⟨b2, off2, e2, -, hat2, -, -⟩ := Past.ents_mem HEW.out hy
              injection e2 with e2
              injection e2 with e2 e3
              subst e2 e3
              obtain ⟨_, a1, a2, a3, _⟩ := hat1.cells
              have HY := Lib.hid hat2
              obtain ⟨_, c1, c2, c3, _⟩ := hat2.cells
              clear hat1 hat2 HEW
              have hq := fun W => Past.run_eq_txn (txE y) (txE x) W
              have hgd := fun (A B : Operand) xs ys W => Past.run_guard_txn .eql A B xs ys W
              obtain ⟨sb, hsb⟩ : ∃ sb, Past.sameT (txE y) (txE x) = sb := ⟨_, rfl⟩
              have HSB := Lib.hid (show decide (txE y = txE x) = sb by rw [← hsb, Past.sameT_eq])
              rw [hsb] at hq
              unfold txE at hq
              dsimp only at hq
              clear hsb
              go_upto_region 9 with (fail)
              go_quiet (fail)
              clear a1 a2 a3 c1 c2 c3 hq hgd
              have H3 := Lib.hid (show Below g w (wr.drewN nq) ∧ Blk (wr.drewN nq) g 43 Z ∧ Blk (wr.drewN nq) (g + 1) 43 (wantA (commP (L.take k) (txE x) (fold0 (L.take i)))) from ⟨⟨H2.out.1.os, H2.out.1.tape, H2.out.1.output, H2.out.1.size, H2.out.1.block⟩, H2.out.2.1, H2.out.2.2⟩)
              have HY3 := Lib.hid (show EntAt (wr.drewN nq) b (off + k * 13) y from HY.out)
              clear HY H2
              generalize wr.drewN nq = w3 at H3 HY3 ⊢
              cases sb with
              | false =>
                have HN := Lib.hid (show commP (L.take (k + 1)) (txE x) (fold0 (L.take i)) = commP (L.take k) (txE x) (fold0 (L.take i)) by rw [HC.out, if_neg (of_decide_eq_false HSB.out)])
                clear HC HSB
                go_wp2
                go_roundw
                case rel => exact ⟨k + 1, by omega, by go_num, by rw [HN.out]; exact H3⟩
                case measure => simp [intN]; omega
              | true =>
                have HN := Lib.hid (HC.out.trans (if_pos (of_decide_eq_true HSB.out)))
                clear HC HSB
                obtain ⟨⟨r1, r2⟩, r3, r4⟩ := HR.out y (List.mem_of_getElem? hy)
                obtain ⟨pp, hpp⟩ := Int.eq_ofNat_of_zero_le r1
                obtain ⟨ss, hss⟩ := Int.eq_ofNat_of_zero_le r3
                obtain ⟨_, _, _, _, y4, y5, y6, y7, y8, y9, y10, y11, y12⟩ := HY3.out.cells
                have hp4 : pp < 4 := by omega
                have hs5 : ss < 5 := by omega
                rw [hpp] at y6
                rw [hss] at y7
                have o0 := H3.out.2.2.cell (pp * 10 + ss * 2)
                have o1 := H3.out.2.2.cell (pp * 10 + ss * 2 + 1)
                rw [(want_at _ hp4 hs5).1] at o0
                rw [(want_at _ hp4 hs5).2] at o1
                have f0 := H3.out.2.2.frozen (pp * 10 + ss * 2)
                have f1 := H3.out.2.2.frozen (pp * 10 + ss * 2 + 1)
                have hd3 : decide ((pp : Int) < 4) = true := decide_eq_true (by omega)
                have hd4 : decide ((ss : Int) < 5) = true := decide_eq_true (by omega)
                clear y4 y5 y8 y9 y12
                go_upto_region 10 with (fail)
                go_region
                have hne : g ≠ g + 1 := by omega
                have hbl : Below g w ((w3.setCell ⟨g + 1, pp * 10 + ss * 2, none⟩ (.bool y.iu)).setCell ⟨g + 1, pp * 10 + ss * 2 + 1, none⟩ (.string y.id)) :=
                  (H3.out.1.setCell (p := ⟨g + 1, pp * 10 + ss * 2, none⟩) (Nat.le_succ g) (.bool y.iu)).setCell (p := ⟨g + 1, pp * 10 + ss * 2 + 1, none⟩) (Nat.le_succ g) (.string y.id)
                have hset := (H3.out.2.2.set_ (pp * 10 + ss * 2) (.bool y.iu)).set_ (pp * 10 + ss * 2 + 1) (.string y.id)
                rw [want_set _ hp4 hs5 ⟨y.iu, y.id⟩, ← hpp, ← hss, ← HN.out] at hset
                have H5 := Lib.hid (show Below g w ((w3.setCell ⟨g + 1, pp * 10 + ss * 2, none⟩ (.bool y.iu)).setCell ⟨g + 1, pp * 10 + ss * 2 + 1, none⟩ (.string y.id)).drew ∧ Blk ((w3.setCell ⟨g + 1, pp * 10 + ss * 2, none⟩ (.bool y.iu)).setCell ⟨g + 1, pp * 10 + ss * 2 + 1, none⟩ (.string y.id)).drew g 43 Z ∧ Blk ((w3.setCell ⟨g + 1, pp * 10 + ss * 2, none⟩ (.bool y.iu)).setCell ⟨g + 1, pp * 10 + ss * 2 + 1, none⟩ (.string y.id)).drew (g + 1) 43 (wantA (commP (L.take (k + 1)) (txE x) (fold0 (L.take i)))) from
                  ⟨⟨hbl.os, hbl.tape, hbl.output, hbl.size, hbl.block⟩, (H3.out.2.1.far (p := ⟨g + 1, pp * 10 + ss * 2, none⟩) hne _).far (p := ⟨g + 1, pp * 10 + ss * 2 + 1, none⟩) hne _, hset⟩)
                clear hbl hset o0 o1 f0 f1 y6 y7 y10 y11 H3 HY3
                generalize ((w3.setCell ⟨g + 1, pp * 10 + ss * 2, none⟩ (.bool y.iu)).setCell ⟨g + 1, pp * 10 + ss * 2 + 1, none⟩ (.string y.id)).drew = w4 at H5 ⊢
                go_wp2
                go_roundw
                case rel => exact ⟨k + 1, by omega, by go_num, H5⟩
                case measure => simp [intN]; omega
            · obtain rfl : k = i := by omega
              have hd2 : decide ((k : Int) < (k : Int)) = false := decide_eq_false (by omega)
              have HN := Lib.hid (HFN.out.trans (if_pos hk3))
              go_wp2
              go_roundw
              case rel => exact ⟨k + 1, by omega, by go_num, by rw [HN.out]; exact H2⟩
              case measure => simp [intN]; omega
        · have e1 : (x.kind != 3) = true := by simp [hk3]
          have HN := Lib.hid (HFN.out.trans (if_neg hk3))
          go_wp2
          go_roundw
          case rel => exact ⟨i + 1, by omega, by go_num, by rw [HN.out]; exact H⟩
          case measure => simp [intN]; omega
    · obtain rfl : i = n := by omega
      have hd : decide ((i : Int) < (i : Int)) = false := decide_eq_false (by omega)
      have hF : Blk wr (g + 1) 43 (wantA (fold0 L)) := by
        have := H.out.2.2
        rw [List.take_of_length_le (by omega)] at this
        exact this
      have hA1 := want_one (fold0 L)
      have hA2 : (wantA (fold0 L)).size = 40 := rfl
      generalize hAA : wantA (fold0 L) = A at hF hA1 hA2
      have HAA := Lib.hid hAA
      clear hAA
      have hrange := blk_range hF
      have hthere := blk_there H.out.2.1
      rw [hZs] at hthere
      go_wp2_with (first
        | (refine wpList_load_mid rfl _ _ rfl (g + 1) 0 rfl A.toList _ hrange Tryz.underlying43 rfl (by rw [Array.length_toList, hA2]; exact info_ws) ?_)
        | (refine wpList_store_mid rfl _ _ _ rfl g 0 A rfl rfl (by rw [hA2]; exact hthere) (by rw [hA2]; exact info_ws) hA1 ?_))
      have hr : (loadVar 43 ⟨g, 0, none⟩).run Tryz.prog (wr.setCells g 0 A.toList) = .ok (.agg A.toList.toArray) (wr.setCells g 0 A.toList) :=
        run_loadVar_mid _ g 0 _ A.toList _ (World.rangeAt_setCells_same wr g 0 A.toList (by rw [Array.length_toList, hA2]; exact hthere)) Tryz.underlying43 rfl (by rw [Array.length_toList, hA2]; exact info_ws)
      have hbw := below_cells (B := g) (b := g) (Nat.le_refl _) A.toList 0 wr H.out.1
      refine bodyPost_ret (v := .agg A.toList.toArray) (results_cell Tryz.results14 _ _ _ (p := ⟨g, 0, none⟩) rfl hr) rfl ⟨?_, by rw [HGG.out]; exact hbw⟩
      rw [HAA.out]
end Go.Proofs.YtkeocnhndnbamaaGreat.Mend
namespace Go.Proofs.YtkeocnhndnbamaaGreat.Mend
set_option maxRecDepth 100000
open Go.RowKit Go.Sort
open Go.Proofs.YtkeocnhndnbamaaGreat.Mem
open Go.Proofs.YtkeocnhndnbamaaGreat.Slab (Slot Slots nos atL)
open Go.Proofs.YtkeocnhndnbamaaGreat.Ent (Ent goodB longB Ents)
open Go.Proofs.YtkeocnhndnbamaaGreat.Past (T3 txE)
open Go.Proofs.YtkeocnhndnbamaaGreat.MLog
open Go.Proofs.YtkeocnhndnbamaaGreat.Patch (allR)
/-- pages of whatever versions -/
def mixV (p : PD) (ver : Nat → Nat) : List Lf := (List.range 4).map fun n : Nat => ⟨(n : Int), ((p.all.getD (ver n) pg0) n).1, ((p.all.getD (ver n) pg0) n).2⟩
theorem mixL_eq (p : PD) (k : Nat) (f : Nat → Int) : mixL p k f = mixV p (verK f k) := rfl
theorem mixV_at (p : PD) (ver : Nat → Nat) {n : Nat} (hn : n < 4) : (mixV p ver)[n]? = some ⟨(n : Int), ((p.all.getD (ver n) pg0) n).1, ((p.all.getD (ver n) pg0) n).2⟩ := by
  unfold mixV
  rw [List.getElem?_map, List.getElem?_range hn]; rfl
theorem mixV_mem {p : PD} {ver : Nat → Nat} {x : Lf} (h : x ∈ mixV p ver) : ∃ n : Nat, n < 4 ∧ x = ⟨(n : Int), ((p.all.getD (ver n) pg0) n).1, ((p.all.getD (ver n) pg0) n).2⟩ := by
  unfold mixV at h
  obtain ⟨n, hn, rfl⟩ := List.mem_map.1 h
  exact ⟨n, List.mem_range.1 hn, rfl⟩
theorem mixV_len (p : PD) (ver : Nat → Nat) : (mixV p ver).length = 4 := by unfold mixV; simp
section
variable {p : PD} {s : St T3 Slot Im} {P T : Nat} {ver : Nat → Nat}
theorem lsn_small (hv : Liv p s P T) : ∀ x ∈ p.list, x.lsn ≤ p.list.length := fun x hx => by
  have h1 := ((own_log hv.core.log).lsn (enE x) (List.mem_map_of_mem hx)).2
  have h2 := hv.core.lst (txE x)
  have h1 : x.lsn ≤ s.last (txE x) := h1
  omega
/-- a version of the pages -/
theorem ver_at (hv : Liv p s P T) {v : Nat} (h : v ≤ p.list.length) : ∃ sv, Log G i0 ((p.list.take v).map enE) sv ∧ ∀ n, (p.all.getD v pg0) n = ((sv.pg n).1, (sv.pg n).2.1) := by
  have hl := hv.core.len
  have hnv : p.all[v]? = some (p.all[v]'(by omega)) := List.getElem?_eq_getElem _
  obtain ⟨sv, l1, l2⟩ := hv.core.hist v _ hnv
  refine ⟨sv, l1, fun n => ?_⟩
  rw [List.getD_eq_getElem?_getD, hnv]
  exact l2 n
theorem take_small (hv : Liv p s P T) (v : Nat) : ∀ e ∈ (p.list.take v).map enE, e.lsn ≤ (p.list.length : Int) := fun e he => by
  obtain ⟨x, hx, rfl⟩ := mem_map he
  exact lsn_small hv x (List.mem_of_mem_take hx)
theorem mixV_ok (hv : Liv p s P T) (hP : P ≤ 1000) (hver : ∀ n, n < 4 → ver n ≤ p.list.length) : PagesOK (mixV p ver) := by
  refine ⟨?_, fun x hx => ?_, fun x hx => ?_⟩
  · unfold Apart mixV
    rw [List.pairwise_map]
    exact List.pairwise_lt_range.imp fun {a b} h => by show (a : Int) ≠ (b : Int); omega
  · obtain ⟨n, hn, rfl⟩ := mixV_mem hx
    unfold numB
    exact decide_eq_true (by show 0 ≤ (n : Int) ∧ (n : Int) < 1024; omega)
  · obtain ⟨n, hn, rfl⟩ := mixV_mem hx
    obtain ⟨sv, l1, l2⟩ := ver_at hv (hver n hn)
    rw [l2]
    have h0 := (inv_log l1).pgs n
    have h1 := log_page l1 (K := (p.list.length : Int)) (by omega) (take_small hv _) n
    have h2 := hv.pot
    show Slab.goodB (sv.pg n).1 (sv.pg n).2.1 = true
    exact good_at h0 (by omega)
theorem mixV_idx (p : PD) (ver : Nat → Nat) {q : Int} (hq : 0 ≤ q ∧ q ≤ 3) : idxL (mixV p ver) q ≠ none := by
  intro h
  unfold idxL at h
  rw [List.findIdx?_eq_none_iff] at h
  have hn : q.toNat < 4 := by omega
  have := h _ (List.mem_of_getElem? (mixV_at p ver hn))
  simp at this
  omega
theorem mix_log (hv : Liv p s P T) (hP : P ≤ 1000) {k : Nat} (hk : k ≤ p.list.length) (hver : ∀ n, n < 4 → ver n ≤ k) :
    ∃ sk, LogOK (p.list.take k) sk (mixV p ver) 1000 ∧ ∀ x ∈ mixV p ver, allR x.n x.l x.z (p.list.take k) = (0, (sk.pg x.n).1, (sk.pg x.n).2.1) := by
  obtain ⟨sk, l1, l2⟩ := ver_at hv hk
  have hpot := hv.pot
  refine ⟨sk, ⟨l1, fun x hx => hv.core.good x (List.mem_of_mem_take hx), fun x hx => ?_, by decide, by rw [List.length_take]; omega, mixV_ok hv hP fun n hn => Nat.le_trans (hver n hn) hk, fun x hx => ⟨hv.core.good x (List.mem_of_mem_take hx), fun _ => mixV_idx p ver (hv.core.rng x (List.mem_of_mem_take hx)).1⟩⟩, fun x hx => ?_⟩
  · have := lsn_small hv x (List.mem_of_mem_take hx); omega
  · obtain ⟨n, hn, rfl⟩ := mixV_mem hx
    have hlen := hv.core.len
    have h1 : p.all[ver n]? = some (p.all[ver n]'(by have := hver n hn; omega)) := List.getElem?_eq_getElem _
    have h2 : p.all[k]? = some (p.all[k]'(by omega)) := List.getElem?_eq_getElem _
    have h3 := redo_vers hv.core (hver n hn) h1 h2 (n : Int)
    have h4 := l2 (n : Int)
    rw [List.getD_eq_getElem?_getD, h2] at h4
    have h4 : (p.all[k]'(by omega)) (n : Int) = ((sk.pg n).1, (sk.pg n).2.1) := h4
    rw [h4] at h3
    rw [show p.all.getD (ver n) pg0 = p.all[ver n]'(by have := hver n hn; omega) by rw [List.getD_eq_getElem?_getD, h1]; rfl]
    exact h3
end
/-! ### What is committed stands in the first five slots -/
theorem comm_out {L : List (En T3 Slot)} {k : Int} (h : ∀ e ∈ L, e.slot ≠ k) (t : T3) : ∀ (f : Int → Int → Slot) (n : Int), comm L t f n k = f n k := by
  induction L with
  | nil => exact fun _ _ => rfl
  | cons e r ih =>
    intro f n
    rw [comm, ih (fun y hy => h y (List.mem_cons_of_mem _ hy))]
    by_cases ht : e.t = t
    · rw [if_pos ht, if_neg fun h2 => h e List.mem_cons_self h2.2.symm]
    · rw [if_neg ht]
theorem fold_out : ∀ (L : List Ent) {k : Int}, (∀ x ∈ L, x.slot ≠ k) → ∀ n, fold0 L n k = nos := fun L => by
  refine snoc_ind (P := fun L => ∀ {k : Int}, (∀ x ∈ L, x.slot ≠ k) → ∀ n, fold0 L n k = nos) ?_ ?_ L
  · exact fun _ _ => rfl
  · intro A x ih k h n
    have hA := ih (fun y hy => h y (List.mem_append_left _ hy)) n
    unfold fold0 at hA ⊢
    rw [List.map_append, List.map_cons, List.map_nil, fold_snoc]
    by_cases hk : (enE x).kind = 3
    · rw [if_pos hk, comm_out (fun e he => by obtain ⟨y, hy, rfl⟩ := mem_map he; exact h y (List.mem_append_left _ hy))]
      exact hA
    · rw [if_neg hk]; exact hA
/-! ### What a restart leaves -/
section
variable {L : List Ent} {s : St T3 Slot Im} {ls : List Lf} {K : Int} {E : List Ent} {R : List Lf}
theorem post_pages (h : LogOK L s ls K) (hp : PostU (fun _ => True) L s ls K E R) : ∃ z, R = ls.map (fun x => ⟨x.n, (z.pg x.n).1, (z.pg x.n).2.1⟩) ∧ Log G i0 ((L ++ E).map enE) z ∧ (∀ n k, G.at_ (z.pg n).2 k = fold0 L n k) ∧ ∀ n, 0 ≤ (z.pg n).1 ∧ (z.pg n).1 ≤ 1099511627776 := by
  obtain ⟨B, F, m, z, rfl, hu, hR, hl, -⟩ := hp
  have hz := (hu.log h.log).2
  refine ⟨z, hR, hz, fun n k => hu.folds h.log n k, fun n => ⟨(inv_log hz).pgs n, ?_⟩⟩
  have h2 := h.k
  have h3 := h.len
  have := log_page hz (K := K + L.length + 1) (by omega) (fun e he => by
    obtain ⟨x, hx, rfl⟩ := mem_map he
    rcases List.mem_append.1 hx with hx | hx
    · have := h.lsn x hx
      show x.lsn ≤ _
      omega
    · exact hl x hx) n
  omega
end
theorem leaves_four {w : World} {a : Option Addr} {R : List Lf} {q : Nat → Int × List Slot} (h : LeavesI w a 4 R) (hR : ∀ i, i < 4 → R[i]? = some ⟨(i : Int), (q i).1, (q i).2⟩) (hz : ∀ i, i < 4 → (q i).2.length ≤ 1000000) :
    ∃ b off, a = some ⟨b, off, none⟩ ∧ Four w b off (fun i => (q i).1) (fun i => (q i).2) := by
  obtain ⟨b, off, -, -, -, -, e, hb, -⟩ := h.at_ (i := 0) (by omega)
  refine ⟨b, off, e, hb, fun i hi => ?_⟩
  obtain ⟨b', off', a', n', c', x, e', -, hx, -, c1, c2, hs, -⟩ := h.at_ hi
  rw [e] at e'
  cases e'
  rw [hR i hi] at hx
  injection hx with hx
  subst hx
  exact ⟨a', n', c', c1, c2, hs, by have h1 : (q i).2.length = n' := hs.1; have := hz i hi; omega⟩
/-- the pages hold just what was committed -/
theorem holds_at {p : PD} {ver : Nat → Nat} {w : World} {a : Option Addr} {z : St T3 Slot Im} {L : List Ent} (c : Nat) (hlv : LeavesI w a 4 ((mixV p ver).map fun x => ⟨x.n, (z.pg x.n).1, (z.pg x.n).2.1⟩)) (hz : ∀ n k : Int, G.at_ (z.pg n).2 k = fold0 L n k) (hpg : ∀ n, 0 ≤ (z.pg n).1 ∧ (z.pg n).1 ≤ 1099511627776)
    (hr : ∀ x ∈ L, 0 ≤ x.slot ∧ x.slot ≤ 4) : ∀ W, Below w.heap.size w W → Calls Tryz.prog 13 #[.slice a 4 c, .agg (wantA (fold0 L))] W fun e w' => e = .returned (.bool true) ∧ Below W.heap.size W w' := fun W hb => by
  obtain ⟨b, off, rfl, hf⟩ := leaves_four (q := fun i => ((z.pg i).1, (z.pg i).2.1)) hlv (fun i hi => by rw [List.getElem?_map, mixV_at p ver hi]; rfl) (fun i _ => by have := (Slab.good_parts (z.pg (i : Int)).2.2).2.2.1; show (z.pg (i : Int)).2.1.length ≤ _; omega)
  refine holds_any b off c _ _ (fold0 L) W (hf.below hb) fun n k hn hk => ?_
  have h1 := hz (n : Int) (k : Int)
  have h2 : atL 0 (z.pg (n : Int)).2.1 (k : Int) = fold0 L n k := h1
  rw [at_lsn0 (good_at (hpg n).1 (hpg n).2), h2]
  by_cases h5 : k < 5
  · rw [if_pos h5]
  · rw [if_neg h5]
    exact fold_out L (fun x hx e => by have := hr x hx; omega) n
end Go.Proofs.YtkeocnhndnbamaaGreat.Mend
