/- slices.Delete of one datagram out of an own row; take, Pick, Eldest, Copy. -/
import Derived.Test.YthkgmfgchgoafaaMistNet
import Derived.Test.YthkgmfgchgoafaaCopyK
import Derived.Lib.SliceRun
import Derived.StillTailTactics
import Derived.Deep.RegionHeld3
import Derived.Lib.QuietBelow
import Derived.Deep.CutBlock
import Derived.Deep.DeepCutAuto
import Derived.Laws.CopyOwn
namespace Go.Proofs.Ythkgmfgchgoafaa.Mist
set_option maxRecDepth 100000
open Go.RowKit
open Go.Proofs.Ythkgmfgchgoafaa.Mem Go.Proofs.Ythkgmfgchgoafaa.CordG
theorem zc_one : ∀ u ∈ ([.int .i64 0, .bool false, .int .i64 0, .int .i64 0, .int .i64 0, .string .empty] : List Value), u.oneCell' = true := by
  intro u hu
  simp at hu
  rcases hu with rfl | rfl | rfl | rfl <;> rfl
/-- what the row holds when one was taken out -/
theorem splice_del (cur : List Value) (L : List Gr) (i c : Nat) (hi : i < L.length) (hc : L.length ≤ c) (hl : cur.length = c * 6) (ht : cur.take (L.length * 6) = gramsV L) (zs : List Value) :
    (splice (splice cur (i * 6) (gramsV (L.drop (i + 1)))) ((L.length - 1) * 6) zs).take ((L.length - 1) * 6) = gramsV (L.take i ++ L.drop (i + 1)) := by
  have hA : cur.take (i * 6) = gramsV (L.take i) := by rw [← grams_take, ← ht, List.take_take]; congr 1; omega
  have hBl : (gramsV (L.drop (i + 1))).length = (L.length - (i + 1)) * 6 := by rw [grams_len, List.length_drop]
  have hAl : (gramsV (L.take i)).length = i * 6 := by rw [grams_len, List.length_take]; omega
  have hs : (splice cur (i * 6) (gramsV (L.drop (i + 1)))).length = c * 6 := by rw [length_splice _ _ _ (by omega), hl]
  have e1 : (splice cur (i * 6) (gramsV (L.drop (i + 1)))).take ((L.length - 1) * 6) = gramsV (L.take i ++ L.drop (i + 1)) := by
    unfold splice
    rw [hA, ← List.append_assoc, List.take_append_of_le_length (by rw [List.length_append]; omega), List.take_of_length_le (by rw [List.length_append]; omega), grams_app]
  generalize splice cur (i * 6) (gramsV (L.drop (i + 1))) = c1 at e1 hs
  unfold splice
  rw [List.take_append_of_le_length (by rw [List.length_take]; omega), List.take_take, Nat.min_self, e1]
/-- a row of the call's own handed back; nothing but the elder row and new memory was touched -/
def InsRes (base : Nat) (v : Value) (w : World) (L' : List Gr) (e : Ending) (w' : World) : Prop :=
  ∃ v', e = .returned v' ∧ w'.ownsRow base 29 6 v' L'.length (gramsV L') ∧ w.grownBy w' v.ownBlock ∧ (v'.ownBlock = v.ownBlock ∨ v'.ownBlock = some w.heap.size)
set_option maxRecDepth 100000 in
set_option maxHeartbeats 4000000 in
theorem delete_walk (g c n i : Nat) (L : List Gr) (w : World) (cur : List Value) (hg : w.heap[g]? = some (.cells cur.toArray 29 (0, 0))) (hl : cur.length = c * 6) (ht : cur.take (n * 6) = gramsV L) (hL : L.length = n) (hi : i < n) (hc : n ≤ c) :
    Calls Try.prog 48 #[.slice (some ⟨g, 0, none⟩) n c, .int .i64 (i : Int), .int .i64 ((i : Int) + 1)] w fun e w' =>
      e = .returned (.slice (some ⟨g, 0, none⟩) (n - 1) c) ∧ w' = (w.drew.setRow g (splice cur (i * 6) (gramsV (L.drop (i + 1)))).toArray).setRow g (splice (splice cur (i * 6) (gramsV (L.drop (i + 1)))) ((n - 1) * 6) [.int .i64 0, .bool false, .int .i64 0, .int .i64 0, .int .i64 0, .string .empty]).toArray := by
  obtain ⟨i0, hi0, hz0, hz1, hz2⟩ := info_parts info_gram
  have hBl : (gramsV (L.drop (i + 1))).length = (n - (i + 1)) * 6 := by rw [grams_len, List.length_drop, hL]
  obtain ⟨A, hA, hsrc⟩ : ∃ A : Addr, (if c = i + 1 then some (⟨g, 0, none⟩ : Addr) else some ⟨g, (i + 1) * 6, none⟩) = some A ∧ (∀ t u, (gramsV (L.drop (i + 1)))[t]? = some u → w.drew.cell? (A.add t) = some u) := by
    by_cases h : c = i + 1
    · refine ⟨⟨g, 0, none⟩, by simp [h], fun t u hu => ?_⟩
      have := (List.getElem?_eq_some_iff.1 hu).1
      omega
    · refine ⟨⟨g, (i + 1) * 6, none⟩, by simp [h], fun t u hu => ?_⟩
      have hj2 : t < (n - (i + 1)) * 6 := by have := (List.getElem?_eq_some_iff.1 hu).1; omega
      rw [Addr.add_lit]
      show w.cell? ⟨g, (i + 1) * 6 + t, none⟩ = some u
      rw [Blk.cell (show Blk w g _ _ from hg), List.getElem?_toArray]
      rw [← grams_drop, List.getElem?_drop, ← ht, List.getElem?_take_of_lt (by omega)] at hu
      exact hu
  have hap : ∀ ty sc, (Builtin.append_ #[67, 67] ty #[.slice (some ⟨g, 0, none⟩) i c, .slice (some A) (n - (i + 1)) sc]).run Try.prog w.drew = .ok (.slice (some ⟨g, 0, none⟩) (i + (n - (i + 1))) c) (w.drew.setRow g (splice cur (i * 6) (gramsV (L.drop (i + 1)))).toArray) := fun ty sc => by
    have h := run_append_room (P := Try.prog) w.drew 67 ty 29 i0 Try.underlying67 hi0 g i c cur.toArray hg A (n - (i + 1)) sc (gramsV (L.drop (i + 1))) (by rw [hBl, hz1]) hsrc (grams_cell _) (by omega) (by rw [hBl, hz1]; simp; omega)
    rw [hz1] at h
    simpa [splice] using h
  have hin : i + (n - (i + 1)) = n - 1 := by omega
  rw [hin] at hap
  have hg1 : (w.drew.setRow g (splice cur (i * 6) (gramsV (L.drop (i + 1)))).toArray).heap[g]? = some (.cells (splice cur (i * 6) (gramsV (L.drop (i + 1)))).toArray 29 (0, 0)) := setRow_heap w.drew g _ _ _ _ hg
  have hl1 : (splice cur (i * 6) (gramsV (L.drop (i + 1)))).length = c * 6 := by rw [length_splice _ _ _ (by omega), hl]
  generalize hW1 : w.drew.setRow g (splice cur (i * 6) (gramsV (L.drop (i + 1)))).toArray = W1 at hap hg1 ⊢
  generalize splice cur (i * 6) (gramsV (L.drop (i + 1))) = c1 at hg1 hl1 ⊢
  have hcl : ∀ ty cc, (Builtin.clear_ #[67] ty #[.slice (some ⟨g, (n - 1) * 6, none⟩) (n - (n - 1)) cc]).run Try.prog W1 = .ok (.tuple #[]) (W1.setRow g (splice c1 ((n - 1) * 6) [.int .i64 0, .bool false, .int .i64 0, .int .i64 0, .int .i64 0, .string .empty]).toArray) := fun ty cc => by
    have hst := run_storeCells_at Try.prog g ((n - 1) * 6) 29 [.int .i64 0, .bool false, .int .i64 0, .int .i64 0, .int .i64 0, .string .empty] 0 c1.toArray W1 hg1 (by simp; omega) zc_one
    simp only [Nat.add_zero] at hst
    have h1 : n - (n - 1) = 0 + 1 := by omega
    have hzc : (Builtin.zeroCells (Value.agg #[.int .i64 0, .bool false, .int .i64 0, .int .i64 0, .int .i64 0, .string .empty]).cells (0 + 1)).toList = [.int .i64 0, .bool false, .int .i64 0, .int .i64 0, .int .i64 0, .string .empty] := by kernel_rfl
    have hzv : ∀ w, (zeroValue 29).run Try.prog w = .ok (Value.agg #[.int .i64 0, .bool false, .int .i64 0, .int .i64 0, .int .i64 0, .string .empty]) w := fun w => by simp [zeroValue, typeInfo, hi0, hz0]
    rw [h1]
    simp [Builtin.clear_, run_underlying Try.underlying67, hzv, hzc, hst, splice]
  have hin2 : i ≤ n := by omega
  have hic : i ≤ c := by omega
  have hjc : i + 1 ≤ c := by omega
  have hjn : i + 1 ≤ n := by omega
  have hne : ¬ ((i : Int) = (i : Int) + 1) := by omega
  have htn : ((i : Int) + 1).toNat = i + 1 := by omega
  have hb1 : (0 : Int) ≤ (i : Int) + 1 := by omega
  have hb2 : (i : Int) ≤ (i : Int) + 1 := by omega
  have hb3 : (i : Int) + 1 ≤ (n : Int) := by omega
  have hb4 : (i : Int) + 1 ≤ (c : Int) := by omega
  have hb5 : (n : Int) ≤ (c : Int) := by omega
  have hnc : ¬ (c = n - 1) := by omega
  have hn1 : n - 1 ≤ n := by omega
  clear hg1 hl1 hBl hg hl ht hL hsrc hin
  go_enter Try.func48, Try.ntmps48
  go_wp2_with fail
  go_region_law (refine step_append_known rfl (.tmp 22) (.tmp 25) 67 67 rfl (.slice (some ⟨g, 0, none⟩) i c) (.slice (some A) (n - (i + 1)) (c - (i + 1))) (by simp [Act.eval, Act.put]) (by simp [Act.eval, Act.put]) (hap _ _) ?_)
  go_wp2
  go_ret
  exact ⟨rfl, rfl⟩
theorem delete_any (v : Value) (L : List Gr) (i : Nat) (base : Nat) (w : World) (h : w.ownsRow base 29 6 v L.length (gramsV L)) (hi : i < L.length) :
    Calls Try.prog 48 #[v, .int .i64 (i : Int), .int .i64 ((i : Int) + 1)] w (InsRes base v w (L.take i ++ L.drop (i + 1))) := by
  have hlen : (L.take i ++ L.drop (i + 1)).length = L.length - 1 := by simp; omega
  rcases h.2 with ⟨_, h0⟩ | ⟨g, c, cur, rfl, hbg, hg, hnc, hcm, hcs, ht⟩
  · omega
  · have hBl : (gramsV (L.drop (i + 1))).length = (L.length - (i + 1)) * 6 := by rw [grams_len, List.length_drop]
    have hcl : cur.toList.length = c * 6 := by simpa using hcs
    refine (delete_walk g c L.length i L w cur.toList (by simpa using hg) hcl ht rfl hi hnc).mono ?_
    rintro e w' ⟨rfl, rfl⟩
    have hg1 := setRow_heap w.drew g cur (splice cur.toList (i * 6) (gramsV (L.drop (i + 1)))).toArray _ _ hg
    have hg2 := setRow_heap _ g _ (splice (splice cur.toList (i * 6) (gramsV (L.drop (i + 1)))) ((L.length - 1) * 6) [.int .i64 0, .bool false, .int .i64 0, .int .i64 0, .int .i64 0, .string .empty]).toArray _ _ hg1
    have s1 : (splice cur.toList (i * 6) (gramsV (L.drop (i + 1)))).length = c * 6 := by rw [length_splice _ _ _ (by omega)]; exact hcl
    have s2 : (splice (splice cur.toList (i * 6) (gramsV (L.drop (i + 1)))) ((L.length - 1) * 6) [.int .i64 0, .bool false, .int .i64 0, .int .i64 0, .int .i64 0, .string .empty]).length = c * 6 := by rw [length_splice _ _ _ (by simp only [List.length_cons, List.length_nil]; omega)]; exact s1
    refine ⟨_, rfl, ⟨by rw [grams_len], .inr ⟨g, c, _, by rw [hlen], hbg, hg2, by omega, hcm, ?_, ?_⟩⟩, ⟨rfl, rfl, rfl, by simp [World.setRow], fun j hj hjr => ?_⟩, .inl rfl⟩
    · rw [List.size_toArray]; exact s2
    · rw [hlen]
      exact splice_del cur.toList L i c hi hnc hcl ht _
    · have hjg : j ≠ g := fun e => hjr (by rw [e]; rfl)
      rw [setRow_other _ g j _ hjg, setRow_other _ g j _ hjg]
      rfl
/-- a datagram stored into a box -/
def six (w : World) (g : Nat) (x : Gr) : World := (((((w.setCell ⟨g, 0, none⟩ (.int .i64 x.cl)).setCell ⟨g, 1, none⟩ (.bool x.up)).setCell ⟨g, 2, none⟩ (.int .i64 x.ep)).setCell ⟨g, 3, none⟩ (.int .i64 x.sq)).setCell ⟨g, 4, none⟩ (.int .i64 x.ak)).setCell ⟨g, 5, none⟩ (.string x.bd)
theorem six_below {B : Nat} {w W : World} {g : Nat} (h : Below B w W) (hg : B ≤ g) (x : Gr) : Below B w (six W g x) :=
  (((((h.setCell (p := ⟨g, 0, none⟩) hg _).setCell (p := ⟨g, 1, none⟩) hg _).setCell (p := ⟨g, 2, none⟩) hg _).setCell (p := ⟨g, 3, none⟩) hg _).setCell (p := ⟨g, 4, none⟩) hg _).setCell (p := ⟨g, 5, none⟩) hg _
theorem six_blk {W : World} {g : Nat} {T : TypeId} {c0 c1 c2 c3 c4 c5 : Value} (h : Blk W g T #[c0, c1, c2, c3, c4, c5]) (x : Gr) : Blk (six W g x) g T (gv x) := by
  have := (((((h.set_ 0 (.int .i64 x.cl)).set_ 1 (.bool x.up)).set_ 2 (.int .i64 x.ep)).set_ 3 (.int .i64 x.sq)).set_ 4 (.int .i64 x.ak)).set_ 5 (.string x.bd)
  simpa [six, gv] using this
theorem six_pq {T : TypeId} {W : World} {g p : Nat} {M : Nat → Prop} {L : List Gr} (h : PQ T W p M L) (hg : M g) (x : Gr) : PQ T (six W g x) p M L :=
  (((((h.set_ hg 0 _).set_ hg 1 _).set_ hg 2 _).set_ hg 3 _).set_ hg 4 _).set_ hg 5 _
theorem six_pa {W : World} {T : TypeId} {g p : Nat} {v : Value} {M : Nat → Prop} {L : List Gr} (h : PA T W p v M L) (hg : M g) (x : Gr) : PA T (six W g x) p v M L :=
  (((((h.set_ hg 0 _).set_ hg 1 _).set_ hg 2 _).set_ hg 3 _).set_ hg 4 _).set_ hg 5 _
theorem six_keep {w W : World} {g : Nat} {M : Nat → Prop} (h : Keep M w W) (hg : ¬ M g) (x : Gr) : Keep M w (six W g x) :=
  (((((h.set_ hg 0 _).set_ hg 1 _).set_ hg 2 _).set_ hg 3 _).set_ hg 4 _).set_ hg 5 _
theorem blk_cells {w : World} {g : Nat} {T : TypeId} {x : Gr} (h : Blk w g T (gv x)) : w.cell? ⟨g, 0, none⟩ = some (.int .i64 x.cl) ∧ w.cell? ⟨g, 1, none⟩ = some (.bool x.up) ∧ w.cell? ⟨g, 2, none⟩ = some (.int .i64 x.ep) ∧ w.cell? ⟨g, 3, none⟩ = some (.int .i64 x.sq) ∧ w.cell? ⟨g, 4, none⟩ = some (.int .i64 x.ak) ∧ w.cell? ⟨g, 5, none⟩ = some (.string x.bd) :=
  ⟨h.cell 0, h.cell 1, h.cell 2, h.cell 3, h.cell 4, h.cell 5⟩
theorem blk_fr {w : World} {g : Nat} {T : TypeId} {cs : Array Value} (h : Blk w g T cs) : w.frozen? ⟨g, 0, none⟩ = false ∧ w.frozen? ⟨g, 1, none⟩ = false ∧ w.frozen? ⟨g, 2, none⟩ = false ∧ w.frozen? ⟨g, 3, none⟩ = false ∧ w.frozen? ⟨g, 4, none⟩ = false ∧ w.frozen? ⟨g, 5, none⟩ = false :=
  ⟨h.frozen 0, h.frozen 1, h.frozen 2, h.frozen 3, h.frozen 4, h.frozen 5⟩
def gz : Gr := ⟨0, false, 0, 0, 0, ⟨#[]⟩⟩
/-- take of none -/
def TakeNo (w : World) (e : Ending) (w' : World) : Prop := e = .returned (.tuple #[.agg #[.int .i64 0, .bool false, .int .i64 0, .int .i64 0, .int .i64 0, .string ⟨#[]⟩], .bool false]) ∧ Below w.heap.size w w'
theorem take_no_np (po : Option Addr) (v : Value) (L : List Gr) (i : Int) (w : World) (h : NP w po v L) (hi : i < 0 ∨ (L.length : Int) ≤ i) :
    Calls Try.prog 28 #[.pointer po, .int .i64 i] w (TakeNo w) := by
  have hb := below_box w (.cells #[.int .i64 0, .bool false, .int .i64 0, .int .i64 0, .int .i64 0, .string ⟨#[]⟩] 29)
  have HL := Lib.hid (list_any po v L _ (h.below hb))
  obtain ⟨a, c, rfl⟩ := h.1.shape
  have HB := Lib.hid hb
  clear h hb
  by_cases h0 : i < 0
  · clear hi
    go_enter Try.func28, Try.ntmps28
    go_wp2_with fail
    refine bodyPost_ret (v := .tuple #[.agg #[.int .i64 0, .bool false, .int .i64 0, .int .i64 0, .int .i64 0, .string ⟨#[]⟩], .bool false]) (by simp [results, Try.results28, go_sem] <;> rfl) rfl ?_
    exact ⟨rfl, HB.out⟩
  · have h1 : (L.length : Int) ≤ i := by omega
    clear hi
    go_enter Try.func28, Try.ntmps28
    go_wp2_with fail
    refine HL.out.mono ?_
    rintro e w2 ⟨rfl, rfl⟩
    clear HL
    go_wp2_with fail
    refine bodyPost_ret (v := .tuple #[.agg #[.int .i64 0, .bool false, .int .i64 0, .int .i64 0, .int .i64 0, .string ⟨#[]⟩], .bool false]) (by simp [results, Try.results28, go_sem] <;> rfl) rfl ?_
    exact ⟨rfl, HB.out⟩
/-- take of one -/
def TakeYes (p : Nat) (M : Nat → Prop) (L : List Gr) (k : Nat) (x : Gr) (w : World) (e : Ending) (w' : World) : Prop :=
  e = .returned (.tuple #[.agg #[.int .i64 x.cl, .bool x.up, .int .i64 x.ep, .int .i64 x.sq, .int .i64 x.ak, .string x.bd], .bool true]) ∧ PQ 69 w' p M (L.take k ++ L.drop (k + 1)) ∧ Keep M w w'
set_option maxRecDepth 100000 in
set_option maxHeartbeats 400000 in
theorem take_yes (p : Nat) (M : Nat → Prop) (L : List Gr) (k : Nat) (x : Gr) (w : World) (h : PQ 69 w p M L) (hx : L[k]? = some x) (hlen : L.length ≤ 1000000) :
    Calls Try.prog 28 #[.pointer (some ⟨p, 0, none⟩), .int .i64 (k : Int)] w (TakeYes p M L k x w) := by
  have hkl : k < L.length := (List.getElem?_eq_some_iff.1 hx).1
  have hlt := h.lt
  have hb := below_box w (.cells #[.int .i64 0, .bool false, .int .i64 0, .int .i64 0, .int .i64 0, .string ⟨#[]⟩] 29)
  have hbx := Blk.new w 29 #[.int .i64 0, .bool false, .int .i64 0, .int .i64 0, .int .i64 0, .string ⟨#[]⟩]
  obtain ⟨v, h⟩ := h
  have hA0 := h.alloc (.cells #[.int .i64 0, .bool false, .int .i64 0, .int .i64 0, .int .i64 0, .string ⟨#[]⟩] 29)
  have hA1 := six_pa hA0 (.inr rfl) x
  have hb1 := six_below hb (Nat.le_refl _) x
  have hbx1 := six_blk hbx x
  have HL := Lib.hid (list_any _ v L _ hA0.np)
  obtain ⟨g, c, hv, hvo, hg, c0, c1, c2, c3, c4, c5⟩ := (src_own hA0.own).at_ hx
  have hcap : ∃ c', v = .slice (some ⟨g, 0, none⟩) L.length c' ∧ L.length ≤ c' := by
    rcases hA0.own.2 with ⟨e, _⟩ | ⟨g', c', cur, e, _, _, hn, _⟩
    · rw [hv] at e; cases e
    · rw [hv] at e; injection e with e1 e2 e3; exact ⟨c', by rw [hv, e3], hn⟩
  obtain ⟨c', hv', hcap⟩ := hcap
  rw [hv] at hv'
  injection hv' with _ _ hv'
  subst hv'
  subst hv
  have p0 := hA0.blk.cell 0
  obtain ⟨f0, f1, f2, f3, f4, f5⟩ := blk_fr hbx
  obtain ⟨W0, hW0⟩ : ∃ W0, w.alloc (.cells #[.int .i64 0, .bool false, .int .i64 0, .int .i64 0, .int .i64 0, .string ⟨#[]⟩] 29) = W0 := ⟨_, rfl⟩
  have z0 := hbx.cell 0
  have z1 := hbx.cell 1
  have z2 := hbx.cell 2
  have z3 := hbx.cell 3
  have z4 := hbx.cell 4
  have z5 := hbx.cell 5
  rw [hW0] at c0 c1 c2 c3 c4 c5 p0 f0 f1 f2 f3 f4 f5 hA1 hb1 hbx1 hg HL z0 z1 z2 z3 z4 z5
  obtain ⟨W1, hW1⟩ : ∃ W1, six W0 w.heap.size x = W1 := ⟨_, rfl⟩
  rw [hW1] at hA1 hb1 hbx1
  have HW0 := Lib.hid hW0
  have HW1 : Hid ((((((W0.setCell ⟨w.heap.size, 0, none⟩ (.int .i64 x.cl)).setCell ⟨w.heap.size, 1, none⟩ (.bool x.up)).setCell ⟨w.heap.size, 2, none⟩ (.int .i64 x.ep)).setCell ⟨w.heap.size, 3, none⟩ (.int .i64 x.sq)).setCell ⟨w.heap.size, 4, none⟩ (.int .i64 x.ak)).setCell ⟨w.heap.size, 5, none⟩ (.string x.bd) = W1) := Lib.hid hW1
  clear hW0 hW1
  have HDEL := Lib.hid (delete_any _ L k 0 _ hA1.own hkl)
  have HA1 := Lib.hid hA1
  have HK1 := Lib.hid (Keep.of_below hb1 hlt)
  have HX1 := Lib.hid hbx1
  have HLT := Lib.hid hlt
  clear h hb hbx hA0 hb1 hbx1 hA1 hlt hx hvo
  go_enter Try.func28, Try.ntmps28
  go_wp2_with fail
  rw [HW0.out]
  refine HL.out.mono ?_
  rintro e w2 ⟨rfl, rfl⟩
  clear HL
  clear HW0
  have hk0 : ¬ ((k : Int) < 0) := by omega
  have hk1 : ¬ ((L.length : Int) ≤ (k : Int)) := by omega
  generalize w.heap.size = q at *
  go_upto_region 3 with (fail)
  rw [HW1.out]
  clear HW1 c0 c1 c2 c3 c4 c5 p0 f0 f1 f2 f3 f4 f5 z0 z1 z2 z3 z4 z5 hg
  have p1 := HA1.out.blk.cell 0
  have hwn : IntKind.i64.wrap ((k : Int) + 1) = (k : Int) + 1 := by rw [IntKind.wrap_i64]; omega
  go_wp2_with fail
  refine HDEL.out.mono ?_
  rintro e w2 ⟨v', rfl, ho, hgr, hv⟩
  obtain ⟨k1, k2, hA3, hk3⟩ := HA1.out.laid (Below.refl _ _) ho hgr (fun g5 hg5 => by
    rcases hv with e1 | e1
    · exact .inl (e1.symm.trans hg5)
    · rw [e1] at hg5; injection hg5 with hg5; exact .inr (by omega))
  obtain ⟨a5, n5, c5, rfl⟩ : ∃ a n c, v' = .slice a n c := by obtain ⟨a5, c5, e5⟩ := own_shape ho; exact ⟨_, _, _, e5⟩
  have hX3 := hk3.blk HX1.out (.inr rfl)
  have hA4 := six_pq ⟨_, hA3⟩ (.inr rfl) x
  have hk4 : Keep M w (six (w2.setCell ⟨p, 0, none⟩ (.slice a5 n5 c5)) q x) :=
    six_keep (HK1.out.trans (hk3.mono fun _ h => .inl h)) (fun hm => Nat.lt_irrefl _ (HLT.out _ hm)) x
  have hX4 := six_blk hX3 x
  obtain ⟨W3, hW3⟩ : ∃ W3, w2.setCell ⟨p, 0, none⟩ (.slice a5 n5 c5) = W3 := ⟨_, rfl⟩
  rw [hW3] at hX3 hA4 hk4 hX4
  obtain ⟨W4, hW4⟩ : ∃ W4, six W3 q x = W4 := ⟨_, rfl⟩
  rw [hW4] at hA4 hk4 hX4
  have HW3 := Lib.hid hW3
  have HW4 : Hid ((((((W3.setCell ⟨q, 0, none⟩ (.int .i64 x.cl)).setCell ⟨q, 1, none⟩ (.bool x.up)).setCell ⟨q, 2, none⟩ (.int .i64 x.ep)).setCell ⟨q, 3, none⟩ (.int .i64 x.sq)).setCell ⟨q, 4, none⟩ (.int .i64 x.ak)).setCell ⟨q, 5, none⟩ (.string x.bd) = W4) := Lib.hid hW4
  have FIN : Hid (TakeYes p M L k x w (.returned (.tuple #[.agg #[.int .i64 x.cl, .bool x.up, .int .i64 x.ep, .int .i64 x.sq, .int .i64 x.ak, .string x.bd], .bool true])) W4) := Lib.hid ⟨rfl, hA4.mono fun _ h => .inl h, hk4⟩
  obtain ⟨c0, c1, c2, c3, c4, c5⟩ := blk_cells hX3
  obtain ⟨f0, f1, f2, f3, f4, f5⟩ := blk_fr hX3
  have HX4 := Lib.hid hX4
  clear hX3 hA3 hk3 hA4 hk4 hX4 hW3 hW4 ho hgr hv p1 HDEL HA1 HK1 HX1 HLT hwn
  go_upto_region 4 with (fail)
  rw [HW3.out]
  clear HW3 k1 k2
  go_wp2
  rw [HW4.out]
  obtain ⟨d0, d1, d2, d3, d4, d5⟩ := blk_cells HX4.out
  refine bodyPost_ret (v := .tuple #[.agg #[.int .i64 x.cl, .bool x.up, .int .i64 x.ep, .int .i64 x.sq, .int .i64 x.ak, .string x.bd], .bool true]) (by simp [results, Try.results28, go_sem, d0, d1, d2, d3, d4, d5]) rfl ?_
  exact FIN.out
/-- what Pick and Eldest hand back -/
def gotV (x : Gr) (b : Bool) : Value := .tuple #[.agg #[.int .i64 x.cl, .bool x.up, .int .i64 x.ep, .int .i64 x.sq, .int .i64 x.ak, .string x.bd], .bool b]
def GotRes (p : Nat) (M : Nat → Prop) (o : Option Gr) (L : List Gr) (w : World) (e : Ending) (w' : World) : Prop :=
  ∃ x b, e = .returned (.tuple #[.agg #[.int .i64 x.cl, .bool x.up, .int .i64 x.ep, .int .i64 x.sq, .int .i64 x.ak, .string x.bd], .bool b]) ∧ (o = none ∧ b = false ∧ x = gz ∨ o = some x ∧ b = true) ∧ PQ 69 w' p M L ∧ Keep M w w'
def cutL (L : List Gr) (k : Nat) : List Gr := L.take k ++ L.drop (k + 1)
/-- Pick -/
def pickO (L : List Gr) (c : Int) (u : Bool) (i : Int) : Option Gr := (findN L c u i).map (·.1)
def cutO (o : Option (Gr × Nat)) (L : List Gr) : List Gr := match o with | some x => cutL L x.2 | none => L
def pickL (L : List Gr) (c : Int) (u : Bool) (i : Int) : List Gr := cutO (findN L c u i) L
theorem cut_len (L : List Gr) (k : Nat) : (cutL L k).length ≤ L.length := by unfold cutL; simp; omega
theorem pick_len (L : List Gr) (c : Int) (u : Bool) (i : Int) : (pickL L c u i).length ≤ L.length := by
  unfold pickL cutO
  split
  · exact cut_len _ _
  · exact Nat.le_refl _
/-- a call that hands on what take gave, by a box of its own -/
theorem take_got (p : Nat) (M : Nat → Prop) (L : List Gr) (o : Option (Gr × Nat)) (i : Int) (w : World) (h : PQ 69 w p M L) (hlen : L.length ≤ 1000000)
    (ho : (o = none ∧ (i < 0 ∨ (L.length : Int) ≤ i)) ∨ ∃ x, o = some x ∧ L[x.2]? = some x.1 ∧ i = (x.2 : Int)) :
    Calls Try.prog 28 #[.pointer (some ⟨p, 0, none⟩), .int .i64 i] w (GotRes p M (o.map (·.1)) (cutO o L) w) := by
  rcases ho with ⟨rfl, hi⟩ | ⟨⟨x, k⟩, rfl, hx, rfl⟩
  · have hl := h.lt
    have h' := h
    obtain ⟨v, h⟩ := h
    refine (take_no_np _ v L i w h.np hi).mono ?_
    rintro e w' ⟨rfl, hb⟩
    exact ⟨gz, false, rfl, .inl ⟨rfl, rfl, rfl⟩, h'.below hb, Keep.of_below hb hl⟩
  · refine (take_yes p M L k x w h hx hlen).mono ?_
    rintro e w' ⟨rfl, h1, h2⟩
    exact ⟨x, true, rfl, .inr ⟨rfl, rfl⟩, h1, h2⟩
theorem findN_or (L : List Gr) (c : Int) (u : Bool) (i : Int) : (findN L c u i = none ∧ (findI L c u i < 0 ∨ (L.length : Int) ≤ findI L c u i)) ∨ ∃ x, findN L c u i = some x ∧ L[x.2]? = some x.1 ∧ findI L c u i = (x.2 : Int) := by
  cases h : findN L c u i with
  | none => exact .inl ⟨rfl, .inl (by unfold findI; rw [h]; decide)⟩
  | some x => exact .inr ⟨x, rfl, (findN_get h).1, by unfold findI; rw [h]⟩
/-- the end of both: the box's second life -/
theorem got_box {p q : Nat} {M : Nat → Prop} {o : Option Gr} {L : List Gr} {w W1 W2 : World} {x : Gr} {b : Bool} {c0 c1 c2 c3 c4 c5 : Value} (hM : ∀ k, M k → k < q) (hB : Keep M w W1) (hX : Blk W1 q 29 #[c0, c1, c2, c3, c4, c5])
    (h1 : o = none ∧ b = false ∧ x = gz ∨ o = some x ∧ b = true) (h2 : PQ 69 W2 p (fun k => M k ∨ k = q) L) (h3 : Keep (fun k => M k ∨ k = q) W1 W2) :
    Blk W2 q 29 #[c0, c1, c2, c3, c4, c5] ∧ Blk (six W2 q x) q 29 (gv x) ∧ GotRes p M o L w (.returned (.tuple #[.agg #[.int .i64 x.cl, .bool x.up, .int .i64 x.ep, .int .i64 x.sq, .int .i64 x.ak, .string x.bd], .bool b])) (six W2 q x) := by
  have hX2 := h3.blk hX (.inr rfl)
  exact ⟨hX2, six_blk hX2 x, x, b, rfl, h1, (six_pq h2 (.inr rfl) x).mono fun _ h => .inl h, six_keep (hB.trans (h3.mono fun _ h => .inl h)) (fun hm => Nat.lt_irrefl _ (hM _ hm)) x⟩
set_option maxRecDepth 100000 in
set_option maxHeartbeats 1000000 in
theorem pick_any (p : Nat) (M : Nat → Prop) (L : List Gr) (c : Int) (u : Bool) (i : Int) (w : World) (h : PQ 69 w p M L) (hlen : L.length ≤ 1000000) :
    Calls Try.prog 11 #[.pointer (some ⟨p, 0, none⟩), .int .i64 c, .bool u, .int .i64 i] w (GotRes p M (pickO L c u i) (pickL L c u i) w) := by
  have hl := h.lt
  have hb := below_box w (.cells #[.int .i64 0, .bool false, .int .i64 0, .int .i64 0, .int .i64 0, .string ⟨#[]⟩] 29)
  have hX := Blk.new w 29 #[.int .i64 0, .bool false, .int .i64 0, .int .i64 0, .int .i64 0, .string ⟨#[]⟩]
  have h1 := h.alloc (.cells #[.int .i64 0, .bool false, .int .i64 0, .int .i64 0, .int .i64 0, .string ⟨#[]⟩] 29)
  have hk := Keep.of_below hb hl
  obtain ⟨W0, hW0⟩ : ∃ W0, w.alloc (.cells #[.int .i64 0, .bool false, .int .i64 0, .int .i64 0, .int .i64 0, .string ⟨#[]⟩] 29) = W0 := ⟨_, rfl⟩
  rw [hW0] at hX h1 hk
  have HF := Lib.hid (nfind_any p _ L c u i W0 h1 hlen)
  have H1 := Lib.hid h1
  have HK := Lib.hid hk
  have HX := Lib.hid hX
  have HW0 := Lib.hid hW0
  have HL := Lib.hid hl
  have HO := Lib.hid (findN_or L c u i)
  clear h hb hX h1 hk hW0 hl
  generalize hfi : findI L c u i = fi at HF HO
  have HFI := Lib.hid hfi
  clear hfi
  go_enter Try.func11, Try.ntmps11
  go_wp2_with fail
  rw [HW0.out]
  refine HF.out.mono ?_
  rintro e W1 ⟨rfl, b1⟩
  have HX1 := Lib.hid (HX.out.below b1 HX.out.lt)
  have HK1 := Lib.hid (HK.out.trans (Keep.of_below b1 (fun k hk => H1.out.lt k (.inl hk))))
  have HT := Lib.hid (take_got p _ L (findN L c u i) fi W1 (H1.out.below b1) hlen HO.out)
  clear b1 HF H1 HK HX HO HW0
  go_wp2_with fail
  refine HT.out.mono ?_
  rintro e W2 ⟨x, b, rfl, ho, h2, h3⟩
  obtain ⟨hX2, hX3, hG⟩ := got_box HL.out HK1.out HX1.out ho h2 h3
  have z0 := hX2.cell 0
  have z1 := hX2.cell 1
  have z2 := hX2.cell 2
  have z3 := hX2.cell 3
  have z4 := hX2.cell 4
  have z5 := hX2.cell 5
  obtain ⟨f0, f1, f2, f3, f4, f5⟩ := blk_fr hX2
  obtain ⟨W3, hW3⟩ : ∃ W3, six W2 w.heap.size x = W3 := ⟨_, rfl⟩
  rw [hW3] at hX3 hG
  have HW3 : Hid ((((((W2.setCell ⟨w.heap.size, 0, none⟩ (.int .i64 x.cl)).setCell ⟨w.heap.size, 1, none⟩ (.bool x.up)).setCell ⟨w.heap.size, 2, none⟩ (.int .i64 x.ep)).setCell ⟨w.heap.size, 3, none⟩ (.int .i64 x.sq)).setCell ⟨w.heap.size, 4, none⟩ (.int .i64 x.ak)).setCell ⟨w.heap.size, 5, none⟩ (.string x.bd) = W3) := Lib.hid hW3
  have HX3 := Lib.hid hX3
  have HG := Lib.hid hG
  clear hX2 hX3 hG hW3 ho h2 h3 HT HK1 HX1
  go_wp2
  rw [HW3.out]
  obtain ⟨d0, d1, d2, d3, d4, d5⟩ := blk_cells HX3.out
  refine bodyPost_ret (v := .tuple #[.agg #[.int .i64 x.cl, .bool x.up, .int .i64 x.ep, .int .i64 x.sq, .int .i64 x.ak, .string x.bd], .bool b]) (by simp [results, Try.results11, go_sem, d0, d1, d2, d3, d4, d5]) rfl ?_
  exact HG.out
/-- Eldest -/
def eldO (L : List Gr) : Option Gr := L[0]?
theorem eld_or (L : List Gr) : ((L[0]?.map fun x => (x, 0)) = none ∧ ((0 : Int) < 0 ∨ (L.length : Int) ≤ 0)) ∨ ∃ x : Gr × Nat, (L[0]?.map fun x => (x, 0)) = some x ∧ L[x.2]? = some x.1 ∧ (0 : Int) = (x.2 : Int) := by
  cases L with
  | nil => exact .inl ⟨rfl, .inr (by simp)⟩
  | cons y r => exact .inr ⟨(y, 0), rfl, rfl, rfl⟩
theorem eld_l (L : List Gr) : cutO (L[0]?.map fun x => (x, 0)) L = L.tail := by
  cases L with
  | nil => rfl
  | cons y r => simp [cutO, cutL]
theorem eld_o (L : List Gr) : (L[0]?.map fun x => ((x, 0) : Gr × Nat)).map (·.1) = eldO L := by
  cases L <;> rfl
set_option maxRecDepth 100000 in
set_option maxHeartbeats 1000000 in
theorem eldest_any (p : Nat) (M : Nat → Prop) (L : List Gr) (w : World) (h : PQ 69 w p M L) (hlen : L.length ≤ 1000000) :
    Calls Try.prog 13 #[.pointer (some ⟨p, 0, none⟩)] w (GotRes p M (eldO L) L.tail w) := by
  have hl := h.lt
  have hb := below_box w (.cells #[.int .i64 0, .bool false, .int .i64 0, .int .i64 0, .int .i64 0, .string ⟨#[]⟩] 29)
  have hX := Blk.new w 29 #[.int .i64 0, .bool false, .int .i64 0, .int .i64 0, .int .i64 0, .string ⟨#[]⟩]
  have h1 := h.alloc (.cells #[.int .i64 0, .bool false, .int .i64 0, .int .i64 0, .int .i64 0, .string ⟨#[]⟩] 29)
  have hk := Keep.of_below hb hl
  obtain ⟨W0, hW0⟩ : ∃ W0, w.alloc (.cells #[.int .i64 0, .bool false, .int .i64 0, .int .i64 0, .int .i64 0, .string ⟨#[]⟩] 29) = W0 := ⟨_, rfl⟩
  rw [hW0] at hX h1 hk
  have ht := take_got p _ L _ 0 W0 h1 hlen (eld_or L)
  rw [eld_l, eld_o] at ht
  have HT := Lib.hid ht
  have HK := Lib.hid hk
  have HX := Lib.hid hX
  have HW0 := Lib.hid hW0
  have HL := Lib.hid hl
  clear h hb hX h1 hk hW0 hl ht
  go_enter Try.func13, Try.ntmps13
  go_wp2_with fail
  rw [HW0.out]
  refine HT.out.mono ?_
  rintro e W2 ⟨x, b, rfl, ho, h2, h3⟩
  obtain ⟨hX2, hX3, hG⟩ := got_box HL.out HK.out HX.out ho h2 h3
  have z0 := hX2.cell 0
  have z1 := hX2.cell 1
  have z2 := hX2.cell 2
  have z3 := hX2.cell 3
  have z4 := hX2.cell 4
  have z5 := hX2.cell 5
  obtain ⟨f0, f1, f2, f3, f4, f5⟩ := blk_fr hX2
  obtain ⟨W3, hW3⟩ : ∃ W3, six W2 w.heap.size x = W3 := ⟨_, rfl⟩
  rw [hW3] at hX3 hG
  have HW3 : Hid ((((((W2.setCell ⟨w.heap.size, 0, none⟩ (.int .i64 x.cl)).setCell ⟨w.heap.size, 1, none⟩ (.bool x.up)).setCell ⟨w.heap.size, 2, none⟩ (.int .i64 x.ep)).setCell ⟨w.heap.size, 3, none⟩ (.int .i64 x.sq)).setCell ⟨w.heap.size, 4, none⟩ (.int .i64 x.ak)).setCell ⟨w.heap.size, 5, none⟩ (.string x.bd) = W3) := Lib.hid hW3
  have HX3 := Lib.hid hX3
  have HG := Lib.hid hG
  clear hX2 hX3 hG hW3 ho h2 h3 HT HK HX HW0
  go_wp2
  rw [HW3.out]
  obtain ⟨d0, d1, d2, d3, d4, d5⟩ := blk_cells HX3.out
  refine bodyPost_ret (v := .tuple #[.agg #[.int .i64 x.cl, .bool x.up, .int .i64 x.ep, .int .i64 x.sq, .int .i64 x.ak, .string x.bd], .bool b]) (by simp [results, Try.results13, go_sem, d0, d1, d2, d3, d4, d5]) rfl ?_
  exact HG.out
end Go.Proofs.Ythkgmfgchgoafaa.Mist
