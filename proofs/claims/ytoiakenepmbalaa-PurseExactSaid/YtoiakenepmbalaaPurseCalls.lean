/- Ask and Take. -/
import Derived.Test.YtoiakenepmbalaaPurseMem
import Derived.Test.YtoiakenepmbalaaPurseIns
import Derived.Test.YtoiakenepmbalaaPurseDel
namespace Go.Proofs.Ytoiakenepmbalaa.Purse
set_option maxRecDepth 100000
open Go.RowKit
open Go.Proofs.Ytoiakenepmbalaa.Mem
theorem own_cell {w : World} {base n g c size : Nat} {t : TypeId} {xs : List Value} (h : w.ownsRow base t size (.slice (some ⟨g, 0, none⟩) n c) n xs) (j : Nat) (u : Value) : (w.setCell ⟨g, j, none⟩ u).ownsRow base t size (.slice (some ⟨g, 0, none⟩) n c) n (xs.set j u) := by
  obtain ⟨hl, ⟨e, _⟩ | ⟨g', c', cur, e, hbg, hg, hnc, hcm, hcs, ht⟩⟩ := h
  · cases e
  · injection e with e1 e2 e3
    injection e1 with e1
    injection e1 with e1
    subst e1; subst e3
    refine ⟨by rw [List.length_set]; exact hl, .inr ⟨g, c, cur.setIfInBounds j u, rfl, hbg, Blk.set_ (show Blk w g _ _ from hg) j u, hnc, hcm, by simpa using hcs, ?_⟩⟩
    rw [Array.toList_setIfInBounds, ← ht, List.take_set]
theorem own_row {w : World} {base : Nat} {v : Value} {L : List Due} (h : w.ownsRow base 53 2 v L.length (cellsP L)) {i : Nat} {x : Due} (hx : L[i]? = some x) : ∃ g c, v = .slice (some ⟨g, 0, none⟩) L.length c ∧ L.length ≤ c ∧ i < L.length ∧ w.cell? ⟨g, i * 2 + 1, none⟩ = some (.int .i64 x.2) ∧ w.frozen? ⟨g, i * 2 + 1, none⟩ = false := by
  have hlt := (List.getElem?_eq_some_iff.1 hx).1
  rcases h.2 with ⟨_, h0⟩ | ⟨g, c, cur, rfl, _, hg, hnc, _, hcs, ht⟩
  · omega
  · refine ⟨g, c, rfl, hnc, hlt, ?_, Blk.frozen (show Blk w g _ _ from hg) _⟩
    obtain ⟨_, c2⟩ := cells_at L i x hx
    rw [← ht, List.getElem?_take_of_lt (by omega), Array.getElem?_toList] at c2
    exact (Blk.cell (show Blk w g _ _ from hg) _).trans c2
/-- what is known of a purse's blocks while it is worked on -/
structure Mid (w : World) (p : Nat) (v : Value) (M : Nat → Prop) (L : List Due) (s : Int) : Prop where
  blk : Blk w p 48 #[v, .int .i64 s]
  own : w.ownsRow 0 53 2 v L.length (cellsP L)
  n0 : v.ownBlock ≠ some p
  m0 : ¬ M p
  m1 : ∀ g, v.ownBlock = some g → ¬ M g
  lt : ∀ k, M k → k < w.heap.size
theorem PA.mid {w : World} {p : Nat} {v : Value} {M : Nat → Prop} {L : List Due} (h : PA w p v M L) : Mid w p v M L (total L) := ⟨h.blk, h.own, h.n0, h.m0, h.m1, h.lt⟩
theorem Mid.pa {w : World} {p : Nat} {v : Value} {M : Nat → Prop} {L : List Due} {s : Int} (h : Mid w p v M L s) (hw : wfL L) (hs : s = total L) : PA w p v M L := by
  subst hs
  exact ⟨h.blk, h.own, h.n0, h.m0, h.m1, h.lt, hw⟩
section
variable {w : World} {p : Nat} {v : Value} {M : Nat → Prop} {L : List Due} {s : Int}
theorem Mid.at_ (h : Mid w p v M L s) : w.cell? ⟨p, 0, none⟩ = some v ∧ w.cell? ⟨p, 1, none⟩ = some (.int .i64 s) ∧ w.frozen? ⟨p, 0, none⟩ = false ∧ w.frozen? ⟨p, 1, none⟩ = false := ⟨h.blk.cell 0, h.blk.cell 1, h.blk.frozen 0, h.blk.frozen 1⟩
theorem Mid.row (h : Mid w p v M L s) {i : Nat} {x : Due} (hx : L[i]? = some x) : ∃ g c, v = .slice (some ⟨g, 0, none⟩) L.length c ∧ L.length ≤ c ∧ g ≠ p ∧ p ≠ g ∧ ¬ M g ∧ i < L.length ∧ w.cell? ⟨g, i * 2 + 1, none⟩ = some (.int .i64 x.2) ∧ w.frozen? ⟨g, i * 2 + 1, none⟩ = false := by
  have hlt := (List.getElem?_eq_some_iff.1 hx).1
  rcases h.own.2 with ⟨_, h0⟩ | ⟨g, c, cur, rfl, _, hg, hnc, _, hcs, ht⟩
  · omega
  · refine ⟨g, c, rfl, hnc, fun e => h.n0 (by rw [e]; rfl), fun e => h.n0 (by rw [e]; rfl), h.m1 g rfl, hlt, ?_, Blk.frozen (show Blk w g _ _ from hg) _⟩
    obtain ⟨_, c2⟩ := cells_at L i x hx
    rw [← ht, List.getElem?_take_of_lt (by omega), Array.getElem?_toList] at c2
    exact (Blk.cell (show Blk w g _ _ from hg) _).trans c2
/-- one due turned, and the sum -/
theorem Mid.turn {g c i : Nat} {x : Due} (h : Mid w p (.slice (some ⟨g, 0, none⟩) L.length c) M L s) (hx : L[i]? = some x) (n s' : Int) : Mid ((w.setCell ⟨g, i * 2 + 1, none⟩ (.int .i64 n)).setCell ⟨p, 1, none⟩ (.int .i64 s')) p (.slice (some ⟨g, 0, none⟩) L.length c) M (L.set i (x.1, n)) s' := by
  have hlt := (List.getElem?_eq_some_iff.1 hx).1
  have hgp : g ≠ p := fun e => h.n0 (by rw [e]; rfl)
  refine ⟨?_, ?_, h.n0, h.m0, h.m1, fun k hk => by simpa using h.lt k hk⟩
  · have := (h.blk.far (p := ⟨g, i * 2 + 1, none⟩) (fun e => hgp e.symm) (.int .i64 n)).set_ 1 (.int .i64 s')
    simpa using this
  · rw [List.length_set, ← cells_set L i x n hx]
    exact own_set (own_cell h.own (i * 2 + 1) _) h.n0 _ _
theorem Mid.keep {w0 : World} {g c i : Nat} (h : Mid w p (.slice (some ⟨g, 0, none⟩) L.length c) M L s) (hk : Keep M w0 w) (u x : Value) : Keep M w0 ((w.setCell ⟨g, i, none⟩ u).setCell ⟨p, 1, none⟩ x) := (hk.set_ (h.m1 g rfl) _ _).set_ h.m0 _ _
/-- another row laid in -/
theorem Mid.laid {w' : World} {v' : Value} {L' : List Due} (h : Mid w p v M L s) (ho : w'.ownsRow 0 53 2 v' L'.length (cellsP L')) (hg : w.grownBy w' v.ownBlock) (hv : v'.ownBlock = v.ownBlock ∨ v'.ownBlock = some w.heap.size) : Mid (w'.setCell ⟨p, 0, none⟩ v') p v' M L' s ∧ ∀ w0, Keep M w0 w → Keep M w0 (w'.setCell ⟨p, 0, none⟩ v') := by
  have hp := h.blk.lt
  have hn : v'.ownBlock ≠ some p := by
    rcases hv with e | e <;> rw [e]
    · exact h.n0
    · intro e2; cases e2; omega
  have hm : ∀ g, v'.ownBlock = some g → ¬ M g := by
    intro g e2
    rcases hv with e | e <;> rw [e] at e2
    · exact h.m1 g e2
    · cases e2; intro hk; have := h.lt _ hk; omega
  refine ⟨⟨?_, own_set ho hn _ _, hn, h.m0, hm, fun k hk => ?_⟩, fun w0 hk => (hk.grown hg h.lt (fun k e => h.m1 k e)).set_ h.m0 _ _⟩
  · have := (h.blk.grown hg (fun e => h.n0 e.symm)).set_ 0 v'
    simpa using this
  · have := h.lt k hk
    have := hg.size
    simp; omega
end
def AskRes (p : Nat) (M : Nat → Prop) (L : List Due) (k n room : Int) (w : World) (e : Ending) (w' : World) : Prop :=
  e = .returned (.bool (askB L n room)) ∧ PQ w' p M (askL L k n room) ∧ Keep M w w'
theorem askB_no {L : List Due} {n room : Int} (h : ¬ (1 ≤ n ∧ n ≤ 1048576 ∧ n ≤ room ∧ total L ≤ room - n)) : askB L n room = false := decide_eq_false h
theorem askB_yes {L : List Due} {n room : Int} (h : 1 ≤ n ∧ n ≤ 1048576 ∧ n ≤ room ∧ total L ≤ room - n) : askB L n room = true := decide_eq_true h
set_option maxRecDepth 100000 in
set_option maxHeartbeats 4000000 in
theorem ask_any (p : Nat) (M : Nat → Prop) (L : List Due) (k n room : Int) (w : World) (h : PQ w p M L) (hn : L.length ≤ 999999) (hr : room ≤ 9223372036854775807) :
    Calls Try.prog 9 #[.pointer (some ⟨p, 0, none⟩), .int .i64 k, .int .i64 n, .int .i64 room] w (AskRes p M L k n room w) := by
  have hno : ∀ e w', ¬ (1 ≤ n ∧ n ≤ 1048576 ∧ n ≤ room ∧ total L ≤ room - n) → (e = Ending.returned (.bool false) ∧ w = w') → AskRes p M L k n room w e w' := by
    rintro e w' hno ⟨rfl, rfl⟩
    exact ⟨by rw [askB_no hno], by unfold askL; rw [askB_no hno]; exact h, Keep.refl _ _⟩
  obtain ⟨v, h⟩ := h
  obtain ⟨c0, c1, f0, f1⟩ := h.at_
  have htn := total_nn L h.wf.pos
  have hts := h.wf.sum
  by_cases h1 : n < 1
  · refine Calls.mono ?_ (fun e w' => hno e w' (by omega))
    clear hno h
    go_enter Try.func9, Try.ntmps9
    go_wp2
    go_ret
    exact ⟨rfl, rfl⟩
  by_cases h2 : 1048576 < n
  · refine Calls.mono ?_ (fun e w' => hno e w' (by omega))
    clear hno h
    go_enter Try.func9, Try.ntmps9
    go_wp2
    go_ret
    exact ⟨rfl, rfl⟩
  by_cases h3 : room < n
  · refine Calls.mono ?_ (fun e w' => hno e w' (by omega))
    clear hno h
    go_enter Try.func9, Try.ntmps9
    go_wp2
    go_ret
    exact ⟨rfl, rfl⟩
  have hw : IntKind.i64.wrap (room - n) = room - n := by rw [IntKind.wrap_i64]; omega
  by_cases h4 : room - n < total L
  · refine Calls.mono ?_ (fun e w' => hno e w' (by omega))
    clear hno h
    go_enter Try.func9, Try.ntmps9
    go_wp2
    go_ret
    exact ⟨rfl, rfl⟩
  clear hno
  have hyes : askB L n room = true := askB_yes (by omega)
  have hwf : wfL (addL L k n) := wf_add h.wf (by omega) (by omega)
  have fin : ∀ w' v' M', Mid w' p v' M' (addL L k n) (total L + n) → PQ w' p M' (addL L k n) := fun w' v' M' hm => ⟨v', hm.pa hwf (total_add L k n).symm⟩
  have hA : AskRes p M L k n room w = fun e w' => e = .returned (.bool true) ∧ PQ w' p M (addL L k n) ∧ Keep M w w' := by
    funext e w'; unfold AskRes askL; rw [hyes]; rfl
  rw [hA]
  have hwt : IntKind.i64.wrap (total L + n) = total L + n := by rw [IntKind.wrap_i64]; omega
  have hf := find_any p v M L k w h (by omega)
  have HF := Lib.hid hf
  have H := Lib.hid h
  have FIN := Lib.hid fin
  clear hf h fin hA hyes hwf
  go_enter Try.func9, Try.ntmps9
  go_wp2_with fail
  refine HF.out.mono ?_; rintro e w1 ⟨rfl, b1⟩
  have h1 := H.out.step (M' := M) b1.size (fun k hk _ => b1.block k hk) (fun _ hk => .inl hk)
  have H1 := Lib.hid h1
  have hk1 := Keep.of_below b1 H.out.lt
  have K1 := Lib.hid hk1
  clear b1 h1 hk1 c0 c1 f0 f1
  cases hh : hasL L k with
  | true =>
    have hx := hasL_get L k hh
    have hm := H1.out.mid
    obtain ⟨c0, c1, f0, f1⟩ := hm.at_
    obtain ⟨g, c, rfl, hc, hgp, hpg, hgM, hlt, c2, f2⟩ := hm.row hx
    have hof := ofL_total L k H1.out.wf.pos
    have hofp := ofL_pos H1.out.wf.pos hh
    have hwo : IntKind.i64.wrap (ofL L k + n) = ofL L k + n := by rw [IntKind.wrap_i64]; omega
    have hend := Mid.turn hm hx (ofL L k + n) (total L + n)
    rw [← addL_set L k n hh] at hend
    have hke := hm.keep (i := posL L k * 2 + 1) K1.out (.int .i64 (ofL L k + n)) (.int .i64 (total L + n))
    have HE := Lib.hid (FIN.out _ _ _ hend)
    have HK := Lib.hid hke
    clear hend hke hm hx hgM
    generalize ofL L k = o at c2 hwo HE HK hof hofp
    generalize posL L k = i at hlt c2 f2 HE HK ⊢
    go_wp2
    go_ret
    exact ⟨rfl, HE.out, HK.out⟩
  | false =>
    have hpl := H1.out.blk.lt
    have hvl := fun g => own_lt H1.out.own (g := g)
    have hi := posL_le L k
    have hW := H1.out.step (w' := w1.alloc (.cells #[.int .i64 k, .int .i64 0] 53)) (M' := M) (by simp) (fun j hj _ => Below.heap_alloc w1 _ j hj) (fun _ hk => .inl hk)
    have hins := insert_any v L (posL L k) (k, 0) 0 w1.heap.size (w1.alloc (.cells #[.int .i64 k, .int .i64 0] 53)) hW.own (Nat.zero_le _) (by omega) hi (Blk.new w1 _ _) (fun e => by have := hvl _ e; omega)
    have hkW := K1.out.alloc H1.out.lt (.cells #[.int .i64 k, .int .i64 0] 53)
    have HI := Lib.hid hins
    have HW := Lib.hid hW
    have KW := Lib.hid hkW
    obtain ⟨c0, _, f0, _⟩ := H1.out.at_
    clear hins hW hkW hvl hpl
    go_wp2_with fail
    refine HI.out.mono ?_; rintro e w2 ⟨v', rfl, ho, hg, hv⟩
    obtain ⟨hm, hkp⟩ := HW.out.mid.laid ho hg hv
    have hb2 := HW.out.blk.grown hg (fun e => HW.out.n0 e.symm)
    have d0 := hb2.cell 0
    have d1 := hb2.cell 1
    have e0 := hb2.frozen 0
    have e1 := hb2.frozen 1
    have hx : (L.take (posL L k) ++ [(k, 0)] ++ L.drop (posL L k))[posL L k]? = some (k, 0) := by
      have hl : (L.take (posL L k)).length = posL L k := by rw [List.length_take]; omega
      rw [List.append_assoc, List.getElem?_append_right (by omega), hl, Nat.sub_self]; rfl
    obtain ⟨g, c, hve, hc, hlt, c2, f2⟩ := own_row ho hx
    subst hve
    have hgp : g ≠ p := fun e => hm.n0 (by rw [e]; rfl)
    have hpg : p ≠ g := fun e => hgp e.symm
    have hend := Mid.turn hm hx n (total L + n)
    have hse : (L.take (posL L k) ++ [(k, (0 : Int))] ++ L.drop (posL L k)).set (posL L k) (k, n) = addL L k n := by
      rw [← addL_two n hh, Int.zero_add]
    have hend := (show Mid _ _ _ _ ((L.take (posL L k) ++ [(k, (0 : Int))] ++ L.drop (posL L k)).set (posL L k) (k, n)) _ from hend)
    rw [hse] at hend
    have hke := hm.keep (i := posL L k * 2 + 1) (hkp _ KW.out) (.int .i64 n) (.int .i64 (total L + n))
    have HE := Lib.hid (FIN.out _ _ _ hend)
    have HK := Lib.hid hke
    have hwn : IntKind.i64.wrap n = n := by rw [IntKind.wrap_i64]; omega
    clear hend hke hm hx hkp hb2 ho hg hv HI HW KW c0 f0
    generalize (L.take (posL L k) ++ [(k, 0)] ++ L.drop (posL L k)).length = len at hc hlt HE HK ⊢
    generalize posL L k = i at hlt c2 f2 HE HK hi ⊢
    go_wp2
    go_ret
    exact ⟨rfl, HE.out, HK.out⟩

def TakeRes (p : Nat) (M : Nat → Prop) (L : List Due) (k n : Int) (w : World) (e : Ending) (w' : World) : Prop :=
  e = .returned (.int .i64 (takeN L k n)) ∧ PQ w' p M (takeL L k n) ∧ Keep M w w'
set_option maxRecDepth 100000 in
set_option maxHeartbeats 4000000 in
theorem take_any (p : Nat) (M : Nat → Prop) (L : List Due) (k n : Int) (w : World) (h : PQ w p M L) (hn : L.length ≤ 1000000) :
    Calls Try.prog 11 #[.pointer (some ⟨p, 0, none⟩), .int .i64 k, .int .i64 n] w (TakeRes p M L k n w) := by
  obtain ⟨v, h⟩ := h
  have hf := find_any p v M L k w h (by omega)
  have HF := Lib.hid hf
  have H := Lib.hid h
  clear hf h
  by_cases hyn : hasL L k = true ∧ 1 ≤ n
  · obtain ⟨hh, h1⟩ := hyn
    have hwf := take_wf H.out.wf k n
    have htl : takeL L k n = cutL L k (takeN L k n) := by unfold takeL; rw [if_pos ⟨hh, h1⟩]
    have hto := total_take (L := L) k n
    obtain ⟨hm1, hm2, hm3⟩ := takeN_has H.out.wf hh h1
    have hmin : takeN L k n = if n ≤ ofL L k then n else ofL L k := by unfold takeN; rw [if_neg (by omega)]
    have fin : ∀ w' v' M', Mid w' p v' M' (cutL L k (takeN L k n)) (total L - takeN L k n) → PQ w' p M' (takeL L k n) := fun w' v' M' hm => ⟨v', Mid.pa (by rw [htl]; exact hm) hwf hto.symm⟩
    have hof := ofL_total L k H.out.wf.pos
    have hts := H.out.wf.sum
    have FIN := Lib.hid fin
    have hA : TakeRes p M L k n w = fun e w' => e = .returned (.int .i64 (takeN L k n)) ∧ PQ w' p M (takeL L k n) ∧ Keep M w w' := rfl
    rw [hA]
    clear fin hA hwf hto
    generalize hM : takeN L k n = m at hm1 hm2 hm3 hmin htl FIN ⊢
    generalize htl2 : takeL L k n = L2 at htl FIN ⊢
    clear htl hM htl2
    go_enter Try.func11, Try.ntmps11
    go_wp2_with fail
    refine HF.out.mono ?_; rintro e w1 ⟨rfl, b1⟩
    have h1' := H.out.step (M' := M) b1.size (fun k hk _ => b1.block k hk) (fun _ hk => .inl hk)
    have hk1 := Keep.of_below b1 H.out.lt
    have K1 := Lib.hid hk1
    have hx := hasL_get L k hh
    have hmid := h1'.mid
    obtain ⟨c0, c1, f0, f1⟩ := hmid.at_
    obtain ⟨g, c, rfl, hc, hgp, hpg, hgM, hlt, c2, f2⟩ := hmid.row hx
    have hwo : IntKind.i64.wrap (ofL L k - m) = ofL L k - m := by rw [IntKind.wrap_i64]; omega
    have hwt : IntKind.i64.wrap (total L - m) = total L - m := by rw [IntKind.wrap_i64]; omega
    have hwi : IntKind.i64.wrap ((posL L k : Int) + 1) = (posL L k : Int) + 1 := by rw [IntKind.wrap_i64]; omega
    have hend := Mid.turn hmid hx (ofL L k - m) (total L - m)
    have hke := hmid.keep (i := posL L k * 2 + 1) K1.out (.int .i64 (ofL L k - m)) (.int .i64 (total L - m))
    have HMID := Lib.hid hend
    have HKE := Lib.hid hke
    have hcut := cutL_set L k m hh
    have hdel := cutL_del L k m hh
    have HCUT := Lib.hid hcut
    have HDEL := Lib.hid hdel
    clear hend hke hmid h1' hk1 b1 hgM hcut hdel hx
    rw [hh]
    have hmo : min n (ofL L k) = m := by
      rw [hmin]; split <;> omega
    clear hmin
    by_cases hz : m = ofL L k
    · have hi := Nat.le_of_lt hlt
      have hdl := delete_any (.slice (some ⟨g, 0, none⟩) L.length c) (L.set (posL L k) (k, ofL L k - m)) (posL L k) 0 ((w1.setCell ⟨g, posL L k * 2 + 1, none⟩ (.int .i64 (ofL L k - m))).setCell ⟨p, 1, none⟩ (.int .i64 (total L - m))) HMID.out.own (by rw [List.length_set]; exact hlt)
      have hls : (L.set (posL L k) (k, ofL L k - m)).take (posL L k) ++ (L.set (posL L k) (k, ofL L k - m)).drop (posL L k + 1) = cutL L k m := by
        rw [HDEL.out hz, List.take_set_of_le (Nat.le_refl _), List.drop_set_of_lt (by omega)]
      rw [hls] at hdl
      have HDL := Lib.hid hdl
      have hz0 : ofL L k - m = 0 := by omega
      clear hdl hls hz
      rw [hz0] at HDL HMID HKE
      go_wp2_with fail
      refine HDL.out.mono ?_; rintro e w2 ⟨v', rfl, ho, hg, hv⟩
      obtain ⟨hm, hkp⟩ := HMID.out.laid ho hg hv
      have hb2 := HMID.out.blk.grown hg (fun e => HMID.out.n0 e.symm)
      have d0 := hb2.cell 0
      have e0 := hb2.frozen 0
      have HE := Lib.hid (FIN.out _ _ _ hm)
      have HK := Lib.hid (hkp _ HKE.out)
      obtain ⟨av, cv, rfl⟩ := own_shape ho
      clear hm hkp hb2 ho hg hv HMID HDL HKE
      go_wp2
      go_ret
      exact ⟨rfl, HE.out, HK.out⟩
    · have e1 := HMID.out
      rw [← HCUT.out hz] at e1
      have HE := Lib.hid (FIN.out _ _ _ e1)
      have hz0 : ¬ (ofL L k - m = 0) := by omega
      clear e1 HMID
      generalize ofL L k = o at *
      generalize posL L k = i at *
      go_wp2
      go_ret
      exact ⟨rfl, HE.out, HKE.out⟩
  · have hA : TakeRes p M L k n w = fun e w' => e = .returned (.int .i64 0) ∧ PQ w' p M L ∧ Keep M w w' := by
      funext e w'
      have hn0 := takeN_not hyn
      have hl : takeL L k n = L := by unfold takeL; rw [if_neg hyn]
      unfold TakeRes; rw [hn0, hl]
    rw [hA]
    clear hA
    cases hh : hasL L k with
    | false =>
      go_enter Try.func11, Try.ntmps11
      go_wp2_with fail
      refine HF.out.mono ?_; rintro e w1 ⟨rfl, b1⟩
      have h1 := H.out.step (M' := M) b1.size (fun k hk _ => b1.block k hk) (fun _ hk => .inl hk)
      have H1 := Lib.hid h1
      have hk1 := Keep.of_below b1 H.out.lt
      have K1 := Lib.hid hk1
      clear b1 h1 hk1
      rw [hh]
      go_wp2
      go_ret
      exact ⟨rfl, ⟨v, H1.out⟩, K1.out⟩
    | true =>
      have h1n : n < 1 := by
        rcases Int.lt_or_le n 1 with h | h
        · exact h
        · exact absurd ⟨hh, h⟩ hyn
      clear hyn
      go_enter Try.func11, Try.ntmps11
      go_wp2_with fail
      refine HF.out.mono ?_; rintro e w1 ⟨rfl, b1⟩
      have h1 := H.out.step (M' := M) b1.size (fun k hk _ => b1.block k hk) (fun _ hk => .inl hk)
      have H1 := Lib.hid h1
      have hk1 := Keep.of_below b1 H.out.lt
      have K1 := Lib.hid hk1
      clear b1 h1 hk1
      rw [hh]
      go_wp2
      go_ret
      exact ⟨rfl, ⟨v, H1.out⟩, K1.out⟩
end Go.Proofs.Ytoiakenepmbalaa.Purse
