/- The document's own net: Count, place, drop, Put, Copy. -/
import Derived.Test.YtjlmmglhgmfgiaaMistTwo
namespace Go.Proofs.Ytjlmmglhgmfgiaa.Mist
set_option maxRecDepth 100000
open Go.RowKit
open Go.Proofs.Ytjlmmglhgmfgiaa.Mem Go.Proofs.Ytjlmmglhgmfgiaa.CordG
theorem count_take {L : List Gr} {i : Nat} {x : Gr} (h : L[i]? = some x) (c : Int) (u : Bool) : countL (L.take (i + 1)) c u = countL (L.take i) c u + (if onW c u x = true then 1 else 0) := by
  unfold countL
  rw [List.take_add_one, h, List.filter_append, List.length_append]
  congr 1
  by_cases ho : onW c u x = true
  · simp [ho]
  · simp [ho]
theorem PA.rowat {T : TypeId} {w : World} {p : Nat} {v : Value} {M : Nat → Prop} {L : List Gr} (h : PA T w p v M L) {i : Nat} {x : Gr} (hi : L[i]? = some x) : ∃ g c, v = .slice (some ⟨g, 0, none⟩) L.length c ∧ L.length ≤ c ∧ v.ownBlock = some g ∧ g < w.heap.size ∧ CellsG w g i x := by
  obtain ⟨g, c, hv, ho, hg, hc⟩ := (src_own h.own).at_ hi
  refine ⟨g, c, hv, ?_, ho, hg, hc⟩
  rcases h.own.2 with ⟨e, _⟩ | ⟨g', c', cur, e, _, _, hn, _⟩
  · rw [hv] at e; cases e
  · rw [hv] at e; injection e with e1 e2 e3; omega
set_option maxRecDepth 100000 in
set_option maxHeartbeats 1000000 in
theorem ucount_any (p : Nat) (M : Nat → Prop) (L : List Gr) (c : Int) (u : Bool) (w : World) (h : PQ 29 w p M L) (hlen : L.length ≤ 1000000) :
    Calls Try.prog 20 #[.pointer (some ⟨p, 0, none⟩), .int .i64 c, .bool u] w fun e w' => e = .returned (.int .i64 (countL L c u : Int)) ∧ w = w' := by
  obtain ⟨v, h⟩ := h
  have p0 := h.blk.cell 0
  have H := Lib.hid h
  obtain ⟨a, cv, rfl⟩ := own_shape h.own
  clear h
  go_enter Try.func20, Try.ntmps20
  go_wp2_with fail
  go_loopw [7, 8] (fun tk ti wr => ∃ j : Nat, j ≤ L.length ∧ tk = .int .i64 (countL (L.take j) c u : Int) ∧ ti = .int .i64 (j : Int) ∧ wr = w) (fun _ ti _ => L.length - (intOf ti).toNat)
  case atStart => exact ⟨0, Nat.zero_le _, rfl, rfl, rfl⟩
  case round =>
    obtain ⟨j, hj, rfl, rfl, rfl⟩ := hrel
    by_cases hlt : j < L.length
    · have hx : L[j]? = some L[j] := List.getElem?_eq_getElem hlt
      generalize L[j] = x at hx
      obtain ⟨g, c9, hv, hc9, _, hg, c0, c1, c2, c3, c4, c5⟩ := H.out.rowat hx
      injection hv with hv1 hv2 hv3
      subst hv1; subst hv3
      have hct := Lib.hid (count_take hx c u)
      have hcl : countL (L.take j) c u ≤ j := Nat.le_trans (count_le _ _ _) (by rw [List.length_take]; omega)
      clear hx hv2
      generalize countL (L.take j) c u = m at *
      by_cases ho1 : (x.cl == c) = true
      · by_cases ho2 : (x.up == u) = true
        · have hm : Hid (countL (L.take (j + 1)) c u = m + 1) := Lib.hid (by have := hct.out; unfold onW at this; rw [ho1, ho2] at this; simpa using this)
          clear hct c2 c3 c4 c5
          go_wp2
          go_roundw
          case rel => exact ⟨j + 1, by omega, by rw [hm.out]; try go_num, by go_num, by first | rfl | trivial⟩
          case measure => simp [intOf]; omega
        · have ho2 : (x.up == u) = false := by simpa using ho2
          have hm : Hid (countL (L.take (j + 1)) c u = m) := Lib.hid (by have := hct.out; unfold onW at this; rw [ho1, ho2] at this; simpa using this)
          clear hct c2 c3 c4 c5
          go_wp2
          go_roundw
          case rel => exact ⟨j + 1, by omega, by rw [hm.out]; try go_num, by go_num, by first | rfl | trivial⟩
          case measure => simp [intOf]; omega
      · have ho1 : (x.cl == c) = false := by simpa using ho1
        have hm : Hid (countL (L.take (j + 1)) c u = m) := Lib.hid (by have := hct.out; unfold onW at this; rw [ho1] at this; simpa using this)
        clear hct c2 c3 c4 c5
        go_wp2
        go_roundw
        case rel => exact ⟨j + 1, by omega, by rw [hm.out]; try go_num, by go_num, by first | rfl | trivial⟩
        case measure => simp [intOf]; omega
    · obtain rfl : j = L.length := by omega
      have ht : L.take L.length = L := List.take_of_length_le (Nat.le_refl _)
      rw [ht]
      clear ht
      go_wp2
      go_ret
      exact ⟨rfl, rfl⟩
theorem find_here {L : List Gr} {c : Int} {u : Bool} {i : Nat} {x : Gr} {at_ : Int} (h : L[i]? = some x) (ho : onW c u x = true) (ha : at_ = (countL (L.take i) c u : Int)) : findI L c u at_ = (i : Int) := by
  have hx : findN L c u at_ = some (x, i) := by
    unfold findN
    rw [if_neg (by omega), ha]
    have hi : i < L.length := (List.getElem?_eq_some_iff.1 h).1
    have e : L = L.take i ++ x :: L.drop (i + 1) := by
      have := List.take_append_drop i L
      rw [drop_cons h] at this
      exact this.symm
    have hw : wayL L c u = wayL (L.take i) c u ++ (x, i) :: ((L.drop (i + 1)).zipIdx (i + 1)).filter (onX c u) := by
      conv => lhs; rw [e]
      unfold wayL
      rw [List.zipIdx_append, List.filter_append, List.zipIdx_cons, List.filter_cons_of_pos (by simpa [onX] using ho)]
      rw [List.length_take, Nat.min_eq_left (by omega), Nat.zero_add]
    rw [hw]
    have hl : ((countL (L.take i) c u : Int)).toNat = (wayL (L.take i) c u).length := by rw [way_len]; rfl
    rw [hl, List.getElem?_append_right (Nat.le_refl _), Nat.sub_self]
    rfl
  unfold findI
  rw [hx]
set_option maxRecDepth 100000 in
set_option maxHeartbeats 1000000 in
theorem uplace_any (p : Nat) (M : Nat → Prop) (L : List Gr) (c : Int) (u : Bool) (at_ : Int) (w : World) (h : PQ 29 w p M L) (hlen : L.length ≤ 1000000) :
    Calls Try.prog 25 #[.pointer (some ⟨p, 0, none⟩), .int .i64 c, .bool u, .int .i64 at_] w fun e w' => e = .returned (.int .i64 (findI L c u at_)) ∧ w = w' := by
  obtain ⟨v, h⟩ := h
  have p0 := h.blk.cell 0
  have H := Lib.hid h
  obtain ⟨a, cv, rfl⟩ := own_shape h.own
  have HN0 : Hid (¬ (0 ≤ at_ ∧ at_ < (countL (L.take 0) c u : Int))) := Lib.hid (by simp [countL])
  clear h
  go_enter Try.func25, Try.ntmps25
  go_wp2_with fail
  go_loopw [9, 10] (fun tk ti wr => ∃ j : Nat, j ≤ L.length ∧ tk = .int .i64 (countL (L.take j) c u : Int) ∧ ti = .int .i64 (j : Int) ∧ wr = w ∧ Hid (¬ (0 ≤ at_ ∧ at_ < (countL (L.take j) c u : Int)))) (fun _ ti _ => L.length - (intOf ti).toNat)
  case atStart => exact ⟨0, Nat.zero_le _, rfl, rfl, rfl, HN0⟩
  case round =>
    obtain ⟨j, hj, rfl, rfl, rfl, HN⟩ := hrel
    clear HN0
    by_cases hlt : j < L.length
    · have hx : L[j]? = some L[j] := List.getElem?_eq_getElem hlt
      generalize L[j] = x at hx
      obtain ⟨g, c9, hv, hc9, _, hg, c0, c1, c2, c3, c4, c5⟩ := H.out.rowat hx
      injection hv with hv1 hv2 hv3
      subst hv1; subst hv3
      have hct := Lib.hid (count_take hx c u)
      have hcl : countL (L.take j) c u ≤ j := Nat.le_trans (count_le _ _ _) (by rw [List.length_take]; omega)
      have HX := Lib.hid hx
      clear hx hv2 c2 c3 c4 c5
      by_cases hon : onW c u x = true
      · by_cases ha : at_ = (countL (L.take j) c u : Int)
        · have HF := Lib.hid (find_here HX.out hon ha)
          have hab : ((countL (L.take j) c u : Int) == at_) = true := by simp [ha]
          unfold onW at hon
          rw [Bool.and_eq_true] at hon
          obtain ⟨ho1, ho2⟩ := hon
          have hn1 : (x.cl != c) = false := by simp at ho1 ⊢; exact ho1
          have hn2 : (x.up != u) = false := by simp at ho2 ⊢; exact ho2
          clear hct HX ha
          generalize countL (L.take j) c u = m at *
          go_wp2
          go_ret
          exact ⟨by rw [HF.out]; rfl, rfl⟩
        · have hab : ((countL (L.take j) c u : Int) == at_) = false := by simp; omega
          have hm : Hid (countL (L.take (j + 1)) c u = countL (L.take j) c u + 1) := Lib.hid (by rw [hct.out, if_pos hon])
          have HN1 : Hid (¬ (0 ≤ at_ ∧ at_ < (countL (L.take (j + 1)) c u : Int))) := Lib.hid (by rw [hm.out]; have := HN.out; omega)
          unfold onW at hon
          rw [Bool.and_eq_true] at hon
          obtain ⟨ho1, ho2⟩ := hon
          have hn1 : (x.cl != c) = false := by simp at ho1 ⊢; exact ho1
          have hn2 : (x.up != u) = false := by simp at ho2 ⊢; exact ho2
          clear hct HX ha HN
          generalize countL (L.take j) c u = m at *
          go_wp2
          go_roundw
          case rel => exact ⟨j + 1, by omega, by rw [hm.out]; try go_num, by go_num, by first | rfl | trivial, HN1⟩
          case measure => simp [intOf]; omega
      · have hm : Hid (countL (L.take (j + 1)) c u = countL (L.take j) c u) := Lib.hid (by rw [hct.out, if_neg hon]; rfl)
        have HN1 : Hid (¬ (0 ≤ at_ ∧ at_ < (countL (L.take (j + 1)) c u : Int))) := Lib.hid (by rw [hm.out]; exact HN.out)
        have hon2 : onW c u x = false := by simpa using hon
        unfold onW at hon2
        clear hct HX hon HN
        generalize countL (L.take j) c u = m at *
        by_cases ho1 : (x.cl == c) = true
        · have ho2 : (x.up == u) = false := by rw [ho1] at hon2; simpa using hon2
          have hn1 : (x.cl != c) = false := by simp at ho1 ⊢; exact ho1
          have hn2 : (x.up != u) = true := by simp at ho2 ⊢; exact ho2
          clear hon2
          go_wp2
          go_roundw
          case rel => exact ⟨j + 1, by omega, by rw [hm.out], by go_num, by first | rfl | trivial, HN1⟩
          case measure => simp [intOf]; omega
        · have hn1 : (x.cl != c) = true := by simp at ho1 ⊢; exact ho1
          have ho1 : (x.cl == c) = false := by simpa using ho1
          clear hon2
          go_wp2
          go_roundw
          case rel => exact ⟨j + 1, by omega, by rw [hm.out], by go_num, by first | rfl | trivial, HN1⟩
          case measure => simp [intOf]; omega
    · obtain rfl : j = L.length := by omega
      have hf : findI L c u at_ = -1 := find_no (by rw [way_len]; have := HN.out; rw [List.take_of_length_le (Nat.le_refl _)] at this; exact this)
      have HF := Lib.hid hf
      clear hf HN
      generalize countL (L.take L.length) c u = m at *
      go_wp2
      go_ret
      exact ⟨by rw [HF.out]; rfl, rfl⟩
/-- append of a run of a row to an own row -/
theorem wpList_cat {w : World} {ops : Array Oper} {rest : List Oper} {o : Oper} {a : Go.Act} {Q : Exit → Go.Act → World → Prop} (hgd : o.guard = none) (s x : Operand)
    (ho : o.op = .call { callee := .builtin .append, args := #[s, x], argTypes := #[27, 27] }) (B : Nat)
    (v : Value) (L : List Gr) (hs : a.eval s = v) (hown : w.ownsRow B 31 6 v L.length (gramsV L)) (ad : Addr) (m mc : Nat) (hx : a.eval x = .slice (some ad) m mc) (S : List Gr) (hS : S.length = m)
    (hc : ∀ j u, (gramsV S)[j]? = some u → w.cell? (ad.add j) = some u) (hn : L.length + m ≤ 2000000) (hB : B ≤ w.heap.size)
    (h : ∀ v' w', w'.ownsRow B 31 6 v' (L ++ S).length (gramsV (L ++ S)) → w.grownBy w' v.ownBlock → (v'.ownBlock = v.ownBlock ∨ v'.ownBlock = some w.heap.size) → wpList Try.prog ops Q rest (a.put o.dst v') w') : wpList Try.prog ops Q (o :: rest) a w := by
  obtain ⟨i0, hi, hz0, hz1, hz2⟩ := info_parts info_gram
  subst hS
  refine wpList_append_own_at w hgd s x 27 ho B 31 i0 (.agg #[.int .i64 0, .bool false, .int .i64 0, .int .i64 0, .int .i64 0, .string .empty]) 6 56 Try.underlying27 hi hz0 hz1 hz2 rfl (by decide) v L.length (gramsV L) hs hown ad S.length mc (gramsV S) hx (grams_len S) hc (grams_cell S) (by unfold maxLen; omega) (by omega) hB ?_
  intro v' w' h1 h2 _ h4
  refine h v' w' ?_ h2 h4
  rw [List.length_append, grams_app]; exact h1
theorem src_take {w : World} {g : Nat} {cur : Array Value} {L : List Gr} (hg : Blk w g 31 cur) (ht : cur.toList.take (L.length * 6) = gramsV L) (i : Nat) (hi : i ≤ L.length) : ∀ j u, (gramsV (L.take i))[j]? = some u → w.cell? ((⟨g, 0, none⟩ : Addr).add j) = some u := by
  intro j u hj
  have hl : j < i * 6 := by have := (List.getElem?_eq_some_iff.1 hj).1; rw [grams_len, List.length_take] at this; omega
  rw [Addr.add_lit, Nat.zero_add, hg.cell, ← Array.getElem?_toList]
  rw [← grams_take, ← ht, List.take_take, List.getElem?_take_of_lt (by omega)] at hj
  exact hj
theorem src_drop {w : World} {g : Nat} {cur : Array Value} {L : List Gr} (hg : Blk w g 31 cur) (ht : cur.toList.take (L.length * 6) = gramsV L) (i : Nat) : ∀ j u, (gramsV (L.drop i))[j]? = some u → w.cell? ((⟨g, i * 6, none⟩ : Addr).add j) = some u := by
  intro j u hj
  have hl : j < (L.length - i) * 6 := by have := (List.getElem?_eq_some_iff.1 hj).1; rw [grams_len, List.length_drop] at this; omega
  rw [Addr.add_lit, hg.cell, ← Array.getElem?_toList]
  rw [← grams_drop, List.getElem?_drop, ← ht, List.getElem?_take_of_lt (by omega)] at hj
  exact hj
/-- its row laid anew in new memory -/
theorem PA.anew {T : TypeId} {w w2 : World} {p : Nat} {v v' : Value} {M : Nat → Prop} {L L' : List Gr} (h : PA T w p v M L) (hb : Below w.heap.size w w2) (ho : w2.ownsRow w.heap.size 31 6 v' L'.length (gramsV L')) :
    w2.cell? ⟨p, 0, none⟩ = some v ∧ w2.frozen? ⟨p, 0, none⟩ = false ∧ PA T (w2.setCell ⟨p, 0, none⟩ v') p v' M L' ∧ Keep M w (w2.setCell ⟨p, 0, none⟩ v') := by
  have h2 := h.blk.below hb h.blk.lt
  have hs := hb.size
  have hn : v'.ownBlock ≠ some p := fun e => by
    have := own_ge ho p e
    have := h.blk.lt
    omega
  refine ⟨h2.cell 0, h2.frozen 0, ⟨by simpa using h2.set_ 0 v', own_set (own_base ho fun g _ => Nat.zero_le _) hn 0 v', hn, h.m0, fun g e hm => ?_, fun k hk => ?_⟩, ?_⟩
  · have := own_ge ho g e; have := h.lt g hm; omega
  · have := h.lt k hk; simp; omega
  · exact (Keep.of_below hb h.lt).set_ h.m0 0 v'
set_option maxRecDepth 100000 in
set_option maxHeartbeats 2000000 in
theorem udrop_any (p : Nat) (M : Nat → Prop) (L : List Gr) (k : Nat) (w : World) (h : PQ 29 w p M L) (hk : k < L.length) (hlen : L.length ≤ 1000000) :
    Calls Try.prog 26 #[.pointer (some ⟨p, 0, none⟩), .int .i64 (k : Int)] w fun e w' => e = .returned (.tuple #[]) ∧ PQ 29 w' p M (cutL L k) ∧ Keep M w w' := by
  obtain ⟨v, h⟩ := h
  have hx : L[k]? = some L[k] := List.getElem?_eq_getElem hk
  generalize L[k] = x at hx
  have hrow := h.own.2
  rcases hrow with ⟨_, h0⟩ | ⟨g, c, cur, rfl, _, hc, hn, hm, hs, ht⟩
  · omega
  obtain ⟨A, hA, hsrc⟩ : ∃ A : Addr, (if c = k + 1 then some (⟨g, 0, none⟩ : Addr) else some ⟨g, (k + 1) * 6, none⟩) = some A ∧ Hid (∀ w' : World, w'.heap[g]? = w.heap[g]? → ∀ j u, (gramsV (L.drop (k + 1)))[j]? = some u → w'.cell? (A.add j) = some u) := by
    by_cases e : c = k + 1
    · refine ⟨⟨g, 0, none⟩, by rw [if_pos e], Lib.hid fun w' hw j u hu => ?_⟩
      have := (List.getElem?_eq_some_iff.1 hu).1
      rw [grams_len, List.length_drop] at this
      omega
    · exact ⟨⟨g, (k + 1) * 6, none⟩, by rw [if_neg e], Lib.hid fun w' hw j u hu => src_drop (hw.trans hc) ht (k + 1) j u hu⟩
  have HT : Hid (∀ w' : World, w'.heap[g]? = w.heap[g]? → ∀ j u, (gramsV (L.take k))[j]? = some u → w'.cell? ((⟨g, 0, none⟩ : Addr).add j) = some u) := Lib.hid fun w' hw => src_take (hw.trans hc) ht k (by omega)
  have hgl : g < w.heap.size := (Array.getElem?_eq_some_iff.1 hc).1
  have H := Lib.hid h
  have p0 := h.blk.cell 0
  have hb := below_box w (.cells #[] 31)
  have HO0 : Hid ((w.alloc (.cells #[] 31)).ownsRow w.heap.size 31 6 (.slice (some ⟨w.heap.size, 0, none⟩) 0 0) ([] : List Gr).length (gramsV [])) := Lib.hid (own_new w _ 6)
  have HG0 : Hid ((w.alloc (.cells #[] 31)).heap[g]? = w.heap[g]?) := Lib.hid (hb.block g hgl)
  have HB0 := Lib.hid hb
  have hkc : k ≤ c := by omega
  have hkc1 : k + 1 ≤ c := by omega
  have hln : k ≤ L.length := by omega
  have hln1 : k + 1 ≤ L.length := by omega
  have hlen2 : (L.take k).length = k := by rw [List.length_take]; omega
  have hlen3 : (L.drop (k + 1)).length = L.length - (k + 1) := List.length_drop ..
  have hwn : IntKind.i64.wrap ((k : Int) + 1) = (k : Int) + 1 := by rw [IntKind.wrap_i64]; omega
  have p00 := (hb.cell (p := ⟨p, 0, none⟩) h.blk.lt).trans p0
  have HFIN1 : Hid (∀ v1 w1, w1.ownsRow w.heap.size 31 6 v1 ([] ++ L.take k).length (gramsV ([] ++ L.take k)) → (w.alloc (.cells #[] 31)).grownBy w1 (Value.slice (some ⟨w.heap.size, 0, none⟩) 0 0).ownBlock →
      (∃ a c, v1 = .slice a k c) ∧ w1.cell? ⟨p, 0, none⟩ = some (.slice (some ⟨g, 0, none⟩) L.length c) ∧ Below w.heap.size w w1 ∧ w1.ownsRow w.heap.size 31 6 v1 (L.take k).length (gramsV (L.take k)) ∧ w1.heap[g]? = w.heap[g]?) := Lib.hid fun v1 w1 ho hg => by
    have hb1 : Below w.heap.size w w1 := hb.grown hg hb.size (fun q e => by simp [Value.ownBlock] at e; omega)
    rw [List.nil_append] at ho
    obtain ⟨a, c, e⟩ := own_shape ho
    rw [hlen2] at e
    exact ⟨⟨a, c, e⟩, (hb1.cell (p := ⟨p, 0, none⟩) h.blk.lt).trans p0, hb1, ho, hb1.block g hgl⟩
  have HFIN2 : Hid (∀ v1 w1 v2 w2, Below w.heap.size w w1 → w1.ownsRow w.heap.size 31 6 v1 (L.take k).length (gramsV (L.take k)) → w2.ownsRow w.heap.size 31 6 v2 (L.take k ++ L.drop (k + 1)).length (gramsV (L.take k ++ L.drop (k + 1))) → w1.grownBy w2 v1.ownBlock →
      (∃ a n c, v2 = .slice a n c) ∧ w2.cell? ⟨p, 0, none⟩ = some (.slice (some ⟨g, 0, none⟩) L.length c) ∧ w2.frozen? ⟨p, 0, none⟩ = false ∧ PQ 29 (w2.setCell ⟨p, 0, none⟩ v2) p M (cutL L k) ∧ Keep M w (w2.setCell ⟨p, 0, none⟩ v2)) := Lib.hid fun v1 w1 v2 w2 hb1 ho1 ho2 hg2 => by
    have hb2 : Below w.heap.size w w2 := hb1.grown hg2 hb1.size (fun q e => own_ge ho1 q e)
    obtain ⟨a, c2, e⟩ := own_shape ho2
    obtain ⟨k1, k2, k3, k4⟩ := h.anew hb2 ho2
    exact ⟨⟨a, _, c2, e⟩, k1, k2, ⟨v2, k3⟩, k4⟩
  clear hc hs ht h hx hb hgl
  go_enter Try.func26, Try.ntmps26
  go_wp2_with (at_builtin; first
    | (refine wpList_cat rfl (.tmp 5) (.tmp 11) rfl w.heap.size _ [] rfl HO0.out ⟨g, 0, none⟩ k c rfl (L.take k) hlen2 (HT.out _ HG0.out) (by simp; omega) (by simp) ?_; intro v1 w1 ho1 hg1 _; have HE1 := Lib.hid (HFIN1.out v1 w1 ho1 hg1); obtain ⟨a1, c1, e1⟩ := HE1.out.1; subst e1; have p1 := HE1.out.2.1; have HC := Lib.hid (hsrc.out w1 HE1.out.2.2.2.2); have HB1 := Lib.hid HE1.out.2.2.1; have HO1 := Lib.hid HE1.out.2.2.2.1; clear HE1 ho1 hg1 p00 HO0 HG0 HB0 HT HFIN1)
    | (refine wpList_cat rfl (.tmp 14) (.tmp 21) rfl w.heap.size _ (L.take k) rfl HO1.out A (L.length - (k + 1)) (c - (k + 1)) rfl (L.drop (k + 1)) hlen3 HC.out (by simp; omega) HB1.out.size ?_; intro v2 w2 ho2 hg2 _; have HE2 := Lib.hid (HFIN2.out _ w1 v2 w2 HB1.out HO1.out ho2 hg2); obtain ⟨a2, n2, c2, e2⟩ := HE2.out.1; subst e2; have p2 := HE2.out.2.1; have f2 := HE2.out.2.2.1; clear ho2 hg2 p1))
  go_end0
  exact ⟨rfl, HE2.out.2.2.2⟩
end Go.Proofs.Ytjlmmglhgmfgiaa.Mist
