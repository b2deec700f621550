/- The document's own Known, slot, Good of an entry. -/
import Derived.Test.YtcpkngkeechjeaaEntGood
import Derived.Deep.Cut
namespace Go.Proofs.Ytcpkngkeechjeaa.Ent
set_option maxRecDepth 100000
open Go.RowKit
open Go.Proofs.Ytcpkngkeechjeaa.Slab (Blk page_cells ret_bool' ret_int' run_eq_slot run_guard_slot sameB)
open Go.Proofs.Ytcpkngkeechjeaa.Nib (below_next below_drew)
theorem known_no {c ep n : Int} (h : ¬ ((1 ≤ c ∧ c ≤ 8) ∧ (1 ≤ ep ∧ ep ≤ 1073741824) ∧ 1 ≤ n ∧ n ≤ 1073741824)) : knownB c ep n = false := by
  cases hq : knownB c ep n with
  | false => rfl
  | true => simp only [knownB, withinB, Bool.and_eq_true, decide_eq_true_eq] at hq; exact absurd ⟨hq.1.1, hq.1.2, hq.2⟩ h
set_option maxRecDepth 100000 in
set_option maxHeartbeats 1000000 in
theorem rknown_any (c ep n : Int) (w : World) :
    Calls Try.prog 33 #[.agg #[.int .i64 c, .int .i64 ep, .int .i64 n]] w fun e w' => e = .returned (.bool (knownB c ep n)) ∧ Below w.heap.size w w' := by
  have hb := below_box w (.cells #[.int .i64 c, .int .i64 ep, .int .i64 n] 24)
  obtain ⟨c0, c1, c2⟩ := three_cells w (.int .i64 c) (.int .i64 ep) (.int .i64 n) 24
  by_cases h0 : 1 ≤ c
  rotate_left
  · have H := Lib.hid (show knownB c ep n = false from known_no (by omega))
    go_enter Try.func33, Try.ntmps33
    go_wp2
    go_ret
    first | exact ⟨ret_bool' H.out.symm, hb⟩ | exact ⟨ret_bool' (by rw [H.out]; simp; try omega), hb⟩
  by_cases h1 : c ≤ 8
  rotate_left
  · have H := Lib.hid (show knownB c ep n = false from known_no (by omega))
    go_enter Try.func33, Try.ntmps33
    go_wp2
    go_ret
    first | exact ⟨ret_bool' H.out.symm, hb⟩ | exact ⟨ret_bool' (by rw [H.out]; simp; try omega), hb⟩
  by_cases h2 : 1 ≤ ep
  rotate_left
  · have H := Lib.hid (show knownB c ep n = false from known_no (by omega))
    go_enter Try.func33, Try.ntmps33
    go_wp2
    go_ret
    first | exact ⟨ret_bool' H.out.symm, hb⟩ | exact ⟨ret_bool' (by rw [H.out]; simp; try omega), hb⟩
  by_cases h3 : ep ≤ 1073741824
  rotate_left
  · have H := Lib.hid (show knownB c ep n = false from known_no (by omega))
    go_enter Try.func33, Try.ntmps33
    go_wp2
    go_ret
    first | exact ⟨ret_bool' H.out.symm, hb⟩ | exact ⟨ret_bool' (by rw [H.out]; simp; try omega), hb⟩
  by_cases h4 : 1 ≤ n
  rotate_left
  · have H := Lib.hid (show knownB c ep n = false from known_no (by omega))
    go_enter Try.func33, Try.ntmps33
    go_wp2
    go_ret
    first | exact ⟨ret_bool' H.out.symm, hb⟩ | exact ⟨ret_bool' (by rw [H.out]; simp; try omega), hb⟩
  by_cases h5 : n ≤ 1073741824
  rotate_left
  · have H := Lib.hid (show knownB c ep n = false from known_no (by omega))
    go_enter Try.func33, Try.ntmps33
    go_wp2
    go_ret
    first | exact ⟨ret_bool' H.out.symm, hb⟩ | exact ⟨ret_bool' (by rw [H.out]; simp; try omega), hb⟩
  have H := Lib.hid (show knownB c ep n = true by unfold knownB withinB; simp; omega)
  go_enter Try.func33, Try.ntmps33
  go_wp2
  go_ret
  first | exact ⟨ret_bool' H.out.symm, hb⟩ | exact ⟨ret_bool' (by rw [H.out]; simp; try omega), hb⟩

set_option maxRecDepth 100000 in
theorem rslot_any (u : Bool) (d : ByteArray) (w : World) (hd : d.size ≤ 140737488351232) :
    Calls Try.prog 34 #[.agg #[.bool u, .string d]] w fun e w' => e = .returned (.bool (fitsB u d)) ∧ Below w.heap.size w w' := by
  have hb := below_box w (.cells #[.bool u, .string d] 29)
  obtain ⟨c0, c1⟩ := page_cells w (.bool u) (.string d) 29
  by_cases h1 : d.size ≤ 200
  · cases u with
    | true =>
      have H := Lib.hid (show fitsB true d = true from decide_eq_true ⟨h1, .inl rfl⟩)
      go_enter Try.func34, Try.ntmps34
      go_wp2
      go_ret
      exact ⟨ret_bool' H.out.symm, hb⟩
    | false =>
      by_cases h2 : d.size = 0
      · have H := Lib.hid (show fitsB false d = true from decide_eq_true ⟨h1, .inr h2⟩)
        have e : d = ⟨#[]⟩ := size_zero h2
        subst e
        clear h1 h2
        go_enter Try.func34, Try.ntmps34
        go_wp2
        go_ret
        exact ⟨ret_bool' H.out.symm, hb⟩
      · have H := Lib.hid (show fitsB false d = false from decide_eq_false (by rintro ⟨_, h | h⟩; exact absurd h (by simp); exact h2 h))
        have hne : d.toList ≠ [] := by
          intro h
          have h3 : d.data.toList.length = d.size := by simp
          rw [ByteArray.toList_eq] at h
          rw [h] at h3; simp at h3; omega
        have n2 : (d.toList == []) = false := beq_eq_false_iff_ne.2 hne
        have n3 : d.toList.isEmpty = false := by cases hq : d.toList with | nil => exact absurd hq hne | cons a b => rfl
        clear h2
        go_enter Try.func34, Try.ntmps34
        go_wp2
        go_ret
        first | exact ⟨ret_bool' H.out.symm, hb⟩ | exact ⟨ret_bool' (by rw [H.out]; simp [hne]), hb⟩
  · have H := Lib.hid (show fitsB u d = false from decide_eq_false (by omega))
    go_enter Try.func34, Try.ntmps34
    go_wp2
    go_ret
    exact ⟨ret_bool' H.out.symm, hb⟩

theorem good_head {x : Ent} (h : goodB x = true) : headB x = true := by unfold goodB at h; simp only [Bool.and_eq_true] at h; exact h.1
theorem good_no {x : Ent} (h : goodB x = true → False) : goodB x = false := by cases hq : goodB x with | false => rfl | true => exact (h hq).elim
theorem good_one {x : Ent} (h : headB x = true) (hk : x.kind = 1) (hc : chB x = true) : goodB x = decide (x.next = 0) := by unfold goodB; rw [h, if_pos hk, hc]; simp
theorem good_two {x : Ent} (h : headB x = true) (hk : x.kind = 2) (hc : chB x = true) : goodB x = decide (0 ≤ x.next ∧ x.next ≤ x.prev) := by unfold goodB; rw [h, if_neg (by omega), if_pos hk, hc]; simp [withinB]
theorem good_bare {x : Ent} (h : headB x = true) (hk : x.kind = 3 ∨ x.kind = 4) : goodB x = bareB x := by unfold goodB; rw [h, if_neg (by omega), if_neg (by omega), if_pos hk]; rfl
theorem good_else {x : Ent} (h1 : ¬ x.kind = 1) (h2 : ¬ x.kind = 2) (h3 : ¬ x.kind = 3) (h4 : ¬ x.kind = 4) : goodB x = false := good_no fun h => by have := kind_fits h; omega
theorem bare_eq (x : Ent) : bareB x = ((x.page == 0) && ((x.slot == 0) && ((x.next == 0) && (sameB ⟨x.wu, x.wd⟩ ⟨false, ⟨#[]⟩⟩ && sameB ⟨x.iu, x.id⟩ ⟨false, ⟨#[]⟩⟩)))) := by
  have hs : ∀ (u : Bool) (d : ByteArray), sameB ⟨u, d⟩ ⟨false, ⟨#[]⟩⟩ = decide (u = false ∧ d.size = 0) := fun u d => by
    by_cases h : u = false ∧ d.size = 0
    · rw [decide_eq_true h, Slab.sameB_iff, h.1, size_zero h.2]
    · rw [decide_eq_false h]
      apply Slab.sameB_not
      intro e
      injection e with e1 e2
      exact h ⟨e1, by rw [e2]; rfl⟩
  rw [hs, hs]
  unfold bareB
  rw [Bool.eq_iff_iff]
  simp only [decide_eq_true_eq, Bool.and_eq_true, beq_iff_eq]
  exact ⟨fun ⟨a, b, c, d, e, f, g⟩ => ⟨a, b, g, ⟨c, d⟩, e, f⟩, fun ⟨a, b, g, ⟨c, d⟩, e, f⟩ => ⟨a, b, c, d, e, f, g⟩⟩
set_option maxRecDepth 100000 in
set_option maxHeartbeats 8000000 in
theorem rgood_any (x : Ent) (w : World) (hx : Small x) :
    Calls Try.prog 20 #[.agg #[.int .i64 x.kind, .int .i64 x.cl, .int .i64 x.ep, .int .i64 x.n, .int .i64 x.lsn, .int .i64 x.prev, .int .i64 x.page, .int .i64 x.slot, .bool x.wu, .string x.wd, .bool x.iu, .string x.id, .int .i64 x.next]] w fun e w' => e = .returned (.bool (goodB x)) ∧ Below w.heap.size w w' := by
  have hb := below_box w (.cells #[.int .i64 x.kind, .int .i64 x.cl, .int .i64 x.ep, .int .i64 x.n, .int .i64 x.lsn, .int .i64 x.prev, .int .i64 x.page, .int .i64 x.slot, .bool x.wu, .string x.wd, .bool x.iu, .string x.id, .int .i64 x.next] 31)
  have hg := alloc_lt w (.cells #[.int .i64 x.kind, .int .i64 x.cl, .int .i64 x.ep, .int .i64 x.n, .int .i64 x.lsn, .int .i64 x.prev, .int .i64 x.page, .int .i64 x.slot, .bool x.wu, .string x.wd, .bool x.iu, .string x.id, .int .i64 x.next] 31)
  have hB := Blk.new w 31 #[.int .i64 x.kind, .int .i64 x.cl, .int .i64 x.ep, .int .i64 x.n, .int .i64 x.lsn, .int .i64 x.prev, .int .i64 x.page, .int .i64 x.slot, .bool x.wu, .string x.wd, .bool x.iu, .string x.id, .int .i64 x.next]
  obtain ⟨hx1, hx2⟩ := hx
  go_enter Try.func20, Try.ntmps20
  go_upto_region 1 with (fail)
  generalize hGen : w.alloc (.cells #[.int .i64 x.kind, .int .i64 x.cl, .int .i64 x.ep, .int .i64 x.n, .int .i64 x.lsn, .int .i64 x.prev, .int .i64 x.page, .int .i64 x.slot, .bool x.wu, .string x.wd, .bool x.iu, .string x.id, .int .i64 x.next] 31) = W at hb hg hB ⊢
  clear hGen
  obtain ⟨c0, c1, c2, c3, c4, c5, c6, c7, c8, c9, c10, c11, c12⟩ := ent_cells hB
  go_wp2_with fail
  refine (rknown_any x.cl x.ep x.n _).mono ?_
  rintro e w1 ⟨rfl, b1⟩
  have hB1 := hB.below b1 hg
  have hb1 := below_next hb b1
  have hg1 : w.heap.size < w1.heap.size := Nat.lt_of_lt_of_le hg b1.size
  obtain ⟨d0, d1, d2, d3, d4, d5, d6, d7, d8, d9, d10, d11, d12⟩ := ent_cells hB1
  clear c0 c1 c2 c3 c4 c5 c6 c7 c8 c9 c10 c11 c12 hB hb hg b1
  cases hk : knownB x.cl x.ep x.n with
  | false =>
    have H := Lib.hid (show goodB x = false by unfold goodB headB; rw [hk]; rfl)
    clear hk
    go_wp2
    go_ret
    exact ⟨ret_bool' H.out.symm, hb1⟩
  | true =>
    have HK := Lib.hid hk
    clear hk
    by_cases a0 : 1 ≤ x.lsn
    rotate_left
    · have H := Lib.hid (show goodB x = false from good_no fun h => by have := head_parts (good_head h); omega)
      go_wp2
      go_ret
      first | exact ⟨ret_bool' H.out.symm, hb1⟩ | exact ⟨ret_bool' (by rw [H.out]; simp; try omega), hb1⟩
    by_cases a1 : x.lsn ≤ 1099511627776
    rotate_left
    · have H := Lib.hid (show goodB x = false from good_no fun h => by have := head_parts (good_head h); omega)
      go_wp2
      go_ret
      first | exact ⟨ret_bool' H.out.symm, hb1⟩ | exact ⟨ret_bool' (by rw [H.out]; simp; try omega), hb1⟩
    by_cases a2 : 0 ≤ x.prev
    rotate_left
    · have H := Lib.hid (show goodB x = false from good_no fun h => by have := head_parts (good_head h); omega)
      go_wp2
      go_ret
      first | exact ⟨ret_bool' H.out.symm, hb1⟩ | exact ⟨ret_bool' (by rw [H.out]; simp; try omega), hb1⟩
    by_cases a3 : x.prev < x.lsn
    rotate_left
    · have H := Lib.hid (show goodB x = false from good_no fun h => by have := head_parts (good_head h); omega)
      go_wp2
      go_ret
      first | exact ⟨ret_bool' H.out.symm, hb1⟩ | exact ⟨ret_bool' (by rw [H.out]; simp; try omega), hb1⟩
    have HH := Lib.hid (show headB x = true by unfold headB withinB; rw [HK.out]; simp; omega)
    by_cases k1 : x.kind = 1
    · have t1 : (x.kind == 1) = true := by simpa using k1
      have HKK := Lib.hid k1
      by_cases r0 : 0 ≤ x.page
      rotate_left
      · have H := Lib.hid (show goodB x = false from good_no fun h => by have := ch_parts (good_long h (decide_eq_true (.inl HKK.out))).2.1; omega)
        clear k1
        go_wp2
        go_ret
        first | exact ⟨ret_bool' H.out.symm, hb1⟩ | exact ⟨ret_bool' (by rw [H.out]; simp; try omega), hb1⟩
      by_cases r1 : x.page ≤ 1023
      rotate_left
      · have H := Lib.hid (show goodB x = false from good_no fun h => by have := ch_parts (good_long h (decide_eq_true (.inl HKK.out))).2.1; omega)
        clear k1
        go_wp2
        go_ret
        first | exact ⟨ret_bool' H.out.symm, hb1⟩ | exact ⟨ret_bool' (by rw [H.out]; simp; try omega), hb1⟩
      by_cases r2 : 0 ≤ x.slot
      rotate_left
      · have H := Lib.hid (show goodB x = false from good_no fun h => by have := ch_parts (good_long h (decide_eq_true (.inl HKK.out))).2.1; omega)
        clear k1
        go_wp2
        go_ret
        first | exact ⟨ret_bool' H.out.symm, hb1⟩ | exact ⟨ret_bool' (by rw [H.out]; simp; try omega), hb1⟩
      by_cases r3 : x.slot ≤ 31
      rotate_left
      · have H := Lib.hid (show goodB x = false from good_no fun h => by have := ch_parts (good_long h (decide_eq_true (.inl HKK.out))).2.1; omega)
        clear k1
        go_wp2
        go_ret
        first | exact ⟨ret_bool' H.out.symm, hb1⟩ | exact ⟨ret_bool' (by rw [H.out]; simp; try omega), hb1⟩
      clear k1
      go_wp2_with fail
      refine (rslot_any x.wu x.wd _ hx1).mono ?_
      rintro e w2 ⟨rfl, bw2⟩
      have hB2 := hB1.below bw2 hg1
      have hb2 := below_next hb1 bw2
      have hg2 : w.heap.size < w2.heap.size := Nat.lt_of_lt_of_le hg1 bw2.size
      obtain ⟨e0, e1, e2, e3, e4, e5, e6, e7, e8, e9, e10, e11, e12⟩ := ent_cells hB2
      clear bw2
      cases hf_was : fitsB x.wu x.wd with
      | false =>
        have H := Lib.hid (show goodB x = false from good_no fun h => by have := (ch_parts (good_long h (decide_eq_true (.inl HKK.out))).2.1).2.2.1; rw [hf_was] at this; exact absurd this (by simp))
        clear hf_was
        go_wp2
        go_ret
        first | exact ⟨ret_bool' H.out.symm, hb2⟩ | exact ⟨ret_bool' (by rw [H.out]; simp; try omega), hb2⟩
      | true =>
        have HF_was := Lib.hid hf_was
        clear hf_was
        go_wp2_with fail
        refine (rslot_any x.iu x.id _ hx2).mono ?_
        rintro e w3 ⟨rfl, bw3⟩
        have hB3 := hB2.below bw3 hg2
        have hb3 := below_next hb2 bw3
        have hg3 : w.heap.size < w3.heap.size := Nat.lt_of_lt_of_le hg2 bw3.size
        obtain ⟨f0, f1, f2, f3, f4, f5, f6, f7, f8, f9, f10, f11, f12⟩ := ent_cells hB3
        clear bw3
        cases hf_is : fitsB x.iu x.id with
        | false =>
          have H := Lib.hid (show goodB x = false from good_no fun h => by have := (ch_parts (good_long h (decide_eq_true (.inl HKK.out))).2.1).2.2.2; rw [hf_is] at this; exact absurd this (by simp))
          clear hf_is
          go_wp2
          go_ret
          first | exact ⟨ret_bool' H.out.symm, hb3⟩ | exact ⟨ret_bool' (by rw [H.out]; simp; try omega), hb3⟩
        | true =>
          have HF_is := Lib.hid hf_is
          clear hf_is
          have HC := Lib.hid (show chB x = true by unfold chB withinB; rw [HF_was.out, HF_is.out]; simp; omega)
          by_cases n0 : x.next = 0
          · have t2 : (x.next == 0) = true := by simpa using n0
            have H := Lib.hid (show goodB x = true by rw [good_one HH.out HKK.out HC.out, decide_eq_true n0])
            clear n0
            go_wp2
            go_ret
            first | exact ⟨ret_bool' H.out.symm, hb3⟩ | exact ⟨ret_bool' (by rw [H.out]; simp; try omega), hb3⟩
          · have t2 := not_eq_of n0
            have H := Lib.hid (show goodB x = false by rw [good_one HH.out HKK.out HC.out, decide_eq_false n0])
            have t3 : (x.kind == 2) = false := by rw [HKK.out]; rfl
            clear n0
            go_wp2
            go_ret
            first | exact ⟨ret_bool' H.out.symm, hb3⟩ | exact ⟨ret_bool' (by rw [H.out]; simp; try omega), hb3⟩
    · have t1 := not_eq_of k1
      by_cases k2 : x.kind = 2
      · have t3 : (x.kind == 2) = true := by simpa using k2
        clear k1
        have HKK := Lib.hid k2
        by_cases r0 : 0 ≤ x.page
        rotate_left
        · have H := Lib.hid (show goodB x = false from good_no fun h => by have := ch_parts (good_long h (decide_eq_true (.inr HKK.out))).2.1; omega)
          clear k2
          go_wp2
          go_ret
          first | exact ⟨ret_bool' H.out.symm, hb1⟩ | exact ⟨ret_bool' (by rw [H.out]; simp; try omega), hb1⟩
        by_cases r1 : x.page ≤ 1023
        rotate_left
        · have H := Lib.hid (show goodB x = false from good_no fun h => by have := ch_parts (good_long h (decide_eq_true (.inr HKK.out))).2.1; omega)
          clear k2
          go_wp2
          go_ret
          first | exact ⟨ret_bool' H.out.symm, hb1⟩ | exact ⟨ret_bool' (by rw [H.out]; simp; try omega), hb1⟩
        by_cases r2 : 0 ≤ x.slot
        rotate_left
        · have H := Lib.hid (show goodB x = false from good_no fun h => by have := ch_parts (good_long h (decide_eq_true (.inr HKK.out))).2.1; omega)
          clear k2
          go_wp2
          go_ret
          first | exact ⟨ret_bool' H.out.symm, hb1⟩ | exact ⟨ret_bool' (by rw [H.out]; simp; try omega), hb1⟩
        by_cases r3 : x.slot ≤ 31
        rotate_left
        · have H := Lib.hid (show goodB x = false from good_no fun h => by have := ch_parts (good_long h (decide_eq_true (.inr HKK.out))).2.1; omega)
          clear k2
          go_wp2
          go_ret
          first | exact ⟨ret_bool' H.out.symm, hb1⟩ | exact ⟨ret_bool' (by rw [H.out]; simp; try omega), hb1⟩
        clear k2
        go_wp2_with fail
        refine (rslot_any x.wu x.wd _ hx1).mono ?_
        rintro e w2 ⟨rfl, bw2⟩
        have hB2 := hB1.below bw2 hg1
        have hb2 := below_next hb1 bw2
        have hg2 : w.heap.size < w2.heap.size := Nat.lt_of_lt_of_le hg1 bw2.size
        obtain ⟨e0, e1, e2, e3, e4, e5, e6, e7, e8, e9, e10, e11, e12⟩ := ent_cells hB2
        clear bw2
        cases hf_was : fitsB x.wu x.wd with
        | false =>
          have H := Lib.hid (show goodB x = false from good_no fun h => by have := (ch_parts (good_long h (decide_eq_true (.inr HKK.out))).2.1).2.2.1; rw [hf_was] at this; exact absurd this (by simp))
          clear hf_was
          go_wp2
          go_ret
          first | exact ⟨ret_bool' H.out.symm, hb2⟩ | exact ⟨ret_bool' (by rw [H.out]; simp; try omega), hb2⟩
        | true =>
          have HF_was := Lib.hid hf_was
          clear hf_was
          go_wp2_with fail
          refine (rslot_any x.iu x.id _ hx2).mono ?_
          rintro e w3 ⟨rfl, bw3⟩
          have hB3 := hB2.below bw3 hg2
          have hb3 := below_next hb2 bw3
          have hg3 : w.heap.size < w3.heap.size := Nat.lt_of_lt_of_le hg2 bw3.size
          obtain ⟨f0, f1, f2, f3, f4, f5, f6, f7, f8, f9, f10, f11, f12⟩ := ent_cells hB3
          clear bw3
          cases hf_is : fitsB x.iu x.id with
          | false =>
            have H := Lib.hid (show goodB x = false from good_no fun h => by have := (ch_parts (good_long h (decide_eq_true (.inr HKK.out))).2.1).2.2.2; rw [hf_is] at this; exact absurd this (by simp))
            clear hf_is
            go_wp2
            go_ret
            first | exact ⟨ret_bool' H.out.symm, hb3⟩ | exact ⟨ret_bool' (by rw [H.out]; simp; try omega), hb3⟩
          | true =>
            have HF_is := Lib.hid hf_is
            clear hf_is
            have HC := Lib.hid (show chB x = true by unfold chB withinB; rw [HF_was.out, HF_is.out]; simp; omega)
            by_cases n0 : x.next = 0
            · have t2 : (x.next == 0) = true := by simpa using n0
              have H := Lib.hid (show goodB x = true by rw [good_two HH.out HKK.out HC.out, decide_eq_true (by omega)])
              clear n0
              go_wp2
              go_ret
              first | exact ⟨ret_bool' H.out.symm, hb3⟩ | exact ⟨ret_bool' (by rw [H.out]; simp; try omega), hb3⟩
            · have t2 := not_eq_of n0
              by_cases n1 : 0 < x.next
              · by_cases n2 : x.next ≤ x.prev
                · have H := Lib.hid (show goodB x = true by rw [good_two HH.out HKK.out HC.out, decide_eq_true (by omega)])
                  clear n0
                  go_wp2
                  go_ret
                  first | exact ⟨ret_bool' H.out.symm, hb3⟩ | exact ⟨ret_bool' (by rw [H.out]; simp; try omega), hb3⟩
                · have H := Lib.hid (show goodB x = false by rw [good_two HH.out HKK.out HC.out, decide_eq_false (by omega)])
                  clear n0
                  go_wp2
                  go_ret
                  first | exact ⟨ret_bool' H.out.symm, hb3⟩ | exact ⟨ret_bool' (by rw [H.out]; simp; try omega), hb3⟩
              · have H := Lib.hid (show goodB x = false by rw [good_two HH.out HKK.out HC.out, decide_eq_false (by omega)])
                clear n0
                go_wp2
                go_ret
                first | exact ⟨ret_bool' H.out.symm, hb3⟩ | exact ⟨ret_bool' (by rw [H.out]; simp; try omega), hb3⟩
      · have t3 := not_eq_of k2
        have hq1 : ∀ w, (binOp .eql 29 (.agg #[.bool x.wu, .string x.wd]) (.agg #[.bool false, .string ⟨#[]⟩])).run Try.prog w = .ok (.bool (sameB ⟨x.wu, x.wd⟩ ⟨false, ⟨#[]⟩⟩)) w := fun w => run_eq_slot x.wu false x.wd ⟨#[]⟩ w
        have hq2 : ∀ w, (binOp .eql 29 (.agg #[.bool x.iu, .string x.id]) (.agg #[.bool false, .string ⟨#[]⟩])).run Try.prog w = .ok (.bool (sameB ⟨x.iu, x.id⟩ ⟨false, ⟨#[]⟩⟩)) w := fun w => run_eq_slot x.iu false x.id ⟨#[]⟩ w
        have hgd := fun (A B : Operand) xs ys w => run_guard_slot .eql A B xs ys w
        by_cases k3 : x.kind = 3 ∨ x.kind = 4
        · have HG := Lib.hid (show goodB x = _ from (good_bare HH.out k3).trans (bare_eq x))
          have hkk : ((x.kind == 3) = true) ∨ ((x.kind == 3) = false ∧ (x.kind == 4) = true) := by rcases k3 with k | k; left; simpa using k; right; rw [k]; exact ⟨rfl, rfl⟩
          have hb2 := below_next hb1 (below_box w1 (.cells #[.bool false, .string ⟨#[]⟩] 29))
          have hB2 := hB1.alloc (.cells #[.bool false, .string ⟨#[]⟩] 29)
          obtain ⟨z0, z1⟩ := page_cells w1 (.bool false) (.string ⟨#[]⟩) 29
          obtain ⟨e0, e1, e2, e3, e4, e5, e6, e7, e8, e9, e10, e11, e12⟩ := ent_cells hB2
          generalize sameB ⟨x.wu, x.wd⟩ ⟨false, ⟨#[]⟩⟩ = q1 at hq1 HG
          generalize sameB ⟨x.iu, x.id⟩ ⟨false, ⟨#[]⟩⟩ = q2 at hq2 HG
          clear k1 k2 k3
          rcases hkk with t4 | ⟨t4, t5⟩
          all_goals
            by_cases m0 : (x.page == 0) = true
            rotate_left
            · have m0 : (x.page == 0) = false := by simpa using m0
              go_wp2
              go_ret
              exact ⟨ret_bool' (by rw [HG.out]; simp [*]), hb2⟩
            by_cases m1 : (x.slot == 0) = true
            rotate_left
            · have m1 : (x.slot == 0) = false := by simpa using m1
              go_wp2
              go_ret
              exact ⟨ret_bool' (by rw [HG.out]; simp [*]), hb2⟩
            by_cases m2 : (x.next == 0) = true
            rotate_left
            · have m2 : (x.next == 0) = false := by simpa using m2
              go_wp2
              go_ret
              exact ⟨ret_bool' (by rw [HG.out]; simp [*]), hb2⟩
            cases q1 with
            | false =>
              go_wp2
              go_ret
              exact ⟨ret_bool' (by rw [HG.out]; simp [*]), hb2⟩
            | true =>
              go_wp2
              go_ret
              exact ⟨ret_bool' (by rw [HG.out]; simp [*]), hb2⟩
        · have t4 : (x.kind == 3) = false := not_eq_of fun h => k3 (.inl h)
          have t5 : (x.kind == 4) = false := not_eq_of fun h => k3 (.inr h)
          have H := Lib.hid (show goodB x = false from good_else k1 k2 (fun h => k3 (.inl h)) (fun h => k3 (.inr h)))
          clear k1 k2 k3
          go_wp2
          go_ret
          first | exact ⟨ret_bool' H.out.symm, hb1⟩ | exact ⟨ret_bool' (by rw [H.out]; simp; try omega), hb1⟩
end Go.Proofs.Ytcpkngkeechjeaa.Ent
