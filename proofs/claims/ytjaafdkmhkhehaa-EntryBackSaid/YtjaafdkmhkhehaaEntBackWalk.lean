/- The walk of the statement EntryBack. -/
import Derived.Test.YtjaafdkmhkhehaaEntOneWalk
namespace Go.Proofs.Ytjaafdkmhkhehaa.Ent
open Go.RowKit
open Go.Proofs.Ytjaafdkmhkhehaa.Slab (Blk ret_int' ret_bool')
open Go.Proofs.Ytjaafdkmhkhehaa.Nib (below_next below_drew enc encStr Fits)

theorem enc_bad {x : Ent} (h : goodB x = false) : encE x = ⟨#[]⟩ ∧ codeE x = 1 ∧ costE x = 0 := by unfold encE codeE costE; rw [h]; exact ⟨rfl, rfl, rfl⟩
theorem enc_good {x : Ent} (h : goodB x = true) : encE x = arr (rawL x) ∧ codeE x = 0 := by unfold encE codeE; rw [h]; exact ⟨rfl, rfl⟩
theorem cut_list (l : List UInt8) (n : Nat) : ((arr l).extract 0 n).toList = l.take n := by rw [ByteArray.toList_eq, ← Nib.str_take]; simp [arr]
/-- the begin of two entries, held against one another -/
theorem heads_apart {x y : Ent} (hx : goodB x = true) (hy : goodB y = true) {n : Nat} (hn : n = min (arr (rawL x)).size (arr (rawL y)).size) :
    (((arr (rawL x)).extract 0 n).toList == ((arr (rawL y)).extract 0 n).toList) = sameE x y := by
  rw [cut_list, cut_list]
  rw [arr_size, arr_size] at hn
  by_cases h : x = y
  · subst h; rw [sameE_refl]; simp
  · rw [sameE_not h]
    apply beq_eq_false_iff_ne.2
    intro e
    apply h
    rcases Nat.le_total (rawL x).length (rawL y).length with hl | hl
    · have h1 : n = (rawL x).length := by omega
      rw [h1, List.take_length] at e
      refine (raw_apart hy hx (t := (rawL y).drop (rawL x).length) ?_).symm
      have h2 := List.take_append_drop (rawL x).length (rawL y)
      rw [← e] at h2
      exact h2.symm
    · have h1 : n = (rawL y).length := by omega
      rw [h1, List.take_length] at e
      refine raw_apart hx hy (t := (rawL x).drop (rawL y).length) ?_
      have h2 := List.take_append_drop (rawL y).length (rawL x)
      rw [e] at h2
      exact h2.symm

set_option maxRecDepth 100000 in
set_option maxHeartbeats 8000000 in
theorem back_walk (x y : Ent) (s : ByteArray) (w : World) (hx : Small x) (hy : Small y) (hs : s.size ≤ 140737488351232) :
    Calls Try.prog 8 #[.agg #[.int .i64 x.kind, .int .i64 x.cl, .int .i64 x.ep, .int .i64 x.n, .int .i64 x.lsn, .int .i64 x.prev, .int .i64 x.page, .int .i64 x.slot, .bool x.wu, .string x.wd, .bool x.iu, .string x.id, .int .i64 x.next], .agg #[.int .i64 y.kind, .int .i64 y.cl, .int .i64 y.ep, .int .i64 y.n, .int .i64 y.lsn, .int .i64 y.prev, .int .i64 y.page, .int .i64 y.slot, .bool y.wu, .string y.wd, .bool y.iu, .string y.id, .int .i64 y.next], .string s] w fun e w' => e = .returned (.bool true) ∧ Below w.heap.size w w' := by
  have hb := below_next (below_box w (.cells #[.int .i64 x.kind, .int .i64 x.cl, .int .i64 x.ep, .int .i64 x.n, .int .i64 x.lsn, .int .i64 x.prev, .int .i64 x.page, .int .i64 x.slot, .bool x.wu, .string x.wd, .bool x.iu, .string x.id, .int .i64 x.next] 47)) (below_box (w.alloc (.cells #[.int .i64 x.kind, .int .i64 x.cl, .int .i64 x.ep, .int .i64 x.n, .int .i64 x.lsn, .int .i64 x.prev, .int .i64 x.page, .int .i64 x.slot, .bool x.wu, .string x.wd, .bool x.iu, .string x.id, .int .i64 x.next] 47)) (.cells #[.int .i64 y.kind, .int .i64 y.cl, .int .i64 y.ep, .int .i64 y.n, .int .i64 y.lsn, .int .i64 y.prev, .int .i64 y.page, .int .i64 y.slot, .bool y.wu, .string y.wd, .bool y.iu, .string y.id, .int .i64 y.next] 47))
  have hX := (Blk.new w 47 #[.int .i64 x.kind, .int .i64 x.cl, .int .i64 x.ep, .int .i64 x.n, .int .i64 x.lsn, .int .i64 x.prev, .int .i64 x.page, .int .i64 x.slot, .bool x.wu, .string x.wd, .bool x.iu, .string x.id, .int .i64 x.next]).alloc (.cells #[.int .i64 y.kind, .int .i64 y.cl, .int .i64 y.ep, .int .i64 y.n, .int .i64 y.lsn, .int .i64 y.prev, .int .i64 y.page, .int .i64 y.slot, .bool y.wu, .string y.wd, .bool y.iu, .string y.id, .int .i64 y.next] 47)
  have hY := Blk.new (w.alloc (.cells #[.int .i64 x.kind, .int .i64 x.cl, .int .i64 x.ep, .int .i64 x.n, .int .i64 x.lsn, .int .i64 x.prev, .int .i64 x.page, .int .i64 x.slot, .bool x.wu, .string x.wd, .bool x.iu, .string x.id, .int .i64 x.next] 47)) 47 #[.int .i64 y.kind, .int .i64 y.cl, .int .i64 y.ep, .int .i64 y.n, .int .i64 y.lsn, .int .i64 y.prev, .int .i64 y.page, .int .i64 y.slot, .bool y.wu, .string y.wd, .bool y.iu, .string y.id, .int .i64 y.next]
  rw [World.size_alloc] at hY
  have hg : w.heap.size + 1 < ((w.alloc (.cells #[.int .i64 x.kind, .int .i64 x.cl, .int .i64 x.ep, .int .i64 x.n, .int .i64 x.lsn, .int .i64 x.prev, .int .i64 x.page, .int .i64 x.slot, .bool x.wu, .string x.wd, .bool x.iu, .string x.id, .int .i64 x.next] 47)).alloc (.cells #[.int .i64 y.kind, .int .i64 y.cl, .int .i64 y.ep, .int .i64 y.n, .int .i64 y.lsn, .int .i64 y.prev, .int .i64 y.page, .int .i64 y.slot, .bool y.wu, .string y.wd, .bool y.iu, .string y.id, .int .i64 y.next] 47)).heap.size := by simp
  have HS := Lib.hid hx
  have HT := Lib.hid hy
  clear hx hy
  go_enter Try.func8, Try.ntmps8
  go_upto_region 1 with (fail)
  generalize hGen : (w.alloc (.cells #[.int .i64 x.kind, .int .i64 x.cl, .int .i64 x.ep, .int .i64 x.n, .int .i64 x.lsn, .int .i64 x.prev, .int .i64 x.page, .int .i64 x.slot, .bool x.wu, .string x.wd, .bool x.iu, .string x.id, .int .i64 x.next] 47)).alloc (.cells #[.int .i64 y.kind, .int .i64 y.cl, .int .i64 y.ep, .int .i64 y.n, .int .i64 y.lsn, .int .i64 y.prev, .int .i64 y.page, .int .i64 y.slot, .bool y.wu, .string y.wd, .bool y.iu, .string y.id, .int .i64 y.next] 47) = W at hb hX hY hg ⊢
  clear hGen
  have hgx : w.heap.size < W.heap.size := by omega
  have HB := Lib.hid hb
  have HX := Lib.hid hX
  have HY := Lib.hid hY
  clear hb hX hY
  go_wp2_with fail
  refine (awake_any _).mono ?_
  rintro e w1 ⟨rfl, b1⟩
  have hX1 := HX.out.below b1 hgx
  have hY1 := HY.out.below b1 hg
  have HB1 := Lib.hid (below_next HB.out b1)
  have hg1 : w.heap.size + 1 < w1.heap.size := Nat.lt_of_lt_of_le hg b1.size
  clear b1 HB HX HY hg hgx
  obtain ⟨c0, c1, c2, c3, c4, c5, c6, c7, c8, c9, c10, c11, c12⟩ := ent_cells hX1
  obtain ⟨d0, d1, d2, d3, d4, d5, d6, d7, d8, d9, d10, d11, d12⟩ := ent_cells hY1
  go_wp2_with fail
  refine (great_any x _ HS.out).mono ?_
  rintro e w2 ⟨rfl, b2⟩
  have hX2 := hX1.below b2 (by omega)
  have hY2 := hY1.below b2 hg1
  have HB2 := Lib.hid (below_next HB1.out b2)
  have hg2 : w.heap.size + 1 < w2.heap.size := Nat.lt_of_lt_of_le hg1 b2.size
  clear b2 HB1 hg1 hX1 hY1 c0 c1 c2 c3 c4 c5 c6 c7 c8 c9 c10 c11 c12 d0 d1 d2 d3 d4 d5 d6 d7 d8 d9 d10 d11 d12
  cases hgr : greatB x with
  | true =>
    clear hgr
    go_wp2
    go_ret
    exact ⟨rfl, HB2.out⟩
  | false =>
    clear hgr
    obtain ⟨d0, d1, d2, d3, d4, d5, d6, d7, d8, d9, d10, d11, d12⟩ := ent_cells hY2
    go_wp2_with fail
    refine (great_any y _ HT.out).mono ?_
    rintro e w3 ⟨rfl, b3⟩
    have hX3 := hX2.below b3 (by omega)
    have hY3 := hY2.below b3 hg2
    have HB3 := Lib.hid (below_next HB2.out b3)
    have hg3 : w.heap.size + 1 < w3.heap.size := Nat.lt_of_lt_of_le hg2 b3.size
    clear b3 HB2 hg2 hX2 hY2 d0 d1 d2 d3 d4 d5 d6 d7 d8 d9 d10 d11 d12
    cases hgr : greatB y with
    | true =>
      clear hgr
      go_wp2
      go_ret
      exact ⟨rfl, HB3.out⟩
    | false =>
      clear hgr
      by_cases hbig : (4096 : Int) < (s.size : Int)
      · go_wp2
        go_ret
        exact ⟨rfl, HB3.out⟩
      · obtain ⟨c0, c1, c2, c3, c4, c5, c6, c7, c8, c9, c10, c11, c12⟩ := ent_cells hX3
        cases hgd : goodB x with
        | false =>
          obtain ⟨e1, e2, e3⟩ := enc_bad hgd
          have hE := fun w => encode_any x w HS.out
          rw [e1, e2] at hE
          have hG := fun w => good_any x w HS.out
          rw [hgd] at hG
          have hC := fun w => cost_any x w HS.out
          rw [e3] at hC
          have HE := Lib.hid hE
          have HG := Lib.hid hG
          have HC := Lib.hid hC
          clear hgd e1 e2 e3 hE hG hC
          go_wp2_with fail
          refine (HE.out _).mono ?_
          rintro e w4 ⟨rfl, b4⟩
          have hX4 := hX3.below b4 (by omega)
          have HB4 := Lib.hid (below_next HB3.out b4)
          have hg4 : w.heap.size + 1 < w4.heap.size := Nat.lt_of_lt_of_le hg3 b4.size
          clear b4 HB3 c0 c1 c2 c3 c4 c5 c6 c7 c8 c9 c10 c11 c12 hX3 hY3
          obtain ⟨c0, c1, c2, c3, c4, c5, c6, c7, c8, c9, c10, c11, c12⟩ := ent_cells hX4
          go_wp2_with fail
          refine (HG.out _).mono ?_
          rintro e w5 ⟨rfl, b5⟩
          have hX5 := hX4.below b5 (by omega)
          have HB5 := Lib.hid (below_next HB4.out b5)
          clear b5 HB4 c0 c1 c2 c3 c4 c5 c6 c7 c8 c9 c10 c11 c12 hX4
          obtain ⟨c0, c1, c2, c3, c4, c5, c6, c7, c8, c9, c10, c11, c12⟩ := ent_cells hX5
          go_wp2_with fail
          refine (HC.out _).mono ?_
          rintro e w6 ⟨rfl, b6⟩
          go_wp2
          go_ret
          exact ⟨rfl, below_next HB5.out b6⟩
        | true =>
          obtain ⟨e1, e2⟩ := enc_good hgd
          have hE := fun w => encode_any x w HS.out
          rw [e1, e2] at hE
          have hG := fun w => good_any x w HS.out
          rw [hgd] at hG
          obtain ⟨l1, l2⟩ := raw_len hgd
          have hts : (arr (rawL x)).size = (rawL x).length := arr_size _
          have hD : ∀ w, Calls Try.prog 34 #[.string (arr (rawL x) ++ s)] w fun e w' => e = .returned (.tuple #[.agg #[.int .i64 x.kind, .int .i64 x.cl, .int .i64 x.ep, .int .i64 x.n, .int .i64 x.lsn, .int .i64 x.prev, .int .i64 x.page, .int .i64 x.slot, .bool x.wu, .string x.wd, .bool x.iu, .string x.id, .int .i64 x.next], .string s, .int .i64 0]) ∧ Below w.heap.size w w' := fun w => decode_is (by rw [app_list, arr_list]; exact dec_back hgd _) w (by rw [ByteArray.size_append]; omega)
          have HE := Lib.hid hE
          have HG := Lib.hid hG
          have HD := Lib.hid hD
          have HGX := Lib.hid hgd
          clear hgd e1 e2 hE hG hD
          go_wp2_with fail
          refine (HE.out _).mono ?_
          rintro e w4 ⟨rfl, b4⟩
          have hX4 := hX3.below b4 (by omega)
          have hY4 := hY3.below b4 (by omega)
          have HB4 := Lib.hid (below_next HB3.out b4)
          have hg4 : w.heap.size + 1 < w4.heap.size := Nat.lt_of_lt_of_le hg3 b4.size
          clear b4 HB3 c0 c1 c2 c3 c4 c5 c6 c7 c8 c9 c10 c11 c12 hX3 hY3
          obtain ⟨c0, c1, c2, c3, c4, c5, c6, c7, c8, c9, c10, c11, c12⟩ := ent_cells hX4
          go_wp2_with fail
          refine (HG.out _).mono ?_
          rintro e w5 ⟨rfl, b5⟩
          have hX5 := hX4.below b5 (by omega)
          have hY5 := hY4.below b5 (by omega)
          have HB5 := Lib.hid (below_next HB4.out b5)
          have hg5 : w.heap.size + 1 < w5.heap.size := Nat.lt_of_lt_of_le hg4 b5.size
          clear b5 HB4 c0 c1 c2 c3 c4 c5 c6 c7 c8 c9 c10 c11 c12 hX4 hY4
          have hz1 : (arr (rawL x)).size ≤ 464 := by omega
          go_wp2_with fail
          refine (HD.out _).mono ?_
          rintro e w6 ⟨rfl, b6⟩
          have hX6 := hX5.below b6 (by omega)
          have hY6 := hY5.below b6 (by omega)
          have HB6 := Lib.hid (below_next HB5.out b6)
          have hg6 : w.heap.size + 1 < w6.heap.size := Nat.lt_of_lt_of_le hg5 b6.size
          clear b6 HB5 hX5 hY5
          go_upto_region 11 with (fail)
          have hZ := Blk.new w6 47 #[.int .i64 x.kind, .int .i64 x.cl, .int .i64 x.ep, .int .i64 x.n, .int .i64 x.lsn, .int .i64 x.prev, .int .i64 x.page, .int .i64 x.slot, .bool x.wu, .string x.wd, .bool x.iu, .string x.id, .int .i64 x.next]
          have hX7 := hX6.alloc (.cells #[.int .i64 x.kind, .int .i64 x.cl, .int .i64 x.ep, .int .i64 x.n, .int .i64 x.lsn, .int .i64 x.prev, .int .i64 x.page, .int .i64 x.slot, .bool x.wu, .string x.wd, .bool x.iu, .string x.id, .int .i64 x.next] 47)
          have hY7 := hY6.alloc (.cells #[.int .i64 x.kind, .int .i64 x.cl, .int .i64 x.ep, .int .i64 x.n, .int .i64 x.lsn, .int .i64 x.prev, .int .i64 x.page, .int .i64 x.slot, .bool x.wu, .string x.wd, .bool x.iu, .string x.id, .int .i64 x.next] 47)
          have hb7 := below_next HB6.out (below_box w6 (.cells #[.int .i64 x.kind, .int .i64 x.cl, .int .i64 x.ep, .int .i64 x.n, .int .i64 x.lsn, .int .i64 x.prev, .int .i64 x.page, .int .i64 x.slot, .bool x.wu, .string x.wd, .bool x.iu, .string x.id, .int .i64 x.next] 47))
          have hg7 := alloc_lt w6 (.cells #[.int .i64 x.kind, .int .i64 x.cl, .int .i64 x.ep, .int .i64 x.n, .int .i64 x.lsn, .int .i64 x.prev, .int .i64 x.page, .int .i64 x.slot, .bool x.wu, .string x.wd, .bool x.iu, .string x.id, .int .i64 x.next] 47)
          generalize hGen : w6.alloc (.cells #[.int .i64 x.kind, .int .i64 x.cl, .int .i64 x.ep, .int .i64 x.n, .int .i64 x.lsn, .int .i64 x.prev, .int .i64 x.page, .int .i64 x.slot, .bool x.wu, .string x.wd, .bool x.iu, .string x.id, .int .i64 x.next] 47) = W7 at hZ hX7 hY7 hb7 hg7 ⊢
          clear hGen
          generalize hGen : w6.heap.size = gz at hZ hg7 hg6 ⊢
          clear hGen
          obtain ⟨d0, d1, d2, d3, d4, d5, d6, d7, d8, d9, d10, d11, d12⟩ := ent_cells hY7
          have HB7 := Lib.hid hb7
          have hq1 := fun w => run_eq_ent x x w
          simp only [sameE_refl] at hq1
          have hgd := fun (A B : Operand) xs ys w => run_guard_ent .eql A B xs ys w
          clear HB6 hb7 hX6 hY6
          cases hgy : goodB y with
          | false =>
            obtain ⟨e1, e2, _⟩ := enc_bad hgy
            have hE := fun w => encode_any y w HT.out
            rw [e1, e2] at hE
            have HEY := Lib.hid hE
            clear hgy e1 e2 hE
            go_wp2_with fail
            refine (HEY.out _).mono ?_
            rintro e w8 ⟨rfl, b8⟩
            have hX8 := hX7.below b8 (by omega)
            have hZ8 := hZ.below b8 hg7
            have HB8 := Lib.hid (below_next HB7.out b8)
            clear b8 HB7 d0 d1 d2 d3 d4 d5 d6 d7 d8 d9 d10 d11 d12 hX7 hY7 hZ
            obtain ⟨c0, c1, c2, c3, c4, c5, c6, c7, c8, c9, c10, c11, c12⟩ := ent_cells hX8
            obtain ⟨z0, z1, z2, z3, z4, z5, z6, z7, z8, z9, z10, z11, z12⟩ := ent_cells hZ8
            go_wp2_with fail
            go_quiet (fail)
            go_wp2
            go_ret
            exact ⟨rfl, below_drew HB8.out _⟩
          | true =>
            obtain ⟨e1, e2⟩ := enc_good hgy
            have hE := fun w => encode_any y w HT.out
            rw [e1, e2] at hE
            obtain ⟨m1, m2⟩ := raw_len hgy
            have hzy : (arr (rawL y)).size ≤ 464 := by rw [arr_size]; exact m2
            have HH := Lib.hid (fun n hn => heads_apart (n := n) HGX.out hgy hn)
            generalize arr (rawL y) = B at hE hzy HH
            generalize arr (rawL x) = A at hz1 HH ⊢
            have HEY := Lib.hid hE
            have hq2 := fun w => run_eq_ent x y w
            generalize sameE x y = q at hq2 HH
            clear hgy e1 e2 hE m1 m2
            go_wp2_with fail
            refine (HEY.out _).mono ?_
            rintro e w8 ⟨rfl, b8⟩
            have hX8 := hX7.below b8 (by omega)
            have hY8 := hY7.below b8 (by omega)
            have hZ8 := hZ.below b8 hg7
            have HB8 := Lib.hid (below_next HB7.out b8)
            clear b8 HB7 d0 d1 d2 d3 d4 d5 d6 d7 d8 d9 d10 d11 d12 hX7 hY7 hZ
            obtain ⟨c0, c1, c2, c3, c4, c5, c6, c7, c8, c9, c10, c11, c12⟩ := ent_cells hX8
            obtain ⟨d0, d1, d2, d3, d4, d5, d6, d7, d8, d9, d10, d11, d12⟩ := ent_cells hY8
            obtain ⟨z0, z1, z2, z3, z4, z5, z6, z7, z8, z9, z10, z11, z12⟩ := ent_cells hZ8
            go_upto_region 13 with (fail)
            obtain ⟨n, hn⟩ : ∃ n : Nat, min (A.size : Int) (B.size : Int) = (n : Int) := ⟨min A.size B.size, by omega⟩
            rw [hn]
            have hh := HH.out n (by omega)
            have k1 : (n : Int) ≤ (A.size : Int) := by omega
            have k2 : (n : Int) ≤ (B.size : Int) := by omega
            clear hn
            cases q with
            | true =>
              go_quiet (fail)
              go_wp2
              go_ret
              exact ⟨rfl, below_drew HB8.out _⟩
            | false =>
              go_quiet (fail)
              go_wp2
              go_ret
              exact ⟨rfl, below_drew HB8.out _⟩
end Go.Proofs.Ytjaafdkmhkhehaa.Ent
