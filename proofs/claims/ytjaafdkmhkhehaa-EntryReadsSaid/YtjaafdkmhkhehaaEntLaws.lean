/- The walks of the statements' own beginning and of great; the statement EntryCosts. -/
import Derived.Test.YtjaafdkmhkhehaaEntEnc
import Derived.Test.YtjaafdkmhkhehaaEntDec
namespace Go.Proofs.Ytjaafdkmhkhehaa.Ent
open Go.RowKit
open Go.Proofs.Ytjaafdkmhkhehaa.Slab (Blk ret_int' ret_bool')
open Go.Proofs.Ytjaafdkmhkhehaa.Nib (below_next below_drew enc encStr Fits)
open Go.Lib (uvarint_small zigzag)

def X0 : Ent := ⟨3, 1, 1, 1, 5, 4, 0, 0, false, ⟨#[]⟩, false, ⟨#[]⟩, 0⟩
theorem enc_one {n : Int} {k : Nat} {b : UInt8} (h : zigzag n = k) (hk : k < 128) (hb : Nat.toUInt8 k = b) : enc n = [b] := by unfold enc; rw [h, uvarint_small hk, hb]
theorem good0 : goodB X0 = true := by decide
theorem raw0 : rawL X0 = [6, 2, 2, 2, 10, 8] := by
  have e3 : enc 3 = [6] := enc_one (k := 6) rfl (by omega) rfl
  have e1 : enc 1 = [2] := enc_one (k := 2) rfl (by omega) rfl
  have e5 : enc 5 = [10] := enc_one (k := 10) rfl (by omega) rfl
  have e4 : enc 4 = [8] := enc_one (k := 8) rfl (by omega) rfl
  have hl : longB X0.kind = false := by decide
  unfold rawL headL
  rw [hl]
  simp only [X0, e3, e1, e5, e4]
  rfl
theorem enc0 : encE X0 = ⟨#[6, 2, 2, 2, 10, 8]⟩ ∧ codeE X0 = 0 ∧ costE X0 = 2 := by
  unfold encE codeE costE
  rw [good0, raw0]
  exact ⟨rfl, rfl, rfl⟩
theorem small0 : Small X0 := by unfold Small X0; decide
theorem smallNo : Small noE := by unfold Small noE; decide
theorem encNo : encE noE = ⟨#[]⟩ ∧ codeE noE = 1 := by
  have : goodB noE = false := by decide
  unfold encE codeE; rw [this]; exact ⟨rfl, rfl⟩
theorem dec0 : decX [6, 2, 2, 2, 10, 8, 122] = X0 ∧ decT [6, 2, 2, 2, 10, 8, 122] = [122] ∧ decC [6, 2, 2, 2, 10, 8, 122] = 0 := by
  have := dec_back good0 [122]
  rw [raw0] at this
  exact this
/-- Decode, by its answer -/
theorem decode_is {s : ByteArray} {x : Ent} {t : ByteArray} {c : Int} (h : decX s.data.toList = x ∧ decT s.data.toList = t.data.toList ∧ decC s.data.toList = c) (w : World) (hs : s.size ≤ 140737488351232) :
    Calls Try.prog 34 #[.string s] w fun e w' => e = .returned (.tuple #[.agg #[.int .i64 x.kind, .int .i64 x.cl, .int .i64 x.ep, .int .i64 x.n, .int .i64 x.lsn, .int .i64 x.prev, .int .i64 x.page, .int .i64 x.slot, .bool x.wu, .string x.wd, .bool x.iu, .string x.id, .int .i64 x.next], .string t, .int .i64 c]) ∧ Below w.heap.size w w' := by
  have := decode_any s _ rfl w hs
  rw [h.1, h.2.1, h.2.2, list_arr] at this
  exact this

set_option maxRecDepth 100000 in
set_option maxHeartbeats 2000000 in
theorem awake_any (w : World) :
    Calls Try.prog 24 #[] w fun e w' => e = .returned (.bool true) ∧ Below w.heap.size w w' := by
  have hb0 := below_box w (.cells #[.int .i64 X0.kind, .int .i64 X0.cl, .int .i64 X0.ep, .int .i64 X0.n, .int .i64 X0.lsn, .int .i64 X0.prev, .int .i64 X0.page, .int .i64 X0.slot, .bool X0.wu, .string X0.wd, .bool X0.iu, .string X0.id, .int .i64 X0.next] 47)
  have hg0 := alloc_lt w (.cells #[.int .i64 X0.kind, .int .i64 X0.cl, .int .i64 X0.ep, .int .i64 X0.n, .int .i64 X0.lsn, .int .i64 X0.prev, .int .i64 X0.page, .int .i64 X0.slot, .bool X0.wu, .string X0.wd, .bool X0.iu, .string X0.id, .int .i64 X0.next] 47)
  have hB0 := Blk.new w 47 #[.int .i64 X0.kind, .int .i64 X0.cl, .int .i64 X0.ep, .int .i64 X0.n, .int .i64 X0.lsn, .int .i64 X0.prev, .int .i64 X0.page, .int .i64 X0.slot, .bool X0.wu, .string X0.wd, .bool X0.iu, .string X0.id, .int .i64 X0.next]
  have he := encode_any X0
  have hq : ∀ w, (binOp .eql 47 (.agg #[.int .i64 X0.kind, .int .i64 X0.cl, .int .i64 X0.ep, .int .i64 X0.n, .int .i64 X0.lsn, .int .i64 X0.prev, .int .i64 X0.page, .int .i64 X0.slot, .bool X0.wu, .string X0.wd, .bool X0.iu, .string X0.id, .int .i64 X0.next]) (.agg #[.int .i64 X0.kind, .int .i64 X0.cl, .int .i64 X0.ep, .int .i64 X0.n, .int .i64 X0.lsn, .int .i64 X0.prev, .int .i64 X0.page, .int .i64 X0.slot, .bool X0.wu, .string X0.wd, .bool X0.iu, .string X0.id, .int .i64 X0.next])).run Try.prog w = .ok (.bool true) w := fun w => by rw [run_eq_ent X0 X0 w, sameE_refl]
  have hE := fun w => encode_any X0 w small0
  rw [enc0.1, enc0.2.1] at hE
  have hN := fun w => encode_any noE w smallNo
  rw [encNo.1, encNo.2] at hN
  have hD := fun w => decode_is (s := (⟨#[6, 2, 2, 2, 10, 8]⟩ : ByteArray) ++ (⟨#[122]⟩ : ByteArray)) (x := X0) (t := ⟨#[122]⟩) (c := 0) (by rw [app_list]; exact dec0) w (by decide)
  have hC := fun w => cost_any X0 w small0
  rw [enc0.2.2] at hC
  have hG := fun w => good_any X0 w small0
  rw [good0] at hG
  have hK := fun w => known_any 1 1 1 w
  rw [show knownB 1 1 1 = true by decide] at hK
  simp only [X0] at hb0 hg0 hB0 hE hD hC hG hq
  simp only [noE] at hN
  have HE := Lib.hid hE
  have HN := Lib.hid hN
  have HD := Lib.hid hD
  have HC := Lib.hid hC
  have HG := Lib.hid hG
  have HK := Lib.hid hK
  clear he hE hN hD hC hG hK
  go_enter Try.func24, Try.ntmps24
  go_upto_region 2 with (fail)
  generalize hGen : w.alloc (.cells #[.int .i64 3, .int .i64 1, .int .i64 1, .int .i64 1, .int .i64 5, .int .i64 4, .int .i64 0, .int .i64 0, .bool false, .string ⟨#[]⟩, .bool false, .string ⟨#[]⟩, .int .i64 0] 47) = W at hb0 hg0 hB0 ⊢
  clear hGen
  have hcx : Blk _ _ 47 #[.int .i64 X0.kind, .int .i64 X0.cl, .int .i64 X0.ep, .int .i64 X0.n, .int .i64 X0.lsn, .int .i64 X0.prev, .int .i64 X0.page, .int .i64 X0.slot, .bool X0.wu, .string X0.wd, .bool X0.iu, .string X0.id, .int .i64 X0.next] := hB0
  obtain ⟨c0, c1, c2, c3, c4, c5, c6, c7, c8, c9, c10, c11, c12⟩ := ent_cells hcx
  simp only [X0] at c0 c1 c2 c3 c4 c5 c6 c7 c8 c9 c10 c11 c12
  clear hcx
  have HB0 := Lib.hid hb0
  have HX0 := Lib.hid hB0
  clear hb0 hB0
  go_wp2_with fail
  refine (HE.out _).mono ?_
  rintro e w1 ⟨rfl, b1⟩
  have HB1 := Lib.hid (below_next HB0.out b1)
  have HX1 := Lib.hid (HX0.out.below b1 hg0)
  have hg1 : w.heap.size < w1.heap.size := Nat.lt_of_lt_of_le hg0 b1.size
  clear HB0 HX0 b1 hg0 c0 c1 c2 c3 c4 c5 c6 c7 c8 c9 c10 c11 c12
  go_wp2_with fail
  refine (HD.out _).mono ?_
  rintro e w2 ⟨rfl, b2⟩
  have HB2 := Lib.hid (below_next HB1.out b2)
  have HX2 := Lib.hid (HX1.out.below b2 hg1)
  have hg2 : w.heap.size < w2.heap.size := Nat.lt_of_lt_of_le hg1 b2.size
  clear HB1 HX1 b2 hg1
  go_wp2_with fail
  have hY := Blk.new w2 47 #[.int .i64 3, .int .i64 1, .int .i64 1, .int .i64 1, .int .i64 5, .int .i64 4, .int .i64 0, .int .i64 0, .bool false, .string ⟨#[]⟩, .bool false, .string ⟨#[]⟩, .int .i64 0]
  have hXY := HX2.out.alloc (.cells #[.int .i64 3, .int .i64 1, .int .i64 1, .int .i64 1, .int .i64 5, .int .i64 4, .int .i64 0, .int .i64 0, .bool false, .string ⟨#[]⟩, .bool false, .string ⟨#[]⟩, .int .i64 0] 47)
  have hbY := below_next HB2.out (below_box w2 (.cells #[.int .i64 3, .int .i64 1, .int .i64 1, .int .i64 1, .int .i64 5, .int .i64 4, .int .i64 0, .int .i64 0, .bool false, .string ⟨#[]⟩, .bool false, .string ⟨#[]⟩, .int .i64 0] 47))
  have hgY := alloc_lt w2 (.cells #[.int .i64 3, .int .i64 1, .int .i64 1, .int .i64 1, .int .i64 5, .int .i64 4, .int .i64 0, .int .i64 0, .bool false, .string ⟨#[]⟩, .bool false, .string ⟨#[]⟩, .int .i64 0] 47)
  generalize hGen : w2.alloc (.cells #[.int .i64 3, .int .i64 1, .int .i64 1, .int .i64 1, .int .i64 5, .int .i64 4, .int .i64 0, .int .i64 0, .bool false, .string ⟨#[]⟩, .bool false, .string ⟨#[]⟩, .int .i64 0] 47) = W2 at hY hXY hbY hgY ⊢
  clear hGen
  generalize hGen : w2.heap.size = g2 at hY hg2 hgY ⊢
  clear hGen
  refine (HN.out _).mono ?_
  rintro e w3 ⟨rfl, b3⟩
  have hg3 : g2 < w3.heap.size := Nat.lt_of_lt_of_le hgY b3.size
  have hX3 := hXY.below b3 (by omega)
  have hY3 := hY.below b3 (by omega)
  have HB3 := Lib.hid (below_next hbY b3)
  have HX3 := Lib.hid hX3
  clear hY hXY hbY hgY b3 HB2 HX2
  have hcx : Blk _ _ 47 #[.int .i64 X0.kind, .int .i64 X0.cl, .int .i64 X0.ep, .int .i64 X0.n, .int .i64 X0.lsn, .int .i64 X0.prev, .int .i64 X0.page, .int .i64 X0.slot, .bool X0.wu, .string X0.wd, .bool X0.iu, .string X0.id, .int .i64 X0.next] := hX3
  obtain ⟨c0, c1, c2, c3, c4, c5, c6, c7, c8, c9, c10, c11, c12⟩ := ent_cells hcx
  simp only [X0] at c0 c1 c2 c3 c4 c5 c6 c7 c8 c9 c10 c11 c12
  clear hcx
  have hcx : Blk _ _ 47 #[.int .i64 X0.kind, .int .i64 X0.cl, .int .i64 X0.ep, .int .i64 X0.n, .int .i64 X0.lsn, .int .i64 X0.prev, .int .i64 X0.page, .int .i64 X0.slot, .bool X0.wu, .string X0.wd, .bool X0.iu, .string X0.id, .int .i64 X0.next] := hY3
  obtain ⟨d0, d1, d2, d3, d4, d5, d6, d7, d8, d9, d10, d11, d12⟩ := ent_cells hcx
  simp only [X0] at d0 d1 d2 d3 d4 d5 d6 d7 d8 d9 d10 d11 d12
  clear hcx
  clear hX3 hY3
  have hgd := fun (A B : Operand) xs ys w => run_guard_ent .eql A B xs ys w
  go_wp2_with fail
  refine (HC.out _).mono ?_
  rintro e w4 ⟨rfl, b4⟩
  have hX4 := HX3.out.below b4 (by omega)
  have HB4 := Lib.hid (below_next HB3.out b4)
  have hg4 : w.heap.size < w4.heap.size := by have := b4.size; omega
  clear b4 HB3 HX3 c0 c1 c2 c3 c4 c5 c6 c7 c8 c9 c10 c11 c12 d0 d1 d2 d3 d4 d5 d6 d7 d8 d9 d10 d11 d12
  have hcx : Blk _ _ 47 #[.int .i64 X0.kind, .int .i64 X0.cl, .int .i64 X0.ep, .int .i64 X0.n, .int .i64 X0.lsn, .int .i64 X0.prev, .int .i64 X0.page, .int .i64 X0.slot, .bool X0.wu, .string X0.wd, .bool X0.iu, .string X0.id, .int .i64 X0.next] := hX4
  obtain ⟨c0, c1, c2, c3, c4, c5, c6, c7, c8, c9, c10, c11, c12⟩ := ent_cells hcx
  simp only [X0] at c0 c1 c2 c3 c4 c5 c6 c7 c8 c9 c10 c11 c12
  clear hcx
  go_wp2_with fail
  refine (HG.out _).mono ?_
  rintro e w5 ⟨rfl, b5⟩
  have hX5 := hX4.below b5 (by omega)
  have HB5 := Lib.hid (below_next HB4.out b5)
  clear b5 HB4 c0 c1 c2 c3 c4 c5 c6 c7 c8 c9 c10 c11 c12
  have hcx : Blk _ _ 47 #[.int .i64 X0.kind, .int .i64 X0.cl, .int .i64 X0.ep, .int .i64 X0.n, .int .i64 X0.lsn, .int .i64 X0.prev, .int .i64 X0.page, .int .i64 X0.slot, .bool X0.wu, .string X0.wd, .bool X0.iu, .string X0.id, .int .i64 X0.next] := hX5
  obtain ⟨c0, c1, c2, c3, c4, c5, c6, c7, c8, c9, c10, c11, c12⟩ := ent_cells hcx
  simp only [X0] at c0 c1 c2 c3 c4 c5 c6 c7 c8 c9 c10 c11 c12
  clear hcx
  go_wp2_with fail
  refine (HK.out _).mono ?_
  rintro e w6 ⟨rfl, b6⟩
  go_wp2
  go_ret
  exact ⟨rfl, below_next HB5.out b6⟩

def greatB (x : Ent) : Bool := decide ((4096 : Int) < (x.wd.size : Int)) || decide ((4096 : Int) < (x.id.size : Int))
set_option maxRecDepth 100000 in
set_option maxHeartbeats 800000 in
theorem great_any (x : Ent) (w : World) (hx : Small x) :
    Calls Try.prog 25 #[.agg #[.int .i64 x.kind, .int .i64 x.cl, .int .i64 x.ep, .int .i64 x.n, .int .i64 x.lsn, .int .i64 x.prev, .int .i64 x.page, .int .i64 x.slot, .bool x.wu, .string x.wd, .bool x.iu, .string x.id, .int .i64 x.next]] w fun e w' => e = .returned (.bool (greatB x)) ∧ Below w.heap.size w w' := by
  have hb := below_box w (.cells #[.int .i64 x.kind, .int .i64 x.cl, .int .i64 x.ep, .int .i64 x.n, .int .i64 x.lsn, .int .i64 x.prev, .int .i64 x.page, .int .i64 x.slot, .bool x.wu, .string x.wd, .bool x.iu, .string x.id, .int .i64 x.next] 47)
  have hB := Blk.new w 47 #[.int .i64 x.kind, .int .i64 x.cl, .int .i64 x.ep, .int .i64 x.n, .int .i64 x.lsn, .int .i64 x.prev, .int .i64 x.page, .int .i64 x.slot, .bool x.wu, .string x.wd, .bool x.iu, .string x.id, .int .i64 x.next]
  obtain ⟨s1, s2⟩ := hx
  by_cases h1 : 4096 < x.wd.size
  · have H := Lib.hid (show greatB x = true by unfold greatB; rw [decide_eq_true (by omega)]; rfl)
    go_enter Try.func25, Try.ntmps25
    go_upto_region 1 with (fail)
    generalize hGen : w.alloc (.cells #[.int .i64 x.kind, .int .i64 x.cl, .int .i64 x.ep, .int .i64 x.n, .int .i64 x.lsn, .int .i64 x.prev, .int .i64 x.page, .int .i64 x.slot, .bool x.wu, .string x.wd, .bool x.iu, .string x.id, .int .i64 x.next] 47) = W at hb hB ⊢
    clear hGen
    obtain ⟨c0, c1, c2, c3, c4, c5, c6, c7, c8, c9, c10, c11, c12⟩ := ent_cells hB
    go_wp2
    go_ret
    first | exact ⟨ret_bool' H.out.symm, hb⟩ | exact ⟨rfl, hb⟩
  · by_cases h2 : 4096 < x.id.size
    · have H := Lib.hid (show greatB x = true by unfold greatB; rw [decide_eq_true (p := (4096 : Int) < (x.id.size : Int)) (by omega)]; simp)
      go_enter Try.func25, Try.ntmps25
      go_upto_region 1 with (fail)
      generalize hGen : w.alloc (.cells #[.int .i64 x.kind, .int .i64 x.cl, .int .i64 x.ep, .int .i64 x.n, .int .i64 x.lsn, .int .i64 x.prev, .int .i64 x.page, .int .i64 x.slot, .bool x.wu, .string x.wd, .bool x.iu, .string x.id, .int .i64 x.next] 47) = W at hb hB ⊢
      clear hGen
      obtain ⟨c0, c1, c2, c3, c4, c5, c6, c7, c8, c9, c10, c11, c12⟩ := ent_cells hB
      go_wp2
      go_ret
      first | exact ⟨ret_bool' H.out.symm, hb⟩ | exact ⟨rfl, hb⟩
    · have H := Lib.hid (show greatB x = false by unfold greatB; rw [decide_eq_false (by omega), decide_eq_false (by omega)]; rfl)
      go_enter Try.func25, Try.ntmps25
      go_upto_region 1 with (fail)
      generalize hGen : w.alloc (.cells #[.int .i64 x.kind, .int .i64 x.cl, .int .i64 x.ep, .int .i64 x.n, .int .i64 x.lsn, .int .i64 x.prev, .int .i64 x.page, .int .i64 x.slot, .bool x.wu, .string x.wd, .bool x.iu, .string x.id, .int .i64 x.next] 47) = W at hb hB ⊢
      clear hGen
      obtain ⟨c0, c1, c2, c3, c4, c5, c6, c7, c8, c9, c10, c11, c12⟩ := ent_cells hB
      go_wp2
      go_ret
      first | exact ⟨ret_bool' H.out.symm, hb⟩ | exact ⟨rfl, hb⟩

theorem good_small {x : Ent} (h : goodB x = true) : Small x := by
  cases hl : longB x.kind with
  | true =>
    obtain ⟨_, hc, _⟩ := good_long h hl
    obtain ⟨_, _, c3, c4⟩ := ch_parts hc
    have := (of_decide_eq_true c3).1
    have := (of_decide_eq_true c4).1
    exact ⟨by omega, by omega⟩
  | false =>
    obtain ⟨_, _, _, b4, _, b6, _⟩ := of_decide_eq_true (good_short h hl).2.2
    exact ⟨by omega, by omega⟩
end Go.Proofs.Ytjaafdkmhkhehaa.Ent
