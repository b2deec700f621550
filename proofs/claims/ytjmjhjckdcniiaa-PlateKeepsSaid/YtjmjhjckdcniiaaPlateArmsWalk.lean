/- The walk of the statement PlateArms. -/
import Derived.Test.YtjmjhjckdcniiaaPlateMendsWalk
import Derived.Test.YtjmjhjckdcniiaaPlateIn
namespace Go.Proofs.Ytjmjhjckdcniiaa.Plate
open Go.RowKit
open Go.Proofs.Ytjmjhjckdcniiaa.Mem

/-- an act is armed -/
def Sa (N : Nat) (f : Nat → Sec) (q : List Wr) (arm acts : Nat) : PS := ⟨N, f, q, false, arm, acts, 0⟩
theorem tame_sa {N arm acts : Nat} {f : Nat → Sec} {q : List Wr} (h1 : arm ≤ 1000) (h2 : acts ≤ 1000) (h3 : q.length ≤ 1000) : Tame (Sa N f q arm acts) := ⟨Nat.zero_le _, by show acts ≤ _; omega, by show arm ≤ _; omega, by show q.length ≤ _; omega⟩
theorem in_sa {N n arm acts : Nat} {f : Nat → Sec} {q : List Wr} (hn : n < N) : inS (Sa N f q arm acts) (n : Int) = true := by unfold inS; simp [Sa, hn]
theorem out_sa {N n arm acts : Nat} {f : Nat → Sec} {q : List Wr} (hn : N ≤ n) : inS (Sa N f q arm acts) (n : Int) = false := by unfold inS; simp [Sa]; omega
theorem pa_more (w : World) (p : Nat) (M : Nat → Prop) (N : Nat) (f : Nat → Sec) (q : List Wr) (arm acts n : Nat) (s : ByteArray) (h : PQ w p M (Sa N f q arm acts)) (hn : n < N) (hs : s.size = 256) (h0 : 2 ≤ arm) (h1 : arm ≤ 1000) (h2 : acts ≤ 1000) (h3 : q.length ≤ 1000) :
    Calls Try.prog 9 #[.pointer (some ⟨p, 0, none⟩), .int .i64 (n : Int), .string s] w fun e w' => e = .returned (.int .i64 0) ∧ PQ w' p M (Sa N f (q ++ [⟨n, s⟩]) (arm - 1) (acts + 1)) ∧ Keep M w w' := by
  have h := pq_write w p M _ (n : Int) s h (tame_sa h1 h2 h3)
  obtain ⟨e1, e2⟩ := write_ok (S := Sa N f q arm acts) (s := s) rfl (in_sa hn) hs
  rw [e1, e2, show actE (Sa N f q arm acts) = 0 by unfold actE; rw [if_neg (by show ¬ arm = 1; omega)]] at h
  have e3 : actS (putS (Sa N f q arm acts) ((n : Int)).toNat s) = Sa N f (q ++ [⟨n, s⟩]) (arm - 1) (acts + 1) := by
    unfold actS
    rw [if_neg (by show ¬ arm = 0; omega), if_neg (by show ¬ arm = 1; omega)]
    rfl
  rw [e3] at h
  exact h
theorem pa_last (w : World) (p : Nat) (M : Nat → Prop) (N : Nat) (f : Nat → Sec) (q : List Wr) (acts n : Nat) (s : ByteArray) (h : PQ w p M (Sa N f q 1 acts)) (hn : n < N) (hs : s.size = 256) (h2 : acts ≤ 1000) (h3 : q.length ≤ 1000) :
    Calls Try.prog 9 #[.pointer (some ⟨p, 0, none⟩), .int .i64 (n : Int), .string s] w fun e w' => e = .returned (.int .i64 10) ∧ PQ w' p M (St N f (q ++ [⟨n, s⟩]) true (acts + 1) 1) ∧ Keep M w w' := by
  have h := pq_write w p M _ (n : Int) s h (tame_sa (by decide) h2 h3)
  obtain ⟨e1, e2⟩ := write_ok (S := Sa N f q 1 acts) (s := s) rfl (in_sa hn) hs
  rw [e1, e2] at h
  exact h
theorem pa_not (w : World) (p : Nat) (M : Nat → Prop) (N : Nat) (f : Nat → Sec) (q : List Wr) (arm acts n : Nat) (s : ByteArray) (h : PQ w p M (Sa N f q arm acts)) (hn : N ≤ n) (h1 : arm ≤ 1000) (h2 : acts ≤ 1000) (h3 : q.length ≤ 1000) :
    Calls Try.prog 9 #[.pointer (some ⟨p, 0, none⟩), .int .i64 (n : Int), .string s] w fun e w' => e = .returned (.int .i64 1) ∧ PQ w' p M (Sa N f q arm acts) ∧ Keep M w w' := by
  have h := pq_write w p M _ (n : Int) s h (tame_sa h1 h2 h3)
  obtain ⟨e1, e2⟩ := write_not (S := Sa N f q arm acts) (s := s) rfl (.inl (out_sa hn))
  rw [e1, e2] at h
  exact h

set_option maxRecDepth 100000 in
set_option maxHeartbeats 4000000 in
theorem arms_walk (n : Int) (a : Option Addr) (ln c : Nat) (xs : List In) (w : World) (_hn : -9223372036854775808 ≤ n ∧ n ≤ 9223372036854775807) (hI : Ins w a ln xs) :
    Calls Try.prog 5 #[.int .i64 n, .slice a ln c] w fun e w' => e = .returned (.bool true) ∧ Below w.heap.size w w' := by
  obtain ⟨f0, hf0⟩ : ∃ f0 : Nat → Sec, f0 = fun _ => ⟨fstr 256 0, false⟩ := ⟨_, rfl⟩
  have HS0 := Lib.hid (show newS 40 = St 40 f0 [] false 0 0 by rw [hf0]; rfl)
  clear hf0
  have HI := Lib.hid hI
  obtain ⟨m, hm, hm1, hm2⟩ := up_of n 120 (by decide) (by decide)
  have hm120 : m ≤ 120 := by omega
  have HM := Lib.hid hm
  clear hm hm2 hI
  go_enter Try.func5, Try.ntmps5
  go_wp2_with fail
  refine (awake_any _).mono ?_
  rintro e w0 ⟨rfl, b0⟩
  go_wp2_with fail
  refine (pq_new _ 40 (by decide) (by decide)).mono ?_
  rw [HM.out]
  rintro e w1 ⟨p, rfl, hp, hb⟩
  rw [HS0.out] at hp
  have H1 := At.new b0 hp hb
  clear hp hb b0
  go_wp2_with fail
  refine (pq_arm _ p _ _ (m : Int) H1.pq).mono ?_
  rintro e w2 ⟨rfl, hp, hk⟩
  have H2 : At w w2 p (Sa 40 f0 [] m 0) := H1.next hp hk
  clear hp hk H1
  go_wp2
  go_loopw [6, 7, 8, 9] (fun ac i y1 y2 wr => ∃ (j A : Nat) (q : List Wr), j ≤ 100 ∧ A ≤ j ∧ A < m ∧ ac = .int .i64 (A : Int) ∧ i = .int .i64 (j : Int) ∧ Hid (q.length = A) ∧ At w wr p (Sa 40 f0 q (m - A) A)) (fun _ i _ _ _ => 100 - (intOf i).toNat)
  case atStart => exact ⟨0, 0, [], by decide, by decide, by omega, rfl, rfl, Lib.hid rfl, by simpa using H2⟩
  case round =>
    obtain ⟨j, A, q, hj, hA, hAm, rfl, rfl, HQ, H⟩ := hrel
    clear H2
    have HH := Lib.hid H
    clear H
    have hql : q.length ≤ 1000 := by have := HQ.out; omega
    have HQL := Lib.hid hql
    clear hql
    by_cases hin : j < ln ∧ j < 100
    · obtain ⟨hjl, hj100⟩ := hin
      obtain ⟨b, off, z, d, rfl, hlt, hz, c0, c1⟩ := (HI.out.below HH.out.bel).at_ hjl
      have hd := d.toNat_lt
      obtain ⟨k, hk1, hk2⟩ := cut_of z 50 (by decide) (by decide)
      have HK := Lib.hid hk1
      have hk50 : k < 50 := by omega
      have HFD := Lib.hid (fun W => filled_any d W)
      have hsD := Lib.hid (fstr_size 256 d)
      obtain ⟨D, hD⟩ : ∃ D, D = fstr 256 d := ⟨_, rfl⟩
      rw [← hD] at HFD hsD
      clear hk1 hk2 hz hlt hD
      go_wp2_with fail
      refine (HFD.out _).mono ?_
      rw [HK.out]
      rintro e w3 ⟨rfl, b3⟩
      have H3 := HH.out.below b3
      clear b3 c0 c1
      by_cases h40 : k < 40
      · by_cases hlast : A + 1 = m
        · have e1 : m - A = 1 := by omega
          rw [e1] at H3
          have HE := Lib.hid hlast
          clear e1
          go_wp2_with fail
          refine (pa_last _ p _ 40 f0 q A k D H3.pq h40 hsD.out (by omega) HQL.out).mono ?_
          rintro e w4 ⟨rfl, hp, hk⟩
          have H4 := H3.next hp hk
          clear hp hk H3
          go_wp2_with fail
          refine (pl_rdown _ p _ 40 f0 _ _ _ (k : Int) H4.pq (by have := HQ.out; simp; omega)).mono ?_
          rintro e w5 ⟨rfl, hp, hk⟩
          have H5 := H4.next hp hk
          clear hp hk H4
          have heq : ((A : Int) + 1 == (m : Int)) = true := by rw [beq_iff_eq]; omega
          clear hlast
          go_wp2_with fail
          refine (pq_acts _ p _ _ H5.pq).mono ?_
          rintro e w6 ⟨rfl, rfl⟩
          go_wp2_with fail
          refine (pq_down _ p _ _ H5.pq).mono ?_
          rintro e w6 ⟨rfl, rfl⟩
          go_wp2_with fail
          refine (pq_down _ p _ _ H5.pq).mono ?_
          rintro e w6 ⟨rfl, rfl⟩
          go_wp2_with fail
          refine (pq_life _ p _ _ H5.pq).mono ?_
          rintro e w6 ⟨rfl, rfl⟩
          go_wp2_with fail
          refine (pq_waits _ p _ _ H5.pq).mono ?_
          rintro e w6 ⟨rfl, rfl⟩
          have HW := HQ.out
          go_wp2
          go_ret
          refine ⟨?_, H5.bel⟩
          simp [St, HW]
        · have HN : Hid (2 ≤ m - A) := Lib.hid (by omega)
          go_wp2_with fail
          refine (pa_more _ p _ 40 f0 q (m - A) A k D H3.pq h40 hsD.out HN.out (by omega) (by omega) HQL.out).mono ?_
          rintro e w4 ⟨rfl, hp, hk⟩
          have H4 := H3.next hp hk
          clear hp hk H3
          go_wp2_with fail
          refine (pq_read _ p _ _ (k : Int) H4.pq (by have := HQ.out; simp [Sa]; omega)).mono ?_
          rintro e w5 ⟨rfl, hp, hk⟩
          have H5 := H4.next hp hk
          clear hp hk H4
          have heq : ((A : Int) + 1 == (m : Int)) = false := by rw [beq_eq_false_iff_ne]; omega
          go_wp2_with fail
          refine (pq_acts _ p _ _ H5.pq).mono ?_
          rintro e w6 ⟨rfl, rfl⟩
          go_wp2_with fail
          refine (pq_down _ p _ _ H5.pq).mono ?_
          rintro e w6 ⟨rfl, rfl⟩
          go_wp2_with fail
          refine (pq_down _ p _ _ H5.pq).mono ?_
          rintro e w6 ⟨rfl, rfl⟩
          go_wp2
          go_roundw
          case rel => exact ⟨j + 1, A + 1, q ++ [⟨k, D⟩], by omega, by omega, by omega, by go_num, by go_num, Lib.hid (by have := HQ.out; simp; omega), by rw [show m - (A + 1) = m - A - 1 by omega]; exact H5⟩
          case measure => simp [intOf]; omega
      · go_wp2_with fail
        refine (pa_not _ p _ 40 f0 q (m - A) A k D H3.pq (by omega) (by omega) (by omega) HQL.out).mono ?_
        rintro e w4 ⟨rfl, hp, hk⟩
        have H4 := H3.next hp hk
        clear hp hk H3
        go_wp2_with fail
        refine (pq_read _ p _ _ (k : Int) H4.pq (by have := HQ.out; simp [Sa]; omega)).mono ?_
        rintro e w5 ⟨rfl, hp, hk⟩
        have H5 := H4.next hp hk
        clear hp hk H4
        go_wp2
        go_roundw
        case rel => exact ⟨j + 1, A, q, by omega, by omega, by omega, rfl, by go_num, HQ, H5⟩
        case measure => simp [intOf]; omega
    · have hout : ¬ ((j : Int) < (ln : Int) ∧ (j : Int) < 100) := by omega
      by_cases hjl : j < ln
      · have hj100 : j = 100 := by omega
        have hj1 : ¬ ((j : Int) < 100) := by omega
        clear hout hin hj100
        go_wp2_with fail
        refine (pq_life _ p _ _ HH.out.pq).mono ?_
        rintro e w6 ⟨rfl, rfl⟩
        go_wp2_with fail
        refine (pq_down _ p _ _ HH.out.pq).mono ?_
        rintro e w6 ⟨rfl, rfl⟩
        go_wp2
        go_ret
        exact ⟨by simp [Sa], HH.out.bel⟩
      · clear hout hin
        go_wp2_with fail
        refine (pq_life _ p _ _ HH.out.pq).mono ?_
        rintro e w6 ⟨rfl, rfl⟩
        go_wp2_with fail
        refine (pq_down _ p _ _ HH.out.pq).mono ?_
        rintro e w6 ⟨rfl, rfl⟩
        go_wp2
        go_ret
        exact ⟨by simp [Sa], HH.out.bel⟩
end Go.Proofs.Ytjmjhjckdcniiaa.Plate
