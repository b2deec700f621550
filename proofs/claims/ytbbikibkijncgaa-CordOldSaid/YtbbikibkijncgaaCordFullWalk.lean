/- The walk of the statement CordFull. -/
import Derived.Test.YtbbikibkijncgaaCordAwake
import Derived.Test.YtbbikibkijncgaaInts
namespace Go.Proofs.Ytbbikibkijncgaa.Cord
set_option maxRecDepth 100000
open Go.RowKit
open Go.Proofs.Ytbbikibkijncgaa.Mem
theorem cut_of (x : Int) (n : Int) (hn : 1 ≤ n) (hm : n ≤ 9223372036854775807) : ∃ K : Nat, wrap64 ((IntKind.u64.wrap x).tmod n) = (K : Int) ∧ (K : Int) < n := by
  have h0 : 0 ≤ IntKind.u64.wrap x := by rw [IntKind.wrap_u64]; omega
  rw [Int.tmod_eq_emod_of_nonneg h0]
  have h1 := Int.emod_nonneg (IntKind.u64.wrap x) (b := n) (by omega)
  have h2 := Int.emod_lt_of_pos (IntKind.u64.wrap x) (b := n) (by omega)
  generalize IntKind.u64.wrap x % n = z at h1 h2 ⊢
  exact ⟨z.toNat, by unfold wrap64; omega, by omega⟩
/-- one end in memory of its own -/
def Solo (W0 w : World) (p n : Nat) (e : CE) : Prop := ∃ F, EQ w p n F e ∧ (∀ k, F k → W0.heap.size ≤ k) ∧ Below W0.heap.size W0 w
section
variable {W0 w w' : World} {p n : Nat} {e : CE}
theorem Solo.bel (h : Solo W0 w p n e) : Below W0.heap.size W0 w := by obtain ⟨F, _, _, h⟩ := h; exact h
theorem Solo.wf (h : Solo W0 w p n e) : e.wf := by obtain ⟨F, h, _⟩ := h; exact h.wf
theorem Solo.below (h : Solo W0 w p n e) (hb : Below w.heap.size w w') : Solo W0 w' p n e := by
  obtain ⟨F, h1, h2, h3⟩ := h
  exact ⟨F, h1.below hb, h2, h3.trans (hb.mono h3.size)⟩
theorem Solo.send (h : Solo W0 w p n e) (s : ByteArray) :
    Calls Try.prog 11 #[.pointer (some ⟨p, 0, none⟩), .string s] w fun r w' => r = .returned (.int .i64 (sendX e s)) ∧ Solo W0 w' p (n + 1) (sendE e s) := by
  obtain ⟨F, h1, h2, h3⟩ := h
  refine (send_any p n F e s w h1).mono ?_
  rintro r w' ⟨rfl, ⟨F', h4, h5⟩, h6⟩
  exact ⟨rfl, F', h4, fun k hk => (h5 k hk).elim (h2 k) (fun x => Nat.le_trans h3.size x), h3.trans (h6.below h3.size h2)⟩
theorem Solo.take (h : Solo W0 w p n e) (hn : n ≤ 999000) (g : Gm) :
    Calls Try.prog 17 #[.pointer (some ⟨p, 0, none⟩), .agg (gmV g)] w fun r w' => ∃ v q, r = .returned (.tuple #[.slice v (takeL e g).length q, .int .i64 (takeX e g)]) ∧ w'.ownsRow w.heap.size 9 1 (.slice v (takeL e g).length q) (takeL e g).length (strsV (takeL e g)) ∧ Solo W0 w' p (n + 2) (takeE e g) := by
  obtain ⟨F, h1, h2, h3⟩ := h
  refine (take_is h1 hn rfl rfl rfl).mono ?_
  rintro r w' ⟨v, q, rfl, ho, h4, h6⟩
  exact ⟨v, q, rfl, ho, F, h4, h2, h3.trans (h6.below h3.size h2)⟩
theorem Solo.out (h : Solo W0 w p n e) (hn : n ≤ 1000000) :
    Calls Try.prog 15 #[.pointer (some ⟨p, 0, none⟩)] w fun r w' => ∃ v q, r = .returned (.slice v (outL e).length q) ∧ Solo W0 w' p n (outE e) := by
  obtain ⟨F, h1, h2, h3⟩ := h
  refine (out_is h1 hn rfl rfl).mono ?_
  rintro r w' ⟨v, q, rfl, ho, h4, h6⟩
  exact ⟨v, q, rfl, F, h4, h2, h3.trans (h6.below h3.size h2)⟩
theorem Solo.open_ (h : Solo W0 w p n e) : Calls Try.prog 20 #[.pointer (some ⟨p, 0, none⟩)] w fun r w' => r = .returned (.int .i64 e.op.length) ∧ w = w' := by
  obtain ⟨F, h1, _⟩ := h; exact open_any p n F e w h1
theorem Solo.got (h : Solo W0 w p n e) : Calls Try.prog 21 #[.pointer (some ⟨p, 0, none⟩)] w fun r w' => r = .returned (.int .i64 e.got) ∧ w = w' := by
  obtain ⟨F, h1, _⟩ := h; exact got_any p n F e w h1
end
theorem solo_new {W0 w1 : World} {p : Nat} {ep : Int} (h1 : EQ w1 p 0 (fun k => W0.heap.size ≤ k ∧ k < w1.heap.size) (newE ep)) (b1 : Below W0.heap.size W0 w1) : Solo W0 w1 p 0 (newE ep) := ⟨_, h1, fun _ x => x.1, b1⟩
/-- what the statement knows of its end -/
structure Fu (e : CE) (S G : Nat) : Prop where
  ep : e.ep = 1
  ack : e.ack = G
  giv : e.ack + e.op.length = S
  due : e.due = false
  ol : e.op.length ≤ 32
def sX : ByteArray := ⟨#[120]⟩
theorem Fu.send {e : CE} {S G : Nat} (h : Fu e S G) : (S - G < 32 ∧ G ≤ S ∧ sendX e sX = 0 ∧ Fu (sendE e sX) (S + 1) G ∧ (sendE e sX).op.length = e.op.length + 1) ∨ (S - G = 32 ∧ G ≤ S ∧ sendX e sX = 11 ∧ sendE e sX = e) := by
  obtain ⟨h1, h2, h3, h4, h5⟩ := h
  rcases sendX_is e sX with ⟨h, _⟩ | ⟨_, h7, h8, h9⟩ | ⟨_, h7, h8, h9⟩
  · exact absurd h (by decide)
  · exact .inr ⟨by omega, by omega, h8, h9⟩
  · refine .inl ⟨by omega, by omega, h8, ?_, ?_⟩
    · rw [h9]; exact ⟨h1, h2, by simp; omega, h4, by simp; omega⟩
    · rw [h9]; simp
def gF (N : Nat) : Gm := ⟨0, false, 1, 0, N, .empty⟩
theorem Fu.take {e : CE} {S G K : Nat} (h : Fu e S G) (hS : S = G + 32) (hK : K < 33) : takeX e (gF (G + K)) = 0 ∧ Fu (takeE e (gF (G + K))) S (G + K) := by
  obtain ⟨h1, h2, h3, h4, h5⟩ := h
  have hx : checkX e (gF (G + K)) = 0 := by
    rcases check_cases e (gF (G + K)) with ⟨h, _⟩ | ⟨_, h, _⟩ | ⟨_, _, h, _⟩ | ⟨_, _, _, h, _⟩ | ⟨_, _, _, _, h, _⟩ | ⟨_, _, _, _, h, _⟩ | ⟨_, h, _⟩ | ⟨_, _, _, _, _, h⟩ | ⟨_, h, _⟩
    · exact absurd h1.symm h
    · exact absurd h (by simp [gF])
    · simp [gF] at h; omega
    · simp [gF] at h; omega
    · simp [gF, CE.given] at h; omega
    · exact absurd rfl h
    · simp [gF] at h
    · exact h
    · simp [gF] at h
  refine ⟨hx, ?_⟩
  have he : takeE e (gF (G + K)) = settleE e (G + K) := by
    unfold takeE
    rw [if_neg (by simp [hx]), if_pos (show (gF (G + K)).sq = 0 from rfl)]
    show settleE e ((G + K : Nat) : Int).toNat = _
    rw [Int.toNat_natCast]
  rw [he]
  unfold settleE
  split
  · exact ⟨h1, by omega, h3, h4, h5⟩
  · exact ⟨h1, rfl, by simp; omega, h4, by simp; omega⟩
theorem Fu.out {e : CE} {S G : Nat} (h : Fu e S G) : (outL e).length = S - G ∧ outE e = e := by
  obtain ⟨h1, h2, h3, h4, h5⟩ := h
  refine ⟨?_, by unfold outE; cases e; cases h4; rfl⟩
  unfold outL
  split
  · rename_i h0; rw [h4]; simp [h0] at h3 ⊢; omega
  · rw [gms_len]; omega
set_option maxRecDepth 100000 in
set_option maxHeartbeats 4000000 in
theorem full_walk (a : Option Addr) (n c : Nat) (zs : List Int) (w : World) (hI : Ints w a n zs) (hn : n ≤ maxLen) :
    Calls Try.prog 7 #[.slice a n c] w fun e w' => e = .returned (.bool true) ∧ Below w.heap.size w w' := by
  have HI := Lib.hid hI
  unfold maxLen at hn
  clear hI
  go_enter Try.func7, Try.ntmps7
  go_wp2_with fail
  refine (awake_any w).mono ?_
  rintro e w1 ⟨rfl, b1⟩
  go_wp2_with fail
  refine (new_any 1 w1 (by decide) (by decide)).mono ?_
  rintro r w2 ⟨p, rfl, hA, b2⟩
  have H0 : Hid (Solo w w2 p 0 (newE 1)) := Lib.hid ⟨_, hA, fun k x => Nat.le_trans b1.size x.1, b1.trans (b2.mono b1.size)⟩
  have F0 : Hid (Fu (newE 1) 0 0) := Lib.hid ⟨rfl, rfl, rfl, rfl, by decide⟩
  clear hA b1 b2
  go_wp2_with fail
  go_loopw [4, 5, 6] (fun s g i wr => ∃ (k S G : Nat) (e : CE), k ≤ 20 ∧ k ≤ n ∧ S ≤ 900 ∧ S ≤ 33 * k + 32 ∧ i = .int .i64 (k : Int) ∧ s = .int .i64 (S : Int) ∧ g = .int .i64 (G : Int) ∧ Hid (Solo w wr p (50 * k) e) ∧ Hid (Fu e S G) ∧ G ≤ 33 * k) (fun _ _ i _ => 20 - (intOf i).toNat)
  case atStart => exact ⟨0, 0, 0, newE 1, by omega, by omega, by omega, by omega, rfl, rfl, rfl, H0, F0, by omega⟩
  case round =>
    obtain ⟨k, S, G, e, hk, hkn, hS, hSk, rfl, rfl, rfl, HS, HF, hG⟩ := hrel
    clear H0 F0
    by_cases hlt : k < 20 ∧ k < n
    · obtain ⟨h1, h2⟩ := hlt
      have h1i : (k : Int) < 20 := by omega
      have h1d : decide ((k : Int) < 20) = true := decide_eq_true h1i
      go_wp2_with fail
      go_loopw [4, 7] (fun s j wr => ∃ (m S2 : Nat) (e : CE), m ≤ 40 ∧ j = .int .i64 (m : Int) ∧ s = .int .i64 (S2 : Int) ∧ Hid (Solo w wr p (50 * k + m) e) ∧ Hid (Fu e S2 G) ∧ (S2 = G + 32 ∨ m ≤ e.op.length) ∧ S2 ≤ G + 32) (fun _ j _ => 40 - (intOf j).toNat)
      case atStart => exact ⟨0, S, e, by omega, rfl, rfl, HS, HF, .inr (Nat.zero_le _), by have := HF.out.giv; have := HF.out.ack; have := HF.out.ol; omega⟩
      case round =>
        obtain ⟨m, S2, e2, hm, rfl, rfl, HS2, HF2, hor, hle⟩ := hrel
        clear HS HF
        by_cases hm2 : m < 40
        · have HSE := Lib.hid (HS2.out.send sX)
          rcases HF2.out.send with ⟨q1, q2, q3, q4, q5⟩ | ⟨q1, q2, q3, q4⟩
          · have hw : IntKind.i64.wrap ((S2 : Int) - (G : Int)) = ((S2 - G : Nat) : Int) := by rw [IntKind.wrap_i64]; omega
            have hw2 : ((S2 - G : Nat) : Int) < 32 := by omega
            have hw3 : IntKind.i64.wrap ((S2 : Int) + 1) = ((S2 + 1 : Nat) : Int) := by rw [IntKind.wrap_i64]; omega
            rw [q3] at HSE
            have HF3 := Lib.hid q4
            go_wp2_with fail
            refine HSE.out.mono ?_
            rintro r w4 ⟨rfl, s4⟩
            have HS4 := Lib.hid s4
            clear s4 HSE HS2 HF2 q4
            go_wp2
            go_roundw
            case rel => exact ⟨m + 1, S2 + 1, _, by omega, by go_num, by go_num, by rw [show 50 * k + (m + 1) = 50 * k + m + 1 by omega]; exact HS4, HF3, by omega, by omega⟩
            case measure => simp [intOf]; omega
          · have hw : IntKind.i64.wrap ((S2 : Int) - (G : Int)) = ((S2 - G : Nat) : Int) := by rw [IntKind.wrap_i64]; omega
            have hw2 : ¬ ((S2 - G : Nat) : Int) < 32 := by omega
            rw [q3, q4] at HSE
            go_wp2_with fail
            refine HSE.out.mono ?_
            rintro r w4 ⟨rfl, s4⟩
            have HS4 := Lib.hid s4
            clear s4 HSE HS2
            go_wp2
            go_roundw
            case rel => exact ⟨m + 1, S2, e2, by omega, by go_num, rfl, by rw [show 50 * k + (m + 1) = 50 * k + m + 1 by omega]; exact HS4, HF2, .inl (by omega), by omega⟩
            case measure => simp [intOf]; omega
        · obtain rfl : m = 40 := by omega
          have hS2 : S2 = G + 32 := by have := HF2.out.giv; have := HF2.out.ack; have := HF2.out.ol; omega
          obtain ⟨b0, off, z, ha, hb0, _, hz, hz1, hz2⟩ := (HI.out.below (HS2.out.bel)).at_ h2
          subst ha
          obtain ⟨K, hKe, hK⟩ := cut_of z 33 (by omega) (by omega)
          have hK33 : K < 33 := by omega
          obtain ⟨hx, hf⟩ := HF2.out.take hS2 hK33
          have htk := HS2.out.take (by omega) (gF (G + K))
          rw [hx] at htk
          have HTK : Hid (Calls Try.prog 17 #[.pointer (some ⟨p, 0, none⟩), .agg #[.int .i64 0, .bool false, .int .i64 1, .int .i64 0, .int .i64 ((G : Int) + (K : Int)), .string ⟨#[]⟩]] wr fun r w' => ∃ v q, r = .returned (.tuple #[.slice v (takeL e2 (gF (G + K))).length q, .int .i64 0]) ∧ Solo w w' p (50 * k + 40 + 2) (takeE e2 (gF (G + K)))) :=
            Lib.hid (htk.mono fun r w' ⟨v, q, h1, _, h3⟩ => ⟨v, q, h1, h3⟩)
          have HF3 := Lib.hid hf
          have hop : (takeE e2 (gF (G + K))).op.length = S2 - (G + K) := by have := hf.giv; have := hf.ack; omega
          have hout := hf.out
          have hw3 : IntKind.i64.wrap ((S2 : Int) - ((G : Int) + (K : Int))) = ((S2 - (G + K) : Nat) : Int) := by rw [IntKind.wrap_i64]; omega
          have hw : IntKind.i64.wrap ((G : Int) + (K : Int)) = (G : Int) + (K : Int) := by rw [IntKind.wrap_i64]; omega
          generalize (takeL e2 (gF (G + K))).length = tl at HTK
          generalize takeE e2 (gF (G + K)) = e3 at HTK HF3 hop hout
          clear hx hf htk HS2 HF2 hor
          have HOL := Lib.hid hout
          clear hout
          go_wp2_with fail
          refine HTK.out.mono ?_
          rintro r w5 ⟨v, q, rfl, s5⟩
          have HS5 := Lib.hid s5
          clear s5 HTK
          go_wp2_with fail
          refine HS5.out.open_.mono ?_
          rintro r _ ⟨rfl, rfl⟩
          rw [hop]
          generalize hd : S2 - (G + K) = D at hw3 HOL hop ⊢
          go_wp2_with fail
          refine (HS5.out.out (by omega)).mono ?_
          rintro r w6 ⟨v6, q6, rfl, s6⟩
          rw [HOL.out.1]
          rw [HOL.out.2] at s6
          have HS6 := Lib.hid s6
          clear s6 HS5
          go_wp2
          go_roundw
          case rel => exact ⟨k + 1, S2, G + K, e3, by omega, by omega, by omega, by omega, by go_num, by first | rfl | go_num, by first | rfl | go_num, Lib.hid (by obtain ⟨F, q1, q2⟩ := HS6.out; exact ⟨F, q1.mono (by omega), q2⟩), HF3, by omega⟩
          case measure => simp [intOf]; omega
    · have HB := Lib.hid HS.out.bel
      clear HS HF HI
      have h1i : ¬ (k : Int) < (n : Int) ∨ ((k : Int) < (n : Int) ∧ ¬ (k : Int) < 20) := by omega
      rcases h1i with h1i | ⟨h0i, h1i⟩
      · go_wp2
        go_ret
        exact ⟨rfl, HB.out⟩
      · go_wp2
        go_ret
        exact ⟨rfl, HB.out⟩
end Go.Proofs.Ytbbikibkijncgaa.Cord
