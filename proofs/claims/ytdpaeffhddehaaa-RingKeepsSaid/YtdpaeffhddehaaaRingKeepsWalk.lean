/- The walk of the statement RingKeeps. -/
import Derived.Test.YtdpaeffhddehaaaRingTrack
import Derived.Test.YtdpaeffhddehaaaRingAwake
import Derived.Test.YtdpaeffhddehaaaRingActs
import Derived.Deep.RegionHeld3
import Derived.Lib.QuietBelow
import Derived.Deep.CutBlock
import Derived.Deep.DeepCutAuto
namespace Go.Proofs.Ytdpaeffhddehaaa.RingS
set_option maxRecDepth 100000
open Go.RowKit Go.Shelf Go.Sort
open Go.Proofs.Ytdpaeffhddehaaa.Mem
open Go.Proofs.Ytdpaeffhddehaaa.Ring
attribute [local go_sem] Oper.semAt_some

theorem cut_of (x : Int) (n : Int) (hn : 1 ≤ n) (hm : n ≤ 9223372036854775807) : ∃ K : Nat, wrap64 ((IntKind.u64.wrap x).tmod n) = (K : Int) ∧ (K : Int) < n := by
  have h0 : 0 ≤ IntKind.u64.wrap x := by rw [IntKind.wrap_u64]; omega
  rw [Int.tmod_eq_emod_of_nonneg h0]
  have h1 := Int.emod_nonneg (IntKind.u64.wrap x) (b := n) (by omega)
  have h2 := Int.emod_lt_of_pos (IntKind.u64.wrap x) (b := n) (by omega)
  generalize IntKind.u64.wrap x % n = z at h1 h2 ⊢
  exact ⟨z.toNat, by unfold wrap64; omega, by omega⟩
theorem add_of (x c : Int) (n : Int) (hc : 0 ≤ c ∧ c ≤ 1000) (hn : 1 ≤ n) (hm : n ≤ 1000) : ∃ K : Nat, wrap64 (c + wrap64 ((IntKind.u64.wrap x).tmod n)) = (K : Int) ∧ c ≤ K ∧ (K : Int) < c + n := by
  obtain ⟨K, h1, h2⟩ := cut_of x n hn (by omega)
  exact ⟨(c + K).toNat, by rw [h1]; unfold wrap64; omega, by omega, by omega⟩
theorem info_s : (Try.prog.info? 9).map (fun i => (i.zero, i.size, i.bytes)) = some (some (.string ⟨#[]⟩), 1, 16) := by kernel_rfl
theorem info_b : (Try.prog.info? 4).map (fun i => (i.zero, i.size, i.bytes)) = some (some (.bool false), 1, 1) := by kernel_rfl
theorem info_i : (Try.prog.info? 3).map (fun i => (i.zero, i.size, i.bytes)) = some (some (.int .i64 0), 1, 8) := by kernel_rfl
theorem run_ss (w : World) : (Instr.makeSlice 51 (.int .i64 64) (.int .i64 64)).run Try.prog w = .ok (.slice (some ⟨w.heap.size, 0, none⟩) 64 64) (w.alloc (.cells (madeCells #[.string ⟨#[]⟩] 64) 9)) := by
  obtain ⟨i0, hi, hz0, hz1, hz2⟩ := info_parts info_s
  have h := run_make (P := Try.prog) w 51 9 i0 _ Try.underlying51 hi hz0 .i64 .i64 64 64 (by omega) (Int.le_refl _) (by rw [hz2]; omega) (by omega)
  rw [hz1] at h
  exact h
theorem run_bb (w : World) : (Instr.makeSlice 52 (.int .i64 64) (.int .i64 64)).run Try.prog w = .ok (.slice (some ⟨w.heap.size, 0, none⟩) 64 64) (w.alloc (.cells (madeCells #[.bool false] 64) 4)) := by
  obtain ⟨i0, hi, hz0, hz1, hz2⟩ := info_parts info_b
  have h := run_make (P := Try.prog) w 52 4 i0 _ Try.underlying52 hi hz0 .i64 .i64 64 64 (by omega) (Int.le_refl _) (by rw [hz2]; omega) (by omega)
  rw [hz1] at h
  exact h
theorem run_ii (w : World) : (Instr.makeSlice 53 (.int .i64 64) (.int .i64 64)).run Try.prog w = .ok (.slice (some ⟨w.heap.size, 0, none⟩) 64 64) (w.alloc (.cells (madeCells #[.int .i64 0] 64) 3)) := by
  obtain ⟨i0, hi, hz0, hz1, hz2⟩ := info_parts info_i
  have h := run_make (P := Try.prog) w 53 3 i0 _ Try.underlying53 hi hz0 .i64 .i64 64 64 (by omega) (Int.le_refl _) (by rw [hz2]; omega) (by omega)
  rw [hz1] at h
  exact h
theorem putAt_twice {S : RState} {i : Nat} {x y : Option Thing} : putAt (putAt S i x) i y = putAt S i y := by
  unfold putAt
  simp only
  congr 1
  funext j
  unfold upF
  split <;> rfl
theorem let_no (k : Int) (w : World) {p : Nat} {M : Nat → Prop} {S : RState} (h : RQ w p M S) (hk : atS S k = none) :
    Calls Try.prog 19 #[.pointer (some ⟨p, 0, none⟩), .int .i64 k] w fun e w' => e = .returned (.bool false) ∧ Below w.heap.size w w' := by
  obtain ⟨fb, ad, h⟩ := h
  have HT := Lib.hid (thing_miss k w h hk)
  clear h hk
  go_enter Try.func19, Try.ntmps19
  go_wp2_with fail
  refine HT.out.mono ?_
  rintro e w1 ⟨rfl, b1⟩
  go_wp2
  go_ret
  exact ⟨rfl, b1⟩
/-- all that a round of RingKeeps knows of memory -/
structure KK (w0 w : World) (p gv gh gq : Nat) (b : Nat) (S : RState) (T : Tr) : Prop where
  ring : RQ w p (fun k => k < b ∨ k = gv ∨ k = gh ∨ k = gq) S
  rv : Arr w gv 9 64 (fun k => .string (T.v k))
  rh : Arr w gh 4 64 (fun k => .bool (T.h k))
  rq : Arr w gq 3 64 (fun k => .int .i64 (T.q k : Int))
  bel : Below b w0 w
  le : b ≤ gv ∧ gv < gh ∧ gh < gq
section
variable {w0 w w' : World} {p gv gh gq b : Nat} {S S2 : RState} {T : Tr}
theorem KK.below (h : KK w0 w p gv gh gq b S T) (hb : Below w.heap.size w w') : KK w0 w' p gv gh gq b S T :=
  ⟨h.ring.below hb, h.rv.below hb, h.rh.below hb, h.rq.below hb, h.bel.trans (hb.mono (Nat.le_trans (Nat.le_trans h.le.1 (Nat.le_of_lt h.rv.lt)) (Nat.le_refl _))), h.le⟩
theorem KK.call (h : KK w0 w p gv gh gq b S T) (r : RQ w' p (fun k => k < b ∨ k = gv ∨ k = gh ∨ k = gq) S2) (k : Keep (fun k => k < b ∨ k = gv ∨ k = gh ∨ k = gq) w w') : KK w0 w' p gv gh gq b S2 T :=
  ⟨r, h.rv.keep k (.inr (.inl rfl)), h.rh.keep k (.inr (.inr (.inl rfl))), h.rq.keep k (.inr (.inr (.inr rfl))), h.bel.trans (k.below (fun _ h => .inl h)), h.le⟩
theorem KK.setV (h : KK w0 w p gv gh gq b S T) {k : Nat} (hk : k < 64) (x : ByteArray) : KK w0 (w.setCell ⟨gv, k, none⟩ (.string x)) p gv gh gq b S ⟨up T.v k x, T.h, T.q⟩ := by
  obtain ⟨l1, l2, l3⟩ := h.le
  refine ⟨h.ring.set_ (.inr (.inl rfl)) k _, ?_, h.rh.far (p := ⟨gv, k, none⟩) (by show gh ≠ gv; omega) _, h.rq.far (p := ⟨gv, k, none⟩) (by show gq ≠ gv; omega) _, h.bel.setCell (p := ⟨gv, k, none⟩) l1 _, h.le⟩
  have := h.rv.set_ hk (fun j => .string (up T.v k x j)) (fun j => by unfold up; by_cases e : j = k <;> simp [e])
  simp only [up_self] at this
  exact this
theorem KK.setH (h : KK w0 w p gv gh gq b S T) {k : Nat} (hk : k < 64) (x : Bool) : KK w0 (w.setCell ⟨gh, k, none⟩ (.bool x)) p gv gh gq b S ⟨T.v, up T.h k x, T.q⟩ := by
  obtain ⟨l1, l2, l3⟩ := h.le
  refine ⟨h.ring.set_ (.inr (.inr (.inl rfl))) k _, h.rv.far (p := ⟨gh, k, none⟩) (by show gv ≠ gh; omega) _, ?_, h.rq.far (p := ⟨gh, k, none⟩) (by show gq ≠ gh; omega) _, h.bel.setCell (p := ⟨gh, k, none⟩) (by show b ≤ gh; omega) _, h.le⟩
  have := h.rh.set_ hk (fun j => .bool (up T.h k x j)) (fun j => by unfold up; by_cases e : j = k <;> simp [e])
  simp only [up_self] at this
  exact this
theorem KK.setQ (h : KK w0 w p gv gh gq b S T) {k : Nat} (hk : k < 64) (x : Nat) : KK w0 (w.setCell ⟨gq, k, none⟩ (.int .i64 (x : Int))) p gv gh gq b S ⟨T.v, T.h, up T.q k x⟩ := by
  obtain ⟨l1, l2, l3⟩ := h.le
  refine ⟨h.ring.set_ (.inr (.inr (.inr rfl))) k _, h.rv.far (p := ⟨gq, k, none⟩) (by show gv ≠ gq; omega) _, h.rh.far (p := ⟨gq, k, none⟩) (by show gh ≠ gq; omega) _, ?_, h.bel.setCell (p := ⟨gq, k, none⟩) (by show b ≤ gq; omega) _, h.le⟩
  have := h.rq.set_ hk (fun j => .int .i64 ((up T.q k x j : Nat) : Int)) (fun j => by unfold up; by_cases e : j = k <;> simp [e])
  simp only [up_self] at this
  exact this
end
theorem KK.hAt {w0 w : World} {p gv gh gq b : Nat} {S : RState} {T : Tr} (h : KK w0 w p gv gh gq b S T) {k : Nat} (hk : k < 64) {x : Bool} (e : T.h k = x) : w.cell? ⟨gh, k, none⟩ = some (.bool x) := by rw [← e]; exact (h.rh.at_ hk).1
theorem KK.qAt {w0 w : World} {p gv gh gq b : Nat} {S : RState} {T : Tr} (h : KK w0 w p gv gh gq b S T) {k : Nat} (hk : k < 64) {x : Nat} (e : T.q k = x) : w.cell? ⟨gq, k, none⟩ = some (.int .i64 (x : Int)) := by rw [← e]; exact (h.rq.at_ hk).1
theorem KK.vAt {w0 w : World} {p gv gh gq b : Nat} {S : RState} {T : Tr} (h : KK w0 w p gv gh gq b S T) {k : Nat} (hk : k < 64) {x : ByteArray} (e : T.v k = x) : w.cell? ⟨gv, k, none⟩ = some (.string x) := by rw [← e]; exact (h.rv.at_ hk).1
def Known (w0 w : World) (p gv gh gq : Nat) (b N m n : Nat) : Prop := ∃ S T, KK w0 w p gv gh gq b S T ∧ Mt S T ∧ Low S m ∧ S.N = N ∧ (thingsR S).length = n
theorem len_to {p : Nat} {M : Nat → Prop} {S : RState} {n : Nat} (w : World) (h : RQ w p M S) (e : (thingsR S).length = n) :
    Calls Try.prog 24 #[.pointer (some ⟨p, 0, none⟩)] w fun e w' => e = .returned (.int .i64 (n : Int)) ∧ Below w.heap.size w w' := by
  subst e
  obtain ⟨fb, ad, h⟩ := h
  exact len_any w h
theorem get_to {p : Nat} {M : Nat → Prop} {S S2 : RState} {k : Int} {v : ByteArray} {b : Bool} (w : World) (h : RQ w p M S) (e : getR zS S k = (v, b, S2)) :
    Calls Try.prog 13 #[.pointer (some ⟨p, 0, none⟩), .int .i64 k] w fun e w' => e = .returned (.tuple #[.string v, .bool b]) ∧ RQ w' p M S2 ∧ Keep M w w' := by
  obtain ⟨fb, ad, h⟩ := h
  refine (get_any k w h).mono ?_
  rintro e' w' ⟨h1, h2⟩
  rw [show getR (⟨#[]⟩ : ByteArray) S k = getR zS S k from rfl, e] at h1 h2
  exact ⟨h1, h2.1, h2.2⟩
theorem del_to {p : Nat} {M : Nat → Prop} {S S2 : RState} {k : Int} {v : ByteArray} {b : Bool} (w : World) (h : RQ w p M S) (e : delR zS S k = (v, b, S2)) :
    Calls Try.prog 15 #[.pointer (some ⟨p, 0, none⟩), .int .i64 k] w fun e w' => e = .returned (.tuple #[.string v, .bool b]) ∧ RQ w' p M S2 ∧ Keep M w w' := by
  obtain ⟨fb, ad, h⟩ := h
  refine (del_any k w h).mono ?_
  rintro e' w' ⟨h1, h2⟩
  rw [show delR (⟨#[]⟩ : ByteArray) S k = delR zS S k from rfl, e] at h1 h2
  exact ⟨h1, h2.1, h2.2⟩
theorem pin_to {p : Nat} {M : Nat → Prop} {S S2 : RState} {k : Int} {b : Bool} (w : World) (h : RQ w p M S) (hl : Low S 1000000) (e : pinR S k = (b, S2)) :
    Calls Try.prog 17 #[.pointer (some ⟨p, 0, none⟩), .int .i64 k] w fun e w' => e = .returned (.bool b) ∧ RQ w' p M S2 ∧ Keep M w w' := by
  obtain ⟨fb, ad, h⟩ := h
  refine (pin_any k w h hl).mono ?_
  rintro e' w' ⟨h1, h2⟩
  rw [e] at h1 h2
  exact ⟨h1, h2.1, h2.2⟩
theorem let_to {p : Nat} {M : Nat → Prop} {S S2 : RState} {k : Int} {b : Bool} (w : World) (h : RQ w p M S) (hl : Low S 1000000) (e : letR S k = (b, S2)) :
    Calls Try.prog 19 #[.pointer (some ⟨p, 0, none⟩), .int .i64 k] w fun e w' => e = .returned (.bool b) ∧ RQ w' p M S2 ∧ Keep M w w' := by
  obtain ⟨fb, ad, h⟩ := h
  refine (let_any k w h hl).mono ?_
  rintro e' w' ⟨h1, h2⟩
  rw [e] at h1 h2
  exact ⟨h1, h2.1, h2.2⟩
set_option maxHeartbeats 8000000 in
theorem keeps_walk (fr : Int) (a : Option Addr) (n c : Nat) (zs : List Ring.Act) (w : World) (_hf : -9223372036854775808 ≤ fr ∧ fr ≤ 9223372036854775807) (hI : Acts w a n zs) :
    Calls Try.prog 4 #[.int .i64 fr, .slice a n c] w fun e w' => e = .returned (.bool true) ∧ Below w.heap.size w w' := by
  obtain ⟨N, hNe, hN1, hN2⟩ := add_of fr 1 64 (by omega) (by omega) (by omega)
  have hn1 : 1 ≤ N := by omega
  have hn2 : N ≤ 64 := by omega
  have HI := Lib.hid hI
  have hs := run_ss
  have hb := run_bb
  have hi := run_ii
  clear hN1 hN2 hI
  go_enter Try.func4, Try.ntmps4
  go_wp2_with fail
  refine (awake_any w).mono ?_
  rintro e w1 ⟨rfl, b1⟩
  go_wp2_with fail
  rw [hNe]
  refine (new_any w1 N (by omega)).mono ?_
  rintro e w2 ⟨p, rfl, r1, b2, -⟩
  rw [show clampN (N : Int) = N by unfold clampN; rw [if_neg (by omega), if_neg (by omega)]; omega] at r1
  have B0 := (b1.trans (b2.mono b1.size))
  have hsz := B0.size
  have r2 := ((r1.mono (fun k (hk : k < w.heap.size) => show k < w1.heap.size by have := b1.size; omega)).alloc (.cells (madeCells #[.string ⟨#[]⟩] 64) 9)).alloc (.cells (madeCells #[.bool false] 64) 4)
  have r3 := r2.alloc (.cells (madeCells #[.int .i64 0] 64) 3)
  have a1 := ((Arr.made w2 9 64 (.string ⟨#[]⟩)).alloc (.cells (madeCells #[.bool false] 64) 4)).alloc (.cells (madeCells #[.int .i64 0] 64) 3)
  have a2 := (Arr.made (w2.alloc (.cells (madeCells #[.string ⟨#[]⟩] 64) 9)) 4 64 (.bool false)).alloc (.cells (madeCells #[.int .i64 0] 64) 3)
  have a3 := Arr.made ((w2.alloc (.cells (madeCells #[.string ⟨#[]⟩] 64) 9)).alloc (.cells (madeCells #[.bool false] 64) 4)) 3 64 (.int .i64 0)
  have B1 := ((B0.alloc B0.size (.cells (madeCells #[.string ⟨#[]⟩] 64) 9)).alloc (by simp; omega) (.cells (madeCells #[.bool false] 64) 4)).alloc (by simp; omega) (.cells (madeCells #[.int .i64 0] 64) 3)
  simp only [World.size_alloc] at a2 a3 r3
  have K0 : Hid (Known w (((w2.alloc (.cells (madeCells #[.string ⟨#[]⟩] 64) 9)).alloc (.cells (madeCells #[.bool false] 64) 4)).alloc (.cells (madeCells #[.int .i64 0] 64) 3)) p w2.heap.size (w2.heap.size + 1) (w2.heap.size + 1 + 1) w.heap.size N 0 0) :=
    ⟨newR N, _, ⟨r3.mono (fun k hk => by omega), a1, a2, a3, B1, hsz, by omega, by omega⟩, Mt.new hn1 hn2, fun i t h => (by cases h), rfl, by
      have := things_le (newR N : RState)
      show (thingsF _ _).length = 0
      have h0 : ∀ k, (thingsF (newR N : RState).f k).length = 0 := fun k => by
        induction k with
        | zero => rfl
        | succ k ih => rw [thingsF, List.length_append, ih]; rfl
      exact h0 _⟩
  clear r1 r2 r3 a1 a2 a3 B0 B1 hsz b1 b2 hNe
  go_wp2
  go_loopw [9, 10] (fun vn vi wr => ∃ (k s : Nat), k ≤ 200 ∧ k ≤ n ∧ vi = .int .i64 (k : Int) ∧ vn = .int .i64 (s : Int) ∧ s ≤ N ∧ Hid (Known w wr p w2.heap.size (w2.heap.size + 1) (w2.heap.size + 1 + 1) w.heap.size N k s)) (fun _ vi _ => 200 - (intOf vi).toNat)
  case atStart => exact ⟨0, 0, Nat.zero_le _, Nat.zero_le _, rfl, rfl, Nat.zero_le _, K0⟩
  case round =>
    obtain ⟨m, s, hm, hmn, rfl, rfl, hsN, HK⟩ := hrel
    clear K0
    generalize w2.heap.size = g0 at *
    clear hs hb hi
    rcases (show (m < n ∧ m < 200) ∨ (m < n ∧ m = 200) ∨ m = n by omega) with ⟨hlt, hlt2⟩ | ⟨hlt, h⟩ | h
    · obtain ⟨S, T, hK, hM, hL, hSN, hSl⟩ := HK.out
      obtain ⟨bz, off, x, rfl, hbz, -, hx, hg⟩ := HI.out.at_ hlt
      obtain ⟨kd, kk, vv⟩ := x
      obtain ⟨x0, x1, x2⟩ := hx
      have HX2 := Lib.hid x2
      have HBZ := Lib.hid hbz
      have x0 := (hK.bel.cell (p := ⟨bz, off + m * 3, none⟩) hbz).trans x0
      have x1 := (hK.bel.cell (p := ⟨bz, off + m * 3 + 1, none⟩) hbz).trans x1
      have x2 := (hK.bel.cell (p := ⟨bz, off + m * 3 + 1 + 1, none⟩) hbz).trans x2
      clear hbz
      obtain ⟨g1, g2, g3, g4, g5⟩ := hg
      simp only at x0 x1 x2 g1 g2 g3 g4 g5
      obtain ⟨K, hKe, hKl⟩ := cut_of kk 64 (by omega) (by omega)
      have hK64 : K < 64 := by omega
      have hKi : (K : Int) < 64 := by omega
      have hK0 : (0 : Int) ≤ (K : Int) := by omega
      have HKE := Lib.hid hKe
      have HKK := Lib.hid hK
      have HM := Lib.hid hM
      have HLO := Lib.hid hL
      have HSN := Lib.hid hSN
      have HSL := Lib.hid hSl
      clear HK hK hM hL hSN hSl hKe hKl
      by_cases k1 : kd = 1
      · as_aux_lemma =>
          subst k1
          cases hTh : T.h K with
          | true =>
            as_aux_lemma =>
            obtain ⟨i, t, hat, hi, hf, htk, htv, htp⟩ := HM.out.hit hK64 hTh
            have hg : putR zS S (K : Int) vv = (⟨0, zS, false⟩, true, putAt S i (some { t with val := vv, fresh := true })) := by unfold putR; rw [hat]; rfl
            have HP := Lib.hid (put_to wr HKK.out.ring hg)
            have hM2 := HM.out.turned hK64 hi hf htk (u := { t with val := vv, fresh := true }) htk
            simp only at hM2
            rw [up_same T.q K t.pins htp] at hM2
            have HM2 := Lib.hid hM2
            have HL2 := Lib.hid (low_put (i := i) (x := some { t with val := vv, fresh := true }) (low_mono HLO.out (show m ≤ m + 1 by omega)) (fun u hu => by cases hu; exact Nat.le_trans (HLO.out i t hf) (by omega)))
            have HS2 := Lib.hid (show (thingsR (putAt S i (some { t with val := vv, fresh := true }))).length = s by
              have := things_len_put (S := S) (x := some { t with val := vv, fresh := true }) hi
              rw [hf, HSL.out] at this
              simpa using this)
            have HTH := Lib.hid hTh
            clear hat hi hf htk htv htp hg hTh hM2
            go_wp2_with fail
            rw [HKE.out]
            refine HP.out.mono ?_
            rintro e w5 ⟨rfl, r5, k5⟩
            have HK5 := HKK.out.call r5 k5
            have HK6 := HK5.below ((Below.refl _ _).alloc (Nat.le_refl _) (.cells #[.int .i64 0, .string zS, .bool false] 31))
            have o6 := Blk.new w5 31 #[.int .i64 0, .string zS, .bool false]
            go_upto_region 16 with (fail)
            generalize hGen : w5.alloc (.cells #[.int .i64 0, .string zS, .bool false] 31) = W6 at HK6 o6 ⊢
            clear hGen
            generalize w5.heap.size = gO at o6 ⊢
            have o0 := o6.cell 0
            have o1 := o6.cell 1
            have o2 := o6.cell 2
            have x2 := (HK6.bel.cell (p := ⟨bz, off + m * 3 + 1 + 1, none⟩) HBZ.out).trans HX2.out
            have hz1 : ¬ bz = g0 + 1 := by have := HBZ.out; have := HK6.le.1; omega
            have hz2 : ¬ bz = g0 + 1 + 1 := by have := HBZ.out; have := HK6.le.1; omega
            have y1 := HK6.hAt hK64 HTH.out
            have y2 := (HK6.rv.at_ hK64).1
            have y3 := (HK6.rv.at_ hK64).2
            have HK7 := Lib.hid (HK6.setV hK64 vv)
            clear r5 k5 HP HKK HKE HTH HM HLO HSL HK5 HK6 o6
            have HL := Lib.hid (len_to _ (HK7.out).ring (HS2.out))
            go_wp2_with fail
            refine HL.out.mono ?_
            rintro e w9 ⟨rfl, b9⟩
            have HN := Lib.hid (show Known w w9 p g0 (g0 + 1) (g0 + 1 + 1) w.heap.size N (m + 1) (s) from ⟨_, _, (HK7.out).below b9, HM2.out, HL2.out, HSN.out, HS2.out⟩)
            clear HL b9 HK7 HM2 HL2 HSN HS2 y1 y2 y3
            go_wp2
            go_roundw
            case rel => exact ⟨m + 1, s, by omega, by omega, by go_num, by go_num, by first | omega | exact HLE.out, HN⟩
            case measure => simp [intOf]; omega
          | false =>
            have hP := put_is zS HKK.out.ring.wf (K : Int) vv
            generalize hPR : putR zS S (K : Int) vv = PR at hP
            have hmiss := fun j t (hj : j < S.N) (ht : S.f j = some t) => HM.out.miss hTh j t hj ht
            cases hP with
            | hit i t hi hf hk => exact absurd hk (hmiss i t hi hf)
            | vac i hi hf hk =>
              as_aux_lemma =>
              have HP := Lib.hid (put_to wr HKK.out.ring hPR)
              have HM2 := Lib.hid (HM.out.laid (x := vv) hK64 hi hf hTh)
              have HL2 := Lib.hid (low_put (i := i) (x := some ⟨(K : Int), vv, 0, true⟩) (low_mono HLO.out (show m ≤ m + 1 by omega)) (fun u hu => by cases hu; exact Nat.zero_le _))
              have HS2 := Lib.hid (show (thingsR (putAt S i (some ⟨(K : Int), vv, 0, true⟩))).length = s + 1 by
                have := things_len_put (S := S) (x := some ⟨(K : Int), vv, 0, true⟩) hi
                rw [hf, HSL.out] at this
                simpa using this)
              have HLE := Lib.hid (show s + 1 ≤ N by
                have := things_le (putAt S i (some (⟨(K : Int), vv, 0, true⟩ : Thing)))
                rw [HS2.out, putAt_N, HSN.out] at this
                exact this)
              have hle9 := HLE.out
              have HTH := Lib.hid hTh
              simp only [noOu] at HP
              clear hi hf hk hTh hmiss hPR
              go_wp2_with fail
              rw [HKE.out]
              refine HP.out.mono ?_
              rintro e w5 ⟨rfl, r5, k5⟩
              have HK5 := HKK.out.call r5 k5
              have HK6 := HK5.below ((Below.refl _ _).alloc (Nat.le_refl _) (.cells #[.int .i64 0, .string zS, .bool false] 31))
              have o6 := Blk.new w5 31 #[.int .i64 0, .string zS, .bool false]
              go_upto_region 16 with (fail)
              generalize hGen : w5.alloc (.cells #[.int .i64 0, .string zS, .bool false] 31) = W6 at HK6 o6 ⊢
              clear hGen
              generalize w5.heap.size = gO at o6 ⊢
              have o0 := o6.cell 0
              have o1 := o6.cell 1
              have o2 := o6.cell 2
              have x2 := (HK6.bel.cell (p := ⟨bz, off + m * 3 + 1 + 1, none⟩) HBZ.out).trans HX2.out
              have hz1 : ¬ bz = g0 + 1 := by have := HBZ.out; have := HK6.le.1; omega
              have hz2 : ¬ bz = g0 + 1 + 1 := by have := HBZ.out; have := HK6.le.1; omega
              have y1 := HK6.hAt hK64 HTH.out
              have y2 := (HK6.rv.at_ hK64).1
              have y3 := (HK6.rv.at_ hK64).2
              have y4 := (HK6.rh.at_ hK64).2
              have y5 := (HK6.rq.at_ hK64).1
              have y6 := (HK6.rq.at_ hK64).2
              have HK7 := Lib.hid ((show KK w ((W6.setCell ⟨g0 + 1, K, none⟩ (.bool true)).setCell ⟨g0 + 1 + 1, K, none⟩ (.int .i64 0)) p g0 (g0 + 1) (g0 + 1 + 1) w.heap.size _ _ from (HK6.setH hK64 true).setQ hK64 0).setV hK64 vv)
              clear r5 k5 HP HKK HKE HTH HM HLO HSL HK5 HK6 o6
              have HL := Lib.hid (len_to _ (HK7.out).ring (HS2.out))
              go_wp2_with fail
              refine HL.out.mono ?_
              rintro e w9 ⟨rfl, b9⟩
              have HN := Lib.hid (show Known w w9 p g0 (g0 + 1) (g0 + 1 + 1) w.heap.size N (m + 1) (s + 1) from ⟨_, _, (HK7.out).below b9, HM2.out, HL2.out, HSN.out, HS2.out⟩)
              clear HL b9 HK7 HM2 HL2 HSN HS2 y1 y2 y3 y4 y5 y6
              go_wp2
              go_roundw
              case rel => exact ⟨m + 1, s + 1, by omega, by omega, by go_num, by go_num, by first | omega | exact HLE.out, HN⟩
              case measure => simp [intOf]; omega
            | full ht hp hk =>
              as_aux_lemma =>
              have hsN2 : N = s := by rw [← HSL.out, ← HSN.out]; exact (thingsR_full ht).symm
              subst hsN2
              have HP := Lib.hid (put_to wr HKK.out.ring hPR)
              have HTH := Lib.hid hTh
              simp only [noOu] at HP
              clear ht hp hk hTh hmiss hPR
              go_wp2_with fail
              rw [HKE.out]
              refine HP.out.mono ?_
              rintro e w5 ⟨rfl, r5, k5⟩
              have HK5 := HKK.out.call r5 k5
              have HK6 := HK5.below ((Below.refl _ _).alloc (Nat.le_refl _) (.cells #[.int .i64 0, .string zS, .bool false] 31))
              have o6 := Blk.new w5 31 #[.int .i64 0, .string zS, .bool false]
              go_upto_region 16 with (fail)
              generalize hGen : w5.alloc (.cells #[.int .i64 0, .string zS, .bool false] 31) = W6 at HK6 o6 ⊢
              clear hGen
              generalize w5.heap.size = gO at o6 ⊢
              have o0 := o6.cell 0
              have o1 := o6.cell 1
              have o2 := o6.cell 2
              have x2 := (HK6.bel.cell (p := ⟨bz, off + m * 3 + 1 + 1, none⟩) HBZ.out).trans HX2.out
              have hz1 : ¬ bz = g0 + 1 := by have := HBZ.out; have := HK6.le.1; omega
              have hz2 : ¬ bz = g0 + 1 + 1 := by have := HBZ.out; have := HK6.le.1; omega
              have y1 := HK6.hAt hK64 HTH.out
              have HK7 := Lib.hid HK6
              clear r5 k5 HP HKK HKE HTH HK5 HK6 o6
              have HL := Lib.hid (len_to _ (HK7.out).ring (HSL.out))
              go_wp2_with fail
              refine HL.out.mono ?_
              rintro e w9 ⟨rfl, b9⟩
              have HN := Lib.hid (show Known w w9 p g0 (g0 + 1) (g0 + 1 + 1) w.heap.size N (m + 1) (N) from ⟨S, T, (HK7.out).below b9, HM.out, low_mono HLO.out (by omega), HSN.out, HSL.out⟩)
              clear HL b9 HK7 HM HLO HSN HSL y1
              go_wp2
              go_roundw
              case rel => exact ⟨m + 1, N, by omega, by omega, by go_num, by go_num, by first | omega | exact HLE.out, HN⟩
              case measure => simp [intOf]; omega
            | turn i t S2 hi hf hN hw hp ht hk hs =>
              as_aux_lemma =>
              have hsN2 : N = s := by rw [← HSL.out, ← HSN.out]; exact (thingsR_full ht).symm
              subst hsN2
              have hT2 := HM.out.tired hN hw hs
              obtain ⟨k2, hk2, e1, e2, e3, e4⟩ := hT2.key i t (by omega) hf
              have hKk : K ≠ k2 := fun e => by rw [e, e2] at hTh; cases hTh
              have hM2 := (hT2.gone (by omega) hf e1).laid (x := vv) (k := K) (i := i) hK64 (by rw [putAt_N]; omega) (by rw [putAt_at, if_pos rfl]) (by simp only; rw [up_other _ _ hKk]; exact hTh)
              rw [putAt_twice] at hM2
              have HM2 := Lib.hid hM2
              have HL2 := Lib.hid (low_put (i := i) (x := some ⟨(K : Int), vv, 0, true⟩) (low_mono (low_tired HLO.out hs) (show m ≤ m + 1 by omega)) (fun u hu => by cases hu; exact Nat.zero_le _))
              have HS2 := Lib.hid (show (thingsR (putAt S2 i (some ⟨(K : Int), vv, 0, true⟩))).length = N by
                rw [thingsR_full (fun j hj => ?_), putAt_N, hN, HSN.out]
                rw [putAt_at]
                split
                · exact ⟨_, rfl⟩
                · rcases hs j with e | ⟨t', _, _, e3⟩
                  · rw [e]; exact ht j (by rw [← hN]; exact hj)
                  · exact ⟨_, e3⟩)
              have HSN2 := Lib.hid (show (putAt S2 i (some (⟨(K : Int), vv, 0, true⟩ : Thing))).N = N by rw [putAt_N, hN, HSN.out])
              rw [e1] at hPR
              have HP := Lib.hid (put_to wr HKK.out.ring hPR)
              have HTH := Lib.hid hTh
              have HE2 := Lib.hid e2
              have HE3 := Lib.hid e3
              have HE4 := Lib.hid (e4.trans hp)
              have hk2i : (k2 : Int) < 64 := by omega
              have hk20 : (0 : Int) ≤ (k2 : Int) := by omega
              have hKk2 : ¬ k2 = K := fun e => hKk e.symm
              generalize t.val = tv at HP HE3
              clear hf hN hw hp ht hk hs hT2 e1 e2 e3 e4 hM2 hPR hTh hmiss
              go_wp2_with fail
              rw [HKE.out]
              refine HP.out.mono ?_
              rintro e w5 ⟨rfl, r5, k5⟩
              have HK5 := HKK.out.call r5 k5
              have HK6 := HK5.below ((Below.refl _ _).alloc (Nat.le_refl _) (.cells #[.int .i64 (k2 : Int), .string tv, .bool true] 31))
              have o6 := Blk.new w5 31 #[.int .i64 (k2 : Int), .string tv, .bool true]
              go_upto_region 16 with (fail)
              generalize hGen : w5.alloc (.cells #[.int .i64 (k2 : Int), .string tv, .bool true] 31) = W6 at HK6 o6 ⊢
              clear hGen
              generalize w5.heap.size = gO at o6 ⊢
              have o0 := o6.cell 0
              have o1 := o6.cell 1
              have o2 := o6.cell 2
              have x2 := (HK6.bel.cell (p := ⟨bz, off + m * 3 + 1 + 1, none⟩) HBZ.out).trans HX2.out
              have hz1 : ¬ bz = g0 + 1 := by have := HBZ.out; have := HK6.le.1; omega
              have hz2 : ¬ bz = g0 + 1 + 1 := by have := HBZ.out; have := HK6.le.1; omega
              have y1 := HK6.hAt hK64 HTH.out
              have z1 := HK6.hAt hk2 HE2.out
              have z2 := HK6.qAt hk2 HE4.out
              have z3 := HK6.vAt hk2 HE3.out
              have z4 := (HK6.rh.at_ hk2).2
              have HK7 := Lib.hid HK6
              have c1 : ((k2 : Int) < 0) = False := by simp
              have c2 : ((63 : Int) < (k2 : Int)) = False := by simp; omega
              clear r5 k5 HP HKK HKE HM HLO HSL HK5 HK6 o6
              go_wp2
              go_quiet (fail)
              have hk8 := HK7.out.below (below_draw (Below.refl _ _) nq)
              have p0 : (W6.drewN nq).cell? ⟨gO, 0, none⟩ = some (.int .i64 (k2 : Int)) := o0
              have x2' : (W6.drewN nq).cell? ⟨bz, off + m * 3 + 1 + 1, none⟩ = some (.string vv) := x2
              have z1' := hk8.hAt hk2 HE2.out
              have z4' := (hk8.rh.at_ hk2).2
              clear y1 z1 z2 z3 z4 HK7 o0 o1 o2 x2 c1 c2
              generalize hGen : W6.drewN nq = W8 at hk8 p0 x2' z1' z4' ⊢
              clear hGen
              have HK8 := Lib.hid hk8
              clear hk8
              go_upto_region 20 with (fail)
              have hk9 := HK8.out.setH hk2 false
              clear p0 x2' z1' z4' HK8
              generalize hGen : W8.setCell ⟨g0 + 1, k2, none⟩ (.bool false) = W9 at hk9 ⊢
              clear hGen
              have x2 := (hk9.bel.cell (p := ⟨bz, off + m * 3 + 1 + 1, none⟩) HBZ.out).trans HX2.out
              have y1 := hk9.hAt hK64 (show up T.h k2 false K = false by rw [up_other _ _ (fun e => hKk e)]; exact HTH.out)
              have y2 := (hk9.rv.at_ hK64).1
              have y3 := (hk9.rv.at_ hK64).2
              have y4 := (hk9.rh.at_ hK64).2
              have y5 := (hk9.rq.at_ hK64).1
              have y6 := (hk9.rq.at_ hK64).2
              have HK7 := Lib.hid ((show KK w ((W9.setCell ⟨g0 + 1, K, none⟩ (.bool true)).setCell ⟨g0 + 1 + 1, K, none⟩ (.int .i64 0)) p g0 (g0 + 1) (g0 + 1 + 1) w.heap.size _ _ from (hk9.setH hK64 true).setQ hK64 0).setV hK64 vv)
              clear hk9 HTH HE2 HE3 HE4
              have HL := Lib.hid (len_to _ (HK7.out).ring (HS2.out))
              go_wp2_with fail
              refine HL.out.mono ?_
              rintro e w9 ⟨rfl, b9⟩
              have HN := Lib.hid (show Known w w9 p g0 (g0 + 1) (g0 + 1 + 1) w.heap.size N (m + 1) (N) from ⟨_, _, (HK7.out).below b9, HM2.out, HL2.out, HSN2.out, HS2.out⟩)
              clear HL b9 HK7 HM2 HL2 HSN2 HS2 y1 y2 y3 y4 y5 y6
              go_wp2
              go_roundw
              case rel => exact ⟨m + 1, N, by omega, by omega, by go_num, by go_num, by first | omega | exact HLE.out, HN⟩
              case measure => simp [intOf]; omega
      · by_cases k2 : kd = 2
        · as_aux_lemma =>
            subst k2
            cases hTh : T.h K with
            | true =>
              obtain ⟨i, t, hat, hi, hf, htk, htv, htp⟩ := HM.out.hit hK64 hTh
              have hg : getR zS S (K : Int) = (t.val, true, putAt S i (some { t with fresh := true })) := by unfold getR; rw [hat]
              have HP := Lib.hid (get_to wr HKK.out.ring hg)
              have HM2 := Lib.hid (HM.out.same true hK64 hi hf htk htv htp)
              have HL2 := Lib.hid (low_put (i := i) (x := some { t with fresh := true }) (low_mono HLO.out (show m ≤ m + 1 by omega)) (fun u hu => by cases hu; exact Nat.le_trans (HLO.out i t hf) (by omega)))
              have HS2 := Lib.hid (show (thingsR (putAt S i (some { t with fresh := true }))).length = s by
                have := things_len_put (S := S) (x := some { t with fresh := true }) hi
                rw [hf, HSL.out] at this
                simpa using this)
              have HTV := Lib.hid htv
              have HTH := Lib.hid hTh
              clear hat hi hf htk htv htp hg hTh
              go_wp2_with fail
              rw [HKE.out]
              refine HP.out.mono ?_
              rintro e w5 ⟨rfl, r5, k5⟩
              have HK5 := Lib.hid (HKK.out.call r5 k5)
              have y1 := (HK5.out.rh.at_ hK64).1
              have y2 := (HK5.out.rv.at_ hK64).1
              rw [HTH.out] at y1
              rw [← HTV.out] at y2
              clear r5 k5 HP HKK HKE HTV HTH HM HLO HSL
              have HL := Lib.hid (len_to w5 (HK5.out).ring (HS2.out))
              go_wp2_with fail
              refine HL.out.mono ?_
              rintro e w9 ⟨rfl, b9⟩
              have HN := Lib.hid (show Known w w9 p g0 (g0 + 1) (g0 + 1 + 1) w.heap.size N (m + 1) (s) from ⟨_, T, (HK5.out).below b9, HM2.out, HL2.out, HSN.out, HS2.out⟩)
              clear HL b9 HK5 HM2 HL2 HSN HS2 y1 y2
              go_wp2
              go_roundw
              case rel => exact ⟨m + 1, s, by omega, by omega, by go_num, by go_num, by first | omega | exact HLE.out, HN⟩
              case measure => simp [intOf]; omega
            | false =>
              have hg : getR zS S (K : Int) = (zS, false, S) := by unfold getR; rw [HM.out.at_miss hTh]
              have HP := Lib.hid (get_to wr HKK.out.ring hg)
              have HTH := Lib.hid hTh
              clear hg hTh
              go_wp2_with fail
              rw [HKE.out]
              refine HP.out.mono ?_
              rintro e w5 ⟨rfl, r5, k5⟩
              have HK5 := Lib.hid (HKK.out.call r5 k5)
              have y1 := (HK5.out.rh.at_ hK64).1
              rw [HTH.out] at y1
              clear r5 k5 HP HKK HKE HTH
              have HL := Lib.hid (len_to w5 (HK5.out).ring (HSL.out))
              go_wp2_with fail
              refine HL.out.mono ?_
              rintro e w9 ⟨rfl, b9⟩
              have HN := Lib.hid (show Known w w9 p g0 (g0 + 1) (g0 + 1 + 1) w.heap.size N (m + 1) (s) from ⟨S, T, (HK5.out).below b9, HM.out, low_mono HLO.out (by omega), HSN.out, HSL.out⟩)
              clear HL b9 HK5 HM HLO HSN HSL y1
              go_wp2
              go_roundw
              case rel => exact ⟨m + 1, s, by omega, by omega, by go_num, by go_num, by first | omega | exact HLE.out, HN⟩
              case measure => simp [intOf]; omega
        · by_cases k3 : kd = 3
          · as_aux_lemma =>
              subst k3
              cases hTh : T.h K with
              | true =>
                obtain ⟨i, t, hat, hi, hf, htk, htv, htp⟩ := HM.out.hit hK64 hTh
                have hg : delR zS S (K : Int) = (t.val, true, putAt S i none) := by unfold delR; rw [hat]
                have HP := Lib.hid (del_to wr HKK.out.ring hg)
                have HM2 := Lib.hid (HM.out.gone hi hf htk)
                have HL2 := Lib.hid (low_put (i := i) (x := none) (low_mono HLO.out (show m ≤ m + 1 by omega)) (fun u hu => by cases hu))
                have hS2 : (thingsR (putAt S i none)).length + 1 = s := by
                  have := things_len_put (S := S) (x := none) hi
                  rw [hf, HSL.out] at this
                  simpa using this
                obtain ⟨s2, rfl⟩ : ∃ s2, s = s2 + 1 := ⟨s - 1, by omega⟩
                have HS2 := Lib.hid (show (thingsR (putAt S i none)).length = s2 by omega)
                have HLE := Lib.hid (show s2 ≤ N by omega)
                have HTV := Lib.hid htv
                have HTH := Lib.hid hTh
                clear hat hi hf htk htv htp hg hTh hS2
                go_wp2_with fail
                rw [HKE.out]
                refine HP.out.mono ?_
                rintro e w5 ⟨rfl, r5, k5⟩
                have HK5 := Lib.hid (HKK.out.call r5 k5)
                have HK6 := Lib.hid (HK5.out.setH hK64 false)
                have y1 := (HK5.out.rh.at_ hK64).1
                have y3 := (HK5.out.rh.at_ hK64).2
                have y2 := (HK5.out.rv.at_ hK64).1
                rw [HTH.out] at y1
                rw [← HTV.out] at y2
                clear r5 k5 HP HKK HKE HTV HTH HM HLO HSL HK5
                have HL := Lib.hid (len_to _ (HK6.out).ring (HS2.out))
                go_wp2_with fail
                refine HL.out.mono ?_
                rintro e w9 ⟨rfl, b9⟩
                have HN := Lib.hid (show Known w w9 p g0 (g0 + 1) (g0 + 1 + 1) w.heap.size N (m + 1) (s2) from ⟨_, _, (HK6.out).below b9, HM2.out, HL2.out, HSN.out, HS2.out⟩)
                clear HL b9 HK6 HM2 HL2 HSN HS2 y1 y2 y3
                go_wp2
                go_roundw
                case rel => exact ⟨m + 1, s2, by omega, by omega, by go_num, by go_num, by first | omega | exact HLE.out, HN⟩
                case measure => simp [intOf]; omega
              | false =>
                have hg : delR zS S (K : Int) = (zS, false, S) := by unfold delR; rw [HM.out.at_miss hTh]
                have HP := Lib.hid (del_to wr HKK.out.ring hg)
                have HTH := Lib.hid hTh
                clear hg hTh
                go_wp2_with fail
                rw [HKE.out]
                refine HP.out.mono ?_
                rintro e w5 ⟨rfl, r5, k5⟩
                have HK5 := Lib.hid (HKK.out.call r5 k5)
                have y1 := (HK5.out.rh.at_ hK64).1
                rw [HTH.out] at y1
                clear r5 k5 HP HKK HKE HTH
                have HL := Lib.hid (len_to w5 (HK5.out).ring (HSL.out))
                go_wp2_with fail
                refine HL.out.mono ?_
                rintro e w9 ⟨rfl, b9⟩
                have HN := Lib.hid (show Known w w9 p g0 (g0 + 1) (g0 + 1 + 1) w.heap.size N (m + 1) (s) from ⟨S, T, (HK5.out).below b9, HM.out, low_mono HLO.out (by omega), HSN.out, HSL.out⟩)
                clear HL b9 HK5 HM HLO HSN HSL y1
                go_wp2
                go_roundw
                case rel => exact ⟨m + 1, s, by omega, by omega, by go_num, by go_num, by first | omega | exact HLE.out, HN⟩
                case measure => simp [intOf]; omega
          · by_cases k4 : kd = 4
            · as_aux_lemma =>
                subst k4
                cases hTh : T.h K with
                | true =>
                  obtain ⟨i, t, hat, hi, hf, htk, htv, htp⟩ := HM.out.hit hK64 hTh
                  have hg : pinR S (K : Int) = (true, putAt S i (some { t with pins := t.pins + 1 })) := by unfold pinR; rw [hat]
                  have hlow : Low S 1000000 := low_mono HLO.out (by omega)
                  have HP : Hid (∀ W, Below wr.heap.size wr W → Calls Try.prog 17 #[.pointer (some ⟨p, 0, none⟩), .int .i64 (K : Int)] W fun e w' => e = .returned (.bool true) ∧ KK w w' p g0 (g0 + 1) (g0 + 1 + 1) w.heap.size (putAt S i (some { t with pins := t.pins + 1 })) T) := fun W hb => (pin_to W (HKK.out.below hb).ring hlow hg).mono (fun e w' h => ⟨h.1, (HKK.out.below hb).call h.2.1 h.2.2⟩)
                  have hM2 := HM.out.turned hK64 hi hf htk (u := { t with pins := t.pins + 1 }) htk
                  simp only at hM2
                  rw [up_same T.v K t.val htv] at hM2
                  have HM2 := Lib.hid hM2
                  have htl := HLO.out i t hf
                  have HL2 := Lib.hid (low_put (i := i) (x := some { t with pins := t.pins + 1 }) (low_mono HLO.out (show m ≤ m + 1 by omega)) (fun u hu => by cases hu; exact Nat.succ_le_succ htl))
                  have HS2 := Lib.hid (show (thingsR (putAt S i (some { t with pins := t.pins + 1 }))).length = s by
                    have := things_len_put (S := S) (x := some { t with pins := t.pins + 1 }) hi
                    rw [hf, HSL.out] at this
                    simpa using this)
                  have HTP := Lib.hid htp.symm
                  have HTH := Lib.hid hTh
                  have HZ : Hid (wr.cell? ⟨g0 + 1, K, none⟩ = some (.bool true)) := HKK.out.hAt hK64 hTh
                  have htl2 : t.pins ≤ 1000 := by omega
                  clear hat hi hf htk htv htp hg hTh hM2 hlow htl
                  go_upto_region 41 with (fail)
                  rw [HKE.out]
                  go_region_held3 (fun w' => w'.cell? ⟨g0 + 1, K, none⟩ = some (.bool true)) (first | assumption | exact HZ.out) (first
                    | (go_at_call 17; (with_reducible refine (HP.out _ ?_).mono ?_); (first | assumption | exact (Below.refl _ _).drew | exact Below.refl _ _); rintro e wW ⟨rfl, hkW⟩; have hz4 := hkW.hAt hK64 HTH.out))
                  all_goals
                    have HK5 := Lib.hid hkW
                    have y1 := hkW.hAt hK64 HTH.out
                    have y2 := hkW.qAt hK64 HTP.out
                    have y3 := (hkW.rq.at_ hK64).2
                    have HK6 := Lib.hid (hkW.setQ hK64 (t.pins + 1))
                    clear hkW hz4 HP HKK HKE HZ HTP HTH HM HLO HSL
                    generalize t.pins = tp at *
                    have HL := Lib.hid (len_to _ (HK6.out).ring (HS2.out))
                    go_wp2_with fail
                    refine HL.out.mono ?_
                    rintro e w9 ⟨rfl, b9⟩
                    have HN := Lib.hid (show Known w w9 p g0 (g0 + 1) (g0 + 1 + 1) w.heap.size N (m + 1) (s) from ⟨_, _, (HK6.out).below b9, HM2.out, HL2.out, HSN.out, HS2.out⟩)
                    clear HL b9 HK5 HK6 HM2 HL2 HSN HS2 y1 y2 y3
                    go_wp2
                    go_roundw
                    case rel => exact ⟨m + 1, s, by omega, by omega, by go_num, by go_num, by first | omega | exact HLE.out, HN⟩
                    case measure => simp [intOf]; omega
                | false =>
                  have hg : pinR S (K : Int) = (false, S) := by unfold pinR; rw [HM.out.at_miss hTh]
                  have hlow : Low S 1000000 := low_mono HLO.out (by omega)
                  have HP : Hid (∀ W, Below wr.heap.size wr W → Calls Try.prog 17 #[.pointer (some ⟨p, 0, none⟩), .int .i64 (K : Int)] W fun e w' => e = .returned (.bool false) ∧ KK w w' p g0 (g0 + 1) (g0 + 1 + 1) w.heap.size S T) := fun W hb => (pin_to W (HKK.out.below hb).ring hlow hg).mono (fun e w' h => ⟨h.1, (HKK.out.below hb).call h.2.1 h.2.2⟩)
                  have HTH := Lib.hid hTh
                  have HZ : Hid (wr.cell? ⟨g0 + 1, K, none⟩ = some (.bool false)) := HKK.out.hAt hK64 hTh
                  clear hg hTh hlow
                  go_upto_region 41 with (fail)
                  rw [HKE.out]
                  go_region_held3 (fun w' => w'.cell? ⟨g0 + 1, K, none⟩ = some (.bool false)) (first | assumption | exact HZ.out) (first
                    | (go_at_call 17; (with_reducible refine (HP.out _ ?_).mono ?_); (first | assumption | exact (Below.refl _ _).drew | exact Below.refl _ _); rintro e wW ⟨rfl, hkW⟩; have hz4 := hkW.hAt hK64 HTH.out))
                  all_goals
                    have HK5 := Lib.hid hkW
                    have y1 := hkW.hAt hK64 HTH.out
                    clear hkW hz4 HP HKK HKE HZ HTH
                    have HL := Lib.hid (len_to _ (HK5.out).ring (HSL.out))
                    go_wp2_with fail
                    refine HL.out.mono ?_
                    rintro e w9 ⟨rfl, b9⟩
                    have HN := Lib.hid (show Known w w9 p g0 (g0 + 1) (g0 + 1 + 1) w.heap.size N (m + 1) (s) from ⟨S, T, (HK5.out).below b9, HM.out, low_mono HLO.out (by omega), HSN.out, HSL.out⟩)
                    clear HL b9 HK5 HM HLO HSN HSL y1
                    go_wp2
                    go_roundw
                    case rel => exact ⟨m + 1, s, by omega, by omega, by go_num, by go_num, by first | omega | exact HLE.out, HN⟩
                    case measure => simp [intOf]; omega
            · by_cases k5 : kd = 5
              · as_aux_lemma =>
                  subst k5
                  cases hTh : T.h K with
                  | true =>
                    obtain ⟨i, t, hat, hi, hf, htk, htv, htp⟩ := HM.out.hit hK64 hTh
                    have hlow : Low S 1000000 := low_mono HLO.out (by omega)
                    have htl := HLO.out i t hf
                    have HTP := Lib.hid htp.symm
                    have HTH := Lib.hid hTh
                    have HZ : Hid (wr.cell? ⟨g0 + 1, K, none⟩ = some (.bool true) ∧ wr.cell? ⟨g0 + 1 + 1, K, none⟩ = some (.int .i64 (t.pins : Int))) := ⟨HKK.out.hAt hK64 hTh, HKK.out.qAt hK64 htp.symm⟩
                    by_cases h0 : t.pins = 0
                    · have hg : letR S (K : Int) = (false, S) := by unfold letR; rw [hat]; simp [h0]
                      have HP : Hid (∀ W, Below wr.heap.size wr W → Calls Try.prog 19 #[.pointer (some ⟨p, 0, none⟩), .int .i64 (K : Int)] W fun e w' => e = .returned (.bool false) ∧ KK w w' p g0 (g0 + 1) (g0 + 1 + 1) w.heap.size S T) := fun W hb => (let_to W (HKK.out.below hb).ring hlow hg).mono (fun e w' h => ⟨h.1, (HKK.out.below hb).call h.2.1 h.2.2⟩)
                      rw [h0] at HTP HZ
                      have hd : decide ((0 : Int) < ((0 : Nat) : Int)) = false := by decide
                      clear hat hi hf htk htv htp hg hTh hlow htl h0
                      go_upto_region 46 with (fail)
                      rw [HKE.out]
                      go_region_held3 (fun w' => w'.cell? ⟨g0 + 1, K, none⟩ = some (.bool true) ∧ w'.cell? ⟨g0 + 1 + 1, K, none⟩ = some (.int .i64 ((0 : Nat) : Int))) (first | assumption | exact HZ.out) (first
                        | (go_at_call 19; (with_reducible refine (HP.out _ ?_).mono ?_); (first | assumption | exact (Below.refl _ _).drew | exact Below.refl _ _); rintro e wW ⟨rfl, hkW⟩; have hz4 := And.intro (hkW.hAt hK64 HTH.out) (hkW.qAt hK64 HTP.out)))
                      all_goals
                        have HK5 := Lib.hid hkW
                        have y1 := hkW.hAt hK64 HTH.out
                        have y2 := hkW.qAt hK64 HTP.out
                        clear hkW hz4 HP HKK HKE HZ HTP HTH
                        have HL := Lib.hid (len_to _ (HK5.out).ring (HSL.out))
                        go_wp2_with fail
                        refine HL.out.mono ?_
                        rintro e w9 ⟨rfl, b9⟩
                        have HN := Lib.hid (show Known w w9 p g0 (g0 + 1) (g0 + 1 + 1) w.heap.size N (m + 1) (s) from ⟨S, T, (HK5.out).below b9, HM.out, low_mono HLO.out (by omega), HSN.out, HSL.out⟩)
                        clear HL b9 HK5 HM HLO HSN HSL y1 y2
                        go_wp2
                        go_roundw
                        case rel => exact ⟨m + 1, s, by omega, by omega, by go_num, by go_num, by first | omega | exact HLE.out, HN⟩
                        case measure => simp [intOf]; omega
                    · have hg : letR S (K : Int) = (true, putAt S i (some { t with pins := t.pins - 1 })) := by unfold letR; rw [hat]; simp [h0]
                      have HP : Hid (∀ W, Below wr.heap.size wr W → Calls Try.prog 19 #[.pointer (some ⟨p, 0, none⟩), .int .i64 (K : Int)] W fun e w' => e = .returned (.bool true) ∧ KK w w' p g0 (g0 + 1) (g0 + 1 + 1) w.heap.size (putAt S i (some { t with pins := t.pins - 1 })) T) := fun W hb => (let_to W (HKK.out.below hb).ring hlow hg).mono (fun e w' h => ⟨h.1, (HKK.out.below hb).call h.2.1 h.2.2⟩)
                      have hM2 := HM.out.turned hK64 hi hf htk (u := { t with pins := t.pins - 1 }) htk
                      simp only at hM2
                      rw [up_same T.v K t.val htv] at hM2
                      have HM2 := Lib.hid hM2
                      have HL2 := Lib.hid (low_put (i := i) (x := some { t with pins := t.pins - 1 }) (low_mono HLO.out (show m ≤ m + 1 by omega)) (fun u hu => by cases hu; show t.pins - 1 ≤ m + 1; omega))
                      have HS2 := Lib.hid (show (thingsR (putAt S i (some { t with pins := t.pins - 1 }))).length = s by
                        have := things_len_put (S := S) (x := some { t with pins := t.pins - 1 }) hi
                        rw [hf, HSL.out] at this
                        simpa using this)
                      obtain ⟨tp, htp2⟩ : ∃ tp, t.pins = tp + 1 := ⟨t.pins - 1, by omega⟩
                      have htl2 : tp ≤ 1000 := by omega
                      rw [show t.pins - 1 = tp by omega] at HP HM2 HL2 HS2
                      rw [htp2] at HTP HZ
                      have hd0 : (0 : Int) < ((tp + 1 : Nat) : Int) := by omega
                      have hd : decide ((0 : Int) < ((tp + 1 : Nat) : Int)) = true := by rw [decide_eq_true_iff]; omega
                      clear hat hi hf htk htv htp hg hTh hM2 hlow htl h0 htp2
                      go_upto_region 46 with (fail)
                      rw [HKE.out]
                      go_region_held3 (fun w' => w'.cell? ⟨g0 + 1, K, none⟩ = some (.bool true) ∧ w'.cell? ⟨g0 + 1 + 1, K, none⟩ = some (.int .i64 ((tp + 1 : Nat) : Int))) (first | assumption | exact HZ.out) (first
                        | (go_at_call 19; (with_reducible refine (HP.out _ ?_).mono ?_); (first | assumption | exact (Below.refl _ _).drew | exact Below.refl _ _); rintro e wW ⟨rfl, hkW⟩; have hz4 := And.intro (hkW.hAt hK64 HTH.out) (hkW.qAt hK64 HTP.out)))
                      all_goals
                        have HK5 := Lib.hid hkW
                        have y1 := hkW.hAt hK64 HTH.out
                        have y2 := hkW.qAt hK64 HTP.out
                        have y3 := (hkW.rq.at_ hK64).2
                        have HK6 := Lib.hid (hkW.setQ hK64 tp)
                        have e9 : (((tp + 1 : Nat) : Int)) - 1 = (tp : Int) := by omega
                        clear hkW hz4 HP HKK HKE HZ HTP HTH HM HLO HSL
                        have HL := Lib.hid (len_to _ (HK6.out).ring (HS2.out))
                        go_wp2_with fail
                        refine HL.out.mono ?_
                        rintro e w9 ⟨rfl, b9⟩
                        have HN := Lib.hid (show Known w w9 p g0 (g0 + 1) (g0 + 1 + 1) w.heap.size N (m + 1) (s) from ⟨_, _, (HK6.out).below b9, HM2.out, HL2.out, HSN.out, HS2.out⟩)
                        clear HL b9 HK5 HK6 HM2 HL2 HSN HS2 y1 y2 y3
                        go_wp2
                        go_roundw
                        case rel => exact ⟨m + 1, s, by omega, by omega, by go_num, by go_num, by first | omega | exact HLE.out, HN⟩
                        case measure => simp [intOf]; omega
                  | false =>
                    have cL := fun (d : Nat) (os : Array Obj) => Calls.regrown_of (let_no (K : Int) (grow (redrawn wr d) os) (HKK.out.ring.below (below_regrown wr d os)) (HM.out.at_miss hTh))
                    have q1 := cell_regrown (HKK.out.hAt hK64 hTh)
                    have HTH := Lib.hid hTh
                    clear hTh
                    go_upto_region 46 with (fail)
                    rw [HKE.out]
                    refine wp_region_quiet_below (by kernel_rfl) (by kernel_rfl) ?_
                    repeat (go_big_quiet_step (exact cL _ _))
                    refine wpQuiet_nil ?_
                    intro _ hw'
                    obtain ⟨⟨dq, osq⟩, hw''⟩ := hw'
                    subst hw''
                    have b5 := below_regrown wr dq osq
                    generalize grow (redrawn wr dq) osq = W5 at b5 ⊢
                    have HK5 := Lib.hid (HKK.out.below b5)
                    have y1 := HK5.out.hAt hK64 HTH.out
                    clear cL q1 b5 HKK HKE HTH
                    have HL := Lib.hid (len_to _ (HK5.out).ring (HSL.out))
                    go_wp2_with fail
                    refine HL.out.mono ?_
                    rintro e w9 ⟨rfl, b9⟩
                    have HN := Lib.hid (show Known w w9 p g0 (g0 + 1) (g0 + 1 + 1) w.heap.size N (m + 1) (s) from ⟨S, T, (HK5.out).below b9, HM.out, low_mono HLO.out (by omega), HSN.out, HSL.out⟩)
                    clear HL b9 HK5 HM HLO HSN HSL y1
                    go_wp2
                    go_roundw
                    case rel => exact ⟨m + 1, s, by omega, by omega, by go_num, by go_num, by first | omega | exact HLE.out, HN⟩
                    case measure => simp [intOf]; omega
              · as_aux_lemma =>
                have n1 : (kd == 1) = false := by rw [beq_eq_false_iff_ne]; exact k1
                have n2 : (kd == 2) = false := by rw [beq_eq_false_iff_ne]; exact k2
                have n3 : (kd == 3) = false := by rw [beq_eq_false_iff_ne]; exact k3
                have n4 : (kd == 4) = false := by rw [beq_eq_false_iff_ne]; exact k4
                have n5 : (kd == 5) = false := by rw [beq_eq_false_iff_ne]; exact k5
                clear k1 k2 k3 k4 k5
                have HL := Lib.hid (len_to wr HKK.out.ring HSL.out)
                go_wp2_with fail
                refine HL.out.mono ?_
                rintro e w6 ⟨rfl, b6⟩
                have HN := Lib.hid (show Known w w6 p g0 (g0 + 1) (g0 + 1 + 1) w.heap.size N (m + 1) s from ⟨S, T, HKK.out.below b6, HM.out, low_mono HLO.out (by omega), HSN.out, HSL.out⟩)
                clear HL b6 HKK HM HLO HSN HSL
                go_wp2
                go_roundw
                case rel => exact ⟨m + 1, s, by omega, by omega, by go_num, rfl, hsN, HN⟩
                case measure => simp [intOf]; omega
    all_goals
      first | (have h9 : ¬ m < n := by omega) | (have h9 : ¬ m < 200 := by omega)
      clear h
      go_wp2
      go_ret
      obtain ⟨S, T, hK, -⟩ := HK.out
      exact ⟨rfl, hK.bel⟩
end Go.Proofs.Ytdpaeffhddehaaa.RingS
