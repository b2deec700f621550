/- The walks of a ring's find, thing, and turn. -/
import Derived.Test.YtdpaeffhddehaaaRingSFind
namespace Go.Proofs.Ytdpaeffhddehaaa.RingS
set_option maxRecDepth 100000
open Go.RowKit Go.Shelf
open Go.Proofs.Ytdpaeffhddehaaa.Mem
open Go.Proofs.Ytdpaeffhddehaaa.Ring
attribute [local go_sem] Oper.semAt_some

theorem hmakef : ∀ (fn : Fn) (first cap : Array Value) (w : World), (Instr.makeFunc fn first cap).run Try.prog w = .ok (.func fn first cap) w := fun _ _ _ _ => rfl
set_option maxHeartbeats 800000 in
theorem find_nil (k : Int) (w : World) :
    Calls Try.prog 42 #[.pointer none, .int .i64 k] w fun e w' => e = .returned (.int .i64 (-1)) ∧ Below w.heap.size w w' := by
  go_enter_defers Try.func42, Try.ntmps42
  go_wp2
  exact ⟨.int .i64 (-1), by simp [results, Try.results42, go_sem], rfl, ((Below.refl _ _).alloc (Nat.le_refl _) _).alloc (by simp) _⟩
section
variable {p fb : Nat} {ad : Nat → Nat} {M : Nat → Prop} {S : RState}
set_option maxHeartbeats 1600000 in
theorem find_any (k : Int) (w : World) (h : RA w p fb ad M S) :
    Calls Try.prog 42 #[.pointer (some ⟨p, 0, none⟩), .int .i64 k] w fun e w' => e = .returned (.int .i64 (idx (findS S k))) ∧ Below w.heap.size w w' := by
  have hb : Below w.heap.size w ((w.alloc (.cells #[.int .i64 k] 3)).alloc (.cells #[.int .i64 0] 3)) := ((Below.refl _ _).alloc (Nat.le_refl _) _).alloc (by simp) _
  have hK := (Blk.new w 3 #[.int .i64 k]).alloc (.cells #[.int .i64 0] 3)
  have hR := Blk.new (w.alloc (.cells #[.int .i64 k] 3)) 3 #[.int .i64 0]
  have hmf := hmakef
  rw [World.size_alloc] at hR
  have h1 := h.below hb
  have hi : ∀ W, RA W p fb ad M S → W.cell? ⟨w.heap.size, 0, none⟩ = some (.int .i64 k) → Calls Try.prog 53 #[.slice (some ⟨fb, 0, none⟩) S.N S.N, .func (.func 55) #[] #[.pointer (some ⟨w.heap.size, 0, none⟩)]] W fun e w' => e = .returned (.int .i64 (idx (findS S k))) ∧ Below W.heap.size W w' := fun W hW hkW => index_any 55 #[.pointer (some ⟨w.heap.size, 0, none⟩)] (enters_of Try.func55 (by kernel_rfl) rfl) (keyP S.f k) W hW (fun W' i hW' hi => by
    have hkc := (hW'.cell (p := ⟨w.heap.size, 0, none⟩) (World.block_lt_of_cell? _ _ hkW)).trans hkW
    unfold keyP
    cases hf : S.f i with
    | none => exact match_none W' w.heap.size
    | some t => exact match_some W' w.heap.size (ad i) t.key k hkc ((hW.below hW').on hi hf).2.1)
  generalize idx (findS S k) = I at hi ⊢
  have HI := Lib.hid hi
  clear h hi
  obtain ⟨c0, -, -⟩ := h1.get
  have H1 := Lib.hid h1
  clear h1
  go_enter_defers Try.func42, Try.ntmps42
  go_wp2_with fail
  generalize hGen : (w.alloc (.cells #[.int .i64 k] 3)).alloc (.cells #[.int .i64 0] 3) = W at hb hR hK H1 c0 ⊢
  clear hGen
  refine (HI.out W H1.out (hK.cell 0)).mono ?_
  rintro e w1 ⟨rfl, b1⟩
  have hR1 := hR.below b1 hR.lt
  have hb1 := hb.trans (b1.mono hb.size)
  have r0 := hR1.cell 0
  have rf := hR1.frozen 0
  clear c0
  go_wp2
  refine leaves_cons (f := 54) (args := #[.pointer (some ⟨w.heap.size + 1, 0, none⟩)]) (by simp) (by simp [go_sem]) ?_
  refine (catch_idle (w.heap.size + 1) _).mono ?_
  rintro e u' w'' ⟨rfl, rfl, rfl⟩
  have r1 := World.cell?_setCell_same _ _ (.int .i64 I) (show w1.cell? ⟨w.heap.size + 1, 0, none⟩ = some (.int .i64 0) from r0)
  simp [Leaves, settle, results, Try.results42, go_sem, r1]
  exact hb1.setCell (p := ⟨w.heap.size + 1, 0, none⟩) (by simp) _
set_option maxHeartbeats 800000 in
theorem thing_miss (k : Int) (w : World) (h : RA w p fb ad M S) (hk : atS S k = none) :
    Calls Try.prog 34 #[.pointer (some ⟨p, 0, none⟩), .int .i64 k] w fun e w' => e = .returned (.pointer none) ∧ Below w.heap.size w w' := by
  have hF := find_any k w h
  rw [atS_no hk] at hF
  have HF := Lib.hid hF
  clear hF h hk
  go_enter Try.func34, Try.ntmps34
  go_wp2_with fail
  refine HF.out.mono ?_
  simp only [idx]
  rintro e w1 ⟨rfl, b1⟩
  go_wp2
  go_ret
  exact ⟨rfl, b1⟩
set_option maxHeartbeats 800000 in
theorem thing_nil (k : Int) (w : World) :
    Calls Try.prog 34 #[.pointer none, .int .i64 k] w fun e w' => e = .returned (.pointer none) ∧ Below w.heap.size w w' := by
  go_enter Try.func34, Try.ntmps34
  go_wp2_with fail
  refine (find_nil k w).mono ?_
  rintro e w1 ⟨rfl, b1⟩
  go_wp2
  go_ret
  exact ⟨rfl, b1⟩
set_option maxHeartbeats 800000 in
theorem thing_hit (k : Int) (w : World) (h : RA w p fb ad M S) {i : Nat} {t : Thing} (hk : atS S k = some (i, t)) :
    Calls Try.prog 34 #[.pointer (some ⟨p, 0, none⟩), .int .i64 k] w fun e w' => e = .returned (.pointer (some ⟨ad i, 0, none⟩)) ∧ Below w.heap.size w w' := by
  have hF := find_any k w h
  obtain ⟨h1, h2, h3, -, -⟩ := atS_is hk
  rw [h1] at hF
  have HF := Lib.hid hF
  have H := Lib.hid h
  have hN := h.wf.n2
  clear hF h hk h1
  go_enter Try.func34, Try.ntmps34
  go_wp2_with fail
  refine HF.out.mono ?_
  simp only [idx]
  rintro e w1 ⟨rfl, b1⟩
  obtain ⟨c0, -, -⟩ := (H.out.below b1).get
  have c1 := ((H.out.below b1).on h2 h3).1
  generalize S.N = N at c0 h2 hN
  go_wp2
  go_ret
  exact ⟨rfl, b1⟩
set_option maxHeartbeats 4000000 in
/-- the hand -/
theorem turn_any (n : Nat) (R : Nat × RState) (w : World) (h : RA w p fb ad M S) (hT : Turns n S R) :
    Calls Try.prog 38 #[.pointer (some ⟨p, 0, none⟩)] w fun e w' => e = .returned (.int .i64 (R.1 : Int)) ∧ RA w' p fb ad M R.2 ∧ Keep M w w' := by
  obtain ⟨i, S2⟩ := R
  simp only
  have HA := Lib.hid h
  have HT := Lib.hid hT
  clear h hT
  go_enter Try.func38, Try.ntmps38
  go_wp2
  go_loopg [3, 4] n (fun gg _ _ wr => ∃ (m : Nat) (S' : RState), m ≤ gg ∧ Hid (Turns m S' (i, S2)) ∧ Hid (RA wr p fb ad M S') ∧ Hid (Keep M w wr))
  case atStart => exact ⟨n, S, Nat.le_refl _, HT, HA, Lib.hid (Keep.refl _ _)⟩
  case round =>
    obtain ⟨m, S', hm, T1, A1, K1⟩ := hrel
    clear HA HT
    obtain ⟨c0, c1, f1⟩ := A1.out.get
    have hN1 := A1.out.wf.n1
    have hN2 := A1.out.wf.n2
    have hh := A1.out.wf.hh
    have hmod : Int.tmod ((S'.hand : Int) + 1) (S'.N : Int) = ((nx S' : Nat) : Int) := rfl
    have hx := A1.out.setHand (nx S') (nx_lt A1.out.wf)
    have hk := K1.out.set_ A1.out.m0 1 (.int .i64 ((nx S' : Nat) : Int))
    obtain ⟨X, hX⟩ : ∃ X, X = nx S' := ⟨_, rfl⟩
    have HXE := Lib.hid hX
    rw [← hX] at hmod hx hk
    have HX := Lib.hid hx
    have HK := Lib.hid hk
    clear hX hx hk
    cases T1.out with
    | stop _ t ht hp hf =>
      obtain ⟨d0, -, -, d2, d3, -, dp, df⟩ := A1.out.on hh ht
      rw [hp] at d2
      rw [hf] at d3
      have HC : Hid (Calls Try.prog 37 #[.pointer (some ⟨ad S'.hand, 0, none⟩)] (wr.setCell ⟨p, 1, none⟩ (.int .i64 (X : Int))) fun e w' => e = .returned (.bool true) ∧ wr.setCell ⟨p, 1, none⟩ (.int .i64 (X : Int)) = w') := may_any (wr.setCell ⟨p, 1, none⟩ (.int .i64 (X : Int))) (ad S'.hand) 0 (by rw [World.cell?_setCell_other _ _ _ _ (fun e => dp (by cases e))]; exact d2)
      clear T1 A1 K1 hp hf ht
      go_wp2_with fail
      refine HC.out.mono ?_
      rintro e w1 ⟨rfl, rfl⟩
      go_wp2
      go_ret
      exact ⟨rfl, by rw [← HXE.out]; exact HX.out, HK.out⟩
    | on _ t n' _ ht hp hr =>
      obtain ⟨d0, -, -, d2, d3, ⟨-, -, fz⟩, dp, df⟩ := A1.out.on hh ht
      by_cases hp0 : t.pins = 0
      · have hfr : t.fresh = true := by
          cases hf : t.fresh with
          | true => rfl
          | false => exact absurd ⟨hp0, hf⟩ hp
        rw [hp0] at d2
        rw [hfr] at d3
        have hti : tire S' t = putAt { S' with hand := X } S'.hand (some { t with fresh := false }) := by
          unfold tire putAt
          rw [if_pos hp0, HXE.out]
        have HR : Hid (Turns n' (putAt { S' with hand := X } S'.hand (some { t with fresh := false })) (i, S2)) := hti ▸ hr
        have HU := Lib.hid (HX.out.setTh (i := S'.hand) (t := t) hh ht { t with fresh := false } 3 (.bool false) (by simp [thC]))
        have HKU := Lib.hid (HK.out.set_ (A1.out.n1 _ _ hh ht).2.2 3 (.bool false))
        have HC : Hid (Calls Try.prog 37 #[.pointer (some ⟨ad S'.hand, 0, none⟩)] (wr.setCell ⟨p, 1, none⟩ (.int .i64 (X : Int))) fun e w' => e = .returned (.bool true) ∧ wr.setCell ⟨p, 1, none⟩ (.int .i64 (X : Int)) = w') := may_any (wr.setCell ⟨p, 1, none⟩ (.int .i64 (X : Int))) (ad S'.hand) 0 (by rw [World.cell?_setCell_other _ _ _ _ (fun e => dp (by cases e))]; exact d2)
        clear T1 A1 K1 hp hp0 hfr ht hti hr
        go_wp2_with fail
        refine HC.out.mono ?_
        rintro e w1 ⟨rfl, rfl⟩
        go_wp2
        go_roundg n'
        case measure => omega
        case rel => exact ⟨n', _, Nat.le_refl _, HR, HU, HKU⟩
      · have hti : tire S' t = { S' with hand := X } := by
          unfold tire
          rw [if_neg hp0, HXE.out]
        have HR : Hid (Turns n' { S' with hand := X } (i, S2)) := hti ▸ hr
        have HC : Hid (Calls Try.prog 37 #[.pointer (some ⟨ad S'.hand, 0, none⟩)] (wr.setCell ⟨p, 1, none⟩ (.int .i64 (X : Int))) fun e w' => e = .returned (.bool false) ∧ wr.setCell ⟨p, 1, none⟩ (.int .i64 (X : Int)) = w') := (may_any (wr.setCell ⟨p, 1, none⟩ (.int .i64 (X : Int))) (ad S'.hand) t.pins (by rw [World.cell?_setCell_other _ _ _ _ (fun e => dp (by cases e))]; exact d2)).mono (fun e w' h => by rw [decide_eq_false hp0] at h; exact h)
        clear T1 A1 K1 hp hp0 ht hti hr
        go_wp2_with fail
        refine HC.out.mono ?_
        rintro e w1 ⟨rfl, rfl⟩
        go_wp2
        go_roundg n'
        case measure => omega
        case rel => exact ⟨n', _, Nat.le_refl _, HR, HX, HK⟩
end
end Go.Proofs.Ytdpaeffhddehaaa.RingS
