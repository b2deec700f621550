/- The document's own Needed. -/
import Derived.Test.YtcpkngkeechjeaaPastEnded
namespace Go.Proofs.Ytcpkngkeechjeaa.Past
set_option maxRecDepth 100000
open Go.RowKit Go.Sort
open Go.Proofs.Ytcpkngkeechjeaa.Mem
open Go.Proofs.Ytcpkngkeechjeaa.Ent (Ent goodB Ents EntAt SmallE noE entA cellsE)
def needB (L : List Ent) (x : Ent) : Bool := goodB x && !endedB L (txE x)
/-- none of the first k is needed -/
def NoNeed (L : List Ent) (k : Nat) : Prop := ∀ x ∈ L.take k, needB L x = false
theorem no_next {L : List Ent} {k : Nat} {x : Ent} (h : NoNeed L k) (hx : L[k]? = some x) (hb : needB L x = false) : NoNeed L (k + 1) := by
  intro y hy
  rw [take_next hx] at hy
  rcases List.mem_append.1 hy with hy | hy
  · exact h y hy
  · rw [List.mem_singleton] at hy; rw [hy]; exact hb
theorem need_at {L : List Ent} {k : Nat} {x : Ent} (h : NoNeed L k) (hx : L[k]? = some x) (hb : needB L x = true) : needI L = some k := by
  obtain ⟨hl, hx⟩ := List.getElem?_eq_some_iff.1 hx
  unfold needI
  rw [List.findIdx?_eq_some_iff_getElem]
  refine ⟨hl, by rw [hx]; exact hb, fun j hj => ?_⟩
  have := h L[j] (List.mem_take_iff_getElem.2 ⟨j, by omega, rfl⟩)
  unfold needB at this
  rw [this]
  simp
theorem need_no {L : List Ent} {k : Nat} (h : NoNeed L k) (hk : L.length ≤ k) : needI L = none := by
  unfold needI
  rw [List.findIdx?_eq_none_iff]
  intro x hx
  have := h x (by rw [List.take_of_length_le hk]; exact hx)
  exact this
def needO (first : Int) : Option Nat → Int
  | some i => first + i
  | none => 0
theorem needV_is (L : List Ent) (first : Int) : needV L first = if okFirst first = true then needO first (needI L) else 0 := by
  unfold needV
  split
  · cases needI L <;> rfl
  · rfl
set_option maxRecDepth 100000 in
set_option maxHeartbeats 4000000 in
theorem uneeded_any (a : Option Addr) (n c : Nat) (L : List Ent) (first : Int) (w : World) (h : Ents w a n L) (hn : n ≤ 1000000) :
    Calls Try.prog 16 #[.slice a n c, .int .i64 first] w fun e w' => e = .returned (.int .i64 (needV L first)) ∧ Below w.heap.size w w' := by
  have hL : L.length = n := h.1
  have HE := Lib.hid h
  clear h
  rw [needV_is]
  by_cases hok : okFirst first = true
  · rw [if_pos hok]
    have hf : 1 ≤ first ∧ first ≤ 1099511627776 := by unfold okFirst at hok; simpa using hok
    obtain ⟨f1, f2⟩ := hf
    obtain ⟨R, hR⟩ : ∃ R : Int, R = needO first (needI L) := ⟨_, rfl⟩
    rw [← hR]
    have HRR := Lib.hid hR
    clear hR hok
    go_enter Try.func16, Try.ntmps16
    go_wp2
    go_loopw [5] (fun i wr => ∃ k : Nat, k ≤ n ∧ i = .int .i64 (k : Int) ∧ Hid (NoNeed L k) ∧ Hid (Below w.heap.size w wr)) (fun i _ => n - intV i)
    case atStart => exact ⟨0, Nat.zero_le _, rfl, Lib.hid (by intro x hx; simp at hx), Lib.hid (Below.refl _ _)⟩
    case round =>
      obtain ⟨k, hk, rfl, HNN, HR⟩ := hrel
      by_cases hlt : k < n
      · have hx : L[k]? = some (L[k]'(by omega)) := List.getElem?_eq_getElem _
        generalize L[k]'(by omega) = x at hx
        obtain ⟨b, off, rfl, hbw, hat, hsm, -⟩ := ents_mem HE.out hx
        have HAT := Lib.hid hat
        have HSM := Lib.hid (show Ent.Small x from hsm)
        have HNX := Lib.hid (And.intro (fun hb => no_next HNN.out hx hb) (fun hb => need_at HNN.out hx hb))
        have HNB := Lib.hid (show needB L x = (goodB x && !endedB L (txE x)) from rfl)
        clear hat hsm hx
        have hd1 : decide ((k : Int) < (n : Int)) = true := decide_eq_true (by omega)
        obtain ⟨c0, c1, c2, c3, c4, c5, c6, c7, c8, c9, c10, c11, c12⟩ := (HAT.out.next HR.out hbw).cells
        have cG := fun W => Ent.rgood_any x W HSM.out
        have cE := fun W (hE : Ents W (some ⟨b, off, none⟩) n L) => uended_any _ n c L (txE x) W hE hn
        generalize endedB L (txE x) = eb at cE HNB
        generalize goodB x = gb at cG HNB
        unfold txE at cE
        dsimp only at cE
        have CG := Lib.hid cG
        have CE := Lib.hid cE
        clear cG cE
        go_wp2_with fail
        refine (CG.out _).mono ?_
        rintro e w2 ⟨rfl, b2⟩
        have H1 := Lib.hid (HR.out.trans (b2.mono HR.out.size))
        clear c0 c1 c2 c3 c4 c5 c6 c7 c8 c9 c10 c11 c12 b2
        obtain ⟨c0, c1, c2, c3, c4, c5, c6, c7, c8, c9, c10, c11, c12⟩ := (HAT.out.next H1.out hbw).cells
        cases gb with
        | false =>
          have HN2 := Lib.hid (HNX.out.1 (by rw [HNB.out]; rfl))
          have H2 := H1
          clear c0 c1 c2 c3 c4 c5 c6 c7 c8 c9 c10 c11 c12
          go_wp2
          go_roundw
          case rel => exact ⟨k + 1, by omega, by go_num, HN2, H2⟩
          case measure => simp [intV]; omega
        | true =>
          cases eb with
          | true =>
            go_wp2_with fail
            refine (CE.out _ (HE.out.next H1.out)).mono ?_
            rintro e W1 ⟨rfl, b1⟩
            have HN2 := Lib.hid (HNX.out.1 (by rw [HNB.out]; rfl))
            have H2 := Lib.hid (H1.out.trans (b1.mono H1.out.size))
            clear c0 c1 c2 c3 c4 c5 c6 c7 c8 c9 c10 c11 c12 b1
            go_wp2
            go_roundw
            case rel => exact ⟨k + 1, by omega, by go_num, HN2, H2⟩
            case measure => simp [intV]; omega
          | false =>
            go_wp2_with fail
            refine (CE.out _ (HE.out.next H1.out)).mono ?_
            rintro e W1 ⟨rfl, b1⟩
            have HN2 := Lib.hid (HNX.out.2 (by rw [HNB.out]; rfl))
            have H2 := Lib.hid (H1.out.trans (b1.mono H1.out.size))
            have HV := Lib.hid (show R = first + (k : Int) by rw [HRR.out, HN2.out]; rfl)
            clear c0 c1 c2 c3 c4 c5 c6 c7 c8 c9 c10 c11 c12 b1
            go_wp2
            go_ret
            exact ⟨by rw [HV.out]; go_num, H2.out⟩
      · obtain rfl : k = n := by omega
        have hd1 : decide ((k : Int) < (k : Int)) = false := decide_eq_false (by omega)
        have HV := Lib.hid (show R = 0 by rw [HRR.out, need_no HNN.out (by omega)]; rfl)
        go_wp2
        go_ret
        exact ⟨by rw [HV.out]; rfl, HR.out⟩
  · rw [if_neg hok]
    have hf : ¬ (1 ≤ first ∧ first ≤ 1099511627776) := by unfold okFirst at hok; simpa using hok
    clear hok HE
    clear hL
    go_enter Try.func16, Try.ntmps16
    go_wp2
    go_loopw [5] (fun i wr => i = .int .i64 0 ∧ w = wr) (fun _ _ => 0)
    case atStart => exact ⟨rfl, rfl⟩
    case round =>
      obtain ⟨rfl, rfl⟩ := hrel
      by_cases h1 : 1 ≤ first
      · have h2 : ¬ first ≤ 1099511627776 := fun h => hf ⟨h1, h⟩
        have e1 : decide (first ≥ 1) = true := decide_eq_true h1
        have e2 : decide (first ≤ 1099511627776) = false := decide_eq_false h2
        rcases Nat.eq_zero_or_pos n with hz | hz
        · have e3 : decide ((0 : Int) < (n : Int)) = false := decide_eq_false (by omega)
          have e4 : ¬ 0 < n := by omega
          clear hz
          go_wp2; go_ret; exact ⟨rfl, Below.refl _ _⟩
        · have e3 : decide ((0 : Int) < (n : Int)) = true := decide_eq_true (by omega)
          go_wp2; go_ret; exact ⟨rfl, Below.refl _ _⟩
      · have e1 : decide (first ≥ 1) = false := decide_eq_false h1
        rcases Nat.eq_zero_or_pos n with hz | hz
        · have e3 : decide ((0 : Int) < (n : Int)) = false := decide_eq_false (by omega)
          have e4 : ¬ 0 < n := by omega
          clear hz
          go_wp2; go_ret; exact ⟨rfl, Below.refl _ _⟩
        · have e3 : decide ((0 : Int) < (n : Int)) = true := decide_eq_true (by omega)
          go_wp2; go_ret; exact ⟨rfl, Below.refl _ _⟩
end Go.Proofs.Ytcpkngkeechjeaa.Past
