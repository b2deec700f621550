/- A range over a function whose iterator ranges over another one: its contract, and the caller's law at the wide fence. -/
import Derived.Test.YthkgmfgchgoafaaMem
import Derived.RangeFuncBox
import Derived.RangeFuncBound
import Derived.RangeFuncLeaves
import Derived.RangeFuncFrom
import Derived.RangeFuncCalls
import Derived.RangeFuncNested
import Derived.OwnWalkIn
import Derived.TacticsInMore
import Derived.LoopNIn
import Derived.LoopIn
namespace Go.Proofs.Ythkgmfgchgoafaa.Mist
set_option maxRecDepth 100000
open Go.RowKit
open Go.Proofs.Ythkgmfgchgoafaa.Mem
/-- what the round of a loop promises to such an iterator -/
def NRound {α : Type} (l B : Nat) (Kp : World → World → Prop) (J Jx : List α → World → Prop) (encs : α → Array Value) (N : Nat) : Prop :=
  ∀ pre x W1, J pre W1 → pre.length < N → YieldAt Fence.wide 1 Try.prog l (encs x) W1 fun e W' =>
    KeepsFrom B W1 W' ∧ ((e = .returned (.bool true) ∧ J (pre ++ [x]) W' ∧ Kp W1 W') ∨ (e = .returned (.bool false) ∧ Jx (pre ++ [x]) W'))
/-- what such an iterator gives: the caller's facts must abide the turn of whatever new block that is no cells -/
def SeqN {α : Type} (g : Nat) (lb : Array Value) (encs : α → Array Value) (Kp : World → World → Prop) (S Sp : List α → Prop) (N : Nat) (w : World) : Prop :=
  ∀ (l : Nat) (J Jx : List α → World → Prop) (W : World), Below w.heap.size w W → OwnFrom W.heap.size J → OwnFrom W.heap.size Jx → NRound l W.heap.size Kp J Jx encs N → J [] W →
    Calls Try.prog g (#[.func (.yield l) #[] #[]] ++ lb) W fun e W' => (∃ v, e = .returned v) ∧ ((∃ xs, S xs ∧ J xs W') ∨ (∃ pre, Sp pre ∧ Jx pre W'))
theorem round_any {P : Program} {m m' l l' : Nat} {f : FuncId} {tmps : Array Value} {assign body : Code} {w : World} {R : Ending → World → Prop} (h : RoundIn Fence.wide m P l f tmps assign body w R) :
    RoundIn (Fence.wide.inRound l') m' P l f tmps assign body w R := ⟨h.1, fun c cs _ => h.2 c cs (room_wide _)⟩
theorem round_one {P : Program} {m m' l : Nat} {f : FuncId} {tmps : Array Value} {assign body : Code} {w : World} {R : Ending → World → Prop} (h : RoundIn Fence.wide m P l f tmps assign body w R) :
    RoundIn Fence.wide m' P l f tmps assign body w R := ⟨h.1, fun c cs _ => h.2 c cs (room_wide _)⟩
theorem kept_back {W W' : World} {B k : Nat} {row : Option Nat} (hg : W.grownBy W' row) (hr : ∀ r, row = some r → B ≤ r ∧ ∃ o : Obj, W.heap[r]? = some o ∧ o.isCells = false) (hk : k < B) (hW : k < W.heap.size) : W'.heap[k]? = W.heap[k]? :=
  hg.block k hW fun e => by have := (hr k e.symm).1; omega
section
variable {α : Type} {n : Nat}
/-- the caller's law -/
theorem range_n {g : Operand} {ps : Array Tmp} {assign body : Code} {Q : Exit → Act → World → Prop} {a : Act} {w : World} {gf : Nat} {lb : Array Value}
    (hg : a.eval g = .func (.func gf) #[] lb) (eg : ∀ args w, (callFunc gf args).run Try.prog w = .ok (.enter gf args) w)
    {encs : α → Array Value} {Kp : World → World → Prop} {S Sp : List α → Prop} {N : Nat} (hseq : SeqN gf lb encs Kp S Sp N w)
    (hKt : ∀ {A B C : World}, Kp A B → Kp B C → Kp A C) (hKb : ∀ (W : World) (l : Nat) (o o' : Obj), W.heap[l]? = some o → o.isCells = false → Kp W (W.putObj l o')) (hps : ∀ x, (encs x).size = ps.size)
    (I : List α → World → Prop) (Ix : Code → List α → World → Prop) (hI : OwnFrom w.heap.size I) (hIx : ∀ c, OwnFrom w.heap.size (Ix c)) (h0 : I [] w) (a₁ : α → Act)
    (hassign : ∀ (l : Nat) (x : α) (W : World) (K : Act → World → Prop), K (a₁ x) W →
      assign.wpIn (Fence.wide.inRound l) n Try.prog (Exit.then K (fun _ _ _ => False)) { tmps := (ps.zip (encs x)).foldl (fun t (p, v) => t.setIfInBounds p v) a.tmps, defers := [] } W)
    (hbody : ∀ (l : Nat) (pre : List α) (x : α) (W : World), I pre W → pre.length < N → body.wpIn (Fence.wide.inRound l) n Try.prog (ownPostK Kp I Ix (pre ++ [x]) W) (a₁ x) W)
    (hdone : ∀ (D : Nat) (xs : List α) (W : World), w.heap.size ≤ D → S xs → I xs W → W.heap[D]? = some (.deferred (some [])) → Q .normal { a with defers := { target := .collected D, args := #[] } :: a.defers } W)
    (hstop : ∀ (D : Nat) (c : Code) (pre : List α) (W : World), w.heap.size ≤ D → Sp pre → Ix c pre W → W.heap[D]? = some (.deferred (some [])) → c.wpIn Fence.wide n Try.prog Q { a with defers := { target := .collected D, args := #[] } :: a.defers } W) :
    (Code.rangeFunc g ps assign body).wpIn Fence.wide n Try.prog Q a w := by
  refine wpIn_rangeFunc fun fn hfn => ?_
  obtain ⟨rec, hrec⟩ : ∃ rec : LoopState → Option Code → Loop, rec = fun st pe => { state := st, pending := pe, fn, tmps := a.tmps, params := ps, assign, body, defers := w.heap.size } := ⟨_, rfl⟩
  obtain ⟨V, hV⟩ : ∃ V, (w.alloc (.deferred (some []))).alloc (.loop (rec .ready none)) = V := ⟨_, rfl⟩
  have hVs : V.heap.size = w.heap.size + 1 + 1 := by rw [← hV]; simp
  have hVL : V.heap[w.heap.size + 1]? = some (.loop (rec .ready none)) := by
    rw [← hV]; have := World.alloc_heap_new (w.alloc (.deferred (some []))) (.loop (rec .ready none)); rwa [World.size_alloc] at this
  have hVD : V.heap[w.heap.size]? = some (.deferred (some [])) := by rw [← hV]; exact (Below.heap_alloc _ _ _ (by simp)).trans (World.alloc_heap_new w _)
  have hVI : I [] V := by rw [← hV]; exact hI.alloc _ (hI.alloc _ h0)
  have hVb : Below w.heap.size w V := by rw [← hV]; exact ((Below.refl _ w).alloc (Nat.le_refl _) _).alloc (by simp) _
  refine ⟨w.heap.size + 1, [{ target := .collected w.heap.size, args := #[] }], V, { target := .fn (.func gf) lb, args := #[.func (.yield (w.heap.size + 1)) #[] #[]] }, V, gf,
    #[.func (.yield (w.heap.size + 1)) #[] #[]] ++ lb, V, ?_, ?_, fun _ _ => trivial, ?_, (fun h => by cases h), callsIn_wide.2 ?_⟩
  · rw [← hV, hrec]; exact run_enterLoop_outer _ _ _ _ _
  · simp only [resolve, hg]
    simp [go_sem]
  · simp [invoke, go_sem, eg]
  -- what the two blocks of this loop hold goes with the caller's facts
  have two : ∀ {W W' : World} {row : Option Nat} {o1 o2 : Obj}, W.grownBy W' row → (∀ r, row = some r → V.heap.size ≤ r ∧ ∃ o : Obj, W.heap[r]? = some o ∧ o.isCells = false) →
      W.heap[w.heap.size + 1]? = some o1 → W.heap[w.heap.size]? = some o2 → W'.heap[w.heap.size + 1]? = some o1 ∧ W'.heap[w.heap.size]? = some o2 := fun hgr hr h1 h2 =>
    ⟨(kept_back hgr hr (by omega) (Array.getElem?_eq_some_iff.1 h1).1).trans h1, (kept_back hgr hr (by omega) (Array.getElem?_eq_some_iff.1 h2).1).trans h2⟩
  have low : ∀ {W : World} {row : Option Nat}, (∀ r, row = some r → V.heap.size ≤ r ∧ ∃ o : Obj, W.heap[r]? = some o ∧ o.isCells = false) → (∀ r, row = some r → w.heap.size ≤ r ∧ ∃ o : Obj, W.heap[r]? = some o ∧ o.isCells = false) := fun hr r e => ⟨by have := (hr r e).1; omega, (hr r e).2⟩
  refine (hseq (w.heap.size + 1) (fun pre W => I pre W ∧ W.heap[w.heap.size + 1]? = some (.loop (rec .ready none)) ∧ W.heap[w.heap.size]? = some (.deferred (some [])))
    (fun pre W => ∃ c, Ix c pre W ∧ W.heap[w.heap.size + 1]? = some (.loop (rec .done (some c))) ∧ W.heap[w.heap.size]? = some (.deferred (some []))) V hVb
    (fun s A B row hs hgr hr => ⟨hI s A B row hs.1 hgr (low hr), two hgr hr hs.2.1 hs.2.2⟩)
    (fun s A B row hs hgr hr => by obtain ⟨c, hc, h1, h2⟩ := hs; exact ⟨c, hIx c s A B row hc hgr (low hr), two hgr hr h1 h2⟩) ?_ ⟨hVI, hVL, hVD⟩).mono ?_
  · rintro pre x W ⟨hi, hl, hk⟩ hlen
    have hlt : w.heap.size + 1 < W.heap.size := (Array.getElem?_eq_some_iff.1 hl).1
    have hy := run_yield (P := Try.prog) (args := encs x) hl (by rw [hrec]; exact hps x)
    rw [hrec] at hy
    refine ⟨fn, _, assign, body, hy, round_one (m := n) (roundIn_of_wpIn hfn (hassign _ x W _ ⟨_, run_beginRound hl (by rw [hrec]), ?_⟩))⟩
    obtain ⟨U, hU⟩ : ∃ U, W.putObj (w.heap.size + 1) (.loop { rec .ready none with state := .busy }) = U := ⟨_, rfl⟩
    rw [hU]
    have hUl : U.heap[w.heap.size + 1]? = some (.loop { rec .ready none with state := .busy }) := by rw [← hU]; exact World.putObj_heap_same hlt
    have hUd : U.heap[w.heap.size]? = some (.deferred (some [])) := by rw [← hU]; exact (World.putObj_heap_other (by omega)).trans hk
    have hUk : Kp W U := by rw [← hU]; exact hKb _ _ _ _ hl rfl
    have hUI : I pre U := by rw [← hU]; exact hI.putObj _ hi (by omega) hl rfl
    have hUf : ∀ (k : Nat), k ≠ w.heap.size + 1 → U.heap[k]? = W.heap[k]? := fun k hk => by rw [← hU]; exact World.putObj_heap_other hk
    have hUs : U.heap.size = W.heap.size := by rw [← hU]; simp [World.putObj]
    refine wpIn_mono (hbody _ pre x U hUI hlen) ?_
    -- the round's end: the record is turned once more
    have fin : ∀ (jump : Option Code) (X : World), KeepsOthers U X → ∃ Y, (Instr.endRound (w.heap.size + 1) jump).run Try.prog X = .ok (.bool jump.isNone) Y ∧ Y = X.putObj (w.heap.size + 1) (.loop (rec (if jump.isNone then .ready else .done) jump)) ∧
        (∃ o, X.heap[w.heap.size + 1]? = some o ∧ o.isCells = false) ∧ Y.heap[w.heap.size + 1]? = some (.loop (rec (if jump.isNone then .ready else .done) jump)) ∧ Y.heap[w.heap.size]? = some (.deferred (some [])) ∧ KeepsFrom V.heap.size W Y := fun jump X hX => by
      have hl3 := hX.same _ _ hUl rfl
      have hr := run_endRound (P := Try.prog) jump hl3
      rw [hrec] at hr
      have hl4 : (X.putObj (w.heap.size + 1) (.loop (rec (if jump.isNone then .ready else .done) jump))).heap[w.heap.size + 1]? = some (.loop (rec (if jump.isNone then .ready else .done) jump)) := World.putObj_heap_same (Array.getElem?_eq_some_iff.1 hl3).1
      refine ⟨_, by rw [hrec]; exact hr, rfl, ⟨_, hl3, rfl⟩, hl4, (World.putObj_heap_other (by omega)).trans (hX.same _ _ hUd rfl), ⟨?_, fun k o hk h1 ho => ?_⟩⟩
      · have := hX.size; simp [World.putObj]; omega
      · have hne : k ≠ w.heap.size + 1 := by omega
        rw [World.putObj_heap_other hne]
        exact hX.same k o ((hUf k hne).trans h1) ho
    rintro e a3 X hp
    cases e with
    | normal =>
      obtain ⟨hk3, hkp3, hi3⟩ := hp
      obtain ⟨Y, hr, rfl, ⟨o, hl3, ho⟩, hl4, hk4, hkf⟩ := fin none X hk3
      exact ⟨_, _, hr, hkf, .inl ⟨rfl, ⟨hI.putObj _ hi3 (by omega) hl3 ho, hl4, hk4⟩, hKt (hKt hUk hkp3) (hKb _ _ _ _ hl3 ho)⟩⟩
    | ret =>
      obtain ⟨hk3, hi3⟩ := hp
      obtain ⟨Y, hr, rfl, ⟨o, hl3, ho⟩, hl4, hk4, hkf⟩ := fin (some .ret) X hk3
      exact ⟨_, _, hr, hkf, .inr ⟨rfl, .ret, (hIx _).putObj _ hi3 (by omega) hl3 ho, hl4, hk4⟩⟩
    | exit id =>
      obtain ⟨hk3, hi3⟩ := hp
      obtain ⟨Y, hr, rfl, ⟨o, hl3, ho⟩, hl4, hk4, hkf⟩ := fin (some (.exit id)) X hk3
      exact ⟨_, _, hr, hkf, .inr ⟨rfl, .exit id, (hIx _).putObj _ hi3 (by omega) hl3 ho, hl4, hk4⟩⟩
    | goto t =>
      obtain ⟨hk3, hi3⟩ := hp
      obtain ⟨Y, hr, rfl, ⟨o, hl3, ho⟩, hl4, hk4, hkf⟩ := fin (some (.goto t)) X hk3
      exact ⟨_, _, hr, hkf, .inr ⟨rfl, .goto t, (hIx _).putObj _ hi3 (by omega) hl3 ho, hl4, hk4⟩⟩
    | panic ch => exact hp.elim
    | outgrown => exact hp.elim
  · rintro e X ⟨⟨v, rfl⟩, (⟨xs, hS, hi, hl, hk⟩ | ⟨pre, hSp, c, hi, hl, hk⟩)⟩
    · exact ⟨none, _, by have := run_endLoop (P := Try.prog) hl (by rw [hrec]; simp); rw [hrec] at this; exact this, hdone _ xs _ (Nat.le_refl _) hS (hI.putObj _ hi (by omega) hl rfl) ((World.putObj_heap_other (by omega)).trans hk)⟩
    · exact ⟨some c, _, by have := run_endLoop (P := Try.prog) hl (by rw [hrec]; simp); rw [hrec] at this; exact this, hstop _ c pre _ (Nat.le_refl _) hSp ((hIx c).putObj _ hi (by omega) hl rfl) ((World.putObj_heap_other (by omega)).trans hk)⟩
end
end Go.Proofs.Ythkgmfgchgoafaa.Mist
