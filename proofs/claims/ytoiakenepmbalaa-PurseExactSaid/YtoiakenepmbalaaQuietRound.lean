/- A drawn region that only reads, inside a fence that holds a round too (a range's body): one walk for all orders, as long as it defers nothing. -/
import Derived.Test.YtoiakenepmbalaaRows
import Derived.Sort.QuietTacIn
namespace Go.Proofs.Ytoiakenepmbalaa.Mem
set_option maxRecDepth 100000
def noDefer (o : Oper) : Bool := match o.op with | .defer _ => false | _ => true
theorem not_defer {o : Oper} (h : noDefer o = true) : ∀ c, o.op ≠ .defer c := by
  intro c e
  unfold noDefer at h
  rw [e] at h
  cases h
section
variable {F : Fence} {n : Nat} {P : Program} {ops : Array Oper} {C : World → Prop} {md : Region.Mode}
theorem op_of_quiet {o : Oper} {a : Act} {K : Act → Prop} {K' : Act → World → Prop} {Q' : Exit → Act → World → Prop} {w : World} (hd : noDefer o = true) (hw : C w) (h : ∀ a w', C w' → K a → K' a w')
    (ha : o.askedIn F P a C) (hh : o.quietIn F n P a C K) : o.wpIn F n P a w K' Q' := by
  obtain ⟨v, hv, hk⟩ := hh
  have hq := hv w hw
  refine ⟨ha w hw, ?_⟩
  rw [Oper.semAt_eq _ _ _ (not_defer hd)]
  unfold Oper.quietAtIn at hq
  cases hr : (execOp a.eval o).run P w with
  | halt x w' => rw [hr] at hq; exact hq.elim
  | ok x w' =>
    rw [hr] at hq
    cases x with
    | value u => exact (by obtain ⟨rfl, rfl⟩ := hq; exact h _ _ hw hk)
    | skip => exact (by obtain ⟨rfl, e⟩ := hq; subst e; exact h _ _ hw hk)
    | enter f args => exact (by obtain ⟨rfl, hd2, hc⟩ := hq; exact ⟨hd2, hc.mono (fun e w2 he => by obtain ⟨he, hw2⟩ := he; subst he; exact h _ _ hw2 hk)⟩)
    | _ => exact hq.elim
theorem any_of_quiet {Q : Act → Prop} {Q' : Exit → Act → World → Prop} (hd : ∀ (i : Nat) o, ops[i]? = some o → noDefer o = true) (hQ : ∀ a w, C w → Q a → Q' .normal a w) (fuel : Nat) : ∀ (listed : Array Bool) (a : Act) (w : World), C w →
    wpAnyQIn F n P md ops C Q fuel listed a → wpAnyIn F n P md ops Q' fuel listed a w := by
  induction fuel with
  | zero => intro listed a w hw h; exact ⟨h.1, hQ _ _ hw h.2⟩
  | succ fuel ih =>
    intro listed a w hw h
    refine ⟨fun h0 => hQ _ _ hw (h.1 h0), fun i hi => ?_⟩
    have hh := h.2 i hi
    unfold qOpIn at hh
    unfold wpOpIn
    cases ho : ops[i]? with
    | none => rw [ho] at hh; exact ih _ _ _ hw hh
    | some o =>
      rw [ho] at hh
      simp only at hh ⊢
      obtain ⟨ha, hh⟩ := hh
      by_cases hwt : Region.wanted o (yielded ops a.tmps) = true
      · rw [if_pos hwt] at hh ⊢
        exact op_of_quiet (hd i o ho) hw (fun a' w' hw' hk => ih _ _ _ hw' hk) ha hh
      · rw [if_neg hwt] at hh ⊢
        exact ⟨ha w hw, ih _ _ _ hw hh⟩
theorem region_quiet_r {id : Nat} {Q : Exit → Act → World → Prop} {a : Act} {w : World} {l : List Oper} (hd : l.all noDefer = true) (hm : P.follows .mixedOrders = true) (hB : Region.lexB .any l.toArray = true)
    (h : wpQuietIn F n P l.toArray (fun w' => ∃ n, w' = w.drewN n) (fun a' => ∀ w', (∃ n, w' = w.drewN n) → Q .normal a' w') l a) : (Code.region id l.toArray true).wpIn F n P Q a w := by
  simp only [Region.lexB, Bool.and_eq_true] at hB
  refine wpIn_region_any hm (any_of_quiet (Q := fun a' => ∀ w', (∃ n, w' = w.drewN n) → Q .normal a' w') (C := fun w' => ∃ n, w' = w.drewN n) (fun i o ho => ?_) (fun _ w' hw' h => h w' hw') _ _ _ _ ⟨1, rfl⟩ ?_)
  · have hm2 : o ∈ l := List.mem_of_getElem? (by simpa using ho)
    exact List.all_eq_true.1 hd o hm2
  · have := wpAnyQIn_lex (F := F) (n := n) (C := fun w' => ∃ n, w' = w.drewN n) (md := .any) hB.1 l 0 (Array.replicate l.toArray.size false) a (by simp) (by simpa using hB.2) h
    simpa using this
end
end Go.Proofs.Ytoiakenepmbalaa.Mem
