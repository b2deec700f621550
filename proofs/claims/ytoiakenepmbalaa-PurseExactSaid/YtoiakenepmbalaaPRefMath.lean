/- The document's own purse as plain data: what its set leaves. -/
import Derived.Test.YtoiakenepmbalaaPurseMath
namespace Go.Proofs.Ytoiakenepmbalaa.PRef
set_option maxRecDepth 100000
open Go.Proofs.Ytoiakenepmbalaa.Purse
/-- one round of set -/
def stp (k v : Int) (s : List Due × Bool) (x : Due) : List Due × Bool :=
  if x.1 = k then (if s.2 then s else (s.1 ++ [(k, v)], true))
  else if s.2 = false ∧ k < x.1 then (s.1 ++ [(k, v)] ++ [x], true) else (s.1 ++ [x], s.2)
def runS (k v : Int) (L : List Due) (s : List Due × Bool) : List Due × Bool := L.foldl (stp k v) s
def endS (k v : Int) (s : List Due × Bool) : List Due := if s.2 then s.1 else s.1 ++ [(k, v)]
def setL (L : List Due) (k v : Int) : List Due := endS k v (runS k v L ([], decide (v = 0)))
def insL : List Due → Int → Int → List Due
  | [], k, v => [(k, v)]
  | x :: r, k, v => if x.1 < k then x :: insL r k v else if x.1 = k then (k, v) :: r else (k, v) :: x :: r
theorem run_true (k v : Int) : ∀ (L : List Due) (out : List Due), runS k v L (out, true) = (out ++ L.filter (fun x => decide (x.1 ≠ k)), true)
  | [], out => by simp [runS]
  | x :: r, out => by
    show runS k v r (stp k v (out, true) x) = _
    by_cases e : x.1 = k
    · have : stp k v (out, true) x = (out, true) := by simp [stp, e]
      rw [this, run_true k v r out]; simp [e]
    · have : stp k v (out, true) x = (out ++ [x], true) := by simp [stp, e]
      rw [this, run_true k v r _]; simp [e]
theorem filter_all {L : List Due} {k : Int} (h : ∀ x ∈ L, x.1 ≠ k) : L.filter (fun x => decide (x.1 ≠ k)) = L := by
  rw [List.filter_eq_self]
  intro x hx
  simpa using h x hx
theorem run_false (k v : Int) : ∀ (L : List Due) (out : List Due), L.Pairwise (fun a b => a.1 < b.1) → endS k v (runS k v L (out, false)) = out ++ insL L k v
  | [], out, _ => by simp [runS, endS, insL]
  | x :: r, out, hs => by
    rw [List.pairwise_cons] at hs
    show endS k v (runS k v r (stp k v (out, false) x)) = _
    by_cases e : x.1 = k
    · have : stp k v (out, false) x = (out ++ [(k, v)], true) := by simp [stp, e]
      rw [this, run_true, filter_all (fun y hy => by have := hs.1 y hy; omega)]
      simp [endS, insL, e]
    · by_cases h : k < x.1
      · have : stp k v (out, false) x = (out ++ [(k, v)] ++ [x], true) := by simp [stp, e, h]
        rw [this, run_true, filter_all (fun y hy => by have := hs.1 y hy; omega)]
        have h2 : ¬ x.1 < k := by omega
        simp [endS, insL, e, h2]
      · have : stp k v (out, false) x = (out ++ [x], false) := by simp [stp, e, h]
        rw [this, run_false k v r _ hs.2]
        have h2 : x.1 < k := by omega
        simp [insL, h2]
theorem add_ins : ∀ (L : List Due) (k n : Int), addL L k n = insL L k (ofL L k + n)
  | [], k, n => by simp [addL, insL, ofL]
  | x :: r, k, n => by
    simp only [addL, insL, ofL]
    split
    · rw [add_ins r k n]
    · split
      · rfl
      · simp
theorem cut_ins : ∀ (L : List Due) (k n : Int), hasL L k = true → n ≠ ofL L k → cutL L k n = insL L k (ofL L k - n)
  | [], k, n, h, _ => by simp [hasL] at h
  | x :: r, k, n, h, hn => by
    simp only [cutL, insL, ofL, hasL] at h hn ⊢
    split
    · rename_i hx
      rw [if_pos hx] at h hn
      rw [cut_ins r k n h hn]
    · rename_i hx
      rw [if_neg hx] at h hn
      have e : x.1 = k := by simpa using h
      rw [if_pos e] at hn
      rw [if_pos e, if_pos e, if_pos e, if_neg (fun e2 => hn e2.symm)]
theorem filter_cut : ∀ (L : List Due) (k n : Int), L.Pairwise (fun a b => a.1 < b.1) → n = ofL L k → hasL L k = true → L.filter (fun x => decide (x.1 ≠ k)) = cutL L k n
  | [], k, n, _, _, h => by simp [hasL] at h
  | x :: r, k, n, hs, hn, h => by
    rw [List.pairwise_cons] at hs
    simp only [cutL, ofL, hasL] at h hn ⊢
    split
    · rename_i hx
      rw [if_pos hx] at h hn
      rw [← filter_cut r k n hs.2 hn h]
      have : x.1 ≠ k := by omega
      simp [this]
    · rename_i hx
      rw [if_neg hx] at h hn
      have e : x.1 = k := by simpa using h
      rw [if_pos e] at hn
      rw [if_pos e, if_pos hn.symm]
      have := filter_all (L := r) (k := k) (fun y hy => by have := hs.1 y hy; omega)
      simp only [ne_eq, decide_not] at this
      simp [e, this]
theorem filter_not : ∀ (L : List Due) (k : Int), L.Pairwise (fun a b => a.1 < b.1) → hasL L k = false → L.filter (fun x => decide (x.1 ≠ k)) = L := by
  intro L k hs h
  refine filter_all (fun x hx e => ?_)
  have : ofL L k = x.2 ∧ hasL L k = true := by
    clear h
    induction L with
    | nil => cases hx
    | cons y r ih =>
      rw [List.pairwise_cons] at hs
      simp only [ofL, hasL]
      rcases List.mem_cons.1 hx with rfl | hx
      · rw [if_neg (by omega), if_pos e, if_neg (by omega)]; exact ⟨rfl, by simpa using e⟩
      · rw [if_pos (by have := hs.1 x hx; omega), if_pos (by have := hs.1 x hx; omega)]; exact ih hs.2 hx
  rw [h] at this
  cases this.2
theorem set_ask {L : List Due} (hs : wfL L) {k n : Int} (hn : 1 ≤ n) : setL L k (ofL L k + n) = addL L k n := by
  have h0 := ofL_nn hs.pos k
  unfold setL
  rw [decide_eq_false (by omega), run_false _ _ _ _ hs.srt, add_ins]
  rfl
/-- what Take's set leaves: m is what was taken -/
theorem set_take {L : List Due} (hs : wfL L) {k n : Int} (hn : 1 ≤ n) : setL L k (ofL L k - takeN L k n) = takeL L k n := by
  unfold takeL
  cases hh : hasL L k with
  | true =>
    rw [if_pos ⟨rfl, hn⟩]
    have := takeN_has hs hh hn
    unfold setL
    by_cases e : takeN L k n = ofL L k
    · rw [decide_eq_true (by omega), run_true]
      unfold endS
      rw [if_pos rfl, List.nil_append]
      exact filter_cut L k _ hs.srt e hh
    · rw [decide_eq_false (by omega), run_false _ _ _ _ hs.srt, cut_ins L k _ hh e]
      rfl
  | false =>
    rw [if_neg (by simp), ofL_not L k hh, takeN_not (by simp [hh])]
    unfold setL
    rw [decide_eq_true (by omega), run_true]
    unfold endS
    rw [if_pos rfl, List.nil_append]
    exact filter_not L k hs.srt hh
theorem run_take (k v : Int) (L : List Due) (s : List Due × Bool) (i : Nat) (x : Due) (h : L[i]? = some x) : runS k v (L.take (i + 1)) s = stp k v (runS k v (L.take i) s) x := by
  unfold runS
  rw [List.take_add_one, h, List.foldl_append]; rfl
theorem run_len (k v : Int) : ∀ (L : List Due) (s : List Due × Bool), (runS k v L s).1.length ≤ s.1.length + 2 * L.length
  | [], s => by simp [runS]
  | x :: r, s => by
    have h1 := run_len k v r (stp k v s x)
    have h2 : (stp k v s x).1.length ≤ s.1.length + 2 := by
      unfold stp
      split
      · split <;> simp
      · split <;> simp
    show (runS k v r (stp k v s x)).1.length ≤ _
    simp only [List.length_cons]; omega
end Go.Proofs.Ytoiakenepmbalaa.PRef
