/- Logs that clients make, as plain data: each is a log of recovery's plain data. What clients do to a log keeps it one: acts, one by one. Names of transactions in memory: ==, the document's own Less. Rows of entries of a call's own. -/
import Derived.Test.YtkeocnhndnbamaaGreatQBook9
import Derived.Test.YtkeocnhndnbamaaGreatQBook6
import Derived.Test.YtkeocnhndnbamaaGreatQBook4
import Derived.Test.YtkeocnhndnbamaaGreatQBook5
import Derived.Laws.AppendOwn
import Derived.Lib.QuietBelow
namespace Go.Proofs.YtkeocnhndnbamaaGreat.Mend
set_option maxRecDepth 100000
open Go.Proofs.YtkeocnhndnbamaaGreat.Slab (Slot nos atL)
open Go.Proofs.YtkeocnhndnbamaaGreat.Ent (Ent longB goodB)
open Go.Proofs.YtkeocnhndnbamaaGreat.Patch
open Go.Proofs.YtkeocnhndnbamaaGreat.Past (T3 txE ofL)
open Go.Proofs.YtkeocnhndnbamaaGreat.MLog
def i0 : Im := ⟨[], by decide⟩
abbrev Pgs := Int → Int × List Slot
structure PD where
  list : List Ent
  now : Pgs
  all : List Pgs
  owner : Int → Int
  txn : Int → Int
  last : Int → Int
def bornP : PD := ⟨[], fun _ => (0, []), [fun _ => (0, [])], fun _ => 0, fun c => if 1 ≤ c ∧ c ≤ 4 then 1 else 0, fun _ => 0⟩
def pushP (p : PD) (x : Ent) (now : Pgs) : PD := ⟨p.list ++ [x], now, p.all ++ [now], p.owner, p.txn, upd p.last x.cl x.lsn⟩
def addB (p : PD) (x : Ent) : Bool := if x.kind ≤ 2 then decide (redoCode (p.now x.page).1 (p.now x.page).2 x = 0) && redoD (p.now x.page).1 (p.now x.page).2 x else true
def addP (p : PD) (x : Ent) : PD :=
  if addB p x = true then pushP p x (if x.kind ≤ 2 then upd p.now x.page (redoN (p.now x.page).1 (p.now x.page).2 x, redoZ (p.now x.page).1 (p.now x.page).2 x) else p.now) else p
def lsnP (p : PD) (c n : Int) : Int := max (p.last c) (p.now n).1 + 1
def txnP (p : PD) (c : Int) : T3 := ⟨c, 1, p.txn c⟩
def backL (L : List Ent) (t : T3) (down : Int) : Option Ent := match nextL L t with
  | some (some x) => if down < x.lsn then some x else none
  | _ => none
def undoB (p : PD) (c : Int) : Bool := match backL p.list (txnP p c) 0 with
  | none => false
  | some x => decide (turnC x (lsnP p c x.page) (p.last c) = 0) && addB p (turnX x (lsnP p c x.page) (p.last c))
def undoP (p : PD) (c : Int) : PD := match backL p.list (txnP p c) 0 with
  | none => p
  | some x => if turnC x (lsnP p c x.page) (p.last c) = 0 then addP p (turnX x (lsnP p c x.page) (p.last c)) else p
def undoN : Nat → PD → Int → PD
  | 0, p, _ => p
  | f + 1, p, c => if undoB p c = true then undoN f (undoP p c) c else p
def begunP (p : PD) (c : Int) : Bool := p.list.any fun y => decide (txE y = txnP p c)
def endX (p : PD) (c k : Int) : Ent := ⟨k, c, 1, p.txn c, p.last c + 1, p.last c, 0, 0, false, ⟨#[]⟩, false, ⟨#[]⟩, 0⟩
def freeP (p : PD) (c : Int) : PD := ⟨p.list, p.now, p.all, fun n => if p.owner n = c then 0 else p.owner n, upd p.txn c (p.txn c + 1), upd p.last c 0⟩
def endP (p : PD) (c k : Int) : PD := freeP (if begunP p c = true then addP p (endX p c k) else p) c
def chX (p : PD) (c n k : Int) (d : ByteArray) : Ent :=
  ⟨1, c, 1, p.txn c, lsnP p c n, p.last c, n, k, (atL (p.now n).1 (p.now n).2 k).u, (atL (p.now n).1 (p.now n).2 k).d, decide (d.size ≠ 0), d, 0⟩
def ownP (p : PD) (n c : Int) : PD := ⟨p.list, p.now, p.all, upd p.owner n c, p.txn, p.last⟩
def chP (p : PD) (c n k : Int) (d : ByteArray) : PD :=
  if p.owner n ≠ 0 ∧ p.owner n ≠ c then p
  else if goodB (chX p c n k d) = true ∧ addB p (chX p c n k d) = true then ownP (addP p (chX p c n k d)) n c else p
/-! ### The log's own side -/
structure Core (L : List Ent) (now : Pgs) (all : List Pgs) (s : St T3 Slot Im) : Prop where
  log : Log G i0 (L.map enE) s
  good : ∀ x ∈ L, goodB x = true
  rng : ∀ x ∈ L, (0 ≤ x.page ∧ x.page ≤ 3) ∧ (0 ≤ x.slot ∧ x.slot ≤ 4)
  now : ∀ n, now n = ((s.pg n).1, (s.pg n).2.1)
  lsn : ∀ n, (s.pg n).1 ≤ L.length
  lst : ∀ t, s.last t ≤ L.length
  len : all.length = L.length + 1
  hist : ∀ k now, all[k]? = some now → ∃ sk, Log G i0 ((L.take k).map enE) sk ∧ ∀ n, now n = ((sk.pg n).1, (sk.pg n).2.1)
theorem core_push {L : List Ent} {now now' : Pgs} {all : List Pgs} {s s' : St T3 Slot Im} {x : Ent} (h : Core L now all s) (hs : Step G s (enE x) s') (hg : goodB x = true)
    (hr : (0 ≤ x.page ∧ x.page ≤ 3) ∧ (0 ≤ x.slot ∧ x.slot ≤ 4)) (hl : x.lsn ≤ L.length + 1) (hn : ∀ n, now' n = ((s'.pg n).1, (s'.pg n).2.1)) : Core (L ++ [x]) now' (all ++ [now']) s' := by
  have hlog : Log G i0 ((L ++ [x]).map enE) s' := by
    rw [List.map_append]; exact Log.snoc h.log hs
  obtain ⟨h1, h2, -, -⟩ := step_last hs
  refine ⟨hlog, fun y hy => ?_, fun y hy => ?_, hn, fun n => ?_, fun t => ?_, by rw [List.length_append, List.length_append, h.len]; rfl, fun k nw hk => ?_⟩
  · rcases List.mem_append.1 hy with hy | hy
    · exact h.good y hy
    · have : y = x := by simpa using hy
      rw [this]; exact hg
  · rcases List.mem_append.1 hy with hy | hy
    · exact h.rng y hy
    · have : y = x := by simpa using hy
      rw [this]; exact hr
  · rw [List.length_append]
    have hp := step_page (inv_log h.log) hs n
    have := h.lsn n
    by_cases hc : ((enE x).kind = 1 ∨ (enE x).kind = 2) ∧ (enE x).page = n
    · obtain ⟨-, -, i', -, e⟩ := hp.2 hc
      rw [e]
      show x.lsn ≤ _
      simp only [List.length_singleton]; omega
    · rw [hp.1 hc]; simp only [List.length_singleton]; omega
  · rw [List.length_append, h1]
    have := h.lst t
    by_cases ht : t = (enE x).t
    · rw [ht, upd_same]
      show x.lsn ≤ _
      simp only [List.length_singleton]; omega
    · rw [upd_ne _ _ ht]; simp only [List.length_singleton]; omega
  · rcases Nat.lt_or_ge k all.length with hk2 | hk2
    · rw [List.getElem?_append_left hk2] at hk
      rw [List.take_append_of_le_length (by have := h.len; omega)]
      exact h.hist k nw hk
    · rw [List.getElem?_append_right hk2] at hk
      have hke : k - all.length = 0 := by
        rcases Nat.eq_zero_or_pos (k - all.length) with h0 | h0
        · exact h0
        · rw [List.getElem?_eq_none (by simp; omega)] at hk; cases hk
      rw [hke] at hk
      have hk : now' = nw := by simpa using hk
      rw [← hk, List.take_of_length_le (by rw [List.length_append, List.length_singleton]; have := h.len; omega)]
      exact ⟨s', hlog, hn⟩
end Go.Proofs.YtkeocnhndnbamaaGreat.Mend
namespace Go.Proofs.YtkeocnhndnbamaaGreat.Mend
set_option maxRecDepth 100000
open Go.Proofs.YtkeocnhndnbamaaGreat.Slab (Slot nos atL)
open Go.Proofs.YtkeocnhndnbamaaGreat.Ent (Ent longB goodB)
open Go.Proofs.YtkeocnhndnbamaaGreat.Patch
open Go.Proofs.YtkeocnhndnbamaaGreat.Past (T3 txE ofL)
open Go.Proofs.YtkeocnhndnbamaaGreat.MLog
def Cl (c : Int) : Prop := 1 ≤ c ∧ c ≤ 4
/-- how many changes of those at work count -/
def potF (f : T3 → List (En T3 Slot)) (txn : Int → Int) : Nat := (f ⟨1, 1, txn 1⟩).length + (f ⟨2, 1, txn 2⟩).length + (f ⟨3, 1, txn 3⟩).length + (f ⟨4, 1, txn 4⟩).length
theorem name_ne {a b c d : Int} (h : a ≠ b) : (⟨a, 1, c⟩ : T3) ≠ ⟨b, 1, d⟩ := fun e => h (congrArg T3.cl e)
theorem pot_upd {f : T3 → List (En T3 Slot)} {txn : Int → Int} {c : Int} (hc : Cl c) (v : List (En T3 Slot)) :
    potF (upd f ⟨c, 1, txn c⟩ v) txn + (f ⟨c, 1, txn c⟩).length = potF f txn + v.length := by
  unfold potF
  rcases (show c = 1 ∨ c = 2 ∨ c = 3 ∨ c = 4 by have := hc.1; have := hc.2; omega) with rfl | rfl | rfl | rfl
  · rw [upd_same, upd_ne _ _ (name_ne (by decide)), upd_ne _ _ (name_ne (by decide)), upd_ne _ _ (name_ne (by decide))]; omega
  · rw [upd_same, upd_ne _ _ (name_ne (by decide)), upd_ne _ _ (name_ne (by decide)), upd_ne _ _ (name_ne (by decide))]; omega
  · rw [upd_same, upd_ne _ _ (name_ne (by decide)), upd_ne _ _ (name_ne (by decide)), upd_ne _ _ (name_ne (by decide))]; omega
  · rw [upd_same, upd_ne _ _ (name_ne (by decide)), upd_ne _ _ (name_ne (by decide)), upd_ne _ _ (name_ne (by decide))]; omega
theorem pot_txn {f : T3 → List (En T3 Slot)} {txn : Int → Int} {c : Int} (hc : Cl c) (N : Int) :
    potF f (upd txn c N) + (f ⟨c, 1, txn c⟩).length = potF f txn + (f ⟨c, 1, N⟩).length := by
  unfold potF
  rcases (show c = 1 ∨ c = 2 ∨ c = 3 ∨ c = 4 by have := hc.1; have := hc.2; omega) with rfl | rfl | rfl | rfl
  · rw [upd_same, upd_ne _ _ (by decide), upd_ne _ _ (by decide), upd_ne _ _ (by decide)]; omega
  · rw [upd_same, upd_ne _ _ (by decide), upd_ne _ _ (by decide), upd_ne _ _ (by decide)]; omega
  · rw [upd_same, upd_ne _ _ (by decide), upd_ne _ _ (by decide), upd_ne _ _ (by decide)]; omega
  · rw [upd_same, upd_ne _ _ (by decide), upd_ne _ _ (by decide), upd_ne _ _ (by decide)]; omega
structure Liv (p : PD) (s : St T3 Slot Im) (P T : Nat) : Prop where
  core : Core p.list p.now p.all s
  last : ∀ c, Cl c → p.last c = s.last (txnP p c)
  live : ∀ c, Cl c → s.ended (txnP p c) = false ∧ 1 ≤ p.txn c ∧ p.txn c ≤ T + 1
  fresh : ∀ c N, Cl c → p.txn c < N → s.last ⟨c, 1, N⟩ = 0 ∧ s.ended ⟨c, 1, N⟩ = false
  own0 : ∀ n, p.owner n = 0 → s.own n = none
  own1 : ∀ n, p.owner n ≠ 0 → Cl (p.owner n) ∧ s.own n = some (txnP p (p.owner n))
  pot : p.list.length + potF s.stk p.txn ≤ P
theorem Liv.mono {p : PD} {s : St T3 Slot Im} {P T P' T' : Nat} (h : Liv p s P T) (hP : P ≤ P') (hT : T ≤ T') : Liv p s P' T' :=
  { h with live := fun c hc => ⟨(h.live c hc).1, (h.live c hc).2.1, by have := (h.live c hc).2.2; omega⟩, pot := Nat.le_trans h.pot hP }
theorem liv_born : Liv bornP (st0 i0) 0 0 where
  core := ⟨Log.nil, fun x h => (by cases h), fun x h => (by cases h), fun n => rfl, fun n => Int.le_refl _, fun t => Int.le_refl _, rfl, fun k now hk => by
    cases k with
    | zero => injection hk with hk; subst hk; exact ⟨_, Log.nil, fun n => rfl⟩
    | succ k => cases hk⟩
  last := fun c _ => rfl
  live := fun c hc => ⟨rfl, by show (1 : Int) ≤ if 1 ≤ c ∧ c ≤ 4 then 1 else 0; rw [if_pos (show 1 ≤ c ∧ c ≤ 4 from hc)]; omega, by show (if 1 ≤ c ∧ c ≤ 4 then (1 : Int) else 0) ≤ _; rw [if_pos (show 1 ≤ c ∧ c ≤ 4 from hc)]; omega⟩
  fresh := fun c N _ _ => ⟨rfl, rfl⟩
  own0 := fun n _ => rfl
  own1 := fun n h => absurd rfl h
  pot := Nat.le_refl _
section
variable {p : PD} {s : St T3 Slot Im} {P T : Nat}
theorem liv_lsn (h : Liv p s P T) {c : Int} (hc : Cl c) (n : Int) : s.last (txnP p c) < lsnP p c n ∧ (s.pg n).1 < lsnP p c n ∧ lsnP p c n ≤ p.list.length + 1 ∧ 0 ≤ s.last (txnP p c) ∧ 0 ≤ (s.pg n).1 ∧ p.last c = s.last (txnP p c) := by
  have h1 := h.last c hc
  have h2 := h.core.now n
  have h3 := h.core.lsn n
  have h4 := h.core.lst (txnP p c)
  have h5 := (inv_log h.core.log).lst (txnP p c)
  have h6 := (inv_log h.core.log).pgs n
  unfold lsnP
  rw [h1, h2]
  exact ⟨by omega, by omega, by omega, h5, h6, rfl⟩
/-- an entry that changes its page -/
theorem push_long {x : Ent} {i' : Im} (h : Liv p s P T) (hlen : p.list.length < 1000000) (hk : longB x.kind = true) (hg : goodB x = true) (hl : (s.pg x.page).1 < x.lsn)
    (hat : G.at_ (s.pg x.page).2 x.slot = ⟨x.wu, x.wd⟩) (hp : G.put (s.pg x.page).2 x.slot ⟨x.iu, x.id⟩ = some i') :
    addB p x = true ∧ addP p x = pushP p x (upd p.now x.page (x.lsn, i'.1)) := by
  have h0 := (inv_log h.core.log).pgs x.page
  have h1 := h.core.lsn x.page
  obtain ⟨r1, r2, r3, r4⟩ := redo_yes h0 (by omega) hk hg hl hat hp
  have hk2 : x.kind ≤ 2 := by have := of_decide_eq_true hk; omega
  have hb : addB p x = true := by
    unfold addB
    rw [if_pos hk2, h.core.now x.page, r1, r2]; rfl
  refine ⟨hb, ?_⟩
  unfold addP
  rw [if_pos hb, if_pos hk2, h.core.now x.page, r3, r4]
theorem now_upd {s' : St T3 Slot Im} {now : Pgs} {n L : Int} {i' : Im} (h : ∀ n, now n = ((s.pg n).1, (s.pg n).2.1)) (hs : s'.pg = upd s.pg n (L, i')) : ∀ m, upd now n (L, i'.1) m = ((s'.pg m).1, (s'.pg m).2.1) := fun m => by
  rw [hs]
  by_cases hm : m = n
  · rw [hm, upd_same, upd_same]
  · rw [upd_ne _ _ hm, upd_ne _ _ hm]; exact h m
theorem liv_change (h : Liv p s P T) (hP : P ≤ 1000) {c : Int} (hc : Cl c) {n k : Int} (hn : 0 ≤ n ∧ n ≤ 3) (hk : 0 ≤ k ∧ k ≤ 4) (d : ByteArray) : ∃ s', Liv (chP p c n k d) s' (P + 2) T := by
  unfold chP
  by_cases ho : p.owner n ≠ 0 ∧ p.owner n ≠ c
  · rw [if_pos ho]; exact ⟨s, h.mono (by omega) (Nat.le_refl _)⟩
  rw [if_neg ho]
  by_cases hb : goodB (chX p c n k d) = true ∧ addB p (chX p c n k d) = true
  · rw [if_pos hb]
    obtain ⟨hg, ha⟩ := hb
    obtain ⟨l1, l2, l3, l4, l5, l6⟩ := liv_lsn h hc n
    have hpl := h.pot
    obtain ⟨i, hi⟩ : ∃ i, (s.pg n).2 = i := ⟨_, rfl⟩
    have hnow := h.core.now n
    rw [hi] at hnow
    have ha2 := ha
    unfold addB at ha2
    rw [if_pos (show (chX p c n k d).kind ≤ 2 by show (1 : Int) ≤ 2; decide), show (chX p c n k d).page = n from rfl, hnow, Bool.and_eq_true, decide_eq_true_eq] at ha2
    obtain ⟨q1, q2, q3, q4, -, i', q5, -⟩ := redo_of ha2.1 ha2.2
    have q4 : G.at_ (s.pg n).2 k = ⟨(chX p c n k d).wu, (chX p c n k d).wd⟩ := by rw [hi]; exact q4
    have q5 : G.put (s.pg n).2 k ⟨(chX p c n k d).iu, (chX p c n k d).id⟩ = some i' := by rw [hi]; exact q5
    obtain ⟨-, hadd⟩ := push_long h (by omega) (show longB (chX p c n k d).kind = true from rfl) hg l2 q4 q5
    have hst : Step G s (enE (chX p c n k d)) _ := Step.change (s := s) (e := enE (chX p c n k d)) (i' := i') rfl (h.live c hc).1 l6 l1 l2
      (by
        by_cases h0 : p.owner n = 0
        · exact .inl (h.own0 n h0)
        · have h1 := (h.own1 n h0).2
          have h2 : p.owner n = c := by
            by_cases h2 : p.owner n = c
            · exact h2
            · exact absurd ⟨h0, h2⟩ ho
          rw [h2] at h1
          exact .inr h1) q4 q5
    rw [hadd]
    refine ⟨_, core_push h.core hst hg ⟨hn, hk⟩ l3 (now_upd h.core.now rfl), fun c' hc' => ?_, fun c' hc' => h.live c' hc', fun c' N hc' hN => ?_, fun m hm => ?_, fun m hm => ?_, ?_⟩
    · show upd p.last c (lsnP p c n) c' = upd s.last (txnP p c) (lsnP p c n) (txnP p c')
      by_cases e : c' = c
      · rw [e, upd_same, upd_same]
      · rw [upd_ne _ _ e, upd_ne _ _ (show txnP p c' ≠ txnP p c from name_ne e)]; exact h.last c' hc'
    · have hN : p.txn c' < N := hN
      show upd s.last (txnP p c) (lsnP p c n) ⟨c', 1, N⟩ = 0 ∧ _
      rw [upd_ne _ _ (show (⟨c', 1, N⟩ : T3) ≠ txnP p c from fun e => by
        have e1 : c' = c := congrArg T3.cl e
        have e2 : N = p.txn c := congrArg T3.n e
        rw [e1] at hN; omega)]
      exact h.fresh c' N hc' hN
    · have hm : upd p.owner n c m = 0 := hm
      show upd s.own n (some (txnP p c)) m = none
      by_cases e : m = n
      · rw [e, upd_same] at hm; have := hc.1; omega
      · rw [upd_ne _ _ e] at hm ⊢; exact h.own0 m hm
    · have hm : upd p.owner n c m ≠ 0 := hm
      show Cl (upd p.owner n c m) ∧ upd s.own n (some (txnP p c)) m = some (txnP p (upd p.owner n c m))
      by_cases e : m = n
      · rw [e, upd_same, upd_same]; exact ⟨hc, rfl⟩
      · rw [upd_ne _ _ e] at hm ⊢
        rw [upd_ne _ _ e]
        exact h.own1 m hm
    · have hpu := pot_upd (f := s.stk) (txn := p.txn) hc (enE (chX p c n k d) :: s.stk (txnP p c))
      show (p.list ++ [chX p c n k d]).length + potF (upd s.stk (txnP p c) (enE (chX p c n k d) :: s.stk (txnP p c))) p.txn ≤ P + 2
      rw [List.length_append, List.length_singleton]
      rw [List.length_cons] at hpu
      have : (s.stk (txnP p c)).length = (s.stk ⟨c, 1, p.txn c⟩).length := rfl
      have e2 : upd s.stk (txnP p c) (enE (chX p c n k d) :: s.stk (txnP p c)) = upd s.stk ⟨c, 1, p.txn c⟩ (enE (chX p c n k d) :: s.stk (txnP p c)) := rfl
      rw [e2]
      omega
  · rw [if_neg hb]; exact ⟨s, h.mono (by omega) (Nat.le_refl _)⟩
theorem turn_ok {x : Ent} {L Q : Int} (h : goodB x = true) (hk : x.kind = 1) (h0 : x.prev ≤ Q) (h1 : Q < L) (h2 : L ≤ 1099511627776) : goodB (turnY x L Q) = true ∧ turnC x L Q = 0 ∧ turnX x L Q = turnY x L Q := by
  have h3 := h
  unfold goodB at h3
  simp only [Bool.and_eq_true] at h3
  rw [if_pos hk] at h3
  simp only [Bool.and_eq_true, decide_eq_true_eq] at h3
  obtain ⟨hh, -, hc⟩ := h3
  obtain ⟨p1, p2, p3, p4, p5, p6⟩ := Ent.head_parts hh
  obtain ⟨c1, c2, c3, c4⟩ := Ent.ch_parts hc
  have hh' : Ent.headB (turnY x L Q) = true := by
    show (Ent.knownB x.cl x.ep x.n && Ent.withinB L 1 1099511627776 && decide (0 ≤ Q ∧ Q < L)) = true
    simp only [Ent.knownB, Ent.withinB, Bool.and_eq_true, decide_eq_true_eq]
    omega
  have hc' : Ent.chB (turnY x L Q) = true := by
    show (Ent.withinB x.page 0 1023 && Ent.withinB x.slot 0 31 && Ent.fitsB x.iu x.id && Ent.fitsB x.wu x.wd) = true
    simp only [Ent.withinB, Bool.and_eq_true, decide_eq_true_eq]
    exact ⟨⟨⟨c1, c2⟩, c4⟩, c3⟩
  have hgt : goodB (turnY x L Q) = true := by
    unfold goodB
    rw [hh', hc']
    have e : (turnY x L Q).kind = 2 := rfl
    rw [if_neg (by rw [e]; decide), if_pos e]
    show (true && (Ent.withinB x.prev 0 Q && true)) = true
    simp only [Ent.withinB, Bool.and_true, Bool.true_and, decide_eq_true_eq]
    omega
  have hb : turnB x L Q = true := by
    unfold turnB
    rw [decide_eq_true hk, h, hgt]; rfl
  exact ⟨hgt, by unfold turnC; rw [if_pos hb], by unfold turnX; rw [if_pos hb]⟩
/-- the newest change that counts is undone -/
theorem liv_undo (h : Liv p s P T) (hP : P ≤ 1000) {c : Int} (hc : Cl c) :
    (s.stk (txnP p c) = [] ∧ undoB p c = false ∧ undoP p c = p) ∨
      ∃ s', undoB p c = true ∧ Liv (undoP p c) s' P T ∧ txnP (undoP p c) c = txnP p c ∧ (s'.stk (txnP p c)).length + 1 = (s.stk (txnP p c)).length := by
  rcases next_is h.core.good h.core.log (txnP p c) with ⟨h1, h2⟩ | ⟨y, hy, r, h1, h2⟩
  · refine .inl ⟨h1, ?_, ?_⟩
    · unfold undoB backL; rw [h2]
    · unfold undoP backL; rw [h2]
  · obtain ⟨l1, l2, l3, l4, l5, l6⟩ := liv_lsn h hc y.page
    have hpl := h.pot
    have hg := h.core.good y hy
    obtain ⟨u1, u2, u3, u4, u5, i', u6⟩ := can_undo h.core.log h1
    have u2 : txE y = txnP p c := u2
    have u5 : G.at_ (s.pg y.page).2 y.slot = ⟨y.iu, y.id⟩ := u5
    have u6 : G.put (s.pg y.page).2 y.slot ⟨y.wu, y.wd⟩ = some i' := u6
    have hk := (kind_nat hg).1.1 u3
    have hyl := ent_lsn hg
    have hsl := stk_lsn h.core.log (txnP p c) (enE y) (by rw [h1]; exact List.mem_cons_self)
    have hsl1 : y.lsn ≤ s.last (txnP p c) := hsl.1
    obtain ⟨t1, t2, t3⟩ := turn_ok (L := lsnP p c y.page) (Q := p.last c) hg hk (by omega) (by omega) (by omega)
    have hbk : backL p.list (txnP p c) 0 = some y := by
      unfold backL
      rw [h2]
      dsimp only
      rw [if_pos (by omega)]
    obtain ⟨a1, a2⟩ := push_long (x := turnY y (lsnP p c y.page) (p.last c)) h (by omega) rfl t1 l2 u5 u6
    have e1 : undoB p c = true := by
      unfold undoB
      rw [hbk]
      dsimp only
      rw [t2, t3, a1]; rfl
    have e2 : undoP p c = pushP p (turnY y (lsnP p c y.page) (p.last c)) (upd p.now y.page (lsnP p c y.page, i'.1)) := by
      unfold undoP
      rw [hbk]
      dsimp only
      rw [if_pos t2, t3, a2]
      rfl
    have het : txE (turnY y (lsnP p c y.page) (p.last c)) = txnP p c := u2
    have hcl : y.cl = c := congrArg T3.cl u2
    have hst : Step G s (enE (turnY y (lsnP p c y.page) (p.last c))) _ := Step.undo (s := s) (e := enE (turnY y (lsnP p c y.page) (p.last c))) (x := enE y) (r := r) (i' := i') rfl
      (by rw [show (enE (turnY y (lsnP p c y.page) (p.last c))).t = txnP p c from het]; exact (h.live c hc).1)
      (by rw [show (enE (turnY y (lsnP p c y.page) (p.last c))).t = txnP p c from het]; exact l6)
      (by rw [show (enE (turnY y (lsnP p c y.page) (p.last c))).t = txnP p c from het]; exact l1) l2
      (by rw [show (enE (turnY y (lsnP p c y.page) (p.last c))).t = txnP p c from het]; exact h1) rfl rfl rfl rfl rfl u6
    have hst2 := hst
    rw [show (enE (turnY y (lsnP p c y.page) (p.last c))).t = txnP p c from het] at hst2
    refine .inr ⟨⟨upd s.pg y.page (lsnP p c y.page, i'), upd s.last (txnP p c) (lsnP p c y.page), upd s.stk (txnP p c) r, upd s.hist (txnP p c) (upd (s.hist (txnP p c)) (lsnP p c y.page) r), s.ended, s.own⟩, e1, ?_, by rw [e2]; rfl, ?_⟩
    · rw [e2]
      refine ⟨core_push h.core hst2 t1 (h.core.rng y hy) l3 (now_upd h.core.now rfl), fun c' hc' => ?_, fun c' hc' => h.live c' hc', fun c' N hc' hN => ?_, fun m hm => h.own0 m hm, fun m hm => h.own1 m hm, ?_⟩
      · show upd p.last y.cl (lsnP p c y.page) c' = upd s.last (txnP p c) (lsnP p c y.page) (txnP p c')
        rw [hcl]
        by_cases e : c' = c
        · rw [e, upd_same, upd_same]
        · rw [upd_ne _ _ e, upd_ne _ _ (show txnP p c' ≠ txnP p c from name_ne e)]; exact h.last c' hc'
      · have hN : p.txn c' < N := hN
        show upd s.last (txnP p c) (lsnP p c y.page) ⟨c', 1, N⟩ = 0 ∧ _
        rw [upd_ne _ _ (show (⟨c', 1, N⟩ : T3) ≠ txnP p c from fun e => by
          have e1 : c' = c := congrArg T3.cl e
          have e2 : N = p.txn c := congrArg T3.n e
          rw [e1] at hN; omega)]
        exact h.fresh c' N hc' hN
      · have hpu := pot_upd (f := s.stk) (txn := p.txn) hc r
        show (p.list ++ [turnY y (lsnP p c y.page) (p.last c)]).length + potF (upd s.stk (txnP p c) r) p.txn ≤ P
        rw [List.length_append, List.length_singleton]
        have e3 : (s.stk ⟨c, 1, p.txn c⟩).length = r.length + 1 := by
          rw [show s.stk ⟨c, 1, p.txn c⟩ = enE y :: r from h1]; rfl
        have e4 : upd s.stk (txnP p c) r = upd s.stk ⟨c, 1, p.txn c⟩ r := rfl
        rw [e4]
        omega
    · show (upd s.stk (txnP p c) r (txnP p c)).length + 1 = _
      rw [upd_same, h1]; rfl
theorem liv_undoN (c : Int) (hc : Cl c) (hP : P ≤ 1000) : ∀ (f : Nat) {p : PD} {s : St T3 Slot Im}, Liv p s P T → (s.stk (txnP p c)).length < f → ∃ s', Liv (undoN f p c) s' P T ∧ s'.stk (txnP (undoN f p c) c) = []
  | 0, p, s, _, hf => absurd hf (Nat.not_lt_zero _)
  | f + 1, p, s, h, hf => by
    rw [undoN]
    rcases liv_undo h hP hc with ⟨h1, h2, -⟩ | ⟨s', h1, h2, h3, h4⟩
    · rw [h2, if_neg (by decide)]; exact ⟨s, h, h1⟩
    · rw [if_pos h1]
      exact liv_undoN c hc hP f h2 (by rw [h3]; omega)
/-- a transaction is at its end -/
theorem liv_end (h : Liv p s P T) (hP : P ≤ 1000) (hT : T ≤ 1000) {c k : Int} (hc : Cl c) (hk : k = 3 ∨ (k = 4 ∧ s.stk (txnP p c) = [])) : ∃ s', Liv (endP p c k) s' (P + 1) (T + 1) := by
  have hpl := h.pot
  have hlv := h.live c hc
  have hlast := h.last c hc
  have hl0 := (inv_log h.core.log).lst (txnP p c)
  have hlt := h.core.lst (txnP p c)
  have hbl : begunP p c = true ↔ 0 < s.last (txnP p c) := by
    rw [(ended_log h.core.log (txnP p c)).2.1]
    unfold begunP
    rw [List.any_eq_true]
    constructor
    · rintro ⟨y, hy, h1⟩
      exact ⟨enE y, List.mem_map_of_mem hy, of_decide_eq_true h1⟩
    · rintro ⟨e, he, h1⟩
      obtain ⟨y, hy, rfl⟩ := mem_map he
      exact ⟨y, hy, decide_eq_true h1⟩
  have hkn : k = 3 ∨ k = 4 := hk.imp id (·.1)
  unfold endP
  by_cases hb : begunP p c = true
  · rw [if_pos hb]
    have hpos := hbl.1 hb
    have hg : goodB (endX p c k) = true := by
      unfold goodB
      have hh : Ent.headB (endX p c k) = true := by
        show (Ent.knownB c 1 (p.txn c) && Ent.withinB (p.last c + 1) 1 1099511627776 && decide (0 ≤ p.last c ∧ p.last c < p.last c + 1)) = true
        have := hc.1
        have := hc.2
        simp only [Ent.knownB, Ent.withinB, Bool.and_eq_true, decide_eq_true_eq]
        omega
      rw [hh, if_neg (show ¬ (endX p c k).kind = 1 from fun e => by have e : k = 1 := e; omega), if_neg (show ¬ (endX p c k).kind = 2 from fun e => by have e : k = 2 := e; omega), if_pos (show (endX p c k).kind = 3 ∨ (endX p c k).kind = 4 from hkn)]
      rfl
    have hkl : ¬ (endX p c k).kind ≤ 2 := fun e => by have e : k ≤ 2 := e; omega
    have hadd : addP p (endX p c k) = pushP p (endX p c k) p.now := by
      unfold addP addB
      rw [if_neg hkl, if_pos rfl, if_neg hkl]
    have hkk : (enE (endX p c k)).kind = 3 ∨ ((enE (endX p c k)).kind = 4 ∧ s.stk (txnP p c) = []) := by
      rcases hk with rfl | ⟨rfl, h2⟩
      · exact .inl rfl
      · exact .inr ⟨rfl, h2⟩
    have hst : Step G s (enE (endX p c k)) _ := Step.end_ (s := s) (e := enE (endX p c k)) hkk hlv.1 hpos hlast (by show s.last (txnP p c) < p.last c + 1; omega)
    rw [hadd]
    refine ⟨_, core_push h.core hst hg ⟨⟨Int.le_refl 0, (by decide : (0 : Int) ≤ 3)⟩, ⟨Int.le_refl 0, (by decide : (0 : Int) ≤ 4)⟩⟩ (by show p.last c + 1 ≤ _; omega) h.core.now, fun c' hc' => ?_, fun c' hc' => ?_, fun c' N hc' hN => ?_, fun m hm => ?_, fun m hm => ?_, ?_⟩
    · show upd (upd p.last c (p.last c + 1)) c 0 c' = upd s.last (txnP p c) (p.last c + 1) ⟨c', 1, upd p.txn c (p.txn c + 1) c'⟩
      by_cases e : c' = c
      · rw [e, upd_same, upd_same, upd_ne _ _ (show (⟨c, 1, p.txn c + 1⟩ : T3) ≠ txnP p c from fun e => by have : p.txn c + 1 = p.txn c := congrArg T3.n e; omega)]
        exact (h.fresh c _ hc (by omega)).1.symm
      · rw [upd_ne _ _ e, upd_ne _ _ e, upd_ne _ _ e, upd_ne _ _ (show (⟨c', 1, p.txn c'⟩ : T3) ≠ txnP p c from name_ne e)]
        exact h.last c' hc'
    · show upd s.ended (txnP p c) true ⟨c', 1, upd p.txn c (p.txn c + 1) c'⟩ = false ∧ 1 ≤ upd p.txn c (p.txn c + 1) c' ∧ upd p.txn c (p.txn c + 1) c' ≤ ((T + 1 : Nat) : Int) + 1
      by_cases e : c' = c
      · rw [e, upd_same, upd_ne _ _ (show (⟨c, 1, p.txn c + 1⟩ : T3) ≠ txnP p c from fun e => by have : p.txn c + 1 = p.txn c := congrArg T3.n e; omega)]
        exact ⟨(h.fresh c _ hc (by omega)).2, by omega, by omega⟩
      · rw [upd_ne _ _ e, upd_ne _ _ (show (⟨c', 1, p.txn c'⟩ : T3) ≠ txnP p c from name_ne e)]
        have := h.live c' hc'
        exact ⟨this.1, this.2.1, by omega⟩
    · have hN : upd p.txn c (p.txn c + 1) c' < N := hN
      have hlt2 : p.txn c' < N := by
        by_cases e : c' = c
        · rw [e, upd_same] at hN; rw [e]; omega
        · rwa [upd_ne _ _ e] at hN
      have hne : (⟨c', 1, N⟩ : T3) ≠ txnP p c := fun e => by
        have e1 : c' = c := congrArg T3.cl e
        have e2 : N = p.txn c := congrArg T3.n e
        rw [e1] at hlt2; omega
      show upd s.last (txnP p c) (p.last c + 1) ⟨c', 1, N⟩ = 0 ∧ upd s.ended (txnP p c) true ⟨c', 1, N⟩ = false
      rw [upd_ne _ _ hne, upd_ne _ _ hne]
      exact h.fresh c' N hc' hlt2
    · have hm : (if p.owner m = c then 0 else p.owner m) = 0 := hm
      show (if s.own m = some (txnP p c) then none else s.own m) = none
      by_cases e : p.owner m = 0
      · rw [h.own0 m e]; simp
      · by_cases e2 : p.owner m = c
        · rw [(h.own1 m e).2, e2, if_pos rfl]
        · rw [if_neg e2] at hm; exact absurd hm e
    · have hm : (if p.owner m = c then 0 else p.owner m) ≠ 0 := hm
      by_cases e2 : p.owner m = c
      · rw [if_pos e2] at hm; exact absurd rfl hm
      · rw [if_neg e2] at hm
        obtain ⟨o1, o2⟩ := h.own1 m hm
        show Cl (if p.owner m = c then 0 else p.owner m) ∧ (if s.own m = some (txnP p c) then none else s.own m) = some ⟨(if p.owner m = c then 0 else p.owner m), 1, upd p.txn c (p.txn c + 1) (if p.owner m = c then 0 else p.owner m)⟩
        rw [if_neg e2, upd_ne _ _ e2, o2, if_neg fun e => e2 (by injection e with e; exact congrArg T3.cl e)]
        exact ⟨o1, rfl⟩
    · have hpu := pot_upd (f := s.stk) (txn := p.txn) hc []
      have hpt := pot_txn (f := upd s.stk ⟨c, 1, p.txn c⟩ []) (txn := p.txn) hc (p.txn c + 1)
      rw [upd_same, upd_ne _ _ (show (⟨c, 1, p.txn c + 1⟩ : T3) ≠ ⟨c, 1, p.txn c⟩ from fun e => by have : p.txn c + 1 = p.txn c := congrArg T3.n e; omega)] at hpt
      have hfr := (h.fresh c (p.txn c + 1) hc (by omega)).1
      have hst0 : s.stk ⟨c, 1, p.txn c + 1⟩ = [] := by
        rw [← (inv_log h.core.log).hst, hfr]; exact (inv_log h.core.log).hst0 _
      rw [hst0] at hpt
      show (p.list ++ [endX p c k]).length + potF (upd s.stk ⟨c, 1, p.txn c⟩ []) (upd p.txn c (p.txn c + 1)) ≤ P + 1
      rw [List.length_append, List.length_singleton]
      simp only [List.length_nil] at hpt hpu
      omega
  · rw [if_neg hb]
    have h00 : s.last (txnP p c) = 0 := by
      have : ¬ 0 < s.last (txnP p c) := fun e => hb (hbl.2 e)
      omega
    have hno : ∀ m, p.owner m ≠ c := fun m e => by
      have hm : p.owner m ≠ 0 := by have := hc.1; omega
      have h1 := (h.own1 m hm).2
      rw [e] at h1
      have := ((inv_log h.core.log).live m _ h1).2
      omega
    have hsk : ∀ N, s.last ⟨c, 1, N⟩ = 0 → s.stk ⟨c, 1, N⟩ = [] := fun N e => by
      rw [← (inv_log h.core.log).hst, e]; exact (inv_log h.core.log).hst0 _
    refine ⟨s, h.core, fun c' hc' => ?_, fun c' hc' => ?_, fun c' N hc' hN => ?_, fun m hm => ?_, fun m hm => ?_, ?_⟩
    · show upd p.last c 0 c' = s.last ⟨c', 1, upd p.txn c (p.txn c + 1) c'⟩
      by_cases e : c' = c
      · rw [e, upd_same, upd_same]; exact (h.fresh c _ hc (by omega)).1.symm
      · rw [upd_ne _ _ e, upd_ne _ _ e]; exact h.last c' hc'
    · show s.ended ⟨c', 1, upd p.txn c (p.txn c + 1) c'⟩ = false ∧ 1 ≤ upd p.txn c (p.txn c + 1) c' ∧ upd p.txn c (p.txn c + 1) c' ≤ ((T + 1 : Nat) : Int) + 1
      by_cases e : c' = c
      · rw [e, upd_same]
        exact ⟨(h.fresh c _ hc (by omega)).2, by omega, by omega⟩
      · rw [upd_ne _ _ e]
        have := h.live c' hc'
        exact ⟨this.1, this.2.1, by omega⟩
    · have hN : upd p.txn c (p.txn c + 1) c' < N := hN
      refine h.fresh c' N hc' ?_
      by_cases e : c' = c
      · rw [e, upd_same] at hN; rw [e]; omega
      · rwa [upd_ne _ _ e] at hN
    · have hm : (if p.owner m = c then 0 else p.owner m) = 0 := hm
      rw [if_neg (hno m)] at hm
      exact h.own0 m hm
    · have hm : (if p.owner m = c then 0 else p.owner m) ≠ 0 := hm
      rw [if_neg (hno m)] at hm
      show Cl (if p.owner m = c then 0 else p.owner m) ∧ s.own m = some ⟨(if p.owner m = c then 0 else p.owner m), 1, upd p.txn c (p.txn c + 1) (if p.owner m = c then 0 else p.owner m)⟩
      rw [if_neg (hno m), upd_ne _ _ (hno m)]
      exact h.own1 m hm
    · have hpt := pot_txn (f := s.stk) (txn := p.txn) hc (p.txn c + 1)
      rw [hsk _ h00, hsk _ (h.fresh c _ hc (by omega)).1] at hpt
      show p.list.length + potF s.stk (upd p.txn c (p.txn c + 1)) ≤ P + 1
      omega
theorem stk_le (h : Liv p s P T) {c : Int} (hc : Cl c) : (s.stk (txnP p c)).length ≤ P := by
  have := h.pot
  unfold potF at this
  unfold txnP
  rcases (show c = 1 ∨ c = 2 ∨ c = 3 ∨ c = 4 by have := hc.1; have := hc.2; omega) with rfl | rfl | rfl | rfl <;> omega
/-- an act of a client -/
def actP (p : PD) (kind c n k : Int) (d : ByteArray) : PD :=
  if kind = 1 then chP p c n k d else if kind = 2 then undoP p c else if kind = 3 then endP p c 3 else if kind = 4 then endP (undoN 1001 p c) c 4 else p
theorem liv_act (h : Liv p s P T) (hP : P ≤ 900) (hT : T ≤ 900) (kind : Int) {c n k : Int} (hc : Cl c) (hn : 0 ≤ n ∧ n ≤ 3) (hk : 0 ≤ k ∧ k ≤ 4) (d : ByteArray) : ∃ s', Liv (actP p kind c n k d) s' (P + 2) (T + 1) := by
  unfold actP
  by_cases k1 : kind = 1
  · rw [if_pos k1]
    obtain ⟨s', h'⟩ := liv_change h (by omega) hc hn hk d
    exact ⟨s', h'.mono (Nat.le_refl _) (by omega)⟩
  rw [if_neg k1]
  by_cases k2 : kind = 2
  · rw [if_pos k2]
    rcases liv_undo h (by omega) hc with ⟨-, -, h3⟩ | ⟨s', -, h', -, -⟩
    · rw [h3]; exact ⟨s, h.mono (by omega) (by omega)⟩
    · exact ⟨s', h'.mono (by omega) (by omega)⟩
  rw [if_neg k2]
  by_cases k3 : kind = 3
  · rw [if_pos k3]
    obtain ⟨s', h'⟩ := liv_end h (by omega) (by omega) hc (.inl rfl)
    exact ⟨s', h'.mono (by omega) (Nat.le_refl _)⟩
  rw [if_neg k3]
  by_cases k4 : kind = 4
  · rw [if_pos k4]
    obtain ⟨s1, h1, h2⟩ := liv_undoN c hc (by omega) 1001 h (by have := stk_le h hc; omega)
    obtain ⟨s', h'⟩ := liv_end h1 (by omega) (by omega) hc (.inr ⟨rfl, h2⟩)
    exact ⟨s', h'.mono (by omega) (Nat.le_refl _)⟩
  rw [if_neg k4]
  exact ⟨s, h.mono (by omega) (by omega)⟩
/-- acts of clients, one behind the other -/
structure ActP where
  kind : Int
  c : Int
  n : Int
  k : Int
  d : ByteArray
def ActP.fine (a : ActP) : Prop := Cl a.c ∧ (0 ≤ a.n ∧ a.n ≤ 3) ∧ (0 ≤ a.k ∧ a.k ≤ 4)
def livedP (l : List ActP) : PD := l.foldl (fun p a => actP p a.kind a.c a.n a.k a.d) bornP
theorem lived_next {l : List ActP} {i : Nat} {a : ActP} (h : l[i]? = some a) : livedP (l.take (i + 1)) = actP (livedP (l.take i)) a.kind a.c a.n a.k a.d := by
  unfold livedP
  rw [List.take_add_one, h, List.foldl_append]; rfl
theorem liv_lived : ∀ (l : List ActP), (∀ a ∈ l, a.fine) → l.length ≤ 400 → ∃ s, Liv (livedP l) s (2 * l.length) l.length := fun l => by
  refine snoc_ind (P := fun l => (∀ a ∈ l, ActP.fine a) → l.length ≤ 400 → ∃ s, Liv (livedP l) s (2 * l.length) l.length) ?_ ?_ l
  · intro _ _; exact ⟨_, liv_born⟩
  · intro l a ih hf hl
    rw [List.length_append, List.length_singleton] at hl
    obtain ⟨s, h⟩ := ih (fun b hb => hf b (List.mem_append_left _ hb)) (by omega)
    obtain ⟨f1, f2, f3⟩ := hf a (by simp)
    obtain ⟨s', h'⟩ := liv_act h (by omega) (by omega) a.kind f1 f2 f3 a.d
    refine ⟨s', ?_⟩
    rw [List.length_append, List.length_singleton]
    have e : livedP (l ++ [a]) = actP (livedP l) a.kind a.c a.n a.k a.d := by unfold livedP; rw [List.foldl_append]; rfl
    rw [e]
    exact h'.mono (by omega) (Nat.le_refl _)
end
end Go.Proofs.YtkeocnhndnbamaaGreat.Mend
namespace Go.Proofs.YtkeocnhndnbamaaGreat.Past
set_option maxRecDepth 100000
open Go.RowKit
open Go.Proofs.YtkeocnhndnbamaaGreat.Mem
open Go.Proofs.YtkeocnhndnbamaaGreat.Ent (Ent goodB)
def sameT (a b : T3) : Bool := (a.cl == b.cl) && ((a.ep == b.ep) && (a.n == b.n))
theorem sameT_eq (a b : T3) : sameT a b = decide (a = b) := by
  rw [show decide (a = b) = decide (a.cl = b.cl ∧ a.ep = b.ep ∧ a.n = b.n) from decide_eq_decide.2 t3_eq]
  unfold sameT
  by_cases h1 : a.cl = b.cl <;> by_cases h2 : a.ep = b.ep <;> by_cases h3 : a.n = b.n <;> simp [h1, h2, h3]
theorem run_eq_txn (a b : T3) (w : World) : (binOp .eql 56 (.agg #[.int .i64 a.cl, .int .i64 a.ep, .int .i64 a.n]) (.agg #[.int .i64 b.cl, .int .i64 b.ep, .int .i64 b.n])).run Tryz.prog w = .ok (.bool (sameT a b)) w := by
  rw [run_eql_struct, show (10000 : Nat) = 9998 + 2 from rfl, Ent.eqIn_txn]
  rfl
theorem run_guard_txn (op : BinOp) (A B : Operand) (xs ys : Array Value) (w : World) : (eqGuard op 56 A B (.agg xs) (.agg ys)).run Tryz.prog w = .ok () w := run_eqGuard_agg w op 56 A B xs ys (by kernel_rfl)
theorem tx_cells {w : World} {g : Nat} {t : TypeId} {x : T3} (h : Blk w g t #[.int .i64 x.cl, .int .i64 x.ep, .int .i64 x.n]) :
    w.cell? ⟨g, 0, none⟩ = some (.int .i64 x.cl) ∧ w.cell? ⟨g, 1, none⟩ = some (.int .i64 x.ep) ∧ w.cell? ⟨g, 2, none⟩ = some (.int .i64 x.n) := ⟨h.cell 0, h.cell 1, h.cell 2⟩
end Go.Proofs.YtkeocnhndnbamaaGreat.Past
namespace Go.Proofs.YtkeocnhndnbamaaGreat.Past
set_option maxRecDepth 100000
open Go.RowKit
open Go.Proofs.YtkeocnhndnbamaaGreat.Mem
open Go.Proofs.YtkeocnhndnbamaaGreat.Ent (Ent goodB Ents EntAt SmallE noE entA cellsE cellsE_snoc cellsE_length cellsE_get)
theorem infoE : (Tryz.prog.info? 58).map (fun i => (i.zero, i.size, i.bytes)) = some (some (.agg #[.int .i64 0, .int .i64 0, .int .i64 0, .int .i64 0, .int .i64 0, .int .i64 0, .int .i64 0, .int .i64 0, .bool false, .string ⟨#[]⟩, .bool false, .string ⟨#[]⟩, .int .i64 0]), 13, 120) := by kernel_rfl
theorem ents_own {w : World} {base : Nat} {t : TypeId} {v : Value} {z : List Ent} (h : w.ownsRow base t 13 v z.length (cellsE z)) (hs : ∀ x ∈ z, SmallE x) :
    ∃ a c, v = .slice a z.length c ∧ Ents w a z.length z ∧ ∀ g off e, a = some ⟨g, off, e⟩ → base ≤ g := by
  obtain ⟨hl, ⟨rfl, h0⟩ | ⟨g, cap, cur, rfl, hg, hb, hn, hc, hcs, ht⟩⟩ := h
  · have hz : z = [] := List.eq_nil_of_length_eq_zero h0
    subst hz
    exact ⟨none, 0, rfl, ⟨rfl, hs, fun h => absurd h (Nat.lt_irrefl 0)⟩, fun _ _ _ e => by cases e⟩
  · refine ⟨_, cap, rfl, ⟨rfl, hs, fun hp => ⟨g, 0, rfl, (Array.getElem?_eq_some_iff.1 hb).1, fun i hi j v hv => ?_⟩⟩, fun b off e he => by cases he; exact hg⟩
    have hx : z[i]? = some (z.getD i noE) := by simp [List.getD, hi]
    have h1 := cellsE_get hx j v hv
    have : w.cell? ⟨g, 0 + i * 13 + j, none⟩ = cur[i * 13 + j]? := by simp [World.cell?, hb]
    rw [this]
    rw [← ht] at h1
    have hlt := (List.getElem?_eq_some_iff.1 h1).1
    rw [List.length_take] at hlt
    rw [List.getElem?_take_of_lt (by omega)] at h1
    simpa using h1
theorem own_new (w : World) (t : TypeId) (size : Nat) : (w.alloc (.cells #[] t)).ownsRow w.heap.size t size (.slice (some ⟨w.heap.size, 0, none⟩) 0 0) 0 [] :=
  ⟨by simp, .inr ⟨w.heap.size, 0, #[], rfl, Nat.le_refl _, World.alloc_heap_new _ _, Nat.le_refl _, by decide, by simp, by simp⟩⟩
theorem own_ge {w : World} {base n size k : Nat} {t : TypeId} {v : Value} {xs : List Value} (h : w.ownsRow base t size v n xs) (hk : v.ownBlock = some k) : base ≤ k := by
  obtain ⟨_, ⟨rfl, _⟩ | ⟨g', cap, cur, rfl, hg', _⟩⟩ := h
  · cases hk
  · simp [Value.ownBlock] at hk; omega
theorem own_base {w : World} {B base n size : Nat} {t : TypeId} {v : Value} {xs : List Value} (h : w.ownsRow base t size v n xs) (hB : B ≤ base) : w.ownsRow B t size v n xs := by
  obtain ⟨hl, h0 | ⟨g, cap, cur, rfl, hg, h1⟩⟩ := h
  · exact ⟨hl, .inl h0⟩
  · exact ⟨hl, .inr ⟨g, cap, cur, rfl, by omega, h1⟩⟩
theorem below_grown {B : Nat} {w w' w'' : World} {row : Option Nat} (h : Below B w w') (hB : B ≤ w'.heap.size) (hg : w'.grownBy w'' row) (hr : ∀ k, row = some k → B ≤ k) : Below B w w'' :=
  ⟨hg.os.trans h.os, hg.tape.trans h.tape, hg.output.trans h.output, Nat.le_trans h.size hg.size, fun k hk => (hg.block k (by omega) (fun e => by have := hr k e.symm; omega)).trans (h.block k hk)⟩
theorem ents_mem {w : World} {a : Option Addr} {n : Nat} {L : List Ent} (h : Ents w a n L) {i : Nat} {x : Ent} (hi : L[i]? = some x) :
    ∃ b off, a = some ⟨b, off, none⟩ ∧ b < w.heap.size ∧ EntAt w b (off + i * 13) x ∧ SmallE x ∧ i < n := by
  obtain ⟨h1, h2, h3⟩ := h
  have hlt := (List.getElem?_eq_some_iff.1 hi).1
  obtain ⟨b, off, e, hb, hc⟩ := h3 (by omega)
  have hx : L.getD i noE = x := by simp [List.getD, hi]
  have := hc i (by omega)
  rw [hx] at this
  exact ⟨b, off, e, hb, this, h2 x (List.mem_of_getElem? hi), by omega⟩
theorem of_next {L : List Ent} {i : Nat} {x : Ent} (t : T3) (h : L[i]? = some x) : ofL (L.take (i + 1)) t = if isT t x = true then ofL (L.take i) t ++ [x] else ofL (L.take i) t := by
  rw [take_next h, of_snoc]
theorem of_len (L : List Ent) (t : T3) : (ofL L t).length ≤ L.length := List.length_filter_le _ _
theorem of_small {L : List Ent} {t : T3} (h : ∀ x ∈ L, SmallE x) : ∀ x ∈ ofL L t, SmallE x := fun x hx => h x (List.mem_filter.1 hx).1
end Go.Proofs.YtkeocnhndnbamaaGreat.Past
