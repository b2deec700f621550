/- A table in memory. -/
import Derived.Test.YthodggkpkjfggaaKeyMap
import Derived.Laws.AppendOwn
import Derived.StillTailTactics
import Derived.Deep.RegionHeld3
import Derived.Deep.RegionLaw
import Derived.Lib.QuietBelow
import Derived.Deep.CutBlock
import Derived.Deep.DeepCutAuto
import Derived.WalkSpells
namespace Go.Proofs.Ythodggkpkjfggaa.Key
set_option maxRecDepth 100000
open Go.RowKit
open Go.Proofs.Ythodggkpkjfggaa.Mem
open Go.Maps
def reqV (l : List Rq) : List Value := l.flatMap fun r => [.int .i64 r.cl, .int .i64 r.wants]
def wv (x : Wd) : Array Value := #[.bool x.call, .int .i64 x.cl, .int .i64 x.pg, .bool x.x]
def wordsV (l : List Wd) : List Value := l.flatMap fun x => (wv x).toList
theorem req_len (l : List Rq) : (reqV l).length = l.length * 2 := by
  induction l with
  | nil => rfl
  | cons a l ih =>
    have e : reqV (a :: l) = .int .i64 a.cl :: .int .i64 a.wants :: reqV l := by simp [reqV]
    rw [e]; simp [ih]; omega
theorem words_len (l : List Wd) : (wordsV l).length = l.length * 4 := by
  induction l with
  | nil => rfl
  | cons a l ih =>
    have e : wordsV (a :: l) = .bool a.call :: .int .i64 a.cl :: .int .i64 a.pg :: .bool a.x :: wordsV l := by simp [wordsV, wv]
    rw [e]; simp [ih]; omega
theorem req_app (a b : List Rq) : reqV (a ++ b) = reqV a ++ reqV b := by simp [reqV]
theorem words_app (a b : List Wd) : wordsV (a ++ b) = wordsV a ++ wordsV b := by simp [wordsV]
theorem words_one (x : Wd) : wordsV [x] = (wv x).toList := by simp [wordsV]
theorem req_at : ∀ (L : List Rq) (i : Nat) (x : Rq), L[i]? = some x → (reqV L)[i * 2]? = some (.int .i64 x.cl) ∧ (reqV L)[i * 2 + 1]? = some (.int .i64 x.wants)
  | [], i, x, h => by simp at h
  | a :: l, 0, x, h => by simp at h; subst h; simp [reqV]
  | a :: l, i + 1, x, h => by
    have h1 := req_at l i x (by simpa using h)
    have e : reqV (a :: l) = .int .i64 a.cl :: .int .i64 a.wants :: reqV l := by simp [reqV]
    rw [e]
    have e1 : (i + 1) * 2 = i * 2 + 1 + 1 := by omega
    rw [e1]
    simpa using h1
theorem words_at : ∀ (L : List Wd) (i : Nat) (x : Wd), L[i]? = some x → ∀ j, j < 4 → (wordsV L)[i * 4 + j]? = (wv x).toList[j]?
  | [], i, x, h => by simp at h
  | a :: l, 0, x, h => by
    simp at h; subst h
    intro j hj
    have e : wordsV (a :: l) = (wv a).toList ++ wordsV l := by simp [wordsV]
    rw [e, Nat.zero_mul, Nat.zero_add, List.getElem?_append_left (by simpa [wv] using hj)]
  | a :: l, i + 1, x, h => by
    have h1 := words_at l i x (by simpa using h)
    intro j hj
    have e : wordsV (a :: l) = (wv a).toList ++ wordsV l := by simp [wordsV]
    have e1 : (i + 1) * 4 + j - (wv a).toList.length = i * 4 + j := by simp [wv]; omega
    rw [e, List.getElem?_append_right (by simp [wv]; omega), e1]
    exact h1 j hj
/-- what a block is good for -/
inductive Tg where
  | top | locks | queues | said
  | inner (p : Int)
  | lock (p c : Int)
  | row (p : Int)
/-- where all lies -/
structure Gh where
  lb : Nat
  qb : Nat
  v : Value
  inn : Int → Bool
  bl : Int → Nat
  pl : Int → Int → Nat
  qp : Int → Bool
  qv : Int → Value
  σ : Nat → Option Tg
def lockA (l : Lk) : Array Value := #[.int .i64 l.has, .int .i64 l.called, .bool l.busy]
def lmF (G : Gh) (x : Int) : Option Value := if G.inn x = true then some (.map (some (G.bl x))) else none
def imF (G : Gh) (S : KS) (x c : Int) : Option Value := (S.L x c).map fun _ => .pointer (some ⟨G.pl x c, 0, none⟩)
def qmF (G : Gh) (x : Int) : Option Value := if G.qp x = true then some (G.qv x) else none
structure TV (w : World) (p : Nat) (G : Gh) (S : KS) : Prop where
  wf : S.wf
  top : Blk w p 61 #[.map (some G.lb), .map (some G.qb), G.v]
  lm : MapV w G.lb 0 1024 (lmF G)
  im : ∀ x, G.inn x = true → MapV w (G.bl x) 1 8 (imF G S x)
  io : ∀ x c, S.L x c ≠ none → G.inn x = true
  lk : ∀ x c l, S.L x c = some l → Blk w (G.pl x c) 72 (lockA l)
  qm : MapV w G.qb 0 1024 (qmF G)
  qo : ∀ x, S.Q x ≠ [] → G.qp x = true
  qr : ∀ x, G.qp x = true → w.ownsRow 0 65 2 (G.qv x) (S.Q x).length (reqV (S.Q x))
  sd : w.ownsRow 0 36 4 G.v S.said.length (wordsV S.said)
  l0 : G.σ p = some .top
  l1 : G.σ G.lb = some .locks
  l2 : G.σ G.qb = some .queues
  l3 : ∀ g, G.v.ownBlock = some g → G.σ g = some .said
  l4 : ∀ x, G.inn x = true → G.σ (G.bl x) = some (.inner x)
  l5 : ∀ x c, S.L x c ≠ none → G.σ (G.pl x c) = some (.lock x c)
  l6 : ∀ x, G.qp x = true → ∀ g, (G.qv x).ownBlock = some g → G.σ g = some (.row x)
  lt : ∀ k, G.σ k ≠ none → k < w.heap.size
/-- .. none of its blocks among M -/
structure TM (w : World) (p : Nat) (M : Nat → Prop) (G : Gh) (S : KS) : Prop extends TV w p G S where
  off : ∀ k, G.σ k ≠ none → ¬ M k
  ml : ∀ k, M k → k < w.heap.size
def TQ (w : World) (p : Nat) (M : Nat → Prop) (S : KS) : Prop := ∃ G, TM w p M G S
section
variable {w w' w1 w2 : World} {p : Nat} {M M' : Nat → Prop} {G : Gh} {S : KS}
/-- its blocks stay as they were -/
theorem TV.step (h : TV w p G S) (hs : w.heap.size ≤ w'.heap.size) (hb : ∀ k, G.σ k ≠ none → w'.heap[k]? = w.heap[k]?) : TV w' p G S where
  wf := h.wf
  top := (hb p (by rw [h.l0]; simp)).trans h.top
  lm := h.lm.same (hb _ (by rw [h.l1]; simp))
  im x hx := (h.im x hx).same (hb _ (by rw [h.l4 x hx]; simp))
  io := h.io
  lk x c l hl := (hb _ (by rw [h.l5 x c (by rw [hl]; simp)]; simp)).trans (h.lk x c l hl)
  qm := h.qm.same (hb _ (by rw [h.l2]; simp))
  qo := h.qo
  qr x hx := own_same (h.qr x hx) fun g hg => hb g (by rw [h.l6 x hx g hg]; simp)
  sd := own_same h.sd fun g hg => hb g (by rw [h.l3 g hg]; simp)
  l0 := h.l0
  l1 := h.l1
  l2 := h.l2
  l3 := h.l3
  l4 := h.l4
  l5 := h.l5
  l6 := h.l6
  lt k hk := Nat.lt_of_lt_of_le (h.lt k hk) hs
theorem TM.step (h : TM w p M G S) (hs : w.heap.size ≤ w'.heap.size) (hb : ∀ k, k < w.heap.size → ¬ M k → w'.heap[k]? = w.heap[k]?) (hm : ∀ k, M' k → M k ∨ (w.heap.size ≤ k ∧ k < w'.heap.size)) : TM w' p M' G S :=
  ⟨h.toTV.step hs fun k hk => hb k (h.lt k hk) (h.off k hk), fun k hk hm' => (hm k hm').elim (h.off k hk) fun x => by have := h.lt k hk; omega, fun k hk => (hm k hk).elim (fun x => Nat.lt_of_lt_of_le (h.ml k x) hs) (·.2)⟩
theorem TM.below (h : TM w p M G S) (hb : Below w.heap.size w w') : TM w' p M G S := h.step hb.size (fun k hk _ => hb.block k hk) (fun _ hk => .inl hk)
theorem TM.mono (h : TM w p M G S) (hm : ∀ k, M' k → M k) : TM w p M' G S := h.step (Nat.le_refl _) (fun _ _ _ => rfl) (fun k hk => .inl (hm k hk))
theorem TM.drewN (h : TM w p M G S) (n : Nat) : TM (w.drewN n) p M G S := h.step (Nat.le_refl _) (fun _ _ _ => rfl) (fun _ hk => .inl hk)
theorem TM.alloc (h : TM w p M G S) (o : Obj) : TM (w.alloc o) p (fun k => M k ∨ k = w.heap.size) G S :=
  h.step (by simp) (fun k hk _ => Below.heap_alloc w o k hk) (fun k hk => hk.elim .inl (fun e => .inr (by simp; omega)))
theorem TQ.step (h : TQ w p M S) (hs : w.heap.size ≤ w'.heap.size) (hb : ∀ k, k < w.heap.size → ¬ M k → w'.heap[k]? = w.heap[k]?) (hm : ∀ k, M' k → M k ∨ (w.heap.size ≤ k ∧ k < w'.heap.size)) : TQ w' p M' S := by
  obtain ⟨G, h⟩ := h; exact ⟨G, h.step hs hb hm⟩
theorem TQ.below (h : TQ w p M S) (hb : Below w.heap.size w w') : TQ w' p M S := h.step hb.size (fun k hk _ => hb.block k hk) (fun _ hk => .inl hk)
/-- .. and what has been made meanwhile belongs to the others -/
theorem TQ.belowM (h : TQ w p M S) (hb : Below w.heap.size w w') : TQ w' p (fun k => M k ∨ (w.heap.size ≤ k ∧ k < w'.heap.size)) S := h.step hb.size (fun k hk _ => hb.block k hk) (fun _ hk => hk)
theorem TQ.mono (h : TQ w p M S) (hm : ∀ k, M' k → M k) : TQ w p M' S := h.step (Nat.le_refl _) (fun _ _ _ => rfl) (fun k hk => .inl (hm k hk))
theorem TQ.drewN (h : TQ w p M S) (n : Nat) : TQ (w.drewN n) p M S := h.step (Nat.le_refl _) (fun _ _ _ => rfl) (fun _ hk => .inl hk)
theorem TQ.alloc (h : TQ w p M S) (o : Obj) : TQ (w.alloc o) p (fun k => M k ∨ k = w.heap.size) S :=
  h.step (by simp) (fun k hk _ => Below.heap_alloc w o k hk) (fun k hk => hk.elim .inl (fun e => .inr (by simp; omega)))
theorem TQ.set_ (h : TQ w p M S) {b : Nat} (hb : M b) (i : Nat) (u : Value) : TQ (w.setCell ⟨b, i, none⟩ u) p M S :=
  h.step (by simp) (fun k _ hk => Below.heap_setCell w ⟨b, i, none⟩ u k (fun e => hk ((show k = b from e) ▸ hb))) (fun k hk => .inl hk)
theorem TQ.lt (h : TQ w p M S) : ∀ k, M k → k < w.heap.size := by obtain ⟨G, h⟩ := h; exact h.ml
theorem TQ.wf (h : TQ w p M S) : S.wf := by obtain ⟨G, h⟩ := h; exact h.wf
theorem TQ.pl (h : TQ w p M S) : p < w.heap.size := by obtain ⟨G, h⟩ := h; exact h.top.lt
theorem TQ.pm (h : TQ w p M S) : ¬ M p := by obtain ⟨G, h⟩ := h; exact h.off p (by rw [h.l0]; simp)
/-- what is said, laid anew -/
theorem TM.laid (h : TM w p M G S) {v' : Value} {L' : List Wd} (ho : w1.ownsRow 0 36 4 v' L'.length (wordsV L')) (hg : w.grownBy w1 G.v.ownBlock) (hv : ∀ g, v'.ownBlock = some g → (G.v.ownBlock = some g ∨ w.heap.size ≤ g)) :
    w1.cell? ⟨p, 2, none⟩ = some G.v ∧ w1.frozen? ⟨p, 2, none⟩ = false ∧ TM (w1.setCell ⟨p, 2, none⟩ v') p M { G with v := v', σ := fun k => if v'.ownBlock = some k then some .said else G.σ k } { S with said := L' } ∧ Keep M w (w1.setCell ⟨p, 2, none⟩ v') := by
  have hpv : G.v.ownBlock ≠ some p := fun e => by have := h.l3 p e; rw [h.l0] at this; cases this
  have hvp : v'.ownBlock ≠ some p := fun e => by
    rcases hv p e with x | x
    · exact hpv x
    · have := h.top.lt; omega
  have htop := h.top.grown hg (fun e => hpv e.symm)
  have hns : ∀ k t, G.σ k = some t → t ≠ .said → v'.ownBlock ≠ some k := fun k t hk ht e => by
    rcases hv k e with x | x
    · have := h.l3 k x; rw [hk] at this; injection this with this; exact ht this
    · have := h.lt k (by rw [hk]; simp); omega
  have hσ : ∀ k t, G.σ k = some t → (if v'.ownBlock = some k then some Tg.said else G.σ k) = some t := fun k t hk => by
    split
    · rename_i e
      by_cases ht : t = .said
      · rw [ht]
      · exact absurd e (hns k t hk ht)
    · exact hk
  have hbl : ∀ k t, G.σ k = some t → t ≠ .said → t ≠ .top → (w1.setCell ⟨p, 2, none⟩ v').heap[k]? = w.heap[k]? := fun k t hk h1 h2 => by
    rw [Below.heap_setCell w1 ⟨p, 2, none⟩ v' k (fun e => by rw [show k = p from e, h.l0] at hk; injection hk with hk; exact h2 hk.symm)]
    refine hg.block k (h.lt k (by rw [hk]; simp)) fun e => ?_
    have := h.l3 k e.symm; rw [hk] at this; injection this with this; exact h1 this
  have hsz : w.heap.size ≤ (w1.setCell ⟨p, 2, none⟩ v').heap.size := by have := hg.size; simp; omega
  refine ⟨htop.cell 2, htop.frozen 2, ⟨?_, fun k hk hm => ?_, fun k hk => Nat.lt_of_lt_of_le (h.ml k hk) hsz⟩, ?_⟩
  · exact {
      wf := ⟨h.wf.lk, h.wf.rq, h.wf.nd⟩
      top := by simpa using htop.set_ 2 v'
      lm := h.lm.same (hbl _ _ h.l1 (by simp) (by simp))
      im := fun x hx => (h.im x hx).same (hbl _ _ (h.l4 x hx) (by simp) (by simp))
      io := h.io
      lk := fun x c l hl => (hbl _ _ (h.l5 x c (by rw [hl]; simp)) (by simp) (by simp)).trans (h.lk x c l hl)
      qm := h.qm.same (hbl _ _ h.l2 (by simp) (by simp))
      qo := h.qo
      qr := fun x hx => own_same (h.qr x hx) fun g hg => hbl g _ (h.l6 x hx g hg) (by simp) (by simp)
      sd := own_set ho hvp 2 v'
      l0 := hσ _ _ h.l0
      l1 := hσ _ _ h.l1
      l2 := hσ _ _ h.l2
      l3 := fun g hg => if_pos hg
      l4 := fun x hx => hσ _ _ (h.l4 x hx)
      l5 := fun x c hc => hσ _ _ (h.l5 x c hc)
      l6 := fun x hx g hg => hσ _ _ (h.l6 x hx g hg)
      lt := fun k hk => by
        dsimp only at hk
        split at hk
        · rename_i e
          have := own_lt ho e
          simp; omega
        · exact Nat.lt_of_lt_of_le (h.lt k hk) hsz }
  · dsimp only at hk
    split at hk
    · rename_i e
      rcases hv k e with x | x
      · exact h.off k (by rw [h.l3 k x]; simp) hm
      · have := h.ml k hm; omega
    · exact h.off k hk hm
  · exact ((Keep.refl M w).grown hg (fun k hk => h.ml k hk) (fun k e hk => h.off k (by rw [h.l3 k e]; simp) hk)).set_ (h.off p (by rw [h.l0]; simp)) 2 v'
/-- a page's map is made -/
theorem TM.made (h : TM w p M G S) {x : Int} {nb : Nat} (hi : G.inn x = false) (hn : MapV w1 nb 1 8 (fun _ => none)) (hnb : w.heap.size ≤ nb) (hb : Below w.heap.size w w1)
    (hm : MapV w2 G.lb 0 1024 (fun y => if y = x then some (.map (some nb)) else lmF G y)) (ht : w1.mapTurned w2 G.lb) :
    TM w2 p M { G with inn := fun y => if y = x then true else G.inn y, bl := fun y => if y = x then nb else G.bl y, σ := fun k => if k = nb then some (.inner x) else G.σ k } S ∧ Keep M w w2 := by
  have hg := ht.grown
  have hno : ∀ c, S.L x c = none := fun c => by
    cases e : S.L x c with
    | none => rfl
    | some l => have := h.io x c (by rw [e]; simp); rw [hi] at this; cases this
  have hσ : ∀ k t, G.σ k = some t → (if k = nb then some (Tg.inner x) else G.σ k) = some t := fun k t hk => by
    rw [if_neg (fun e => by have := h.lt k (by rw [hk]; simp); omega)]; exact hk
  have hbl : ∀ k t, G.σ k = some t → t ≠ .locks → w2.heap[k]? = w.heap[k]? := fun k t hk h1 => by
    have hkl := h.lt k (by rw [hk]; simp)
    rw [hg.block k (Nat.lt_of_lt_of_le hkl hb.size) (fun e => by injection e with e; rw [e, h.l1] at hk; injection hk with hk; exact h1 hk.symm)]
    exact hb.block k hkl
  have hnl : G.lb ≠ nb := fun e => by have := h.lm.lt; omega
  have hnew : MapV w2 nb 1 8 (fun _ => none) := hn.same (hg.block nb hn.lt (fun e => by injection e with e; exact hnl e.symm))
  have hsz : w.heap.size ≤ w2.heap.size := Nat.le_trans hb.size hg.size
  refine ⟨⟨?_, fun k hk hm' => ?_, fun k hk => Nat.lt_of_lt_of_le (h.ml k hk) hsz⟩, ?_⟩
  · exact {
      wf := h.wf
      top := (hbl _ _ h.l0 (by simp)).trans h.top
      lm := by
        have e : (fun y => if y = x then some (Value.map (some nb)) else lmF G y) = lmF { G with inn := fun y => if y = x then true else G.inn y, bl := fun y => if y = x then nb else G.bl y, σ := fun k => if k = nb then some (.inner x) else G.σ k } := by
          funext y
          unfold lmF
          dsimp only
          by_cases e : y = x
          · simp [e]
          · simp [e]
        rw [← e]; exact hm
      im := fun y hy => by
        dsimp only at hy ⊢
        by_cases e : y = x
        · subst e
          rw [if_pos rfl]
          have e2 : imF { G with inn := fun z => if z = y then true else G.inn z, bl := fun z => if z = y then nb else G.bl z, σ := fun k => if k = nb then some (.inner y) else G.σ k } S y = fun _ => none := by
            funext c; simp [imF, hno c]
          rw [e2]; exact hnew
        · rw [if_neg e] at hy ⊢
          exact (h.im y hy).same (hbl _ _ (h.l4 y hy) (by simp))
      io := fun y c hc => by
        dsimp only
        split
        · rfl
        · exact h.io y c hc
      lk := fun y c l hl => (hbl _ _ (h.l5 y c (by rw [hl]; simp)) (by simp)).trans (h.lk y c l hl)
      qm := h.qm.same (hbl _ _ h.l2 (by simp))
      qo := h.qo
      qr := fun y hy => own_same (h.qr y hy) fun g hg => hbl g _ (h.l6 y hy g hg) (by simp)
      sd := own_same h.sd fun g hg => hbl g _ (h.l3 g hg) (by simp)
      l0 := hσ _ _ h.l0
      l1 := hσ _ _ h.l1
      l2 := hσ _ _ h.l2
      l3 := fun g hg => hσ _ _ (h.l3 g hg)
      l4 := fun y hy => by
        dsimp only at hy ⊢
        by_cases e : y = x
        · rw [if_pos e, if_pos rfl, e]
        · rw [if_neg e] at hy ⊢
          exact hσ _ _ (h.l4 y hy)
      l5 := fun y c hc => hσ _ _ (h.l5 y c hc)
      l6 := fun y hy g hg => hσ _ _ (h.l6 y hy g hg)
      lt := fun k hk => by
        dsimp only at hk
        split at hk
        · rename_i e; rw [e]; exact hnew.lt
        · exact Nat.lt_of_lt_of_le (h.lt k hk) hsz }
  · dsimp only at hk
    split at hk
    · have := h.ml k hm'; omega
    · exact h.off k hk hm'
  · exact (Keep.of_below hb h.ml).grown hg (fun k hk => Nat.lt_of_lt_of_le (h.ml k hk) hb.size) (fun k e hk => h.off k (by injection e with e; rw [← e, h.l1]; simp) hk)
/-- a lock is laid -/
theorem TM.put (h : TM w p M G S) {x c : Int} {l : Lk} {nl : Nat} (hi : G.inn x = true) (hl : 0 ≤ x ∧ x < 1024 ∧ 1 ≤ c ∧ c ≤ 8 ∧ (l.has = 1 ∨ l.has = 2)) (hn : Blk w1 nl 72 (lockA l)) (hnl : w.heap.size ≤ nl) (hb : Below w.heap.size w w1)
    (hm : MapV w2 (G.bl x) 1 8 (fun d => if d = c then some (.pointer (some ⟨nl, 0, none⟩)) else imF G S x d)) (ht : w1.mapTurned w2 (G.bl x)) :
    TM w2 p M { G with pl := fun y d => if y = x ∧ d = c then nl else G.pl y d, σ := fun k => if k = nl then some (.lock x c) else G.σ k } (setK S x c (some l)) ∧ Keep M w w2 := by
  have hg := ht.grown
  have hσ : ∀ k t, G.σ k = some t → (if k = nl then some (Tg.lock x c) else G.σ k) = some t := fun k t hk => by
    rw [if_neg (fun e => by have := h.lt k (by rw [hk]; simp); omega)]; exact hk
  have hbl : ∀ k t, G.σ k = some t → t ≠ .inner x → w2.heap[k]? = w.heap[k]? := fun k t hk h1 => by
    have hkl := h.lt k (by rw [hk]; simp)
    rw [hg.block k (Nat.lt_of_lt_of_le hkl hb.size) (fun e => by injection e with e; rw [e, h.l4 x hi] at hk; injection hk with hk; exact h1 hk.symm)]
    exact hb.block k hkl
  have hnew : Blk w2 nl 72 (lockA l) := hn.grown hg (fun e => by injection e with e; have := (h.im x hi).lt; omega)
  have hsz : w.heap.size ≤ w2.heap.size := Nat.le_trans hb.size hg.size
  refine ⟨⟨?_, fun k hk hm' => ?_, fun k hk => Nat.lt_of_lt_of_le (h.ml k hk) hsz⟩, ?_⟩
  · exact {
      wf := h.wf.setK fun l' e => by injection e with e; subst e; exact hl
      top := (hbl _ _ h.l0 (by simp)).trans h.top
      lm := h.lm.same (hbl _ _ h.l1 (by simp))
      im := fun y hy => by
        dsimp only at hy ⊢
        by_cases e : y = x
        · subst e
          have e2 : imF { G with pl := fun z d => if z = y ∧ d = c then nl else G.pl z d, σ := fun k => if k = nl then some (.lock y c) else G.σ k } (setK S y c (some l)) y = fun d => if d = c then some (Value.pointer (some ⟨nl, 0, none⟩)) else imF G S y d := by
            funext d
            unfold imF setK
            dsimp only
            by_cases e : d = c
            · simp [e]
            · simp [e]
          rw [e2]; exact hm
        · have e2 : imF { G with pl := fun z d => if z = x ∧ d = c then nl else G.pl z d, σ := fun k => if k = nl then some (.lock x c) else G.σ k } (setK S x c (some l)) y = imF G S y := by
            funext d
            unfold imF setK
            simp [e]
          rw [e2]
          exact (h.im y hy).same (hbl _ _ (h.l4 y hy) (fun e' => by injection e' with e'; exact e e'))
      io := fun y d hd => by
        dsimp only [setK] at hd
        split at hd
        · rename_i e; rw [e.1]; exact hi
        · exact h.io y d hd
      lk := fun y d l' hl' => by
        dsimp only [setK] at hl' ⊢
        split at hl'
        · rename_i e
          rw [if_pos e]
          injection hl' with hl'
          subst hl'
          exact hnew
        · rename_i e
          rw [if_neg e]
          exact (hbl _ _ (h.l5 y d (by rw [hl']; simp)) (by simp)).trans (h.lk y d l' hl')
      qm := h.qm.same (hbl _ _ h.l2 (by simp))
      qo := h.qo
      qr := fun y hy => own_same (h.qr y hy) fun g hg => hbl g _ (h.l6 y hy g hg) (by simp)
      sd := own_same h.sd fun g hg => hbl g _ (h.l3 g hg) (by simp)
      l0 := hσ _ _ h.l0
      l1 := hσ _ _ h.l1
      l2 := hσ _ _ h.l2
      l3 := fun g hg => hσ _ _ (h.l3 g hg)
      l4 := fun y hy => hσ _ _ (h.l4 y hy)
      l5 := fun y d hd => by
        dsimp only [setK] at hd ⊢
        by_cases e : y = x ∧ d = c
        · rw [if_pos e, if_pos rfl, e.1, e.2]
        · rw [if_neg e] at hd ⊢
          exact hσ _ _ (h.l5 y d hd)
      l6 := fun y hy g hg => hσ _ _ (h.l6 y hy g hg)
      lt := fun k hk => by
        dsimp only at hk
        split at hk
        · rename_i e; rw [e]; exact hnew.lt
        · exact Nat.lt_of_lt_of_le (h.lt k hk) hsz }
  · dsimp only at hk
    split at hk
    · have := h.ml k hm'; omega
    · exact h.off k hk hm'
  · exact (Keep.of_below hb h.ml).grown hg (fun k hk => Nat.lt_of_lt_of_le (h.ml k hk) hb.size) (fun k e hk => h.off k (by injection e with e; rw [← e, h.l4 x hi]; simp) hk)
/-- a lock is taken out -/
theorem TM.del (h : TM w p M G S) {x c : Int} (hi : G.inn x = true) (hm : MapV w2 (G.bl x) 1 8 (fun d => if d = c then none else imF G S x d)) (ht : w.mapTurned w2 (G.bl x)) :
    TM w2 p M G (setK S x c none) ∧ Keep M w w2 := by
  have hg := ht.grown
  have hbl : ∀ k t, G.σ k = some t → t ≠ .inner x → w2.heap[k]? = w.heap[k]? := fun k t hk h1 =>
    hg.block k (h.lt k (by rw [hk]; simp)) (fun e => by injection e with e; rw [e, h.l4 x hi] at hk; injection hk with hk; exact h1 hk.symm)
  refine ⟨⟨?_, h.off, fun k hk => Nat.lt_of_lt_of_le (h.ml k hk) hg.size⟩, ?_⟩
  · exact {
      wf := h.wf.setK fun l' e => by cases e
      top := (hbl _ _ h.l0 (by simp)).trans h.top
      lm := h.lm.same (hbl _ _ h.l1 (by simp))
      im := fun y hy => by
        by_cases e : y = x
        · subst e
          have e2 : imF G (setK S y c none) y = fun d => if d = c then none else imF G S y d := by
            funext d
            unfold imF setK
            dsimp only
            by_cases e : d = c
            · simp [e]
            · simp [e]
          rw [e2]; exact hm
        · have e2 : imF G (setK S x c none) y = imF G S y := by
            funext d
            unfold imF setK
            simp [e]
          rw [e2]
          exact (h.im y hy).same (hbl _ _ (h.l4 y hy) (fun e' => by injection e' with e'; exact e e'))
      io := fun y d hd => by
        dsimp only [setK] at hd
        split at hd
        · exact absurd rfl hd
        · exact h.io y d hd
      lk := fun y d l' hl' => by
        dsimp only [setK] at hl'
        split at hl'
        · cases hl'
        · exact (hbl _ _ (h.l5 y d (by rw [hl']; simp)) (by simp)).trans (h.lk y d l' hl')
      qm := h.qm.same (hbl _ _ h.l2 (by simp))
      qo := h.qo
      qr := fun y hy => own_same (h.qr y hy) fun g hg => hbl g _ (h.l6 y hy g hg) (by simp)
      sd := own_same h.sd fun g hg => hbl g _ (h.l3 g hg) (by simp)
      l0 := h.l0
      l1 := h.l1
      l2 := h.l2
      l3 := h.l3
      l4 := h.l4
      l5 := fun y d hd => by
        dsimp only [setK] at hd
        split at hd
        · exact absurd rfl hd
        · exact h.l5 y d hd
      l6 := h.l6
      lt := fun k hk => Nat.lt_of_lt_of_le (h.lt k hk) hg.size }
  · exact (Keep.refl M w).grown hg (fun k hk => h.ml k hk) (fun k e hk => h.off k (by injection e with e; rw [← e, h.l4 x hi]; simp) hk)
/-- a page's map is taken out -/
theorem TM.drop (h : TM w p M G S) {x : Int} (hno : ∀ c, S.L x c = none) (hm : MapV w2 G.lb 0 1024 (fun y => if y = x then none else lmF G y)) (ht : w.mapTurned w2 G.lb) :
    TM w2 p M { G with inn := fun y => if y = x then false else G.inn y } S ∧ Keep M w w2 := by
  have hg := ht.grown
  have hbl : ∀ k t, G.σ k = some t → t ≠ .locks → w2.heap[k]? = w.heap[k]? := fun k t hk h1 =>
    hg.block k (h.lt k (by rw [hk]; simp)) (fun e => by injection e with e; rw [e, h.l1] at hk; injection hk with hk; exact h1 hk.symm)
  refine ⟨⟨?_, h.off, fun k hk => Nat.lt_of_lt_of_le (h.ml k hk) hg.size⟩, ?_⟩
  · exact {
      wf := h.wf
      top := (hbl _ _ h.l0 (by simp)).trans h.top
      lm := by
        have e : (fun y => if y = x then none else lmF G y) = lmF { G with inn := fun y => if y = x then false else G.inn y } := by
          funext y
          unfold lmF
          dsimp only
          by_cases e : y = x
          · simp [e]
          · simp [e]
        rw [← e]; exact hm
      im := fun y hy => by
        dsimp only at hy
        split at hy
        · cases hy
        · exact (h.im y hy).same (hbl _ _ (h.l4 y hy) (by simp))
      io := fun y d hd => by
        dsimp only
        split
        · rename_i e; rw [e, hno] at hd; exact absurd rfl hd
        · exact h.io y d hd
      lk := fun y c l hl => (hbl _ _ (h.l5 y c (by rw [hl]; simp)) (by simp)).trans (h.lk y c l hl)
      qm := h.qm.same (hbl _ _ h.l2 (by simp))
      qo := h.qo
      qr := fun y hy => own_same (h.qr y hy) fun g hg => hbl g _ (h.l6 y hy g hg) (by simp)
      sd := own_same h.sd fun g hg => hbl g _ (h.l3 g hg) (by simp)
      l0 := h.l0
      l1 := h.l1
      l2 := h.l2
      l3 := h.l3
      l4 := fun y hy => by
        dsimp only at hy
        split at hy
        · cases hy
        · exact h.l4 y hy
      l5 := h.l5
      l6 := h.l6
      lt := fun k hk => Nat.lt_of_lt_of_le (h.lt k hk) hg.size }
  · exact (Keep.refl M w).grown hg (fun k hk => h.ml k hk) (fun k e hk => h.off k (by injection e with e; rw [← e, h.l1]; simp) hk)
/-- a lock's cell is written -/
theorem TM.mark (h : TM w p M G S) {x c : Int} {l l' : Lk} (hl : S.L x c = some l) (hh : l'.has = l.has) {i : Nat} {u : Value} (hu : (lockA l).setIfInBounds i u = lockA l') :
    TM (w.setCell ⟨G.pl x c, i, none⟩ u) p M G (setK S x c (some l')) ∧ Keep M w (w.setCell ⟨G.pl x c, i, none⟩ u) := by
  have hs := h.l5 x c (by rw [hl]; simp)
  have hbl : ∀ k t, G.σ k = some t → t ≠ .lock x c → (w.setCell ⟨G.pl x c, i, none⟩ u).heap[k]? = w.heap[k]? := fun k t hk h1 =>
    Below.heap_setCell w ⟨G.pl x c, i, none⟩ u k (fun e => by rw [show k = G.pl x c from e, hs] at hk; injection hk with hk; exact h1 hk.symm)
  have hsz : w.heap.size ≤ (w.setCell ⟨G.pl x c, i, none⟩ u).heap.size := by simp
  refine ⟨⟨?_, h.off, fun k hk => Nat.lt_of_lt_of_le (h.ml k hk) hsz⟩, (Keep.refl M w).set_ (h.off _ (by rw [hs]; simp)) i u⟩
  exact {
      wf := h.wf.setK fun l2 e => by injection e with e; subst e; rw [hh]; exact h.wf.lk x c l hl
      top := (hbl _ _ h.l0 (by simp)).trans h.top
      lm := h.lm.same (hbl _ _ h.l1 (by simp))
      im := fun y hy => by
        have e2 : imF G (setK S x c (some l')) y = imF G S y := by
          funext d
          unfold imF setK
          dsimp only
          by_cases e : y = x ∧ d = c
          · rw [if_pos e, e.1, e.2, hl]; rfl
          · rw [if_neg e]
        rw [e2]
        exact (h.im y hy).same (hbl _ _ (h.l4 y hy) (by simp))
      io := fun y d hd => by
        dsimp only [setK] at hd
        split at hd
        · rename_i e; rw [e.1]; exact h.io x c (by rw [hl]; simp)
        · exact h.io y d hd
      lk := fun y d l2 hl2 => by
        dsimp only [setK] at hl2
        split at hl2
        · rename_i e
          injection hl2 with hl2
          subst hl2
          rw [e.1, e.2, ← hu]
          exact (h.lk x c l hl).set_ i u
        · rename_i e
          exact (hbl _ _ (h.l5 y d (by rw [hl2]; simp)) (fun e' => by injection e' with e1 e2; exact e ⟨e1, e2⟩)).trans (h.lk y d l2 hl2)
      qm := h.qm.same (hbl _ _ h.l2 (by simp))
      qo := h.qo
      qr := fun y hy => own_same (h.qr y hy) fun g hg => hbl g _ (h.l6 y hy g hg) (by simp)
      sd := own_same h.sd fun g hg => hbl g _ (h.l3 g hg) (by simp)
      l0 := h.l0
      l1 := h.l1
      l2 := h.l2
      l3 := h.l3
      l4 := h.l4
      l5 := fun y d hd => by
        dsimp only [setK] at hd
        split at hd
        · rename_i e; rw [e.1, e.2]; exact hs
        · exact h.l5 y d hd
      l6 := h.l6
      lt := fun k hk => Nat.lt_of_lt_of_le (h.lt k hk) hsz }
/-- a queue is laid anew -/
theorem TM.qput (h : TM w p M G S) {x : Int} {l : List Rq} {u : Value} (hl : ∀ r, r ∈ l → 0 ≤ x ∧ x < 1024 ∧ 1 ≤ r.cl ∧ r.cl ≤ 8 ∧ (r.wants = 1 ∨ r.wants = 2)) (hnd : (l.map Rq.cl).Nodup)
    (ho : w1.ownsRow 0 65 2 u l.length (reqV l)) (hb : w.grownBy w1 (qmF G x |>.getD (.slice none 0 0)).ownBlock) (hu : ∀ g, u.ownBlock = some g → ((qmF G x |>.getD (.slice none 0 0)).ownBlock = some g ∨ w.heap.size ≤ g))
    (hm : MapV w2 G.qb 0 1024 (fun y => if y = x then some u else qmF G y)) (ht : w1.mapTurned w2 G.qb) :
    TM w2 p M { G with qp := fun y => if y = x then true else G.qp y, qv := fun y => if y = x then u else G.qv y, σ := fun k => if u.ownBlock = some k then some (.row x) else G.σ k } (setQ S x l) ∧ Keep M w w2 := by
  have hg := ht.grown
  have hold : ∀ g, (qmF G x |>.getD (.slice none 0 0)).ownBlock = some g → G.σ g = some (.row x) := fun g hg => by
    unfold qmF at hg
    split at hg
    · rename_i e; exact h.l6 x e g hg
    · cases hg
  have huσ : ∀ g, u.ownBlock = some g → G.σ g = some (.row x) ∨ w.heap.size ≤ g := fun g hg => (hu g hg).imp (hold g) id
  have hσ : ∀ k t, G.σ k = some t → (if u.ownBlock = some k then some (Tg.row x) else G.σ k) = some t := fun k t hk => by
    split
    · rename_i e
      rcases huσ k e with e' | e'
      · rw [← hk, e']
      · have := h.lt k (by rw [hk]; simp); omega
    · exact hk
  have hbl : ∀ k t, G.σ k = some t → t ≠ .queues → t ≠ .row x → w2.heap[k]? = w.heap[k]? := fun k t hk h1 h2 => by
    have hkl := h.lt k (by rw [hk]; simp)
    rw [hg.block k (Nat.lt_of_lt_of_le hkl hb.size) (fun e => by injection e with e; rw [e, h.l2] at hk; injection hk with hk; exact h1 hk.symm)]
    exact hb.block k hkl (fun e => by have := hold k e.symm; rw [hk] at this; injection this with this; exact h2 this)
  have hnew : w2.ownsRow 0 65 2 u l.length (reqV l) := own_same ho fun g hgo => hg.block g (own_lt ho hgo) (fun e => by
    injection e with e
    rcases huσ g hgo with e' | e'
    · rw [e, h.l2] at e'; cases e'
    · have := h.qm.lt; omega)
  have hsz : w.heap.size ≤ w2.heap.size := Nat.le_trans hb.size hg.size
  refine ⟨⟨?_, fun k hk hm' => ?_, fun k hk => Nat.lt_of_lt_of_le (h.ml k hk) hsz⟩, ?_⟩
  · exact {
      wf := h.wf.setQ hl hnd
      top := (hbl _ _ h.l0 (by simp) (by simp)).trans h.top
      lm := h.lm.same (hbl _ _ h.l1 (by simp) (by simp))
      im := fun y hy => (h.im y hy).same (hbl _ _ (h.l4 y hy) (by simp) (by simp))
      io := h.io
      lk := fun y c l' hl' => (hbl _ _ (h.l5 y c (by rw [show S.L y c = some l' from hl']; simp)) (by simp) (by simp)).trans (h.lk y c l' hl')
      qm := by
        have e : (fun y => if y = x then some u else qmF G y) = qmF { G with qp := fun y => if y = x then true else G.qp y, qv := fun y => if y = x then u else G.qv y, σ := fun k => if u.ownBlock = some k then some (.row x) else G.σ k } := by
          funext y
          unfold qmF
          dsimp only
          by_cases e : y = x
          · simp [e]
          · simp [e]
        rw [← e]; exact hm
      qo := fun y hy => by
        dsimp only [setQ] at hy ⊢
        split
        · rfl
        · rename_i e; rw [if_neg e] at hy; exact h.qo y hy
      qr := fun y hy => by
        dsimp only [setQ] at hy ⊢
        by_cases e : y = x
        · rw [if_pos e, if_pos e]; exact hnew
        · rw [if_neg e] at hy
          rw [if_neg e, if_neg e]
          exact own_same (h.qr y hy) fun g hg => hbl g _ (h.l6 y hy g hg) (by simp) (fun e' => by injection e' with e'; exact e e')
      sd := own_same h.sd fun g hg => hbl g _ (h.l3 g hg) (by simp) (by simp)
      l0 := hσ _ _ h.l0
      l1 := hσ _ _ h.l1
      l2 := hσ _ _ h.l2
      l3 := fun g hg => hσ _ _ (h.l3 g hg)
      l4 := fun y hy => hσ _ _ (h.l4 y hy)
      l5 := fun y c hc => hσ _ _ (h.l5 y c hc)
      l6 := fun y hy g hg => by
        dsimp only at hy hg ⊢
        by_cases e : y = x
        · rw [if_pos e] at hg
          rw [if_pos hg, e]
        · rw [if_neg e] at hy hg
          exact hσ _ _ (h.l6 y hy g hg)
      lt := fun k hk => by
        dsimp only at hk
        split at hk
        · rename_i e; exact own_lt hnew e
        · exact Nat.lt_of_lt_of_le (h.lt k hk) hsz }
  · dsimp only at hk
    split at hk
    · rename_i e
      rcases huσ k e with e' | e'
      · exact h.off k (by rw [e']; simp) hm'
      · have := h.ml k hm'; omega
    · exact h.off k hk hm'
  · exact ((Keep.refl M w).grown hb (fun k hk => h.ml k hk) (fun k e hk => h.off k (by rw [hold k e]; simp) hk)).grown hg (fun k hk => Nat.lt_of_lt_of_le (h.ml k hk) hb.size) (fun k e hk => h.off k (by injection e with e; rw [← e, h.l2]; simp) hk)
/-- a queue is taken out -/
theorem TM.qdel (h : TM w p M G S) {x : Int} (hno : S.Q x = []) (hm : MapV w2 G.qb 0 1024 (fun y => if y = x then none else qmF G y)) (ht : w.mapTurned w2 G.qb) :
    TM w2 p M { G with qp := fun y => if y = x then false else G.qp y } S ∧ Keep M w w2 := by
  have hg := ht.grown
  have hbl : ∀ k t, G.σ k = some t → t ≠ .queues → w2.heap[k]? = w.heap[k]? := fun k t hk h1 =>
    hg.block k (h.lt k (by rw [hk]; simp)) (fun e => by injection e with e; rw [e, h.l2] at hk; injection hk with hk; exact h1 hk.symm)
  refine ⟨⟨?_, h.off, fun k hk => Nat.lt_of_lt_of_le (h.ml k hk) hg.size⟩, ?_⟩
  · exact {
      wf := h.wf
      top := (hbl _ _ h.l0 (by simp)).trans h.top
      lm := h.lm.same (hbl _ _ h.l1 (by simp))
      im := fun y hy => (h.im y hy).same (hbl _ _ (h.l4 y hy) (by simp))
      io := h.io
      lk := fun y c l hl => (hbl _ _ (h.l5 y c (by rw [hl]; simp)) (by simp)).trans (h.lk y c l hl)
      qm := by
        have e : (fun y => if y = x then none else qmF G y) = qmF { G with qp := fun y => if y = x then false else G.qp y } := by
          funext y
          unfold qmF
          dsimp only
          by_cases e : y = x
          · simp [e]
          · simp [e]
        rw [← e]; exact hm
      qo := fun y hy => by
        dsimp only
        split
        · rename_i e; rw [e] at hy; exact absurd hno hy
        · exact h.qo y hy
      qr := fun y hy => by
        dsimp only at hy
        split at hy
        · cases hy
        · exact own_same (h.qr y hy) fun g hg => hbl g _ (h.l6 y hy g hg) (by simp)
      sd := own_same h.sd fun g hg => hbl g _ (h.l3 g hg) (by simp)
      l0 := h.l0
      l1 := h.l1
      l2 := h.l2
      l3 := h.l3
      l4 := h.l4
      l5 := h.l5
      l6 := fun y hy g hg => by
        dsimp only at hy
        split at hy
        · cases hy
        · exact h.l6 y hy g hg
      lt := fun k hk => Nat.lt_of_lt_of_le (h.lt k hk) hg.size }
  · exact (Keep.refl M w).grown hg (fun k hk => h.ml k hk) (fun k e hk => h.off k (by injection e with e; rw [← e, h.l2]; simp) hk)
end
end Go.Proofs.Ythodggkpkjfggaa.Key
