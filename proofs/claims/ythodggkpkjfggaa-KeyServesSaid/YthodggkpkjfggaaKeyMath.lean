/- Locks of pages as plain data: what each call makes of them. -/
import Derived.Lib.Hide
namespace Go.Proofs.Ythodggkpkjfggaa.Key
set_option maxRecDepth 100000
/-- a lock: how strong, how strongly called, busy -/
structure Lk where
  has : Int
  called : Int
  busy : Bool
/-- a request -/
structure Rq where
  cl : Int
  wants : Int
/-- a word -/
structure Wd where
  call : Bool
  cl : Int
  pg : Int
  x : Bool
/-- a table -/
structure KS where
  L : Int → Int → Option Lk
  Q : Int → List Rq
  said : List Wd
def newK : KS := ⟨fun _ _ => none, fun _ => [], []⟩
/-- the whole numbers from lo on, n of them -/
def upFrom (lo : Int) : Nat → List Int
  | 0 => []
  | n + 1 => lo :: upFrom (lo + 1) n
theorem mem_upFrom : ∀ (n : Nat) (lo x : Int), x ∈ upFrom lo n ↔ lo ≤ x ∧ x < lo + n
  | 0, lo, x => ⟨fun h => by simp [upFrom] at h, fun h => by omega⟩
  | n + 1, lo, x => by
    rw [upFrom, List.mem_cons, mem_upFrom n]
    omega
theorem up_sorted : ∀ (n : Nat) (lo : Int), (upFrom lo n).Pairwise (fun a b => a < b)
  | 0, _ => .nil
  | n + 1, lo => .cons (fun x hx => by have := (mem_upFrom n _ x).1 hx; omega) (up_sorted n _)
theorem up_nodup (n : Nat) (lo : Int) : (upFrom lo n).Nodup := (up_sorted n lo).imp fun h => by omega
theorem up_len : ∀ (n : Nat) (lo : Int), (upFrom lo n).length = n
  | 0, _ => rfl
  | n + 1, lo => by rw [upFrom, List.length_cons, up_len n]
/-- no number twice, all within n: no more than n -/
theorem nodup_len : ∀ (n : Nat) (lo : Int) (xs : List Int), xs.Nodup → (∀ x ∈ xs, lo ≤ x ∧ x < lo + n) → xs.length ≤ n
  | 0, lo, xs, _, hb => by
    cases xs with
    | nil => simp
    | cons x r => have := hb x (List.mem_cons_self); omega
  | n + 1, lo, xs, hn, hb => by
    have h := nodup_len n lo (xs.erase (lo + n)) (hn.erase _) (fun x hx => by
      have h1 := (List.Nodup.mem_erase_iff hn).1 hx
      have h2 := hb x h1.2
      have := h1.1
      omega)
    rw [List.length_erase] at h
    split at h <;> omega
/-- two rising lists with the same members are one -/
theorem sorted_eq : ∀ (a b : List Int), a.Pairwise (fun x y => x < y) → b.Pairwise (fun x y => x < y) → (∀ x, x ∈ a ↔ x ∈ b) → a = b
  | [], [], _, _, _ => rfl
  | [], y :: b, _, _, h => absurd ((h y).2 List.mem_cons_self) (by simp)
  | x :: a, [], _, _, h => absurd ((h x).1 List.mem_cons_self) (by simp)
  | x :: a, y :: b, ha, hb, h => by
    obtain ⟨ha1, ha2⟩ := List.pairwise_cons.1 ha
    obtain ⟨hb1, hb2⟩ := List.pairwise_cons.1 hb
    have e : x = y := by
      rcases List.mem_cons.1 ((h x).1 List.mem_cons_self) with e | h1
      · exact e
      · rcases List.mem_cons.1 ((h y).2 List.mem_cons_self) with e | h2
        · exact e.symm
        · have := hb1 x h1; have := ha1 y h2; omega
    subst e
    congr 1
    refine sorted_eq a b ha2 hb2 fun z => ?_
    constructor
    · intro hz
      rcases List.mem_cons.1 ((h z).1 (List.mem_cons_of_mem _ hz)) with e | h1
      · have := ha1 z hz; omega
      · exact h1
    · intro hz
      rcases List.mem_cons.1 ((h z).2 (List.mem_cons_of_mem _ hz)) with e | h1
      · have := hb1 z hz; omega
      · exact h1
theorem merge_up {ss : List Int} {lo : Int} {n : Nat} {pr : Int → Bool} (hn : ss.Nodup) (hm : ∀ x, x ∈ ss ↔ (lo ≤ x ∧ x < lo + n) ∧ pr x = true) :
    ss.mergeSort (fun x y => decide (x ≤ y)) = (upFrom lo n).filter pr := by
  have hp := List.mergeSort_perm ss (fun x y => decide (x ≤ y))
  have hs := List.pairwise_mergeSort (le := fun x y : Int => decide (x ≤ y)) (fun a b c h1 h2 => by simp at *; omega) (fun a b => by simp; omega) ss
  refine sorted_eq _ _ ?_ ((up_sorted n lo).filter _) fun x => ?_
  · have hd : (ss.mergeSort fun x y => decide (x ≤ y)).Nodup := (hp.nodup_iff).2 hn
    have := List.Pairwise.and hs hd
    refine this.imp fun {a b} h => ?_
    have h1 := h.1
    have h2 := h.2
    simp at h1
    omega
  · rw [hp.mem_iff, hm, List.mem_filter, mem_upFrom]
def clients : List Int := upFrom 1 8
def pages : List Int := upFrom 0 1024
def holdsS (S : KS) (c p : Int) : Int := match S.L p c with | none => 0 | some l => l.has
def barsB (r : Rq) (c : Int) (l : Lk) : Bool := (c != r.cl) && (l.has == 2 || r.wants == 2)
def inB (S : KS) (p : Int) (r : Rq) (c : Int) : Bool := match S.L p c with | none => false | some l => barsB r c l
def ways (S : KS) (p : Int) (r : Rq) : List Int := clients.filter (inB S p r)
def setK (S : KS) (p c : Int) (o : Option Lk) : KS := { S with L := fun q d => if q = p ∧ d = c then o else S.L q d }
def setQ (S : KS) (p : Int) (l : List Rq) : KS := { S with Q := fun q => if q = p then l else S.Q q }
def sayK (S : KS) (b : Bool) (c p st : Int) : KS := { S with said := S.said ++ [⟨b, c, p, st == 2⟩] }
def notR (c : Int) (r : Rq) : Bool := !(r.cl == c)
def unqK (S : KS) (c p : Int) : KS := setQ S p ((S.Q p).filter (notR c))
def hasK (S : KS) (r : Rq) (p : Int) : Int := max r.wants (holdsS S r.cl p)
def grantK (S : KS) (p : Int) (r : Rq) : KS := sayK (unqK (setK S p r.cl (some ⟨hasK S r p, 0, false⟩)) r.cl p) false r.cl p (hasK S r p)
def call1 (p st : Int) (S : KS) (c : Int) : KS :=
  match S.L p c with
  | none => S
  | some l => if l.called < st then sayK (setK S p c (some { l with called := st })) true c p st else S
def callK (S : KS) (p : Int) (cs : List Int) (st : Int) : KS := cs.foldl (call1 p st) S
def settleN : Nat → KS → Int → KS
  | n, S, p => match S.Q p with
    | [] => S
    | r :: _ => if ways S p r = [] then (match n with | 0 => S | m + 1 => settleN m (grantK S p r) p) else callK S p (ways S p r) r.wants
def settleK (S : KS) (p : Int) : KS := settleN (S.Q p).length S p
def askX (S : KS) (c p : Int) : Int := if c < 1 ∨ 8 < c ∨ p < 0 ∨ 1024 ≤ p then 1 else if (S.Q p).any (fun r => r.cl == c) then 31 else 0
def wantI (x : Bool) : Int := if x then 2 else 1
def askK (S : KS) (c p : Int) (x : Bool) : KS :=
  if askX S c p = 0 then (if wantI x ≤ holdsS S c p then sayK S false c p (holdsS S c p) else settleK (setQ S p (S.Q p ++ [⟨c, wantI x⟩])) p) else S
def freeX (S : KS) (c p : Int) : Int := if holdsS S c p = 0 then 12 else 0
def freeK (S : KS) (c p : Int) (keep : Bool) : KS := if holdsS S c p = 0 then S else settleK (setK S p c (if keep then some ⟨1, 0, false⟩ else none)) p
def busyK (S : KS) (c p : Int) : KS := match S.L p c with | none => S | some l => setK S p c (some { l with busy := true })
def waitB (S : KS) (c p : Int) : Bool := (S.Q p).any (fun r => r.cl == c)
def waitsP (S : KS) (c : Int) : List Int := pages.filter (waitB S c)
def heldB (S : KS) (c least : Int) (p : Int) : Bool := match S.L p c with | none => false | some l => decide (least ≤ l.has)
def heldP (S : KS) (c least : Int) : List Int := pages.filter (heldB S c least)
def leaveK (S : KS) (c : Int) (others : List Int) : KS :=
  ((waitsP S c ++ others).mergeSort fun x y => decide (x ≤ y)).foldl settleK ((waitsP S c).foldl (fun S p => unqK S c p) S)
def goneK (S : KS) (c : Int) : KS := leaveK ((heldP S c 1).foldl (fun S p => setK S p c none) S) c (heldP S c 1)
/-- locks are pages' and clients', so are requests, one of each client on a page -/
structure KS.wf (S : KS) : Prop where
  lk : ∀ p c l, S.L p c = some l → 0 ≤ p ∧ p < 1024 ∧ 1 ≤ c ∧ c ≤ 8 ∧ (l.has = 1 ∨ l.has = 2)
  rq : ∀ p r, r ∈ S.Q p → 0 ≤ p ∧ p < 1024 ∧ 1 ≤ r.cl ∧ r.cl ≤ 8 ∧ (r.wants = 1 ∨ r.wants = 2)
  nd : ∀ p, ((S.Q p).map Rq.cl).Nodup
theorem new_wf : newK.wf := ⟨fun _ _ _ h => by simp [newK] at h, fun _ _ h => by simp [newK] at h, fun _ => by simp [newK]⟩
section
variable {S : KS}
theorem KS.wf.len (h : S.wf) (p : Int) : (S.Q p).length ≤ 8 := by
  have := nodup_len 8 1 ((S.Q p).map Rq.cl) (h.nd p) (fun x hx => by
    obtain ⟨r, hr, rfl⟩ := List.mem_map.1 hx
    have := h.rq p r hr
    omega)
  simpa using this
theorem KS.wf.setK (h : S.wf) {p c : Int} {o : Option Lk} (ho : ∀ l, o = some l → 0 ≤ p ∧ p < 1024 ∧ 1 ≤ c ∧ c ≤ 8 ∧ (l.has = 1 ∨ l.has = 2)) : (setK S p c o).wf := by
  refine ⟨fun q d l hl => ?_, h.rq, h.nd⟩
  unfold Key.setK at hl
  dsimp only at hl
  split at hl
  · rename_i e; rw [e.1, e.2]; exact ho l hl
  · exact h.lk q d l hl
theorem KS.wf.setQ (h : S.wf) {p : Int} {l : List Rq} (hl : ∀ r, r ∈ l → 0 ≤ p ∧ p < 1024 ∧ 1 ≤ r.cl ∧ r.cl ≤ 8 ∧ (r.wants = 1 ∨ r.wants = 2)) (hn : (l.map Rq.cl).Nodup) : (setQ S p l).wf := by
  refine ⟨h.lk, fun q r hr => ?_, fun q => ?_⟩
  · unfold Key.setQ at hr
    dsimp only at hr
    split at hr
    · rename_i e; rw [e]; exact hl r hr
    · exact h.rq q r hr
  · unfold Key.setQ
    dsimp only
    split
    · exact hn
    · exact h.nd q
theorem KS.wf.say (h : S.wf) (b : Bool) (c p st : Int) : (sayK S b c p st).wf := ⟨h.lk, h.rq, h.nd⟩
theorem KS.wf.unq (h : S.wf) (c p : Int) : (unqK S c p).wf :=
  h.setQ (fun r hr => h.rq p r (List.mem_filter.1 hr).1) ((h.nd p).sublist (List.Sublist.map _ List.filter_sublist))
theorem holds_or (h : S.wf) (c p : Int) : holdsS S c p = 0 ∨ holdsS S c p = 1 ∨ holdsS S c p = 2 := by
  unfold holdsS
  cases hl : S.L p c with
  | none => exact .inl rfl
  | some l => exact .inr (h.lk p c l hl).2.2.2.2
theorem hasK_or (h : S.wf) {r : Rq} {p : Int} (hr : r.wants = 1 ∨ r.wants = 2) : hasK S r p = 1 ∨ hasK S r p = 2 := by
  unfold hasK
  have := holds_or h r.cl p
  omega
theorem KS.wf.grant (h : S.wf) {p : Int} {r : Rq} (hr : 0 ≤ p ∧ p < 1024 ∧ 1 ≤ r.cl ∧ r.cl ≤ 8 ∧ (r.wants = 1 ∨ r.wants = 2)) : (grantK S p r).wf :=
  ((h.setK (fun l hl => by injection hl with hl; subst hl; exact ⟨hr.1, hr.2.1, hr.2.2.1, hr.2.2.2.1, hasK_or h hr.2.2.2.2⟩)).unq _ _).say _ _ _ _
theorem KS.wf.call1 (h : S.wf) (p st c : Int) : (call1 p st S c).wf := by
  unfold Key.call1
  cases hl : S.L p c with
  | none => exact h
  | some l =>
    dsimp only
    split
    · exact (h.setK (fun l' e => by injection e with e; subst e; exact h.lk p c l hl)).say _ _ _ _
    · exact h
theorem KS.wf.callK (p st : Int) : ∀ (cs : List Int) {S : KS}, S.wf → (callK S p cs st).wf
  | [], _, h => h
  | c :: cs, _, h => KS.wf.callK p st cs (h.call1 p st c)
theorem KS.wf.settleN : ∀ (n : Nat) {S : KS} (p : Int), S.wf → (settleN n S p).wf
  | n, S, p, h => by
    unfold Key.settleN
    cases hq : S.Q p with
    | nil => exact h
    | cons r q =>
      dsimp only
      split
      · cases n with
        | zero => exact h
        | succ m => exact KS.wf.settleN m p (h.grant (h.rq p r (by rw [hq]; exact List.mem_cons_self)))
      · exact KS.wf.callK p _ _ h
theorem KS.wf.settle (h : S.wf) (p : Int) : (settleK S p).wf := KS.wf.settleN _ p h
theorem KS.wf.busy (h : S.wf) (c p : Int) : (busyK S c p).wf := by
  unfold busyK
  cases hl : S.L p c with
  | none => exact h
  | some l => exact h.setK fun l' e => by injection e with e; subst e; exact h.lk p c l hl
theorem KS.wf.ask (h : S.wf) (c p : Int) (x : Bool) : (askK S c p x).wf := by
  unfold askK
  split
  · rename_i h0
    have h1 : (1 ≤ c ∧ c ≤ 8 ∧ 0 ≤ p ∧ p < 1024) ∧ (S.Q p).any (fun r => r.cl == c) = false := by
      unfold askX at h0
      split at h0
      · cases h0
      · split at h0
        · cases h0
        · rename_i a b; exact ⟨by omega, by simpa using b⟩
    split
    · exact h.say _ _ _ _
    · refine (h.setQ (fun r hr => ?_) ?_).settle p
      · rcases List.mem_append.1 hr with hr | hr
        · exact h.rq p r hr
        · obtain rfl := List.mem_singleton.1 hr
          refine ⟨h1.1.2.2.1, h1.1.2.2.2, h1.1.1, h1.1.2.1, ?_⟩
          cases x <;> simp [wantI]
      · rw [List.map_append, List.nodup_append]
        refine ⟨h.nd p, by simp, fun a ha b hb e => ?_⟩
        obtain ⟨r, hr, rfl⟩ := List.mem_map.1 ha
        simp at hb
        subst hb
        have := List.any_eq_false.1 h1.2 r hr
        simp [e] at this
  · exact h
theorem KS.wf.free (h : S.wf) (c p : Int) (keep : Bool) : (freeK S c p keep).wf := by
  unfold freeK
  split
  · exact h
  · rename_i h0
    refine KS.wf.settle (h.setK fun l hl => ?_) p
    cases hs : S.L p c with
    | none => simp [holdsS, hs] at h0
    | some l0 =>
      have := h.lk p c l0 hs
      split at hl
      · injection hl with hl; subst hl; exact ⟨this.1, this.2.1, this.2.2.1, this.2.2.2.1, .inl rfl⟩
      · cases hl
theorem fold_wf {α : Type} {f : KS → α → KS} (hf : ∀ S a, S.wf → (f S a).wf) : ∀ (l : List α) {S : KS}, S.wf → (l.foldl f S).wf
  | [], _, h => h
  | a :: l, _, h => fold_wf hf l (hf _ a h)
theorem KS.wf.leave (h : S.wf) (c : Int) (o : List Int) : (leaveK S c o).wf :=
  fold_wf (fun _ p h => h.settle p) _ (fold_wf (fun _ p h => h.unq c p) _ h)
theorem KS.wf.gone (h : S.wf) (c : Int) : (goneK S c).wf :=
  KS.wf.leave (fold_wf (fun _ p h => h.setK fun l e => by cases e) _ h) c _
/-! how many words -/
theorem call1_said (p st : Int) (S : KS) (c : Int) : (call1 p st S c).said.length ≤ S.said.length + 1 := by
  unfold call1
  split
  · omega
  · split
    · simp [sayK, setK]
    · omega
theorem callK_said (p st : Int) : ∀ (cs : List Int) (S : KS), (callK S p cs st).said.length ≤ S.said.length + cs.length
  | [], S => by simp [callK]
  | c :: cs, S => by
    have h1 := callK_said p st cs (call1 p st S c)
    have h2 := call1_said p st S c
    have e : callK S p (c :: cs) st = callK (call1 p st S c) p cs st := rfl
    rw [e, List.length_cons]
    omega
theorem ways_len (S : KS) (p : Int) (r : Rq) : (ways S p r).length ≤ 8 := by
  have := List.length_filter_le (inB S p r) clients
  have e : clients.length = 8 := rfl
  unfold ways
  omega
theorem settleN_said : ∀ (n : Nat) (S : KS) (p : Int), (settleN n S p).said.length ≤ S.said.length + n + 8
  | n, S, p => by
    unfold settleN
    cases hq : S.Q p with
    | nil => dsimp only; omega
    | cons r q =>
      dsimp only
      split
      · cases n with
        | zero => dsimp only; omega
        | succ m =>
          have := settleN_said m (grantK S p r) p
          have e : (grantK S p r).said.length = S.said.length + 1 := by simp [grantK, sayK, unqK, setQ, setK]
          dsimp only
          omega
      · have h1 := callK_said p r.wants (ways S p r) S
        have h2 := ways_len S p r
        omega
theorem settle_said (h : S.wf) (p : Int) : (settleK S p).said.length ≤ S.said.length + 16 := by
  have h1 := settleN_said (S.Q p).length S p
  have h2 := h.len p
  unfold settleK
  omega
theorem fold_said {f : KS → Int → KS} {k : Nat} (hf : ∀ S a, S.wf → (f S a).wf ∧ (f S a).said.length ≤ S.said.length + k) : ∀ (l : List Int) {S : KS}, S.wf → (l.foldl f S).said.length ≤ S.said.length + k * l.length
  | [], _, _ => by simp
  | a :: l, S, h => by
    have h1 := fold_said hf l (hf S a h).1
    have h2 := (hf S a h).2
    rw [List.foldl_cons, List.length_cons, Nat.mul_add]
    omega
end
theorem pages_len (pr : Int → Bool) : (pages.filter pr).length ≤ 1024 := by
  have := List.length_filter_le pr pages
  have e : pages.length = 1024 := up_len 1024 0
  omega
end Go.Proofs.Ythodggkpkjfggaa.Key
