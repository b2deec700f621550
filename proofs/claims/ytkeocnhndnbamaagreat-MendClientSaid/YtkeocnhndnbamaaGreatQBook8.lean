/- Recovery as plain data: what redoing leaves; what was committed; what can be undone. Recovery as plain data: what was committed stands in the pages, when what counts is undone; what is undone next. Recovery as plain data: undoing the losers of some, then their Ends; what a restart leaves. -/
import Derived.Test.YtkeocnhndnbamaaGreatQBook7
namespace Go.Proofs.YtkeocnhndnbamaaGreat.MLog
set_option maxRecDepth 100000
theorem snoc_ind {α : Type} {P : List α → Prop} (h0 : P []) (h1 : ∀ L a, P L → P (L ++ [a])) (L : List α) : P L := by
  rw [← List.reverse_reverse L]
  induction L.reverse with
  | nil => exact h0
  | cons a r ih => rw [List.reverse_cons]; exact h1 _ _ ih
section
variable {T S I : Type} [DecidableEq T] {G : Img I S}
/-! ### A log stands in one place -/
theorem step_det {s s1 s2 : St T S I} {e : En T S} (h1 : Step G s e s1) (h2 : Step G s e s2) : s1 = s2 := by
  cases h1 with
  | @change i1 hk _ _ _ _ _ _ hi =>
    cases h2 with
    | @change i2 _ _ _ _ _ _ _ hi2 => rw [hi] at hi2; injection hi2 with hi2; rw [hi2]
    | @undo x r i2 hk2 => rw [hk] at hk2; cases hk2
    | end_ hk2 => omega
  | @undo x r i1 hk _ _ _ _ hs _ _ _ _ _ hi =>
    cases h2 with
    | @change i2 hk2 => rw [hk] at hk2; cases hk2
    | @undo y q i2 _ _ _ _ _ hs2 _ _ _ _ _ hi2 =>
      rw [hs] at hs2
      injection hs2 with _ hr
      rw [hi] at hi2
      injection hi2 with hi2
      rw [hi2, hr]
    | end_ hk2 => omega
  | end_ hk =>
    cases h2 with
    | @change i2 hk2 => omega
    | @undo y q i2 hk2 => omega
    | end_ => rfl
theorem log_snoc {i0 : I} {L : List (En T S)} {e : En T S} {s : St T S I} (h : Log G i0 (L ++ [e]) s) : ∃ s', Log G i0 L s' ∧ Step G s' e s := by
  generalize hM : L ++ [e] = M at h
  cases h with
  | nil => simp at hM
  | @snoc L' s1 _ e' h hs =>
    obtain ⟨rfl, h2⟩ := List.append_inj' hM rfl
    injection h2 with h2
    subst h2
    exact ⟨s1, h, hs⟩
theorem log_det {i0 : I} {L : List (En T S)} {s1 s2 : St T S I} (h1 : Log G i0 L s1) (h2 : Log G i0 L s2) : s1 = s2 := by
  induction h1 generalizing s2 with
  | nil =>
    generalize hM : ([] : List (En T S)) = M at h2
    cases h2 with
    | nil => rfl
    | snoc => simp at hM
  | snoc _ hs ih =>
    obtain ⟨s', h', hs'⟩ := log_snoc h2
    have := ih h'
    subst this
    exact step_det hs hs'
theorem log_pre {i0 : I} {A : List (En T S)} (B : List (En T S)) : ∀ {s : St T S I}, Log G i0 (A ++ B) s → ∃ s', Log G i0 A s' := by
  refine snoc_ind (P := fun B => ∀ {s : St T S I}, Log G i0 (A ++ B) s → ∃ s', Log G i0 A s') ?_ ?_ B
  · intro s h; rw [List.append_nil] at h; exact ⟨s, h⟩
  · intro B e ih s h
    rw [← List.append_assoc] at h
    obtain ⟨s', h', _⟩ := log_snoc h
    exact ih h'
/-! ### Each transaction's own entries -/
/-- what an entry leaves of the changes that count, and where its Lsn stands -/
structure Own (L : List (En T S)) (s : St T S I) : Prop where
  lsn : ∀ e ∈ L, 0 < e.lsn ∧ e.lsn ≤ s.last e.t
  inj : ∀ e ∈ L, ∀ e' ∈ L, e.t = e'.t → e.lsn = e'.lsn → e = e'
  chg : ∀ e ∈ L, e.kind = 1 → s.hist e.t e.lsn = e :: s.hist e.t e.prev
  und : ∀ e ∈ L, e.kind = 2 → s.hist e.t e.lsn = s.hist e.t e.next ∧ 0 ≤ e.next ∧ e.next < e.lsn
  fin : ∀ e ∈ L, e.kind ≠ 1 → e.kind ≠ 2 → s.hist e.t e.lsn = [] ∧ s.ended e.t = true
  mem : ∀ t l x, x ∈ s.hist t l → x ∈ L ∧ x.t = t
  at_ : ∀ t l, s.hist t l ≠ [] → ∃ e ∈ L, e.t = t ∧ e.lsn = l
  last : ∀ t, 0 < s.last t → ∃ e ∈ L, e.t = t ∧ e.lsn = s.last t
theorem own_log {i0 : I} {L : List (En T S)} {s : St T S I} (h : Log G i0 L s) : Own L s := by
  induction h with
  | nil =>
    exact ⟨fun e h => (by cases h), fun e h => (by cases h), fun e h => (by cases h), fun e h => (by cases h), fun e h => (by cases h), fun t l x h => (by cases h), fun t l h => absurd rfl h, fun t h => absurd h (Int.lt_irrefl 0)⟩
  | @snoc L s s' e hL hs ih =>
    have hI := inv_log hL
    -- what the step does to hist and last
    have key : ∃ v : List (En T S), s'.hist = upd s.hist e.t (upd (s.hist e.t) e.lsn v) ∧ s'.last = upd s.last e.t e.lsn ∧ s.last e.t < e.lsn ∧ e.prev = s.last e.t ∧ s.ended e.t = false ∧
        (e.kind = 1 → v = e :: s.hist e.t e.prev) ∧ (e.kind = 2 → v = s.hist e.t e.next ∧ 0 ≤ e.next ∧ e.next < e.lsn) ∧ (e.kind ≠ 1 → e.kind ≠ 2 → v = [] ∧ s'.ended e.t = true) ∧ (∀ x ∈ v, x = e ∨ x ∈ s.hist e.t (s.last e.t)) ∧ (∀ t, s.ended t = true → s'.ended t = true) := by
      cases hs with
      | @change i' hk he hp h1 h2 ho hw hi =>
        refine ⟨_, rfl, rfl, h1, hp, he, fun _ => (by rw [hp, hI.hst]), fun h => (by rw [hk] at h; cases h), fun h => absurd hk h, fun x hx => ?_, fun t h => h⟩
        rw [hI.hst]
        exact List.mem_cons.1 hx
      | @undo x r i' hk he hp h1 h2 hs hpg hsl hw his hn hi =>
        obtain ⟨c1, c2, c3, c4, c5⟩ := hI.chain e.t (s.last e.t) x r (by rw [hI.hst]; exact hs)
        refine ⟨r, rfl, rfl, h1, hp, he, fun h => (by rw [hk] at h; cases h), fun _ => ⟨by rw [hn, c1], by omega, by omega⟩, fun _ h => absurd hk h, fun y hy => ?_, fun t h => h⟩
        rw [hI.hst, hs]
        exact .inr (List.mem_cons_of_mem _ hy)
      | end_ hk he hl hp h1 =>
        refine ⟨[], rfl, rfl, h1, hp, he, fun h => (by omega), fun h => (by omega), fun _ _ => ⟨rfl, upd_same _ _ _⟩, fun x hx => (by cases hx), fun t h => ?_⟩
        dsimp only
        by_cases ht : t = e.t
        · rw [ht, upd_same]
        · rw [upd_ne _ _ ht]; exact h
    obtain ⟨v, kh, kl, hlt, hpv, hend, k1, k2, k3, kv, ke⟩ := key
    have hl0 := hI.lst e.t
    have hold : ∀ t l, (t = e.t → l ≠ e.lsn) → s'.hist t l = s.hist t l := fun t l h => by
      rw [kh]
      by_cases ht : t = e.t
      · subst ht; rw [upd_same, upd_ne _ _ (h rfl)]
      · rw [upd_ne _ _ ht]
    have hnew : s'.hist e.t e.lsn = v := by rw [kh, upd_same, upd_same]
    have hlast : ∀ t, s.last t ≤ s'.last t := fun t => by
      rw [kl]
      by_cases ht : t = e.t
      · subst ht; rw [upd_same]; omega
      · rw [upd_ne _ _ ht]; omega
    have hne : ∀ y ∈ L, y.t = e.t → y.lsn ≠ e.lsn := fun y hy ht => by have := ih.lsn y hy; rw [ht] at this; omega
    refine ⟨fun y hy => ?_, fun y hy z hz ht hl => ?_, fun y hy hk => ?_, fun y hy hk => ?_, fun y hy hk hk2 => ?_, fun t l x hx => ?_, fun t l hl => ?_, fun t ht => ?_⟩
    · rcases List.mem_append.1 hy with hy | hy
      · have := ih.lsn y hy; have := hlast y.t; omega
      · simp at hy; subst hy; rw [kl, upd_same]; omega
    · rcases List.mem_append.1 hy with hy1 | hy1
      · rcases List.mem_append.1 hz with hz1 | hz1
        · exact ih.inj y hy1 z hz1 ht hl
        · have hz2 : z = e := by simpa using hz1
          rw [hz2] at ht hl
          exact absurd hl (hne y hy1 ht)
      · have hy2 : y = e := by simpa using hy1
        rw [hy2] at ht hl ⊢
        rcases List.mem_append.1 hz with hz1 | hz1
        · exact absurd hl.symm (hne z hz1 ht.symm)
        · have hz2 : z = e := by simpa using hz1
          exact hz2.symm
    · rcases List.mem_append.1 hy with hy | hy
      · have h1 := ih.lsn y hy
        rw [hold _ _ fun h => hne y hy h, ih.chg y hy hk]
        have hc := hI.chain y.t y.lsn y _ (ih.chg y hy hk)
        rw [hold _ _ fun h e2 => by rw [h] at h1; omega]
      · simp at hy; subst hy
        rw [hnew, k1 hk, hold _ _ fun _ h2 => by rw [hpv] at h2; omega]
    · rcases List.mem_append.1 hy with hy | hy
      · have h1 := ih.lsn y hy
        obtain ⟨a, b, c⟩ := ih.und y hy hk
        refine ⟨?_, b, c⟩
        rw [hold _ _ fun h => hne y hy h, a, hold _ _ fun h e2 => by rw [h] at h1; omega]
      · simp at hy; subst hy
        obtain ⟨a, b, c⟩ := k2 hk
        exact ⟨by rw [hnew, a, hold _ _ fun _ h2 => by omega], b, c⟩
    · rcases List.mem_append.1 hy with hy | hy
      · obtain ⟨a, b⟩ := ih.fin y hy hk hk2
        exact ⟨by rw [hold _ _ fun h => hne y hy h, a], ke _ b⟩
      · simp at hy; subst hy
        obtain ⟨a, b⟩ := k3 hk hk2
        exact ⟨by rw [hnew, a], b⟩
    · by_cases hc : t = e.t ∧ l = e.lsn
      · obtain ⟨rfl, rfl⟩ := hc
        rw [hnew] at hx
        rcases kv x hx with rfl | hx
        · exact ⟨by simp, rfl⟩
        · obtain ⟨a, b⟩ := ih.mem _ _ x hx
          exact ⟨List.mem_append_left _ a, b⟩
      · rw [hold t l fun h h2 => hc ⟨h, h2⟩] at hx
        obtain ⟨a, b⟩ := ih.mem t l x hx
        exact ⟨List.mem_append_left _ a, b⟩
    · by_cases hc : t = e.t ∧ l = e.lsn
      · exact ⟨e, by simp, hc.1.symm, hc.2.symm⟩
      · rw [hold t l fun h h2 => hc ⟨h, h2⟩] at hl
        obtain ⟨y, a, b, c⟩ := ih.at_ t l hl
        exact ⟨y, List.mem_append_left _ a, b, c⟩
    · rw [kl] at ht ⊢
      by_cases hc : t = e.t
      · subst hc; rw [upd_same]; exact ⟨e, by simp, rfl, rfl⟩
      · rw [upd_ne _ _ hc] at ht ⊢
        obtain ⟨y, a, b, c⟩ := ih.last t ht
        exact ⟨y, List.mem_append_left _ a, b, c⟩
end
section
variable {T S I : Type} {G : Img I S}
/-! ### Redoing -/
/-- a log is told again to a page -/
def allA [DecidableEq S] (G : Img I S) (n : Int) : List (En T S) → Int × I → Option (Int × I)
  | [], p => some p
  | e :: r, p =>
    if (e.kind = 1 ∨ e.kind = 2) ∧ e.page = n then
      if e.lsn ≤ p.1 then allA G n r p
      else if G.at_ p.2 e.slot = e.was then (match G.put p.2 e.slot e.is with | some i' => allA G n r (e.lsn, i') | none => none) else none
    else allA G n r p
theorem all_app [DecidableEq S] (n : Int) : ∀ (A B : List (En T S)) (p : Int × I), allA G n (A ++ B) p = (allA G n A p).bind (allA G n B)
  | [], B, p => rfl
  | e :: r, B, p => by
    rw [List.cons_append, allA, allA]
    by_cases h1 : (e.kind = 1 ∨ e.kind = 2) ∧ e.page = n
    · rw [if_pos h1, if_pos h1]
      by_cases h2 : e.lsn ≤ p.1
      · rw [if_pos h2, if_pos h2]; exact all_app n r B p
      · rw [if_neg h2, if_neg h2]
        by_cases h3 : G.at_ p.2 e.slot = e.was
        · rw [if_pos h3, if_pos h3]
          cases G.put p.2 e.slot e.is with
          | none => rfl
          | some i' => exact all_app n r B _
        · rw [if_neg h3, if_neg h3]; rfl
    · rw [if_neg h1, if_neg h1]; exact all_app n r B p
/-- what is there already plays no part -/
theorem all_old [DecidableEq S] (n : Int) : ∀ {A : List (En T S)} {p : Int × I}, (∀ e ∈ A, (e.kind = 1 ∨ e.kind = 2) → e.page = n → e.lsn ≤ p.1) → allA G n A p = some p
  | [], p, _ => rfl
  | e :: r, p, h => by
    rw [allA]
    have ih := all_old n (A := r) (p := p) fun x hx => h x (List.mem_cons_of_mem _ hx)
    by_cases h1 : (e.kind = 1 ∨ e.kind = 2) ∧ e.page = n
    · rw [if_pos h1, if_pos (h e List.mem_cons_self h1.1 h1.2)]; exact ih
    · rw [if_neg h1]; exact ih
end
section
variable {T S I : Type} [DecidableEq T] {G : Img I S}
theorem step_page {s s' : St T S I} {e : En T S} (hI : Inv (G := G) s) (h : Step G s e s') (n : Int) :
    (¬ ((e.kind = 1 ∨ e.kind = 2) ∧ e.page = n) → s'.pg n = s.pg n) ∧ ((e.kind = 1 ∨ e.kind = 2) ∧ e.page = n → (s.pg n).1 < e.lsn ∧ G.at_ (s.pg n).2 e.slot = e.was ∧ ∃ i', G.put (s.pg n).2 e.slot e.is = some i' ∧ s'.pg n = (e.lsn, i')) := by
  cases h with
  | @change i' hk he hp h1 h2 ho hw hi =>
    refine ⟨fun h => ?_, fun h => ?_⟩
    · dsimp only; rw [upd_ne _ _ fun h2 => h ⟨.inl hk, h2.symm⟩]
    · obtain ⟨_, rfl⟩ := h; exact ⟨h2, hw, i', hi, upd_same _ _ _⟩
  | @undo x r i' hk he hp h1 h2 hs hpg hsl hw his hn hi =>
    refine ⟨fun h => ?_, fun h => ?_⟩
    · dsimp only; rw [upd_ne _ _ fun h2 => h ⟨.inr hk, h2.symm⟩]
    · obtain ⟨_, rfl⟩ := h
      refine ⟨h2, ?_, i', hi, upd_same _ _ _⟩
      have hm := (hI.mem e.t x (by rw [hs]; exact List.mem_cons_self)).2.2
      have hu := hI.und x.page e.t hm
      rw [hs, List.filter_cons, if_pos (by simp)] at hu
      rw [hpg, hsl, hw]
      exact hu.1
  | end_ hk he hl hp h1 => exact ⟨fun _ => rfl, fun h => by omega⟩
theorem page_lsn {i0 : I} {L : List (En T S)} {s : St T S I} (h : Log G i0 L s) (n : Int) : ∀ e ∈ L, (e.kind = 1 ∨ e.kind = 2) → e.page = n → e.lsn ≤ (s.pg n).1 := by
  induction h with
  | nil => intro e h; cases h
  | @snoc L s s' e hL hs ih =>
    intro y hy hk hp
    obtain ⟨p1, p2⟩ := step_page (inv_log hL) hs n
    by_cases hc : (e.kind = 1 ∨ e.kind = 2) ∧ e.page = n
    · obtain ⟨a, _, i', _, b⟩ := p2 hc
      rw [b]
      rcases List.mem_append.1 hy with hy1 | hy1
      · have := ih y hy1 hk hp; dsimp only; omega
      · have : y = e := by simpa using hy1
        rw [this]; exact Int.le_refl _
    · rw [p1 hc]
      rcases List.mem_append.1 hy with hy1 | hy1
      · exact ih y hy1 hk hp
      · have : y = e := by simpa using hy1
        rw [this] at hk hp
        exact absurd ⟨hk, hp⟩ hc
/-- REDOING: from any version of a page on, the log leaves it as it is behind the log -/
theorem redo_any [DecidableEq S] {i0 : I} {A : List (En T S)} {sA : St T S I} (hA : Log G i0 A sA) (n : Int) (B : List (En T S)) :
    ∀ {s : St T S I}, Log G i0 (A ++ B) s → allA G n B (sA.pg n) = some (s.pg n) := by
  refine snoc_ind (P := fun B => ∀ {s : St T S I}, Log G i0 (A ++ B) s → allA G n B (sA.pg n) = some (s.pg n)) ?_ ?_ B
  · intro s h
    rw [List.append_nil] at h
    rw [log_det h hA]
    rfl
  · intro B e ih s h
    rw [← List.append_assoc] at h
    obtain ⟨s', h', hs⟩ := log_snoc h
    rw [all_app, ih h', Option.bind_some, allA]
    obtain ⟨p1, p2⟩ := step_page (inv_log h') hs n
    by_cases hc : (e.kind = 1 ∨ e.kind = 2) ∧ e.page = n
    · obtain ⟨a, b, i', c, d⟩ := p2 hc
      rw [if_pos hc, if_neg (by omega), if_pos b, c, d]
      rfl
    · rw [if_neg hc, p1 hc]
      rfl
theorem redo_all [DecidableEq S] {i0 : I} {A B : List (En T S)} {sA s : St T S I} (hA : Log G i0 A sA) (h : Log G i0 (A ++ B) s) (n : Int) : allA G n (A ++ B) (sA.pg n) = some (s.pg n) := by
  rw [all_app, all_old n (page_lsn hA n)]
  exact redo_any hA n B h
/-! ### What was committed -/
/-- what a transaction's entries leave -/
def comm : List (En T S) → T → (Int → Int → S) → Int → Int → S
  | [], _, f => f
  | e :: r, t, f => comm r t (if e.t = t then fun n k => if n = e.page ∧ k = e.slot then e.is else f n k else f)
theorem comm_app (t : T) : ∀ (A B : List (En T S)) (f : Int → Int → S), comm (A ++ B) t f = comm B t (comm A t f)
  | [], _, _ => rfl
  | _ :: r, B, _ => comm_app t r B _
/-- the transactions whose Commit is there, one behind the other -/
def foldG (pre : List (En T S)) : List (En T S) → (Int → Int → S) → Int → Int → S
  | [], f => f
  | e :: r, f => foldG (pre ++ [e]) r (if e.kind = 3 then comm pre e.t f else f)
def foldA (L : List (En T S)) (f : Int → Int → S) : Int → Int → S := foldG [] L f
theorem foldG_app : ∀ (A B pre : List (En T S)) (f : Int → Int → S), foldG pre (A ++ B) f = foldG (pre ++ A) B (foldG pre A f)
  | [], B, pre, f => by rw [List.append_nil]; rfl
  | e :: r, B, pre, f => by
    rw [List.cons_append, foldG, foldG, foldG_app r B]
    rw [List.append_assoc]; rfl
theorem fold_snoc (L : List (En T S)) (e : En T S) (f : Int → Int → S) : foldA (L ++ [e]) f = if e.kind = 3 then comm L e.t (foldA L f) else foldA L f := by
  unfold foldA
  rw [foldG_app]
  rfl
end
section
variable {T S : Type}
/-- what counts, undone, at a slot -/
def undo : List (En T S) → Int → Int → S → S
  | [], _, _, v => v
  | x :: r, n, k, v => undo r n k (if x.page = n ∧ x.slot = k then x.was else v)
theorem undo_none {n k : Int} : ∀ {L : List (En T S)} {v : S}, (∀ x ∈ L, ¬ (x.page = n ∧ x.slot = k)) → undo L n k v = v
  | [], v, _ => rfl
  | x :: r, v, h => by
    rw [undo, if_neg (h x List.mem_cons_self)]
    exact undo_none fun y hy => h y (List.mem_cons_of_mem _ hy)
end
section
variable {T S I : Type} [DecidableEq T] {G : Img I S}
end
end Go.Proofs.YtkeocnhndnbamaaGreat.MLog
namespace Go.Proofs.YtkeocnhndnbamaaGreat.MLog
set_option maxRecDepth 100000
section
variable {T S I : Type} [DecidableEq T] {G : Img I S}
def ownStk (s : St T S I) (n : Int) : List (En T S) := match s.own n with | some t => s.stk t | none => []
/-- a transaction that isn't at its end has its pages, and what it put last stands there -/
structure Live (L : List (En T S)) (s : St T S I) : Prop where
  own : ∀ e ∈ L, s.ended e.t = false → (e.kind = 1 ∨ e.kind = 2) ∧ s.own e.page = some e.t
  yes : ∀ e ∈ L, s.ended e.t = false → ∀ f, comm L e.t f e.page e.slot = G.at_ (s.pg e.page).2 e.slot
theorem comm_no (t : T) (n k : Int) : ∀ (L : List (En T S)), (∀ e ∈ L, e.t = t → ¬ (e.page = n ∧ e.slot = k)) → ∀ f, comm L t f n k = f n k
  | [], _, _ => rfl
  | e :: r, h, f => by
    rw [comm, comm_no t n k r (fun x hx => h x (List.mem_cons_of_mem _ hx))]
    by_cases ht : e.t = t
    · rw [if_pos ht, if_neg fun h2 => h e List.mem_cons_self ht ⟨h2.1.symm, h2.2.symm⟩]
    · rw [if_neg ht]
theorem comm_one (L : List (En T S)) (e : En T S) (t : T) (f : Int → Int → S) (n k : Int) : comm (L ++ [e]) t f n k = if e.t = t then (if n = e.page ∧ k = e.slot then e.is else comm L t f n k) else comm L t f n k := by
  rw [comm_app, comm, comm]
  by_cases h : e.t = t
  · rw [if_pos h, if_pos h]
  · rw [if_neg h, if_neg h]
/-- which transaction an entry of a page is of -/
theorem step_own {s s' : St T S I} {e : En T S} (hI : Inv (G := G) s) (h : Step G s e s') (hk : e.kind = 1 ∨ e.kind = 2) : (s.own e.page = none ∨ s.own e.page = some e.t) ∧ s'.own e.page = some e.t ∧ (∀ n, n ≠ e.page → s'.own n = s.own n) ∧ s'.ended = s.ended := by
  cases h with
  | @change i' hk he hp h1 h2 ho hw hi => exact ⟨ho, upd_same _ _ _, fun n hn => upd_ne _ _ hn, rfl⟩
  | @undo x r i' hk he hp h1 h2 hs hpg hsl hw his hn hi =>
    have hm := (hI.mem e.t x (by rw [hs]; exact List.mem_cons_self)).2.2
    rw [← hpg] at hm
    exact ⟨.inr hm, hm, fun _ _ => rfl, rfl⟩
  | end_ hk2 => omega
theorem step_end {s s' : St T S I} {e : En T S} (h : Step G s e s') (hk : ¬ (e.kind = 1 ∨ e.kind = 2)) : s'.pg = s.pg ∧ s'.ended = upd s.ended e.t true ∧ (∀ n, s'.own n = if s.own n = some e.t then none else s.own n) ∧ s'.stk = upd s.stk e.t [] ∧ (e.kind = 3 ∨ (e.kind = 4 ∧ s.stk e.t = [])) ∧ s.ended e.t = false := by
  cases h with
  | @change i' hk2 => exact absurd (.inl hk2) hk
  | @undo x r i' hk2 => exact absurd (.inr hk2) hk
  | end_ hk2 he => exact ⟨rfl, rfl, fun _ => rfl, rfl, hk2, he⟩
theorem live_log {i0 : I} {L : List (En T S)} {s : St T S I} (h : Log G i0 L s) : Live (G := G) L s := by
  induction h with
  | nil => exact ⟨fun e h => (by cases h), fun e h => (by cases h)⟩
  | @snoc L s s' e hL hs ih =>
    have hI := inv_log hL
    by_cases hk : e.kind = 1 ∨ e.kind = 2
    · obtain ⟨o1, o2, o3, o4⟩ := step_own hI hs hk
      obtain ⟨_, p2⟩ := step_page hI hs e.page
      obtain ⟨_, _, i', pi, pp⟩ := p2 ⟨hk, rfl⟩
      have own' : ∀ y ∈ L, s.ended y.t = false → y.page = e.page → y.t = e.t := fun y hy he hp => by
        have := (ih.own y hy he).2
        rw [hp] at this
        rcases o1 with h | h
        · rw [h] at this; cases this
        · rw [h] at this; injection this with this; exact this.symm
      refine ⟨fun y hy he => ?_, fun y hy he f => ?_⟩
      · rw [o4] at he
        rcases List.mem_append.1 hy with hy1 | hy1
        · obtain ⟨a, b⟩ := ih.own y hy1 he
          refine ⟨a, ?_⟩
          by_cases hp : y.page = e.page
          · rw [hp, o2, own' y hy1 he hp]
          · rw [o3 _ hp]; exact b
        · have : y = e := by simpa using hy1
          rw [this]
          exact ⟨hk, o2⟩
      · rw [o4] at he
        have hat : ∀ k, G.at_ (s'.pg e.page).2 k = if k = e.slot then e.is else G.at_ (s.pg e.page).2 k := fun k => by rw [pp]; exact G.at_put _ _ _ _ _ pi
        rw [comm_one]
        rcases List.mem_append.1 hy with hy1 | hy1
        · by_cases ht : e.t = y.t
          · rw [if_pos ht]
            by_cases hc : y.page = e.page ∧ y.slot = e.slot
            · rw [if_pos hc, hc.1, hat, if_pos hc.2]
            · rw [if_neg hc, ih.yes y hy1 he]
              by_cases hp : y.page = e.page
              · rw [hp, hat, if_neg fun h => hc ⟨hp, h⟩]
              · rw [(step_page hI hs y.page).1 fun h => hp h.2.symm]
          · rw [if_neg ht, ih.yes y hy1 he]
            have hp : y.page ≠ e.page := fun hp => ht (own' y hy1 he hp).symm
            rw [(step_page hI hs y.page).1 fun h => hp h.2.symm]
        · have : y = e := by simpa using hy1
          rw [this, if_pos rfl, if_pos ⟨rfl, rfl⟩, hat, if_pos rfl]
    · obtain ⟨q1, q2, q3, q4, q5, q6⟩ := step_end hs hk
      have hne : ∀ y : En T S, s'.ended y.t = false → y.t ≠ e.t ∧ s.ended y.t = false := fun y h => by
        rw [q2] at h
        by_cases ht : y.t = e.t
        · rw [ht, upd_same] at h; cases h
        · rw [upd_ne _ _ ht] at h; exact ⟨ht, h⟩
      refine ⟨fun y hy he => ?_, fun y hy he f => ?_⟩
      · obtain ⟨h1, h2⟩ := hne y he
        rcases List.mem_append.1 hy with hy1 | hy1
        · obtain ⟨a, b⟩ := ih.own y hy1 h2
          exact ⟨a, by rw [q3, b, if_neg fun h => h1 (by injection h)]⟩
        · have : y = e := by simpa using hy1
          exact absurd (by rw [this]) h1
      · obtain ⟨h1, h2⟩ := hne y he
        rcases List.mem_append.1 hy with hy1 | hy1
        · rw [comm_one, if_neg fun h => h1 h.symm, ih.yes y hy1 h2, q1]
        · have : y = e := by simpa using hy1
          exact absurd (by rw [this]) h1
/-- WHAT WAS COMMITTED stands in the pages, when what counts is undone -/
theorem fold_is {i0 : I} {L : List (En T S)} {s : St T S I} (h : Log G i0 L s) (n k : Int) : foldA L (fun _ k => G.at_ i0 k) n k = undo (ownStk s n) n k (G.at_ (s.pg n).2 k) := by
  induction h with
  | nil => rfl
  | @snoc L s s' e hL hs ih =>
    have hI := inv_log hL
    have hLv := live_log hL
    rw [fold_snoc]
    cases hs with
    | @change i' hk he hp h1 h2 ho hw hi =>
      rw [if_neg (by omega), ih]
      unfold ownStk
      dsimp only
      by_cases hn : n = e.page
      · subst hn
        rw [upd_same, upd_same]
        dsimp only
        rw [upd_same, undo, G.at_put _ _ _ _ _ hi]
        have hv : (if e.page = e.page ∧ e.slot = k then e.was else if k = e.slot then e.is else G.at_ (s.pg e.page).2 k) = G.at_ (s.pg e.page).2 k := by
          by_cases hs : e.slot = k
          · rw [if_pos ⟨rfl, hs⟩, ← hs, hw]
          · rw [if_neg fun h => hs h.2, if_neg fun h => hs h.symm]
        rw [hv]
        rcases ho with h | h
        · rw [h]
          exact (undo_none fun x hx hc => by have := (hI.mem _ x hx).2.2; rw [hc.1, h] at this; cases this).symm
        · rw [h]
      · rw [upd_ne _ _ hn, upd_ne _ _ hn]
        cases hw2 : s.own n with
        | none => rfl
        | some t =>
          dsimp only
          by_cases ht : t = e.t
          · rw [ht, upd_same, undo, if_neg fun h => hn h.1.symm]
          · rw [upd_ne _ _ ht]
    | @undo x r i' hk he hp h1 h2 hs hpg hsl hw his hn2 hi =>
      rw [if_neg (by omega), ih]
      have hm := (hI.mem e.t x (by rw [hs]; exact List.mem_cons_self)).2.2
      unfold ownStk
      dsimp only
      by_cases hn : n = e.page
      · subst hn
        rw [upd_same, hpg, hm]
        dsimp only
        rw [upd_same, hs, undo, ← hpg, G.at_put _ _ _ _ _ hi]
        by_cases hk2 : k = e.slot
        · rw [if_pos ⟨rfl, by rw [hk2, hsl]⟩, if_pos hk2, his]
        · rw [if_neg fun h => hk2 (by rw [hsl]; exact h.2.symm), if_neg hk2]
      · rw [upd_ne _ _ hn]
        cases hw2 : s.own n with
        | none => rfl
        | some t =>
          dsimp only
          by_cases ht : t = e.t
          · rw [ht, upd_same, hs, undo, if_neg fun h => hn (by rw [hpg]; exact h.1.symm)]
          · rw [upd_ne _ _ ht]
    | end_ hk he hl hp h1 =>
      have hO := own_log hL
      have hstk : ∀ x ∈ s.stk e.t, x ∈ L ∧ x.t = e.t := fun x hx => hO.mem e.t (s.last e.t) x (by rw [hI.hst]; exact hx)
      unfold ownStk
      dsimp only
      by_cases hw2 : s.own n = some e.t
      · rw [if_pos hw2]
        dsimp only
        rw [undo]
        unfold ownStk at ih
        rw [hw2] at ih
        dsimp only at ih
        rcases hk with hk | ⟨hk, hz⟩
        · rw [if_pos hk]
          by_cases hc : ∃ y ∈ L, y.t = e.t ∧ y.page = n ∧ y.slot = k
          · obtain ⟨y, hy, y1, y2, y3⟩ := hc
            have := hLv.yes y hy (by rw [y1]; exact he) (foldA L fun _ k => G.at_ i0 k)
            rw [y1, y2, y3] at this
            exact this
          · rw [comm_no e.t n k L fun y hy y1 y2 => hc ⟨y, hy, y1, y2⟩, ih]
            exact undo_none fun x hx hc2 => hc ⟨x, (hstk x hx).1, (hstk x hx).2, hc2⟩
        · rw [if_neg (by omega), ih, hz, undo]
      · rw [if_neg hw2]
        have hcm : (if e.kind = 3 then comm L e.t (foldA L fun _ k => G.at_ i0 k) else foldA L fun _ k => G.at_ i0 k) n k = foldA L (fun _ k => G.at_ i0 k) n k := by
          split
          · exact comm_no e.t n k L (fun y hy y1 y2 => hw2 (by have := (hLv.own y hy (by rw [y1]; exact he)).2; rw [y2.1, y1] at this; exact this)) _
          · rfl
        rw [hcm, ih]
        unfold ownStk
        cases hw3 : s.own n with
        | none => rfl
        | some t =>
          dsimp only
          rw [upd_ne _ _ fun h => hw2 (by rw [hw3, h])]
/-- with nothing left to be undone: just what was committed -/
theorem fold_clean {i0 : I} {L : List (En T S)} {s : St T S I} (h : Log G i0 L s) (n : Int) (hn : ownStk s n = []) (k : Int) : G.at_ (s.pg n).2 k = foldA L (fun _ k => G.at_ i0 k) n k := by
  rw [fold_is h, hn]; rfl
/-- what counts can be undone, with any Lsn above -/
theorem can_undo {i0 : I} {L : List (En T S)} {s : St T S I} (h : Log G i0 L s) {t : T} {x : En T S} {r : List (En T S)} (hs : s.stk t = x :: r) :
    x ∈ L ∧ x.t = t ∧ x.kind = 1 ∧ s.ended t = false ∧ G.at_ (s.pg x.page).2 x.slot = x.is ∧ ∃ i', G.put (s.pg x.page).2 x.slot x.was = some i' := by
  have hI := inv_log h
  obtain ⟨a, b, c⟩ := hI.mem t x (by rw [hs]; exact List.mem_cons_self)
  have hu := hI.und x.page t c
  rw [hs, List.filter_cons, if_pos (by simp)] at hu
  obtain ⟨u1, i', u2, _⟩ := hu
  have hm := (own_log h).mem t (s.last t) x (by rw [hI.hst, hs]; exact List.mem_cons_self)
  exact ⟨hm.1, a, b, (hI.live _ _ c).1, u1, i', u2⟩
/-- Prev and Next name entries of the transaction, or none -/
theorem names {i0 : I} {L : List (En T S)} {s : St T S I} (h : Log G i0 L s) : ∀ e ∈ L, (e.prev = 0 ∨ ∃ y ∈ L, y.t = e.t ∧ y.lsn = e.prev) ∧ (e.kind = 2 → e.next = 0 ∨ ∃ y ∈ L, y.t = e.t ∧ y.lsn = e.next) := by
  induction h with
  | nil => intro e h; cases h
  | @snoc L s s' e hL hs ih =>
    have hI := inv_log hL
    have hO := own_log hL
    intro y hy
    rcases List.mem_append.1 hy with hy1 | hy1
    · obtain ⟨a, b⟩ := ih y hy1
      refine ⟨a.imp id fun ⟨z, hz, q⟩ => ⟨z, List.mem_append_left _ hz, q⟩, fun hk => (b hk).imp id fun ⟨z, hz, q⟩ => ⟨z, List.mem_append_left _ hz, q⟩⟩
    · have : y = e := by simpa using hy1
      subst this
      have hlast : ∀ l, l = s.last y.t → l = 0 ∨ ∃ z ∈ L ++ [y], z.t = y.t ∧ z.lsn = l := fun l hl => by
        by_cases h0 : 0 < s.last y.t
        · obtain ⟨z, hz, q1, q2⟩ := hO.last _ h0
          exact .inr ⟨z, List.mem_append_left _ hz, q1, by rw [hl]; exact q2⟩
        · have := hI.lst y.t
          exact .inl (by omega)
      cases hs with
      | @change i' hk he hp => exact ⟨hlast _ hp, fun h => by rw [hk] at h; cases h⟩
      | @undo x r i' hk he hp h1 h2 hs hpg hsl hw his hn hi =>
        refine ⟨hlast _ hp, fun _ => ?_⟩
        have hm := hO.mem y.t (s.last y.t) x (by rw [hI.hst, hs]; exact List.mem_cons_self)
        rw [hn]
        exact (ih x hm.1).1.imp id fun ⟨z, hz, q1, q2⟩ => ⟨z, List.mem_append_left _ hz, by rw [q1, hm.2], q2⟩
      | end_ hk he hl hp => exact ⟨hlast _ hp, fun h => by omega⟩
end
end Go.Proofs.YtkeocnhndnbamaaGreat.MLog
namespace Go.Proofs.YtkeocnhndnbamaaGreat.MLog
set_option maxRecDepth 100000
section
variable {T S I : Type} [DecidableEq T] {G : Img I S}
/-! ### Who is at its end, who is at work -/
theorem ended_log {i0 : I} {L : List (En T S)} {s : St T S I} (h : Log G i0 L s) (t : T) :
    (s.ended t = true ↔ ∃ e ∈ L, e.t = t ∧ (e.kind = 3 ∨ e.kind = 4)) ∧ (0 < s.last t ↔ ∃ e ∈ L, e.t = t) ∧ (∀ e ∈ L, e.kind = 1 ∨ e.kind = 2 ∨ e.kind = 3 ∨ e.kind = 4) := by
  induction h with
  | nil => exact ⟨⟨fun h => (by cases h), fun ⟨e, h, _⟩ => (by cases h)⟩, ⟨fun h => absurd h (Int.lt_irrefl 0), fun ⟨e, h, _⟩ => (by cases h)⟩, fun e h => by cases h⟩
  | @snoc L s s' e hL hs ih =>
    obtain ⟨i1, i2, i3⟩ := ih
    have hl0 := (inv_log hL).lst e.t
    have key : (e.kind = 1 ∨ e.kind = 2 ∨ e.kind = 3 ∨ e.kind = 4) ∧ (∀ t, s'.ended t = true ↔ s.ended t = true ∨ (t = e.t ∧ (e.kind = 3 ∨ e.kind = 4))) ∧ (∀ t, 0 < s'.last t ↔ 0 < s.last t ∨ t = e.t) := by
      have hlast : ∀ {f : T → Int}, f = upd s.last e.t e.lsn → s.last e.t < e.lsn → ∀ t, 0 < f t ↔ 0 < s.last t ∨ t = e.t := fun {f} hf hlt t => by
        rw [hf]
        by_cases ht : t = e.t
        · rw [ht, upd_same]; exact ⟨fun _ => .inr rfl, fun _ => by omega⟩
        · rw [upd_ne _ _ ht]; exact ⟨.inl, fun h => h.resolve_right ht⟩
      cases hs with
      | @change i' hk he hp h1 => exact ⟨.inl hk, fun t => ⟨.inl, fun h => h.resolve_right fun h2 => by omega⟩, hlast rfl h1⟩
      | @undo x r i' hk he hp h1 => exact ⟨.inr (.inl hk), fun t => ⟨.inl, fun h => h.resolve_right fun h2 => by omega⟩, hlast rfl h1⟩
      | end_ hk he hl hp h1 =>
        have hk2 : e.kind = 3 ∨ e.kind = 4 := hk.imp id (·.1)
        refine ⟨.inr (.inr hk2), fun t => ?_, hlast rfl h1⟩
        dsimp only
        by_cases ht : t = e.t
        · rw [ht, upd_same]; exact ⟨fun _ => .inr ⟨rfl, hk2⟩, fun _ => rfl⟩
        · rw [upd_ne _ _ ht]; exact ⟨.inl, fun h => h.resolve_right fun h2 => ht h2.1⟩
    obtain ⟨k0, k1, k2⟩ := key
    refine ⟨?_, ?_, fun y hy => ?_⟩
    · rw [k1, i1]
      constructor
      · rintro (⟨y, hy, h1, h2⟩ | ⟨h1, h2⟩)
        · exact ⟨y, List.mem_append_left _ hy, h1, h2⟩
        · exact ⟨e, by simp, h1.symm, h2⟩
      · rintro ⟨y, hy, h1, h2⟩
        rcases List.mem_append.1 hy with hy | hy
        · exact .inl ⟨y, hy, h1, h2⟩
        · have : y = e := by simpa using hy
          rw [this] at h1 h2
          exact .inr ⟨h1.symm, h2⟩
    · rw [k2, i2]
      constructor
      · rintro (⟨y, hy, h1⟩ | h1)
        · exact ⟨y, List.mem_append_left _ hy, h1⟩
        · exact ⟨e, by simp, h1.symm⟩
      · rintro ⟨y, hy, h1⟩
        rcases List.mem_append.1 hy with hy | hy
        · exact .inl ⟨y, hy, h1⟩
        · have : y = e := by simpa using hy
          rw [this] at h1
          exact .inr h1.symm
    · rcases List.mem_append.1 hy with hy | hy
      · exact i3 y hy
      · have : y = e := by simpa using hy
        rw [this]; exact k0
/-! ### Undoing -/
variable (G) in
/-- some are undone, one change after the other -/
inductive Run (C : T → Prop) (L : List (En T S)) (s : St T S I) : List (En T S) → St T S I → Prop
  | refl : Run C L s [] s
  | snoc {B : List (En T S)} {m m' : St T S I} {e : En T S} (h : Run C L s B m) (hk : e.kind = 2) (hC : C e.t) (hs : Step G m e m') : Run C L s (B ++ [e]) m'
theorem run_is {C : T → Prop} {i0 : I} {L B : List (En T S)} {s m : St T S I} (hL : Log G i0 L s) (h : Run G C L s B m) :
    Log G i0 (L ++ B) m ∧ (∀ e ∈ B, e.kind = 2 ∧ C e.t) ∧ (∀ f, foldA (L ++ B) f = foldA L f) ∧ m.ended = s.ended ∧ m.own = s.own ∧ (∀ t, ¬ C t → m.stk t = s.stk t) ∧ (∀ t, 0 < m.last t ↔ 0 < s.last t) ∧
      (∀ n, (∀ t, s.own n = some t → ¬ C t) → m.pg n = s.pg n) := by
  induction h with
  | refl => exact ⟨by rw [List.append_nil]; exact hL, fun e h => (by cases h), fun f => by rw [List.append_nil], rfl, rfl, fun _ _ => rfl, fun _ => Iff.rfl, fun _ _ => rfl⟩
  | @snoc B m m' e h hk hC hs ih =>
    obtain ⟨a1, a2, a3, a4, a5, a6, a7, a8⟩ := ih
    have hI := inv_log a1
    obtain ⟨o1, o2, o3, o4⟩ := step_own hI hs (.inr hk)
    refine ⟨by rw [← List.append_assoc]; exact .snoc a1 hs, fun y hy => ?_, fun f => ?_, by rw [o4, a4], ?_, fun t ht => ?_, fun t => ?_, fun n hn => ?_⟩
    · rcases List.mem_append.1 hy with hy | hy
      · exact a2 y hy
      · have : y = e := by simpa using hy
        rw [this]; exact ⟨hk, hC⟩
    · rw [← List.append_assoc, fold_snoc, if_neg (by omega), a3]
    · funext n
      rw [← a5]
      by_cases hn : n = e.page
      · cases hs with
        | @change i' hk2 => omega
        | @undo x r i' => rfl
        | end_ hk2 => omega
      · exact o3 n hn
    · rw [← a6 t ht]
      cases hs with
      | @change i' hk2 => omega
      | @undo x r i' =>
        dsimp only
        rw [upd_ne _ _ fun h => ht (by rw [h]; exact hC)]
      | end_ hk2 => omega
    · rw [← a7 t]
      have hl0 := hI.lst e.t
      cases hs with
      | @change i' hk2 => omega
      | @undo x r i' _ _ _ h1 hst =>
        dsimp only
        by_cases ht : t = e.t
        · subst ht
          rw [upd_same]
          have hx := hI.chain e.t (m.last e.t) x r (by rw [hI.hst]; assumption)
          omega
        · rw [upd_ne _ _ ht]
      | end_ hk2 => omega
    · rw [← a8 n hn]
      refine (step_page hI hs n).1 fun hc => ?_
      rw [hc.2] at o2 o1
      rcases o1 with o1 | o1
      · cases hs with
        | @change i' hk2 => omega
        | @undo x r i' =>
          dsimp only at o2
          rw [o1] at o2; cases o2
        | end_ hk2 => omega
      · rw [a5] at o1
        exact hn _ o1 hC
/-! ### Ends -/
variable (G) in
/-- Ends of some, one behind the other -/
inductive Fin (s : St T S I) : List (En T S) → St T S I → Prop
  | refl : Fin s [] s
  | snoc {B : List (En T S)} {m m' : St T S I} {e : En T S} (h : Fin s B m) (hk : e.kind = 4) (hs : Step G m e m') : Fin s (B ++ [e]) m'
theorem fin_is {i0 : I} {L B : List (En T S)} {s m : St T S I} (hL : Log G i0 L s) (h : Fin G s B m) :
    Log G i0 (L ++ B) m ∧ (∀ e ∈ B, e.kind = 4) ∧ (∀ f, foldA (L ++ B) f = foldA L f) ∧ m.pg = s.pg ∧ (∀ t, m.ended t = true ↔ s.ended t = true ∨ ∃ e ∈ B, e.t = t) ∧ (∀ t, (∀ e ∈ B, e.t ≠ t) → m.stk t = s.stk t ∧ m.last t = s.last t) ∧
      (∀ n, m.own n = match s.own n with | some t => if m.ended t = true then none else some t | none => none) := by
  induction h with
  | refl =>
    refine ⟨by rw [List.append_nil]; exact hL, fun e h => (by cases h), fun f => by rw [List.append_nil], rfl, fun t => ⟨.inl, fun h => h.resolve_right fun ⟨e, h, _⟩ => (by cases h)⟩, fun _ _ => ⟨rfl, rfl⟩, fun n => ?_⟩
    cases hn : s.own n with
    | none => rfl
    | some t => dsimp only; rw [if_neg (by rw [((inv_log hL).live n t hn).1]; simp)]
  | @snoc B m m' e h hk hs ih =>
    obtain ⟨a1, a2, a3, a4, a5, a6, a7⟩ := ih
    obtain ⟨q1, q2, q3, q4, q5, q6⟩ := step_end hs (by omega)
    have hen : ∀ t, m'.ended t = true ↔ m.ended t = true ∨ t = e.t := fun t => by
      rw [q2]
      by_cases ht : t = e.t
      · rw [ht, upd_same]; exact ⟨fun _ => .inr rfl, fun _ => rfl⟩
      · rw [upd_ne _ _ ht]; exact ⟨.inl, fun h => h.resolve_right ht⟩
    refine ⟨by rw [← List.append_assoc]; exact .snoc a1 hs, fun y hy => ?_, fun f => ?_, by rw [q1, a4], fun t => ?_, fun t ht => ?_, fun n => ?_⟩
    · rcases List.mem_append.1 hy with hy | hy
      · exact a2 y hy
      · have : y = e := by simpa using hy
        rw [this]; exact hk
    · rw [← List.append_assoc, fold_snoc, if_neg (by omega), a3]
    · rw [hen, a5]
      constructor
      · rintro ((h | ⟨y, hy, h⟩) | h)
        · exact .inl h
        · exact .inr ⟨y, List.mem_append_left _ hy, h⟩
        · exact .inr ⟨e, by simp, h.symm⟩
      · rintro (h | ⟨y, hy, h⟩)
        · exact .inl (.inl h)
        · rcases List.mem_append.1 hy with hy | hy
          · exact .inl (.inr ⟨y, hy, h⟩)
          · have : y = e := by simpa using hy
            rw [this] at h
            exact .inr h.symm
    · have h1 := a6 t fun y hy => ht y (List.mem_append_left _ hy)
      have hte : t ≠ e.t := fun h => ht e (by simp) h.symm
      rw [← h1.1, ← h1.2]
      cases hs with
      | @change i' hk2 => omega
      | @undo x r i' hk2 => omega
      | end_ => dsimp only; exact ⟨upd_ne _ _ hte, upd_ne _ _ hte⟩
    · have a7n := a7 n
      rw [q3]
      generalize m.own n = o at a7n ⊢
      cases hn : s.own n with
      | none => rw [hn] at a7n; dsimp only at a7n; rw [a7n]; rfl
      | some t =>
        rw [hn] at a7n
        dsimp only at a7n ⊢
        by_cases h1 : m.ended t = true
        · rw [if_pos h1] at a7n
          subst a7n
          rw [if_pos ((hen t).2 (.inl h1)), if_neg (by simp)]
        · rw [if_neg h1] at a7n
          subst a7n
          by_cases h2 : t = e.t
          · rw [if_pos (by rw [h2]), if_pos ((hen t).2 (.inr h2))]
          · rw [if_neg (fun h => h2 (by injection h)), if_neg fun h => ((hen t).1 h).elim h1 h2]
/-- A RESTART: all that counts is undone: just what was committed stands there -/
theorem restart {i0 : I} {L B F : List (En T S)} {s m z : St T S I} (hL : Log G i0 L s) (hB : Run G (fun _ => True) L s B m) (hF : Fin G m F z) (hall : ∀ t, m.ended t = false → m.stk t = []) (n k : Int) :
    G.at_ (z.pg n).2 k = foldA L (fun _ k => G.at_ i0 k) n k := by
  obtain ⟨a1, a2, a3, a4, a5, a6, a7, a8⟩ := run_is hL hB
  obtain ⟨b1, b2, b3, b4, b5, b6, b7⟩ := fin_is a1 hF
  have hz : ownStk m n = [] := by
    unfold ownStk
    cases hn : m.own n with
    | none => rfl
    | some t => exact hall t ((inv_log a1).live n t hn).1
  rw [b4, fold_clean a1 n hz, a3]
end
end Go.Proofs.YtkeocnhndnbamaaGreat.MLog
