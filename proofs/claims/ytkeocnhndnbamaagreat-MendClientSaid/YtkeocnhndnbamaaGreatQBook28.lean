/- The rounds of undoing, on plain data: what each keeps, and the plan that comes of it. The end of the undoing, on plain data: all that counts of the losers is undone, and they are at their end; so the plan holds. -/
import Derived.Test.YtkeocnhndnbamaaGreatQBook27
namespace Go.Proofs.YtkeocnhndnbamaaGreat.Mend
set_option maxRecDepth 100000
open Go.Proofs.YtkeocnhndnbamaaGreat.Slab (Slot)
open Go.Proofs.YtkeocnhndnbamaaGreat.Ent (Ent goodB longB SmallE noE)
open Go.Proofs.YtkeocnhndnbamaaGreat.Past (T3 txE ofL SmT)
open Go.Proofs.YtkeocnhndnbamaaGreat.MLog
open Go.Proofs.YtkeocnhndnbamaaGreat.Latch (Sm sm_of)
open Go.Proofs.YtkeocnhndnbamaaGreat.Patch (turnY turnB redoCode redoN redoZ)
theorem sum_upd {τ β : Type} [DecidableEq τ] (f : τ → List β) (a : τ) (v : List β) : ∀ (T : List τ), T.Nodup → (T.map fun t => (upd f a v t).length).sum + (if a ∈ T then (f a).length else 0) = (T.map fun t => (f t).length).sum + (if a ∈ T then v.length else 0)
  | [], _ => by simp
  | t :: r, h => by
    obtain ⟨h1, h2⟩ := List.nodup_cons.1 h
    have ih := sum_upd f a v r h2
    rw [List.map_cons, List.map_cons, List.sum_cons, List.sum_cons]
    by_cases e : t = a
    · subst e
      rw [upd_same, if_pos List.mem_cons_self, if_pos List.mem_cons_self]
      rw [if_neg h1, if_neg h1] at ih
      omega
    · rw [upd_ne _ _ e]
      have hm : a ∈ t :: r ↔ a ∈ r := by simp [Ne.symm e]
      by_cases hr : a ∈ r
      · rw [if_pos (hm.2 hr), if_pos (hm.2 hr)]
        rw [if_pos hr, if_pos hr] at ih
        omega
      · rw [if_neg fun x => hr (hm.1 x), if_neg fun x => hr (hm.1 x)]
        rw [if_neg hr, if_neg hr] at ih
        omega
theorem log_sum {T S I : Type} [DecidableEq T] {G : Img I S} {j0 : I} {L : List (En T S)} {s : St T S I} (h : Log G j0 L s) (ts : List T) (hn : ts.Nodup) : (ts.map fun t => (s.stk t).length).sum ≤ L.length := by
  induction h with
  | nil =>
    have : ∀ ts : List T, (ts.map fun t => ((st0 j0 : St T S I).stk t).length).sum = 0 := fun ts => by
      induction ts with
      | nil => rfl
      | cons a r ih => rw [List.map_cons, List.sum_cons, ih]; rfl
    rw [this]; exact Nat.zero_le _
  | @snoc L s s' e hL hs ih =>
    rw [List.length_append, List.length_singleton]
    cases hs with
    | @change i' hk =>
      have := sum_upd s.stk e.t (e :: s.stk e.t) ts hn
      dsimp only
      rw [List.length_cons] at this
      by_cases hm : e.t ∈ ts
      · rw [if_pos hm, if_pos hm] at this; omega
      · rw [if_neg hm, if_neg hm] at this; omega
    | @undo x r i' hk he hp h1 h2 hst =>
      have := sum_upd s.stk e.t r ts hn
      dsimp only
      rw [hst, List.length_cons] at this
      by_cases hm : e.t ∈ ts
      · rw [if_pos hm, if_pos hm] at this; omega
      · rw [if_neg hm, if_neg hm] at this; omega
    | end_ hk =>
      have := sum_upd s.stk e.t [] ts hn
      dsimp only
      rw [List.length_nil] at this
      by_cases hm : e.t ∈ ts
      · rw [if_pos hm, if_pos hm] at this; omega
      · rw [if_neg hm, if_neg hm] at this; omega
theorem log_last {T S I : Type} [DecidableEq T] {G : Img I S} {j0 : I} {L : List (En T S)} {s : St T S I} (h : Log G j0 L s) {K : Int} (h0 : 0 ≤ K) : (∀ e ∈ L, e.lsn ≤ K) → (∀ t, s.last t ≤ K) := by
  induction h with
  | nil => exact fun _ _ => h0
  | @snoc L s s' e hL hs ih =>
    intro hk t
    rw [(step_last hs).1]
    by_cases ht : t = e.t
    · rw [ht, upd_same]; exact hk e (by simp)
    · rw [upd_ne _ _ ht]; exact ih (fun y hy => hk y (List.mem_append_left _ hy)) t
theorem log_page {T S I : Type} [DecidableEq T] {G : Img I S} {j0 : I} {L : List (En T S)} {s : St T S I} (h : Log G j0 L s) {K : Int} (h0 : 0 ≤ K) (hk : ∀ e ∈ L, e.lsn ≤ K) (n : Int) : (s.pg n).1 ≤ K := by
  rcases pg_ent h n with h1 | ⟨e, he, h1⟩
  · omega
  · rw [← h1]; exact hk e he
/-- what stays -/
structure Cx (C : T3 → Prop) (L : List Ent) (s : St T3 Slot Im) (ls : List Lf) (K : Int) (T : List T3) : Prop where
  log : Log G i0 (L.map enE) s
  good : ∀ x ∈ L, goodB x = true
  lsn : ∀ x ∈ L, x.lsn ≤ K
  k : 0 ≤ K ∧ K ≤ 1000000
  len : L.length ≤ 1000
  ok : PagesOK ls
  fit : Fits L ls
  pgs : ∀ x ∈ ls, x.l = (s.pg x.n).1 ∧ x.z = (s.pg x.n).2.1
  tn : T.Nodup
  tm : ∀ t, t ∈ T ↔ C t ∧ 0 < s.last t ∧ s.ended t = false
section
variable {C : T3 → Prop} {L : List Ent} {s m : St T3 Slot Im} {ls : List Lf} {K : Int} {T : List T3} {n : Nat} {Z : List LZ} {Q : List Nat} {P : List Ro} {A : List Ent}
theorem Cx.ent (cx : Cx C L s ls K T) {t : T3} (ht : t ∈ T) : ∃ x ∈ L, txE x = t := by
  obtain ⟨e, he, h1⟩ := (ended_log cx.log t).2.1.1 ((cx.tm t).1 ht).2.1
  obtain ⟨x, hx, rfl⟩ := mem_map he
  exact ⟨x, hx, h1⟩
theorem Cx.tlen (cx : Cx C L s ls K T) : T.length ≤ L.length := by
  have := nodup_len T (L.map txE) cx.tn fun t ht => by
    obtain ⟨x, hx, h⟩ := cx.ent ht
    exact List.mem_map.2 ⟨x, hx, h⟩
  rwa [List.length_map] at this
/-- what each round keeps -/
structure JP (C : T3 → Prop) (L : List Ent) (s : St T3 Slot Im) (ls : List Lf) (K : Int) (T : List T3) (n : Nat) (Z : List LZ) (Q : List Nat) (P : List Ro) (A : List Ent) (m : St T3 Slot Im) : Prop where
  run : Run G C (L.map enE) s (A.map enE) m
  pg : P.map (·.x) = ls.map fun x => ⟨x.n, (m.pg x.n).1, (m.pg x.n).2.1⟩
  ts : Z.map (·.t) = T
  bn : (bsOf Z).Nodup
  last : ∀ z ∈ Z, z.last = m.last z.t
  nx : ∀ z ∈ Z, (m.stk z.t = [] ∧ z.b ∉ Q) ∨ (z.b ∈ Q ∧ z.nx ∈ L ∧ ∃ r, m.stk z.t = enE z.nx :: r)
  qz : ∀ q ∈ Q, ∃ z ∈ Z, z.b = q
  qn : Q.Nodup
  num : (T.map fun t => (m.stk t).length).sum = n
  len : A.length + n ≤ L.length
  lst : (∀ t, m.last t ≤ K + A.length) ∧ ∀ p, (m.pg p).1 ≤ K + A.length
  good : ∀ x ∈ A, goodB x = true ∧ x.lsn ≤ K + L.length
theorem JP.qlen (h : JP C L s ls K T n Z Q P A m) : Q.length ≤ T.length := by
  have := nodup_len Q (bsOf Z) h.qn fun q hq => by
    obtain ⟨z, hz, rfl⟩ := h.qz q hq
    exact List.mem_map_of_mem hz
  rw [← h.ts, List.length_map]
  rwa [show (bsOf Z).length = Z.length by unfold bsOf; rw [List.length_map]] at this
theorem name_in (h : JP C L s ls K T n Z Q P A m) {z : LZ} (hz : z ∈ Z) : z.t ∈ T := by rw [← h.ts]; exact List.mem_map_of_mem hz
theorem t_inj (hn : (Z.map (·.t)).Nodup) {i j : Nat} {z y : LZ} (hi : Z[i]? = some z) (hj : Z[j]? = some y) (h : z.t = y.t) : i = j := by
  obtain ⟨l1, e1⟩ := List.getElem?_eq_some_iff.1 hi
  obtain ⟨l2, e2⟩ := List.getElem?_eq_some_iff.1 hj
  have hp := List.pairwise_iff_getElem.1 hn
  rcases Nat.lt_trichotomy i j with h1 | h1 | h1
  · have := hp i j (by rw [List.length_map]; exact l1) (by rw [List.length_map]; exact l2) h1
    rw [List.getElem_map, List.getElem_map, e1, e2] at this
    exact absurd h this
  · exact h1
  · have := hp j i (by rw [List.length_map]; exact l2) (by rw [List.length_map]; exact l1) h1
    rw [List.getElem_map, List.getElem_map, e1, e2] at this
    exact absurd h.symm this
theorem b_inj (hn : (bsOf Z).Nodup) {i j : Nat} {z y : LZ} (hi : Z[i]? = some z) (hj : Z[j]? = some y) (h : z.b = y.b) : i = j := by
  obtain ⟨l1, e1⟩ := List.getElem?_eq_some_iff.1 hi
  obtain ⟨l2, e2⟩ := List.getElem?_eq_some_iff.1 hj
  unfold bsOf at hn
  have hp := List.pairwise_iff_getElem.1 hn
  rcases Nat.lt_trichotomy i j with h1 | h1 | h1
  · have := hp i j (by rw [List.length_map]; exact l1) (by rw [List.length_map]; exact l2) h1
    rw [List.getElem_map, List.getElem_map, e1, e2] at this
    exact absurd h this
  · exact h1
  · have := hp j i (by rw [List.length_map]; exact l2) (by rw [List.length_map]; exact l1) h1
    rw [List.getElem_map, List.getElem_map, e1, e2] at this
    exact absurd h.symm this
theorem set_at {Z : List LZ} {i : Nat} {z' y : LZ} (hy : y ∈ Z.set i z') : y = z' ∨ ∃ j, j ≠ i ∧ Z[j]? = some y := by
  obtain ⟨j, hj⟩ := List.mem_iff_getElem?.1 hy
  rw [List.getElem?_set] at hj
  by_cases e : i = j
  · rw [if_pos e] at hj
    split at hj
    · injection hj with hj; exact .inl hj.symm
    · cases hj
  · rw [if_neg e] at hj
    exact .inr ⟨j, fun h => e h.symm, hj⟩
theorem set_has {Z : List LZ} {i j : Nat} {z' y : LZ} (hj : Z[j]? = some y) (hne : j ≠ i) : y ∈ Z.set i z' := by
  refine List.mem_iff_getElem?.2 ⟨j, ?_⟩
  rw [List.getElem?_set, if_neg fun e => hne e.symm]; exact hj
theorem nz_t (L : List Ent) (z : LZ) (o : Option Ent) : (nzO L z o).t = z.t ∧ (nzO L z o).last = z.last := by cases o <;> exact ⟨rfl, rfl⟩
theorem ts_set {Z : List LZ} {i : Nat} {z z' : LZ} (hz : Z[i]? = some z) (hb : z'.t = z.t) : (Z.set i z').map (·.t) = Z.map (·.t) := by
  rw [List.map_set, hb]
  refine List.ext_getElem? fun j => ?_
  rw [List.getElem?_set]
  by_cases e : i = j
  · subst e
    rw [if_pos rfl, List.getElem?_map, hz, List.length_map, if_pos (List.getElem?_eq_some_iff.1 hz).1]; rfl
  · rw [if_neg e]
theorem map_set_at {Z : List Ro} {i : Nat} {z' : Ro} : (Z.set i z').map (·.x) = (Z.map (·.x)).set i z'.x := List.map_set
/-- a round -/
theorem JP.step (cx : Cx C L s ls K T) (h : JP C L s ls K T n Z Q P A m) {p : Nat} {Q' : List Nat} (hq : (p :: Q').Perm Q) :
    ∃ n' i z k y lsn x o, n' < n ∧ UO L ls (fun n Z Q P A => ∃ m, JP C L s ls K T n Z Q P A m) n' Z Q' P A p i z k y lsn x o := by
  have hp : p ∈ Q := hq.subset List.mem_cons_self
  obtain ⟨z, hz, hzb⟩ := h.qz p hp
  obtain ⟨i, hi⟩ := List.mem_iff_getElem?.1 hz
  rcases h.nx z hz with ⟨-, hq0⟩ | ⟨-, hnx, r, hr⟩
  · exact absurd (hzb ▸ hp) hq0
  obtain ⟨a1, a2, a3, a4, a5, a6, a7, a8⟩ := run_is cx.log h.run
  have hI := inv_log a1
  have hg := cx.good z.nx hnx
  have hmem := hI.mem z.t (enE z.nx) (by rw [hr]; exact List.mem_cons_self)
  have hk : z.nx.kind = 1 := (kind_nat hg).1.1 hmem.2.1
  have htx : txE z.nx = z.t := hmem.1
  have hlz := h.last z hz
  have hlb : longB z.nx.kind = true := by rw [hk]; rfl
  obtain ⟨k, hkx⟩ := Option.ne_none_iff_exists'.1 ((cx.fit _ hnx).2 hlb)
  obtain ⟨x0, hx0, hxn⟩ := idx_some hkx
  have hPk : (P.map (·.x))[k]? = some ⟨x0.n, (m.pg x0.n).1, (m.pg x0.n).2.1⟩ := by rw [h.pg, List.getElem?_map, hx0]; rfl
  rw [List.getElem?_map] at hPk
  obtain ⟨y, hy, hyx⟩ := Option.map_eq_some_iff.1 hPk
  rw [hxn] at hyx
  have hyl : y.x.l = (m.pg z.nx.page).1 := by rw [hyx]
  have hyz : y.x.z = (m.pg z.nx.page).2.1 := by rw [hyx]
  have hyn : y.x.n = z.nx.page := by rw [hyx]
  obtain ⟨lsn, hlsn⟩ : ∃ lsn, 1 + max y.x.l z.last = lsn := ⟨_, rfl⟩
  have l1 : m.last z.t < lsn := by omega
  have l2 : (m.pg z.nx.page).1 < lsn := by omega
  have b0 := hI.lst z.t
  have b1 := hI.pgs z.nx.page
  have b2 := h.lst.1 z.t
  have b3 := h.lst.2 z.nx.page
  have hlen := h.len
  have hLl := cx.len
  have hK := cx.k
  have l3 : lsn ≤ K + A.length + 1 := by omega
  have hn1 : 1 ≤ n := by
    rw [← h.num]
    have := sum_upd m.stk z.t [] T cx.tn
    rw [if_pos (name_in h hz), if_pos (name_in h hz), hr, List.length_cons, List.length_nil] at this
    omega
  have l4 : lsn ≤ 1099511627776 := by omega
  obtain ⟨-, i', s1, s2, s3⟩ := undo_step a1 hr l1 l2
  have hc := hI.chain z.t (m.last z.t) (enE z.nx) r (by rw [hI.hst]; exact hr)
  have c1 : m.hist z.t z.nx.prev = r := hc.1
  have c2 : z.nx.lsn ≤ m.last z.t := hc.2.1
  have c3 : 0 ≤ z.nx.prev := hc.2.2.1
  have c4 : z.nx.prev < z.nx.lsn := hc.2.2.2.1
  have hle := log_last cx.log cx.k.1 (fun e he => by obtain ⟨x, hx, rfl⟩ := mem_map he; exact cx.lsn x hx) z.t
  have hsl : z.nx.lsn ≤ s.last z.t := by
    have := (own_log cx.log).lsn (enE z.nx) (List.mem_map_of_mem hnx)
    have h2 : z.nx.lsn ≤ s.last (txE z.nx) := this.2
    rwa [htx] at h2
  have c5 : s.hist z.t z.nx.prev = r := by rw [← (run_hist h.run).2 z.t _ (by omega)]; exact c1
  obtain ⟨o, ho1, ho2⟩ : ∃ o, leadL L z.t z.nx.prev = some o ∧ ((o = none ∧ r = []) ∨ ∃ v r', o = some v ∧ v ∈ L ∧ r = enE v :: r') := by
    rcases lead_is cx.good cx.log hnx hk with ⟨d1, d2⟩ | ⟨v, hv, r', d1, d2⟩
    · rw [htx] at d1 d2
      exact ⟨none, d2, .inl ⟨rfl, by rw [← c5]; exact d1⟩⟩
    · rw [htx] at d1 d2
      exact ⟨some v, d2, .inr ⟨v, r', rfl, hv, by rw [← c5]; exact d1⟩⟩
  obtain ⟨r1, r2, r3⟩ := undo_redo (i := (m.pg z.nx.page).2) (l := (m.pg z.nx.page).1) (lsn := lsn) (p := m.last z.t) hg hk c2 l1 l4 b1 l2 s1 s2
  have hgt := turn_good hg hk (lsn := lsn) c2 l1 l4
  refine ⟨n - 1, i, z, k, y, lsn, turnY z.nx lsn z.last, o, by omega, ⟨hi, hzb, hy, hkx, sm_of (by have := (Ent.ch_parts (Ent.good_long hg hlb).2.1).1; omega), hlsn, by omega, by omega, l4, good_small hg, rfl, by rw [hlz]; exact turn_is hg hk c2 l1 l4, by rw [hyl, hyz, hlz]; exact r1, ?_, by omega, ?_, by omega, ho1, ?_, ?_, ?_⟩⟩
  · rw [hyl, hyz, hlz, r3]
    have := (Slab.good_parts i'.2).2.2.1
    omega
  · rw [← htx]; exact Past.good_tx hg
  · intro x' e
    rcases ho2 with ⟨e1, -⟩ | ⟨v, r', e1, hv, hr'⟩
    · rw [e1] at e; cases e
    · rw [e1] at e
      injection e with e
      subst e
      have hgv := cx.good v hv
      have := hI.mem z.t (enE v) (by rw [hr, hr']; simp)
      exact ⟨(kind_nat hgv).1.1 this.2.1, hgv⟩
  · have h1 := hq.length_eq
    have h2 := h.qlen
    have h3 := cx.tlen
    rw [List.length_cons] at h1
    omega
  · intro y' Q2 hy' hQ2
    rw [hyl, hyz, hlz, r2, r3] at hy'
    rw [List.set_set]
    have hbs : (nzO L { z with last := lsn } o).b = z.b := by rw [nz_b]
    have hqn : (p :: Q').Nodup := hq.nodup_iff.2 h.qn
    obtain ⟨q1, q2⟩ := List.nodup_cons.1 hqn
    have hmq : ∀ q, q ∈ Q ↔ q = p ∨ q ∈ Q' := fun q => by rw [← hq.mem_iff, List.mem_cons]
    have hbo : ∀ q, q ∈ bO z o ↔ q = p ∧ o.isSome = true := fun q => by
      unfold bO
      split
      · rename_i ho; simp [ho, hzb]
      · rename_i ho; simp [ho]
    have hm2 : ∀ q, q ∈ Q2 ↔ q ∈ Q' ∨ (q = p ∧ o.isSome = true) := fun q => by rw [hQ2.mem_iff, List.mem_append, hbo]
    have htt := (nz_t L { z with last := lsn } o).1
    have hel : ∀ y2 ∈ Z.set i (nzO L { z with last := lsn } o), y2 = nzO L { z with last := lsn } o ∨ (∃ j, j ≠ i ∧ Z[j]? = some y2 ∧ y2.t ≠ z.t ∧ y2.b ≠ p) := fun y2 h2 => by
      rcases set_at h2 with h2 | ⟨j, hj, h2⟩
      · exact .inl h2
      · exact .inr ⟨j, hj, h2, fun e => hj (t_inj (by rw [h.ts]; exact cx.tn) h2 hi e), fun e => hj (b_inj h.bn h2 hi (by rw [e, hzb]))⟩
    refine ⟨⟨upd m.pg z.nx.page (lsn, i'), upd m.last z.t lsn, upd m.stk z.t r, upd m.hist z.t (upd (m.hist z.t) lsn r), m.ended, m.own⟩, ?_, ?_, ?_, ?_, ?_, ?_, ?_, ?_, ?_, ?_, ?_, ?_⟩
    · rw [List.map_append, hlz]
      exact .snoc h.run rfl (by show C (txE z.nx); rw [htx]; exact ((cx.tm _).1 (name_in h hz)).1) s3
    · rw [map_set_at, h.pg, hy']
      refine List.ext_getElem? fun j => ?_
      rw [List.getElem?_set, List.getElem?_map, List.getElem?_map, List.length_map]
      by_cases e : k = j
      · subst e
        rw [if_pos rfl, if_pos (List.getElem?_eq_some_iff.1 hx0).1, hx0]
        simp only [Option.map_some, hxn, upd_same, hyn]
      · rw [if_neg e]
        cases hlj : ls[j]? with
        | none => rfl
        | some x =>
          have hne : x.n ≠ z.nx.page := fun e2 => by
            have := idx_is cx.ok.apart hlj
            rw [e2, hkx] at this
            injection this with this
            exact e this
          simp only [Option.map_some, upd_ne _ _ hne]
    · rw [ts_set hi htt, h.ts]
    · rw [bs_set hi hbs]; exact h.bn
    · intro y2 h2
      rcases hel y2 h2 with rfl | ⟨j, -, hj, ht, -⟩
      · rw [(nz_t L _ o).1, (nz_t L _ o).2]
        show lsn = upd m.last z.t lsn z.t
        rw [upd_same]
      · show y2.last = upd m.last z.t lsn y2.t
        rw [upd_ne _ _ ht]; exact h.last y2 (List.mem_of_getElem? hj)
    · intro y2 h2
      rcases hel y2 h2 with rfl | ⟨j, -, hj, ht, hbp⟩
      · show (upd m.stk z.t r (nzO L { z with last := lsn } o).t = [] ∧ _) ∨ (_ ∧ _ ∧ ∃ r2, upd m.stk z.t r (nzO L { z with last := lsn } o).t = _)
        rw [htt, hbs, upd_same, hzb]
        rcases ho2 with ⟨e1, e2⟩ | ⟨v, r', e1, hv, hr'⟩
        · exact .inl ⟨e2, fun hh => ((hm2 p).1 hh).elim q1 fun h3 => by rw [e1] at h3; cases h3.2⟩
        · exact .inr ⟨(hm2 p).2 (.inr ⟨rfl, by rw [e1]; rfl⟩), by rw [e1]; exact hv, r', by rw [e1, hr']; rfl⟩
      · show (upd m.stk z.t r y2.t = [] ∧ _) ∨ (_ ∧ _ ∧ ∃ r2, upd m.stk z.t r y2.t = _)
        rw [upd_ne _ _ ht]
        rcases h.nx y2 (List.mem_of_getElem? hj) with ⟨e1, e2⟩ | ⟨e1, e2⟩
        · exact .inl ⟨e1, fun hh => ((hm2 _).1 hh).elim (fun h3 => e2 ((hmq _).2 (.inr h3))) fun h3 => hbp h3.1⟩
        · exact .inr ⟨(hm2 _).2 (.inl (((hmq _).1 e1).resolve_left hbp)), e2⟩
    · intro q hq2
      have hqQ : q ∈ Q := by
        rcases (hm2 q).1 hq2 with h3 | h3
        · exact (hmq q).2 (.inr h3)
        · rw [h3.1]; exact hp
      obtain ⟨z2, hz2, hzq⟩ := h.qz q hqQ
      obtain ⟨j, hj⟩ := List.mem_iff_getElem?.1 hz2
      by_cases e : j = i
      · subst e
        rw [hi] at hj
        injection hj with hj
        subst hj
        exact ⟨_, List.mem_iff_getElem?.2 ⟨j, by rw [List.getElem?_set, if_pos rfl, if_pos (List.getElem?_eq_some_iff.1 hi).1]⟩, by rw [hbs]; exact hzq⟩
      · exact ⟨z2, set_has hj e, hzq⟩
    · rw [hQ2.nodup_iff, List.nodup_append]
      refine ⟨q2, ?_, fun a ha b hb e => ?_⟩
      · unfold bO; split <;> simp
      · subst e
        rw [((hbo a).1 hb).1] at ha
        exact q1 ha
    · have := sum_upd m.stk z.t r T cx.tn
      rw [if_pos (name_in h hz), if_pos (name_in h hz), hr, List.length_cons, h.num] at this
      show (T.map fun t => (upd m.stk z.t r t).length).sum = n - 1
      omega
    · rw [List.length_append, List.length_singleton]; omega
    · rw [List.length_append, List.length_singleton]
      refine ⟨fun t => ?_, fun p2 => ?_⟩
      · show upd m.last z.t lsn t ≤ _
        by_cases ht : t = z.t
        · rw [ht, upd_same]; omega
        · rw [upd_ne _ _ ht]; have := h.lst.1 t; omega
      · show (upd m.pg z.nx.page (lsn, i') p2).1 ≤ _
        by_cases ht : p2 = z.nx.page
        · rw [ht, upd_same]; dsimp only; omega
        · rw [upd_ne _ _ ht]; have := h.lst.2 p2; omega
    · intro x hx
      rcases List.mem_append.1 hx with hx | hx
      · exact h.good x hx
      · have : x = turnY z.nx lsn z.last := by simpa using hx
        rw [this, hlz]
        exact ⟨hgt, by show lsn ≤ _; omega⟩
end
end Go.Proofs.YtkeocnhndnbamaaGreat.Mend
namespace Go.Proofs.YtkeocnhndnbamaaGreat.Mend
set_option maxRecDepth 100000
open Go.Proofs.YtkeocnhndnbamaaGreat.Slab (Slot)
open Go.Proofs.YtkeocnhndnbamaaGreat.Ent (Ent goodB longB SmallE noE)
open Go.Proofs.YtkeocnhndnbamaaGreat.Past (T3 txE ofL SmT)
open Go.Proofs.YtkeocnhndnbamaaGreat.MLog
/-- what Undo, Restart leave: the entries added, the pages -/
def PostU (C : T3 → Prop) (L : List Ent) (s : St T3 Slot Im) (ls : List Lf) (K : Int) (E : List Ent) (R : List Lf) : Prop :=
  ∃ (B F : List Ent) (m z : St T3 Slot Im), E = B ++ F ∧ Undone C L s B F m z ∧ R = ls.map (fun x => ⟨x.n, (z.pg x.n).1, (z.pg x.n).2.1⟩) ∧ (∀ x ∈ E, x.lsn ≤ K + L.length + 1) ∧ E.length ≤ 2 * L.length
section
variable {C : T3 → Prop} {L : List Ent} {s m : St T3 Slot Im} {ls : List Lf} {K : Int} {T : List T3} {n : Nat} {Z : List LZ} {Q : List Nat} {P : List Ro} {A : List Ent}
theorem fins {LL : List (En T3 Slot)} (a1 : Log G i0 LL m) : ∀ (Zs : List LZ), (Zs.map (·.t)).Nodup → (∀ z ∈ Zs, m.ended z.t = false ∧ 0 < m.last z.t ∧ m.stk z.t = [] ∧ z.last = m.last z.t) → ∃ z', Fin G m ((Zs.map endE).map enE) z' := fun Zs => by
  refine snoc_ind (P := fun Zs => (Zs.map (·.t)).Nodup → (∀ z ∈ Zs, m.ended z.t = false ∧ 0 < m.last z.t ∧ m.stk z.t = [] ∧ z.last = m.last z.t) → ∃ z', Fin G m ((Zs.map endE).map enE) z') ?_ ?_ Zs
  · exact fun _ _ => ⟨m, .refl⟩
  · intro X z ih hn hz
    rw [List.map_append, List.nodup_append] at hn
    obtain ⟨n1, -, n3⟩ := hn
    obtain ⟨z1, h1⟩ := ih n1 fun y hy => hz y (List.mem_append_left _ hy)
    obtain ⟨b1, b2, b3, b4, b5, b6, b7⟩ := fin_is a1 h1
    obtain ⟨z5, z6, z7, z8⟩ := hz z (by simp)
    have hno : ∀ e ∈ (X.map endE).map enE, e.t ≠ z.t := fun e he h => by
      obtain ⟨y, hy, rfl⟩ := List.mem_map.1 he
      obtain ⟨x, hx, rfl⟩ := List.mem_map.1 hy
      exact n3 x.t (List.mem_map_of_mem hx) z.t (by simp) h
    obtain ⟨c1, c2⟩ := b6 z.t hno
    have hen : z1.ended z.t = false := by
      cases h : z1.ended z.t with
      | false => rfl
      | true =>
        rcases (b5 z.t).1 h with h | ⟨e, he, h⟩
        · rw [z5] at h; cases h
        · exact absurd h (hno e he)
    obtain ⟨z2, h2⟩ : ∃ z2, Step G z1 (enE (endE z)) z2 := ⟨_, Step.end_ (e := enE (endE z)) (.inr ⟨rfl, by show z1.stk z.t = []; rw [c1]; exact z7⟩) hen (by show 0 < z1.last z.t; rw [c2]; exact z6) (by show z.last = z1.last z.t; rw [c2]; exact z8) (by show z1.last z.t < z.last + 1; rw [c2]; omega)⟩
    refine ⟨z2, ?_⟩
    rw [List.map_append, List.map_append]
    exact .snoc h1 rfl h2
theorem Cx.name (cx : Cx C L s ls K T) {t : T3} (ht : t ∈ T) : (1 ≤ t.cl ∧ t.cl ≤ 8) ∧ (1 ≤ t.ep ∧ t.ep ≤ 1073741824) ∧ (1 ≤ t.n ∧ t.n ≤ 1073741824) := by
  obtain ⟨x, hx, rfl⟩ := cx.ent ht
  have hg := cx.good x hx
  have hh : Ent.headB x = true := by unfold goodB at hg; rw [Bool.and_eq_true] at hg; exact hg.1
  have := Ent.head_parts hh
  exact ⟨this.1, this.2.1, this.2.2.1⟩
theorem end_good {z : LZ} (ht : (1 ≤ z.t.cl ∧ z.t.cl ≤ 8) ∧ (1 ≤ z.t.ep ∧ z.t.ep ≤ 1073741824) ∧ (1 ≤ z.t.n ∧ z.t.n ≤ 1073741824)) (h0 : 0 ≤ z.last) (h1 : z.last < 1099511627776) : goodB (endE z) = true := by
  obtain ⟨b1, b2, b3⟩ := ht
  have hw : noE.wd.size = 0 := rfl
  have hi : noE.id.size = 0 := rfl
  unfold goodB Ent.headB Ent.knownB Ent.withinB Ent.bareB endE
  simp [hw, hi]
  omega
theorem JP.post (cx : Cx C L s ls K T) (h : JP C L s ls K T n Z [] P A m) :
    (∀ z ∈ Z, 0 ≤ z.last ∧ z.last < 1099511627776) ∧ Z.length ≤ 1000 ∧ A.length ≤ 800000 ∧ (∀ x ∈ A ++ Z.map endE, SmallE x) ∧ (∀ y ∈ P, -9223372036854775808 ≤ y.x.n ∧ y.x.n ≤ 9223372036854775807) ∧ PostU C L s ls K (A ++ Z.map endE) (P.map (·.x)) := by
  obtain ⟨a1, a2, a3, a4, a5, a6, a7, a8⟩ := run_is cx.log h.run
  have hI := inv_log a1
  have hlen := h.len
  have hLl := cx.len
  have hK := cx.k
  have hTl := cx.tlen
  have hZl : Z.length = T.length := by rw [← h.ts, List.length_map]
  have hempty : ∀ z ∈ Z, m.stk z.t = [] := fun z hz => by
    rcases h.nx z hz with h1 | h1
    · exact h1.1
    · exact absurd h1.1 (by simp)
  have hz0 : ∀ z ∈ Z, 0 ≤ z.last ∧ z.last ≤ K + A.length := fun z hz => by
    have h1 := h.last z hz
    have h2 := hI.lst z.t
    have h3 := h.lst.1 z.t
    omega
  have hgE : ∀ z ∈ Z, goodB (endE z) = true := fun z hz => end_good (cx.name (name_in h hz)) (hz0 z hz).1 (by have := (hz0 z hz).2; omega)
  have hgood : ∀ x ∈ A ++ Z.map endE, goodB x = true := fun x hx => by
    rcases List.mem_append.1 hx with hx | hx
    · exact (h.good x hx).1
    · obtain ⟨z, hz, rfl⟩ := List.mem_map.1 hx
      exact hgE z hz
  obtain ⟨zz, hf⟩ := fins a1 Z (by rw [h.ts]; exact cx.tn) fun z hz => by
    have h1 := (cx.tm z.t).1 (name_in h hz)
    exact ⟨by rw [a4]; exact h1.2.2, (a7 z.t).2 h1.2.1, hempty z hz, h.last z hz⟩
  obtain ⟨b1, b2, b3, b4, b5, b6, b7⟩ := fin_is a1 hf
  have hin : ∀ t, t ∈ T → ∃ z ∈ Z, z.t = t := fun t ht => by rw [← h.ts] at ht; exact List.mem_map.1 ht
  refine ⟨fun z hz => ⟨(hz0 z hz).1, by have := (hz0 z hz).2; omega⟩, by omega, by omega, fun x hx => good_small (hgood x hx), fun y hy => ?_, A, Z.map endE, m, zz, rfl, ⟨h.run, hf, fun t hc he => ?_, fun e he => ?_, fun t hc hl => ?_, hgood⟩, ?_, fun x hx => ?_, ?_⟩
  · have : y.x ∈ P.map (·.x) := List.mem_map_of_mem hy
    rw [h.pg] at this
    obtain ⟨x, hx, e⟩ := List.mem_map.1 this
    have hn := cx.ok.num x hx
    have e2 : y.x.n = x.n := by rw [← e]
    unfold numB at hn
    simp at hn
    omega
  · by_cases h0 : 0 < s.last t
    · obtain ⟨z, hz, rfl⟩ := hin t ((cx.tm t).2 ⟨hc, h0, by rw [← a4]; exact he⟩)
      exact hempty z hz
    · have h1 : ¬ 0 < m.last t := fun h2 => h0 ((a7 t).1 h2)
      have h2 := hI.lst t
      have h3 : m.last t = 0 := by omega
      rw [← hI.hst t, h3]
      exact hI.hst0 t
  · obtain ⟨z, hz, rfl⟩ := List.mem_map.1 he
    exact ((cx.tm z.t).1 (name_in h hz)).1
  · by_cases ht : t ∈ T
    · obtain ⟨z, hz, rfl⟩ := hin t ht
      exact (b5 z.t).2 (.inr ⟨enE (endE z), List.mem_map_of_mem (List.mem_map_of_mem hz), rfl⟩)
    · have hno : ∀ e ∈ (Z.map endE).map enE, e.t ≠ t := fun e he h1 => by
        obtain ⟨y, hy, rfl⟩ := List.mem_map.1 he
        obtain ⟨z, hz, rfl⟩ := List.mem_map.1 hy
        exact ht (by rw [← h1]; exact name_in h hz)
      rw [(b6 t hno).2] at hl
      have h1 := (a7 t).1 hl
      refine (b5 t).2 (.inl ?_)
      rw [a4]
      cases he : s.ended t with
      | true => rfl
      | false => exact absurd ((cx.tm t).2 ⟨hc, h1, he⟩) ht
  · rw [h.pg, b4]
  · rcases List.mem_append.1 hx with hx | hx
    · have := (h.good x hx).2; omega
    · obtain ⟨z, hz, rfl⟩ := List.mem_map.1 hx
      have := (hz0 z hz).2
      show z.last + 1 ≤ _
      omega
  · rw [List.length_append, List.length_map]; omega
theorem bo_sub (f : LZ → Option Ent) : ∀ Z : List LZ, (Z.flatMap fun z => bO z (f z)).Sublist (bsOf Z)
  | [] => List.Sublist.refl _
  | z :: r => by
    rw [List.flatMap_cons, show bsOf (z :: r) = z.b :: bsOf r from rfl]
    unfold bO
    split
    · exact (bo_sub f r).cons_cons _
    · exact (bo_sub f r).cons _
theorem plan_is (cx : Cx C L s ls K T) (hP : P.map (·.x) = ls) (hZ : Z.map (·.t) = T) (hl : ∀ z ∈ Z, z.last = s.last z.t) (hb : (bsOf Z).Nodup) : Plan L ls P Z (PostU C L s ls K) := by
  have hnx : ∀ z ∈ Z, nextL L z.t ≠ none := fun z hz => by
    rcases next_is cx.good cx.log z.t with ⟨-, h⟩ | ⟨y, -, r, -, h⟩ <;> rw [h] <;> simp
  have hin : ∀ z ∈ Z, z.t ∈ T := fun z hz => by rw [← hZ]; exact List.mem_map_of_mem hz
  have hZl : Z.length ≤ 1000 := by
    have h1 := cx.tlen
    have h2 := cx.len
    rw [← hZ, List.length_map] at h1
    omega
  refine ⟨hnx, fun z hz => ?_, hZl, fun n Z Q P A => ∃ m, JP C L s ls K T n Z Q P A m, (T.map fun t => (s.stk t).length).sum, fun Q hQ => ⟨s, ?_⟩, ?_, ?_, ?_⟩
  · obtain ⟨x, hx, e⟩ := cx.ent (hin z hz)
    rw [← e]; exact Past.good_tx (cx.good x hx)
  · have hmz : mapZ (nz1 L) Z Z.length = Z.map (nz1 L) := by unfold mapZ; rw [List.take_length, List.drop_length, List.append_nil]
    have hmem : ∀ q, q ∈ Q ↔ ∃ z ∈ Z, z.b = q ∧ (nxO L z.t).isSome = true := fun q => by
      rw [hQ.mem_iff, List.mem_flatMap]
      constructor
      · rintro ⟨z, hz, h⟩
        unfold bO at h
        split at h
        · rename_i hs; exact ⟨z, hz, (List.mem_singleton.1 h).symm, hs⟩
        · cases h
      · rintro ⟨z, hz, h1, h2⟩
        exact ⟨z, hz, by unfold bO; rw [if_pos h2, h1]; simp⟩
    have hbn : bsOf (mapZ (nz1 L) Z Z.length) = bsOf Z := mapZ_bs _ (fun z => nz_b L z _) Z _
    have hK0 := cx.k
    refine ⟨.refl, ?_, ?_, by rw [hbn]; exact hb, fun y hy => ?_, fun y hy => ?_, fun q hq => ?_, ?_, rfl, ?_, ?_, fun x hx => nomatch hx⟩
    · rw [hP]
      refine List.ext_getElem? fun j => ?_
      rw [List.getElem?_map]
      cases hj : ls[j]? with
      | none => rfl
      | some x =>
        obtain ⟨e1, e2⟩ := cx.pgs x (List.mem_of_getElem? hj)
        rw [Option.map_some, ← e1, ← e2]
    · rw [hmz, List.map_map, ← hZ]
      exact List.map_congr_left fun z _ => (nz_t L z _).1
    · rw [hmz] at hy
      obtain ⟨z, hz, rfl⟩ := List.mem_map.1 hy
      show (nzO L z _).last = s.last (nzO L z _).t
      rw [(nz_t L z _).1, (nz_t L z _).2]; exact hl z hz
    · rw [hmz] at hy
      obtain ⟨z, hz, rfl⟩ := List.mem_map.1 hy
      have e1 : (nz1 L z).t = z.t := (nz_t L z _).1
      have e2 : (nz1 L z).b = z.b := nz_b L z _
      rw [e1, e2]
      rcases next_is cx.good cx.log z.t with ⟨h1, h2⟩ | ⟨v, hv, r, h1, h2⟩
      · refine .inl ⟨h1, fun hq => ?_⟩
        obtain ⟨z2, hz2, h3, h4⟩ := (hmem _).1 hq
        obtain ⟨i, hi⟩ := List.mem_iff_getElem?.1 hz
        obtain ⟨j, hj⟩ := List.mem_iff_getElem?.1 hz2
        have := b_inj hb hj hi h3
        subst this
        rw [hi] at hj
        injection hj with hj
        subst hj
        unfold nxO at h4
        rw [h2] at h4
        cases h4
      · have h3 : nxO L z.t = some v := by unfold nxO; rw [h2]; rfl
        refine .inr ⟨(hmem _).2 ⟨z, hz, rfl, by rw [h3]; rfl⟩, ?_⟩
        unfold nz1
        rw [h3]
        exact ⟨hv, r, h1⟩
    · obtain ⟨z, hz, h1, -⟩ := (hmem q).1 hq
      rw [hmz]
      exact ⟨nz1 L z, List.mem_map_of_mem hz, (nz_b L z _).trans h1⟩
    · rw [hQ.nodup_iff]
      exact (bo_sub _ Z).nodup hb
    · have := log_sum cx.log T cx.tn
      rw [List.length_map] at this
      simpa using this
    · have hk : ∀ e ∈ L.map enE, e.lsn ≤ K := fun e he => by obtain ⟨x, hx, rfl⟩ := mem_map he; exact cx.lsn x hx
      refine ⟨fun t => ?_, fun p => ?_⟩
      · have := log_last cx.log hK0.1 hk t
        simpa using this
      · have := log_page cx.log hK0.1 hk p
        simpa using this
  · rintro n Z Q P A ⟨m, h⟩
    have := h.qlen
    have := cx.tlen
    have := cx.len
    omega
  · rintro n Z Q P A ⟨m, h⟩ p Q' hq
    exact h.step cx hq
  · rintro n Z P A ⟨m, h⟩
    exact h.post cx
end
end Go.Proofs.YtkeocnhndnbamaaGreat.Mend
