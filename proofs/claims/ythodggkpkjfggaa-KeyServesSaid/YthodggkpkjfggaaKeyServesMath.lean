/- Who asks is served: what the words are worth, and what holds between two calls. -/
import Derived.Test.YthodggkpkjfggaaKeySafeMath
namespace Go.Proofs.Ythodggkpkjfggaa.Key
set_option maxRecDepth 100000
def sumF (f : Int → Nat) (l : List Int) : Nat := (l.map f).sum
theorem sum_same {f g : Int → Nat} : ∀ (l : List Int), (∀ d ∈ l, g d = f d) → sumF g l = sumF f l
  | [], _ => rfl
  | d :: l, h => by
    have := sum_same l fun e he => h e (List.mem_cons_of_mem _ he)
    unfold sumF at this ⊢
    rw [List.map_cons, List.map_cons, List.sum_cons, List.sum_cons, this, h d List.mem_cons_self]
theorem sum_upd {f g : Int → Nat} {c : Int} : ∀ (l : List Int), l.Nodup → c ∈ l → (∀ d, d ≠ c → g d = f d) → sumF g l + f c = sumF f l + g c
  | [], _, h, _ => by cases h
  | d :: l, hn, hc, h => by
    obtain ⟨h1, h2⟩ := List.nodup_cons.1 hn
    have e1 : sumF g (d :: l) = g d + sumF g l := by unfold sumF; rw [List.map_cons, List.sum_cons]
    have e2 : sumF f (d :: l) = f d + sumF f l := by unfold sumF; rw [List.map_cons, List.sum_cons]
    rw [e1, e2]
    by_cases e : d = c
    · subst e
      have := sum_same (f := f) (g := g) l fun x hx => h x fun e => h1 (e ▸ hx)
      omega
    · have h3 : c ∈ l := (List.mem_cons.1 hc).elim (fun k => absurd k.symm e) id
      have := sum_upd l h2 h3 h
      have := h d e
      omega
def ww (w : Wd) : Nat := if w.call = true then (if w.x = true then 1 else 3) else 1
def WW (l : List Wd) : Nat := (l.map ww).sum
theorem WW_app (a b : List Wd) : WW (a ++ b) = WW a + WW b := by unfold WW; rw [List.map_append, List.sum_append]
theorem WW_cons (w : Wd) (l : List Wd) : WW (w :: l) = ww w + WW l := by unfold WW; rw [List.map_cons, List.sum_cons]
def gotB (p : Int) (w : Wd) : Bool := (!w.call) && (w.pg == p)
def gw (p : Int) (l : List Wd) : Nat := (l.filter (gotB p)).length
theorem gw_app (p : Int) (a b : List Wd) : gw p (a ++ b) = gw p a + gw p b := by unfold gw; rw [List.filter_append, List.length_append]
theorem gw_cons (p : Int) (w : Wd) (l : List Wd) : gw p (w :: l) = (if gotB p w = true then 1 else 0) + gw p l := by
  unfold gw
  by_cases h : gotB p w = true
  · rw [List.filter_cons_of_pos h, if_pos h, List.length_cons]; omega
  · rw [List.filter_cons_of_neg h, if_neg h]; omega
def wt (o : Option Lk) : Nat := match o with
  | none => 0
  | some l => if l.has = 2 then (if l.called < 1 then 6 else if l.called < 2 then 2 else 0) else (if l.called < 2 then 2 else 0)
theorem wt_le (o : Option Lk) : wt o ≤ 6 := by
  unfold wt
  cases o with
  | none => simp
  | some l => dsimp only; split <;> split <;> (try split) <;> omega
def pgW (S : KS) (p : Int) : Nat := 8 * (S.Q p).length + sumF (fun c => wt (S.L p c)) clients
/-- called -/
def Cd (S : KS) (p c : Int) : Prop := ∃ l, S.L p c = some l ∧ 1 ≤ l.called
/-- from S to T on one page, E said -/
structure St (p : Int) (S T : KS) (E : List Wd) : Prop where
  far : ∀ q, q ≠ p → T.L q = S.L q ∧ T.Q q = S.Q q
  said : T.said = S.said ++ E
  wd : ∀ w ∈ E, w.pg = p ∧ 1 ≤ w.cl ∧ w.cl ≤ 8
  le : pgW T p + WW E ≤ pgW S p
  cnt : (T.Q p).length + gw p E = (S.Q p).length
  cd : ∀ c, Cd T p c → Cd S p c ∨ ∃ x, (⟨true, c, p, x⟩ : Wd) ∈ E
section
variable {S T U : KS} {p : Int} {E F : List Wd}
theorem St.refl (p : Int) (S : KS) : St p S S [] := ⟨fun _ _ => ⟨rfl, rfl⟩, by simp, (fun w hw => by cases hw), by simp [WW], by simp [gw], fun c h => .inl h⟩
theorem St.trans (h : St p S T E) (h' : St p T U F) : St p S U (E ++ F) := by
  refine ⟨fun q hq => ⟨(h'.far q hq).1.trans (h.far q hq).1, (h'.far q hq).2.trans (h.far q hq).2⟩, ?_, fun w hw => ?_, ?_, ?_, fun c hc => ?_⟩
  · rw [h'.said, h.said, List.append_assoc]
  · exact (List.mem_append.1 hw).elim (h.wd w) (h'.wd w)
  · have := h.le; have := h'.le; rw [WW_app]; omega
  · have := h.cnt; have := h'.cnt; rw [gw_app]; omega
  · rcases h'.cd c hc with h1 | ⟨x, h1⟩
    · rcases h.cd c h1 with h2 | ⟨x, h2⟩
      · exact .inl h2
      · exact .inr ⟨x, List.mem_append_left _ h2⟩
    · exact .inr ⟨x, List.mem_append_right _ h1⟩
theorem clients_nodup : clients.Nodup := up_nodup 8 1
theorem mem_clients {c : Int} : c ∈ clients ↔ 1 ≤ c ∧ c ≤ 8 := by unfold clients; rw [mem_upFrom]; omega
theorem sum_set (S : KS) {T : KS} {c : Int} (hc : 1 ≤ c ∧ c ≤ 8) (h : ∀ d, d ≠ c → T.L p d = S.L p d) : sumF (fun c => wt (T.L p c)) clients + wt (S.L p c) = sumF (fun c => wt (S.L p c)) clients + wt (T.L p c) :=
  sum_upd (f := fun c => wt (S.L p c)) (g := fun c => wt (T.L p c)) clients clients_nodup (mem_clients.2 hc) fun d hd => by show wt (T.L p d) = wt (S.L p d); rw [h d hd]
theorem filter_one : ∀ (l : List Rq) (r : Rq), (l.map Rq.cl).Nodup → r ∈ l → (l.filter (notR r.cl)).length + 1 = l.length
  | [], _, _, h => by cases h
  | x :: l, r, hn, hr => by
    rw [List.map_cons] at hn
    obtain ⟨h1, h2⟩ := List.nodup_cons.1 hn
    by_cases e : x.cl = r.cl
    · have h3 : notR r.cl x = false := by simp [notR, e]
      rw [List.filter_cons_of_neg (by simp [h3]), List.length_cons]
      have h4 : l.filter (notR r.cl) = l := by
        rw [List.filter_eq_self]
        intro y hy
        have : y.cl ≠ r.cl := fun e2 => h1 (List.mem_map.2 ⟨y, hy, by rw [e2, e]⟩)
        simp [notR, this]
      rw [h4]
    · have h3 : notR r.cl x = true := by simp [notR, e]
      rw [List.filter_cons_of_pos h3, List.length_cons, List.length_cons]
      have hr2 : r ∈ l := (List.mem_cons.1 hr).elim (fun k => absurd (by rw [k]) e) id
      have := filter_one l r h2 hr2
      omega
theorem st_grant {r : Rq} (hwf : S.wf) (hr : r ∈ S.Q p) : St p S (grantK S p r) [⟨false, r.cl, p, hasK S r p == 2⟩] := by
  have hb := hwf.rq p r hr
  have hs := sum_set (p := p) S (T := grantK S p r) (c := r.cl) ⟨hb.2.2.1, hb.2.2.2.1⟩ fun d hd => by rw [grant_L, if_neg (fun e => hd e.2)]
  have h6 := wt_le ((grantK S p r).L p r.cl)
  have hq : (grantK S p r).Q p = (S.Q p).filter (notR r.cl) := by rw [grant_Q, if_pos rfl]
  have hl := filter_one (S.Q p) r (hwf.nd p) hr
  refine ⟨fun q hq => ⟨?_, ?_⟩, grant_S p r, fun w hw => by rw [List.mem_singleton.1 hw]; exact ⟨rfl, hb.2.2.1, hb.2.2.2.1⟩, ?_, ?_, fun c hc => ?_⟩
  · funext d; rw [grant_L, if_neg (fun e => hq e.1)]
  · rw [grant_Q, if_neg hq]
  · have e1 : WW [(⟨false, r.cl, p, hasK S r p == 2⟩ : Wd)] = 1 := by simp [WW, ww]
    unfold pgW
    rw [hq, e1]
    omega
  · have e1 : gw p [(⟨false, r.cl, p, hasK S r p == 2⟩ : Wd)] = 1 := by simp [gw, gotB]
    rw [hq, e1]
    exact hl
  · obtain ⟨l, h1, h2⟩ := hc
    rw [grant_L] at h1
    split at h1
    · injection h1 with h1; subst h1; exact absurd h2 (by show ¬ (1 : Int) ≤ 0; decide)
    · exact .inl ⟨l, h1, h2⟩
theorem st_call1 {st c : Int} (hwf : S.wf) (h12 : st = 1 ∨ st = 2) (hst : st = 2 ∨ holdsS S c p = 2) : ∃ E, St p S (call1 p st S c) E := by
  unfold call1
  cases hl : S.L p c with
  | none => exact ⟨[], St.refl p S⟩
  | some l =>
    dsimp only
    split
    · rename_i hlt
      have hb := hwf.lk p c l hl
      have hL : ∀ q d, (sayK (setK S p c (some { l with called := st })) true c p st).L q d = if q = p ∧ d = c then some { l with called := st } else S.L q d := fun q d => rfl
      refine ⟨[⟨true, c, p, st == 2⟩], fun q hq => ⟨?_, rfl⟩, rfl, fun w hw => by rw [List.mem_singleton.1 hw]; exact ⟨rfl, hb.2.2.1, hb.2.2.2.1⟩, ?_, ?_, fun d hd => ?_⟩
      · funext d; rw [hL, if_neg (fun e => hq e.1)]
      · have hs := sum_set (p := p) S (T := sayK (setK S p c (some { l with called := st })) true c p st) (c := c) ⟨hb.2.2.1, hb.2.2.2.1⟩ fun d hd => by rw [hL, if_neg (fun e => hd e.2)]
        rw [hL, if_pos ⟨rfl, rfl⟩, hl] at hs
        have hQ : (sayK (setK S p c (some { l with called := st })) true c p st).Q p = S.Q p := rfl
        have key : wt (some { l with called := st }) + WW [(⟨true, c, p, st == 2⟩ : Wd)] ≤ wt (some l) := by
          have hh : st = 2 ∨ l.has = 2 := hst.imp id fun h => by unfold holdsS at h; rw [hl] at h; exact h
          have e1 : WW [(⟨true, c, p, st == 2⟩ : Wd)] = if st = 2 then 1 else 3 := by
            unfold WW ww
            rcases h12 with e | e <;> simp [e]
          rw [e1]
          unfold wt
          dsimp only
          rcases h12 with rfl | rfl
          · have h2 : l.has = 2 := hh.elim (fun e => absurd e (by decide)) id
            rw [if_pos h2, if_pos h2, if_pos hlt]
            simp
          · rw [if_pos rfl]
            split
            · rw [if_neg (by decide), if_neg (by decide)]
              split
              · omega
              · first | omega | (rw [if_pos hlt]; omega)
            · first | omega | (rw [if_pos hlt]; omega) | (rw [if_neg (by decide)]; first | omega | (rw [if_pos hlt]; omega))
        unfold pgW
        rw [hQ]
        omega
      · have e1 : gw p [(⟨true, c, p, st == 2⟩ : Wd)] = 0 := by simp [gw, gotB]
        rw [e1]; rfl
      · obtain ⟨m, h1, h2⟩ := hd
        rw [hL] at h1
        split at h1
        · rename_i e
          rw [e.2]
          exact .inr ⟨_, List.mem_singleton.2 rfl⟩
        · exact .inl ⟨m, h1, h2⟩
    · exact ⟨[], St.refl p S⟩
theorem st_callK {st : Int} (h12 : st = 1 ∨ st = 2) : ∀ (cs : List Int) {S : KS}, S.wf → (∀ c ∈ cs, st = 2 ∨ holdsS S c p = 2) → ∃ E, St p S (callK S p cs st) E
  | [], S, _, _ => ⟨[], St.refl p S⟩
  | c :: cs, S, hwf, h => by
    obtain ⟨E, h1⟩ := st_call1 (p := p) hwf h12 (h c List.mem_cons_self)
    obtain ⟨F, h2⟩ := st_callK h12 cs (hwf.call1 p st c) (fun d hd => by rw [call1_holds]; exact h d (List.mem_cons_of_mem _ hd))
    exact ⟨E ++ F, h1.trans h2⟩
theorem call1_more {st c d : Int} {l : Lk} (h : S.L p d = some l) : ∃ m, (call1 p st S c).L p d = some m ∧ l.called ≤ m.called ∧ (d = c → st ≤ m.called) := by
  rcases call1_is (S := S) p st c with e | ⟨k, hk, e⟩
  · by_cases hd : d = c
    · subst hd
      unfold call1 at e ⊢
      rw [h] at e ⊢
      dsimp only at e ⊢
      split
      · rename_i hlt
        exact ⟨{ l with called := st }, if_pos ⟨rfl, rfl⟩, by dsimp only; omega, fun _ => Int.le_refl _⟩
      · exact ⟨l, h, Int.le_refl _, fun _ => by omega⟩
    · exact ⟨l, by rw [e]; exact h, Int.le_refl _, fun k => absurd k hd⟩
  · by_cases hd : d = c
    · subst hd
      unfold call1 at e ⊢
      rw [h] at e ⊢
      dsimp only at e ⊢
      split
      · rename_i hlt
        exact ⟨{ l with called := st }, if_pos ⟨rfl, rfl⟩, by dsimp only; omega, fun _ => Int.le_refl _⟩
      · exact ⟨l, h, Int.le_refl _, fun _ => by omega⟩
    · refine ⟨l, ?_, Int.le_refl _, fun k => absurd k hd⟩
      rw [e]
      show (if p = p ∧ d = c then _ else S.L p d) = _
      rw [if_neg (fun k => hd k.2), h]
theorem callK_more {st d : Int} : ∀ (cs : List Int) {S : KS} {l : Lk}, S.L p d = some l → ∃ m, (callK S p cs st).L p d = some m ∧ l.called ≤ m.called ∧ (d ∈ cs → st ≤ m.called)
  | [], S, l, h => ⟨l, h, Int.le_refl _, fun k => by cases k⟩
  | c :: cs, S, l, h => by
    obtain ⟨m, h1, h2, h3⟩ := call1_more (st := st) (c := c) h
    obtain ⟨k, h4, h5, h6⟩ := callK_more (st := st) cs h1
    refine ⟨k, h4, by omega, fun hd => ?_⟩
    rcases List.mem_cons.1 hd with e | e
    · have := h3 e; omega
    · exact h6 e
theorem st_settleN : ∀ (n : Nat) {S : KS}, S.wf → (S.Q p).length ≤ n → (∃ E, St p S (settleN n S p) E) ∧ ((settleN n S p).Q p = [] ∨ ∃ c, Cd (settleN n S p) p c)
  | n, S, hwf, hn => by
    unfold settleN
    cases hq : S.Q p with
    | nil => exact ⟨⟨[], St.refl p S⟩, .inl hq⟩
    | cons r q =>
      have hr : r ∈ S.Q p := by rw [hq]; exact List.mem_cons_self
      have hrw := hwf.rq p r hr
      dsimp only
      split
      · cases n with
        | zero => rw [hq] at hn; simp at hn
        | succ m =>
          have hg := st_grant hwf hr
          have hq2 : (grantK S p r).Q p = (S.Q p).filter (notR r.cl) := by rw [grant_Q, if_pos rfl]
          have hl := filter_one (S.Q p) r (hwf.nd p) hr
          obtain ⟨⟨E, h1⟩, h2⟩ := st_settleN m (hwf.grant hrw) (by rw [hq2]; omega)
          exact ⟨⟨_, hg.trans h1⟩, h2⟩
      · rename_i hw
        refine ⟨st_callK hrw.2.2.2.2 _ hwf (fun c hc => ?_), .inr ?_⟩
        · obtain ⟨l, hl, hb⟩ := ways_mem hc
          rcases (bars_true hb).2 with e | e
          · exact .inr (by unfold holdsS; rw [hl]; exact e)
          · exact .inl e
        · obtain ⟨c, hc⟩ := List.exists_mem_of_ne_nil _ hw
          obtain ⟨l, hl, _⟩ := ways_mem hc
          obtain ⟨m, h1, _, h3⟩ := callK_more (st := r.wants) (ways S p r) hl
          exact ⟨c, m, h1, by have := h3 hc; omega⟩
theorem st_settle (hwf : S.wf) : (∃ E, St p S (settleK S p) E) ∧ ((settleK S p).Q p = [] ∨ ∃ c, Cd (settleK S p) p c) := st_settleN _ hwf (Nat.le_refl _)
end
end Go.Proofs.Ythodggkpkjfggaa.Key
