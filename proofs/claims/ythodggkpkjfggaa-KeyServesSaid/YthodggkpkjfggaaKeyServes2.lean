/- Who asks is served: asked, waiting, granted; it ends. -/
import Derived.Test.YthodggkpkjfggaaKeyServesMath
namespace Go.Proofs.Ythodggkpkjfggaa.Key
set_option maxRecDepth 100000
def pages4 : List Int := upFrom 0 4
theorem mem_pages4 {p : Int} : p ∈ pages4 ↔ 0 ≤ p ∧ p < 4 := by unfold pages4; rw [mem_upFrom]; omega
/-- what is still to be paid -/
def Phi (S : KS) (R : List Wd) : Nat := sumF (pgW S) pages4 + WW S.said + WW R
structure Sv (S : KS) (R : List Wd) (a g : Int → Nat) : Prop where
  wf : S.wf
  pq : ∀ p, ¬ (0 ≤ p ∧ p < 4) → S.Q p = []
  blk : ∀ p, S.Q p = [] ∨ ∃ c, Cd S p c
  cd : ∀ p c, Cd S p c → ∃ x, (⟨true, c, p, x⟩ : Wd) ∈ S.said ++ R
  wd : ∀ w ∈ S.said ++ R, (0 ≤ w.pg ∧ w.pg < 4) ∧ (1 ≤ w.cl ∧ w.cl ≤ 8)
  cnt : ∀ p, a p = g p + (S.Q p).length + gw p S.said + gw p R
section
variable {S T : KS} {R E : List Wd} {a g : Int → Nat} {p c : Int}
theorem sv_new : Sv newK [] (fun _ => 0) (fun _ => 0) := ⟨new_wf, fun _ _ => rfl, fun _ => .inl rfl, (fun p c h => by obtain ⟨l, hl, _⟩ := h; cases hl), (fun w hw => by cases hw), fun p => rfl⟩
theorem phi_new : Phi newK [] = 0 := by decide
/-- one page turns -/
theorem phi_st (h : St p S T E) (hp : 0 ≤ p ∧ p < 4) (R : List Wd) : Phi T R ≤ Phi S R := by
  have h1 := sum_upd (f := pgW S) (g := pgW T) pages4 (up_nodup 4 0) (mem_pages4.2 hp) fun q hq => by
    have := h.far q hq
    unfold pgW
    rw [this.1, this.2]
  have := h.le
  unfold Phi
  rw [h.said, WW_app]
  omega
theorem sv_st (hv : Sv S R a g) (h : St p S T E) (hp : 0 ≤ p ∧ p < 4) (hwf : T.wf) (hb : T.Q p = [] ∨ ∃ c, Cd T p c) : Sv T R a g := by
  have hcd : ∀ q c, q ≠ p → Cd T q c → Cd S q c := fun q c hq hc => by
    obtain ⟨l, h1, h2⟩ := hc
    rw [(h.far q hq).1] at h1
    exact ⟨l, h1, h2⟩
  refine ⟨hwf, fun q hq => ?_, fun q => ?_, fun q c hc => ?_, fun w hw => ?_, fun q => ?_⟩
  · have : q ≠ p := fun e => hq (e ▸ hp)
    rw [(h.far q this).2]; exact hv.pq q hq
  · by_cases e : q = p
    · rw [e]; exact hb
    · rw [(h.far q e).2]
      rcases hv.blk q with h1 | ⟨c, l, h1, h2⟩
      · exact .inl h1
      · exact .inr ⟨c, l, by rw [(h.far q e).1]; exact h1, h2⟩
  · rw [h.said]
    have old : Cd S q c → ∃ x, (⟨true, c, q, x⟩ : Wd) ∈ S.said ++ E ++ R := fun h1 => by
      obtain ⟨x, hx⟩ := hv.cd q c h1
      refine ⟨x, ?_⟩
      rcases List.mem_append.1 hx with hx | hx
      · exact List.mem_append_left _ (List.mem_append_left _ hx)
      · exact List.mem_append_right _ hx
    by_cases e : q = p
    · subst e
      rcases h.cd c hc with h1 | ⟨x, h1⟩
      · exact old h1
      · exact ⟨x, List.mem_append_left _ (List.mem_append_right _ h1)⟩
    · exact old (hcd q c e hc)
  · rw [h.said] at hw
    rcases List.mem_append.1 hw with hw | hw
    · rcases List.mem_append.1 hw with hw | hw
      · exact hv.wd w (List.mem_append_left _ hw)
      · exact ⟨by rw [(h.wd w hw).1]; exact hp, (h.wd w hw).2⟩
    · exact hv.wd w (List.mem_append_right _ hw)
  · have h1 := hv.cnt q
    rw [h.said, gw_app]
    by_cases e : q = p
    · subst e; have := h.cnt; omega
    · rw [(h.far q e).2]
      have : gw q E = 0 := by
        unfold gw
        rw [List.length_eq_zero_iff, List.filter_eq_nil_iff]
        intro w hw hb
        have e1 := (h.wd w hw).1
        have : w.pg = q := by unfold gotB at hb; simp at hb; exact hb.2
        exact e (this.symm.trans e1)
      omega
def up1 (a : Int → Nat) (p : Int) (q : Int) : Nat := if q = p then a q + 1 else a q
theorem ask_or (hc : 1 ≤ c ∧ c ≤ 8) (hp : 0 ≤ p ∧ p < 4) : askX S c p = 0 ∨ askX S c p = 31 := by
  unfold askX
  rw [if_neg (by omega)]
  split
  · exact .inr rfl
  · exact .inl rfl
theorem ask_refused {x : Bool} (h : askX S c p ≠ 0) : askK S c p x = S := by unfold askK; rw [if_neg h]
theorem sv_ask (hv : Sv S R a g) (hc : 1 ≤ c ∧ c ≤ 8) (hp : 0 ≤ p ∧ p < 4) (x : Bool) (h0 : askX S c p = 0) : Sv (askK S c p x) R (up1 a p) g ∧ Phi (askK S c p x) R ≤ Phi S R + 8 := by
  have hw := hv.wf.ask c p x
  by_cases h1 : wantI x ≤ holdsS S c p
  · have e : askK S c p x = sayK S false c p (holdsS S c p) := by unfold askK; rw [if_pos h0, if_pos h1]
    rw [e] at hw ⊢
    have hs : (sayK S false c p (holdsS S c p)).said = S.said ++ [⟨false, c, p, holdsS S c p == 2⟩] := rfl
    refine ⟨⟨hw, hv.pq, hv.blk, fun q d hd => ?_, fun w hw' => ?_, fun q => ?_⟩, ?_⟩
    · obtain ⟨y, hy⟩ := hv.cd q d hd
      refine ⟨y, ?_⟩
      rw [hs]
      rcases List.mem_append.1 hy with hy | hy
      · exact List.mem_append_left _ (List.mem_append_left _ hy)
      · exact List.mem_append_right _ hy
    · rw [hs] at hw'
      rcases List.mem_append.1 hw' with hw' | hw'
      · rcases List.mem_append.1 hw' with hw' | hw'
        · exact hv.wd w (List.mem_append_left _ hw')
        · rw [List.mem_singleton.1 hw']; exact ⟨hp, hc⟩
      · exact hv.wd w (List.mem_append_right _ hw')
    · have h2 := hv.cnt q
      rw [hs, gw_app]
      have hQ : (sayK S false c p (holdsS S c p)).Q q = S.Q q := rfl
      rw [hQ]
      have h3 : gw q [(⟨false, c, p, holdsS S c p == 2⟩ : Wd)] = if q = p then 1 else 0 := by
        by_cases e : q = p
        · subst e; simp [gw, gotB]
        · have : ¬ p = q := fun k => e k.symm
          simp [gw, gotB, e, this]
      rw [h3]
      unfold up1
      split <;> omega
    · have h3 : sumF (pgW (sayK S false c p (holdsS S c p))) pages4 = sumF (pgW S) pages4 := sum_same _ fun q _ => rfl
      have h4 : WW [(⟨false, c, p, holdsS S c p == 2⟩ : Wd)] = 1 := by simp [WW, ww]
      unfold Phi
      rw [hs, WW_app, h3, h4]
      omega
  · have e : askK S c p x = settleK (setQ S p (S.Q p ++ [⟨c, wantI x⟩])) p := by unfold askK; rw [if_pos h0, if_neg h1]
    have hw2 : (setQ S p (S.Q p ++ [⟨c, wantI x⟩])).wf := by
      have hb : ∀ r ∈ S.Q p, r.cl ≠ c := by
        unfold askX at h0
        split at h0
        · cases h0
        · split at h0
          · cases h0
          · rename_i a b
            exact fun r hr e => b (List.any_eq_true.2 ⟨r, hr, by simp [e]⟩)
      refine hv.wf.setQ (fun r hr => ?_) ?_
      · rcases List.mem_append.1 hr with hr | hr
        · exact hv.wf.rq p r hr
        · obtain rfl := List.mem_singleton.1 hr
          exact ⟨hp.1, by omega, hc.1, hc.2, by cases x <;> simp [wantI]⟩
      · rw [List.map_append, List.nodup_append]
        refine ⟨hv.wf.nd p, by simp, fun a ha b hb' e => ?_⟩
        obtain ⟨r, hr, rfl⟩ := List.mem_map.1 ha
        simp at hb'
        exact hb r hr (by rw [e, hb'])
    obtain ⟨⟨E, hst⟩, hbl⟩ := st_settle (p := p) hw2
    rw [e]
    -- the queue's own step, by hand: S2 is S with one more request on p
    have hL2 : (setQ S p (S.Q p ++ [⟨c, wantI x⟩])).L = S.L := rfl
    have hQ2 : ∀ q, (setQ S p (S.Q p ++ [⟨c, wantI x⟩])).Q q = if q = p then S.Q p ++ [⟨c, wantI x⟩] else S.Q q := fun _ => rfl
    have hs2 : (setQ S p (S.Q p ++ [⟨c, wantI x⟩])).said = S.said := rfl
    generalize setQ S p (S.Q p ++ [⟨c, wantI x⟩]) = S2 at *
    have hcd2 : ∀ q d, Cd S2 q d ↔ Cd S q d := fun q d => by unfold Cd; rw [hL2]
    have hphi : Phi S2 R = Phi S R + 8 := by
      have h1 := sum_upd (f := pgW S) (g := pgW S2) pages4 (up_nodup 4 0) (mem_pages4.2 hp) fun q hq => by
        unfold pgW
        rw [hL2, hQ2, if_neg hq]
      have h2 : pgW S2 p = pgW S p + 8 := by
        unfold pgW
        rw [hL2, hQ2, if_pos rfl, List.length_append, List.length_singleton]
        omega
      unfold Phi
      rw [hs2]
      omega
    have hphi2 := phi_st hst hp R
    refine ⟨?_, by omega⟩
    -- as sv_st, from S2, whose page p need not be blocked
    have hwT := hw2.settle p
    generalize settleK S2 p = T at *
    refine ⟨hwT, fun q hq => ?_, fun q => ?_, fun q d hd => ?_, fun w hw => ?_, fun q => ?_⟩
    · have hne : q ≠ p := fun e => hq (e ▸ hp)
      rw [(hst.far q hne).2, hQ2, if_neg hne]; exact hv.pq q hq
    · by_cases e : q = p
      · rw [e]; exact hbl
      · rw [(hst.far q e).2, hQ2, if_neg e]
        rcases hv.blk q with h1 | ⟨d, l, h1, h2⟩
        · exact .inl h1
        · exact .inr ⟨d, l, by rw [(hst.far q e).1, hL2]; exact h1, h2⟩
    · rw [hst.said, hs2]
      have old : Cd S q d → ∃ y, (⟨true, d, q, y⟩ : Wd) ∈ S.said ++ E ++ R := fun h1 => by
        obtain ⟨y, hy⟩ := hv.cd q d h1
        refine ⟨y, ?_⟩
        rcases List.mem_append.1 hy with hy | hy
        · exact List.mem_append_left _ (List.mem_append_left _ hy)
        · exact List.mem_append_right _ hy
      by_cases e : q = p
      · subst e
        rcases hst.cd d hd with h1 | ⟨y, h1⟩
        · exact old ((hcd2 q d).1 h1)
        · exact ⟨y, List.mem_append_left _ (List.mem_append_right _ h1)⟩
      · refine old ?_
        obtain ⟨l, h1, h2⟩ := hd
        rw [(hst.far q e).1, hL2] at h1
        exact ⟨l, h1, h2⟩
    · rw [hst.said, hs2] at hw
      rcases List.mem_append.1 hw with hw | hw
      · rcases List.mem_append.1 hw with hw | hw
        · exact hv.wd w (List.mem_append_left _ hw)
        · exact ⟨by rw [(hst.wd w hw).1]; exact hp, (hst.wd w hw).2⟩
      · exact hv.wd w (List.mem_append_right _ hw)
    · have h1 := hv.cnt q
      rw [hst.said, hs2, gw_app]
      by_cases e : q = p
      · subst e
        have h2 := hst.cnt
        rw [hQ2, if_pos rfl, List.length_append, List.length_singleton] at h2
        unfold up1
        rw [if_pos rfl]
        omega
      · rw [(hst.far q e).2, hQ2, if_neg e]
        have : gw q E = 0 := by
          unfold gw
          rw [List.length_eq_zero_iff, List.filter_eq_nil_iff]
          intro w hw hb
          have e1 := (hst.wd w hw).1
          have : w.pg = q := by unfold gotB at hb; simp at hb; exact hb.2
          exact e (this.symm.trans e1)
        unfold up1
        rw [if_neg e]
        omega
theorem sv_take (hv : Sv S [] a g) : Sv { S with said := [] } S.said a g ∧ Phi { S with said := [] } S.said = Phi S [] := by
  refine ⟨⟨⟨hv.wf.lk, hv.wf.rq, hv.wf.nd⟩, hv.pq, hv.blk, fun q d hd => ?_, fun w hw => ?_, fun q => ?_⟩, ?_⟩
  · obtain ⟨y, hy⟩ := hv.cd q d hd
    exact ⟨y, by simpa using hy⟩
  · exact hv.wd w (by simpa using hw)
  · have := hv.cnt q
    have e : gw q [] = 0 := rfl
    show a q = g q + (S.Q q).length + gw q [] + gw q S.said
    omega
  · have e : WW [] = 0 := rfl
    show sumF (pgW S) pages4 + WW [] + WW S.said = sumF (pgW S) pages4 + WW S.said + WW []
    omega
theorem sv_got {w : Wd} (hv : Sv S (w :: R) a g) (hw : w.call = false) : Sv S R a (up1 g w.pg) ∧ Phi S R + 1 = Phi S (w :: R) := by
  refine ⟨⟨hv.wf, hv.pq, hv.blk, fun q d hd => ?_, fun v hv' => ?_, fun q => ?_⟩, ?_⟩
  · obtain ⟨y, hy⟩ := hv.cd q d hd
    refine ⟨y, ?_⟩
    rcases List.mem_append.1 hy with hy | hy
    · exact List.mem_append_left _ hy
    · rcases List.mem_cons.1 hy with e | hy
      · rw [← e] at hw; cases hw
      · exact List.mem_append_right _ hy
  · refine hv.wd v ?_
    rcases List.mem_append.1 hv' with h | h
    · exact List.mem_append_left _ h
    · exact List.mem_append_right _ (List.mem_cons_of_mem _ h)
  · have h1 := hv.cnt q
    rw [gw_cons] at h1
    have h2 : gotB q w = true ↔ q = w.pg := by
      unfold gotB
      rw [hw]
      simp
      exact eq_comm
    unfold up1
    by_cases e : q = w.pg
    · rw [if_pos (h2.2 e)] at h1; rw [if_pos e]; omega
    · rw [if_neg (fun k => e (h2.1 k))] at h1; rw [if_neg e]; omega
  · unfold Phi
    rw [WW_cons]
    have : ww w = 1 := by unfold ww; rw [hw]; rfl
    omega
theorem sv_freed {w : Wd} (hv : Sv S (w :: R) a g) (hw : w.call = true) : Sv (freeK S w.cl w.pg (!w.x)) R a g ∧ Phi (freeK S w.cl w.pg (!w.x)) R + 1 ≤ Phi S (w :: R) := by
  have hp : 0 ≤ w.pg ∧ w.pg < 4 := (hv.wd w (List.mem_append_right _ List.mem_cons_self)).1
  have hwT := hv.wf.free w.cl w.pg (!w.x)
  obtain ⟨wc, c, p, x⟩ := w
  dsimp only at hw hp hwT ⊢
  subst hw
  have hgw : ∀ q, gw q ((⟨true, c, p, x⟩ : Wd) :: R) = gw q R := fun q => by rw [gw_cons, if_neg (by simp [gotB])]; omega
  have hwd : ∀ v ∈ S.said ++ R, (0 ≤ v.pg ∧ v.pg < 4) ∧ (1 ≤ v.cl ∧ v.cl ≤ 8) := fun v h => hv.wd v (by
    rcases List.mem_append.1 h with h | h
    · exact List.mem_append_left _ h
    · exact List.mem_append_right _ (List.mem_cons_of_mem _ h))
  have hwords : ∀ q d, ¬ (q = p ∧ d = c) → Cd S q d → ∃ y, (⟨true, d, q, y⟩ : Wd) ∈ S.said ++ R := fun q d hn hd => by
    obtain ⟨y, hy⟩ := hv.cd q d hd
    refine ⟨y, ?_⟩
    rcases List.mem_append.1 hy with hy | hy
    · exact List.mem_append_left _ hy
    · rcases List.mem_cons.1 hy with e | hy
      · injection e with _ e2 e3 _
        exact absurd ⟨e3, e2⟩ hn
      · exact List.mem_append_right _ hy
  have hww : ww (⟨true, c, p, x⟩ : Wd) = if x = true then 1 else 3 := rfl
  by_cases h0 : holdsS S c p = 0
  · have e : freeK S c p (!x) = S := by unfold freeK; rw [if_pos h0]
    have hn : S.L p c = none := (holds_none hv.wf).1 h0
    rw [e]
    refine ⟨⟨hv.wf, hv.pq, hv.blk, fun q d hd => hwords q d ?_ hd, hwd, fun q => by have := hv.cnt q; rw [hgw] at this; exact this⟩, ?_⟩
    · rintro ⟨rfl, rfl⟩
      obtain ⟨l, hl, _⟩ := hd
      rw [hn] at hl; cases hl
    · unfold Phi
      rw [WW_cons, hww]
      split <;> omega
  · have e : freeK S c p (!x) = settleK (setK S p c (if (!x) = true then some ⟨1, 0, false⟩ else none)) p := by unfold freeK; rw [if_neg h0]
    obtain ⟨l0, hl0⟩ : ∃ l0, S.L p c = some l0 := by
      cases hs : S.L p c with
      | none => exact absurd ((holds_none hv.wf).2 hs) h0
      | some l0 => exact ⟨l0, rfl⟩
    have hb := hv.wf.lk p c l0 hl0
    have hw2 : (setK S p c (if (!x) = true then some ⟨1, 0, false⟩ else none)).wf := hv.wf.setK fun l hl => by
      split at hl
      · injection hl with hl; subst hl; exact ⟨hb.1, hb.2.1, hb.2.2.1, hb.2.2.2.1, .inl rfl⟩
      · cases hl
    obtain ⟨⟨E, hst⟩, hbl⟩ := st_settle (p := p) hw2
    rw [e] at hwT ⊢
    have hL2 : ∀ q d, (setK S p c (if (!x) = true then some ⟨1, 0, false⟩ else none)).L q d = if q = p ∧ d = c then (if (!x) = true then some ⟨1, 0, false⟩ else none) else S.L q d := fun _ _ => rfl
    have hQ2 : (setK S p c (if (!x) = true then some ⟨1, 0, false⟩ else none)).Q = S.Q := rfl
    have hs2 : (setK S p c (if (!x) = true then some ⟨1, 0, false⟩ else none)).said = S.said := rfl
    generalize setK S p c (if (!x) = true then some ⟨1, 0, false⟩ else none) = S2 at *
    have hcd2 : ∀ q d, Cd S2 q d → ¬ (q = p ∧ d = c) ∧ Cd S q d := fun q d hd => by
      obtain ⟨l, h1, h2⟩ := hd
      rw [hL2] at h1
      by_cases k : q = p ∧ d = c
      · rw [if_pos k] at h1
        split at h1
        · injection h1 with h1; subst h1; exact absurd h2 (by show ¬ (1 : Int) ≤ 0; decide)
        · cases h1
      · rw [if_neg k] at h1
        exact ⟨k, l, h1, h2⟩
    have hphi : Phi S2 R + 1 ≤ Phi S ((⟨true, c, p, x⟩ : Wd) :: R) := by
      have h1 := sum_upd (f := pgW S) (g := pgW S2) pages4 (up_nodup 4 0) (mem_pages4.2 hp) fun q hq => by
        unfold pgW
        have : (fun d => wt (S2.L q d)) = fun d => wt (S.L q d) := by funext d; rw [hL2, if_neg (fun k => hq k.1)]
        rw [hQ2, this]
      have h2 := sum_set (p := p) S (T := S2) (c := c) ⟨hb.2.2.1, hb.2.2.2.1⟩ fun d hd => by rw [hL2, if_neg (fun k => hd k.2)]
      rw [hL2, if_pos ⟨rfl, rfl⟩] at h2
      have h3 : wt (if (!x) = true then some ⟨1, 0, false⟩ else none) + 1 ≤ ww (⟨true, c, p, x⟩ : Wd) := by rw [hww]; cases x <;> decide
      have h4 : pgW S2 p + wt (S.L p c) = pgW S p + wt (if (!x) = true then some ⟨1, 0, false⟩ else none) := by
        unfold pgW
        rw [hQ2]
        omega
      unfold Phi
      rw [hs2, WW_cons]
      omega
    have hphi2 := phi_st hst hp R
    refine ⟨?_, by omega⟩
    generalize settleK S2 p = T at *
    refine ⟨hwT, fun q hq => ?_, fun q => ?_, fun q d hd => ?_, fun v hv' => ?_, fun q => ?_⟩
    · have hne : q ≠ p := fun e => hq (e ▸ hp)
      rw [(hst.far q hne).2, hQ2]; exact hv.pq q hq
    · by_cases e : q = p
      · rw [e]; exact hbl
      · rw [(hst.far q e).2, hQ2]
        rcases hv.blk q with h1 | ⟨d, l, h1, h2⟩
        · exact .inl h1
        · exact .inr ⟨d, l, by rw [(hst.far q e).1, hL2, if_neg (fun k => e k.1)]; exact h1, h2⟩
    · rw [hst.said, hs2]
      have old : Cd S2 q d → ∃ y, (⟨true, d, q, y⟩ : Wd) ∈ S.said ++ E ++ R := fun h1 => by
        obtain ⟨k1, k2⟩ := hcd2 q d h1
        obtain ⟨y, hy⟩ := hwords q d k1 k2
        refine ⟨y, ?_⟩
        rcases List.mem_append.1 hy with hy | hy
        · exact List.mem_append_left _ (List.mem_append_left _ hy)
        · exact List.mem_append_right _ hy
      by_cases e : q = p
      · subst e
        rcases hst.cd d hd with h1 | ⟨y, h1⟩
        · exact old h1
        · exact ⟨y, List.mem_append_left _ (List.mem_append_right _ h1)⟩
      · refine old ?_
        obtain ⟨l, h1, h2⟩ := hd
        rw [(hst.far q e).1] at h1
        exact ⟨l, h1, h2⟩
    · rw [hst.said, hs2] at hv'
      rcases List.mem_append.1 hv' with h | h
      · rcases List.mem_append.1 h with h | h
        · exact hwd v (List.mem_append_left _ h)
        · exact ⟨by rw [(hst.wd v h).1]; exact hp, (hst.wd v h).2⟩
      · exact hwd v (List.mem_append_right _ h)
    · have h1 := hv.cnt q
      rw [hgw] at h1
      rw [hst.said, hs2, gw_app]
      by_cases e : q = p
      · subst e
        have h2 := hst.cnt
        rw [hQ2] at h2
        omega
      · rw [(hst.far q e).2, hQ2]
        have : gw q E = 0 := by
          unfold gw
          rw [List.length_eq_zero_iff, List.filter_eq_nil_iff]
          intro w hw hb
          have e1 := (hst.wd w hw).1
          have : w.pg = q := by unfold gotB at hb; simp at hb; exact hb.2
          exact e (this.symm.trans e1)
        omega
/-- nothing is to be said: nobody waits, all is served -/
theorem sv_end (hv : Sv S [] a g) (hs : S.said = []) : (∀ p, S.Q p = []) ∧ ∀ p, a p = g p := by
  have hq : ∀ p, S.Q p = [] := fun p => by
    rcases hv.blk p with h | ⟨c, hc⟩
    · exact h
    · obtain ⟨x, hx⟩ := hv.cd p c hc
      rw [hs] at hx
      cases hx
  refine ⟨hq, fun p => ?_⟩
  have := hv.cnt p
  rw [hq p, hs] at this
  have e : gw p [] = 0 := rfl
  simp only [List.length_nil] at this
  omega
theorem phi_pos (h : R ≠ []) : 1 ≤ Phi S R := by
  cases R with
  | nil => exact absurd rfl h
  | cons w R =>
    unfold Phi
    rw [WW_cons]
    have : 1 ≤ ww w := by unfold ww; split <;> (try split) <;> omega
    omega
end
end Go.Proofs.Ythodggkpkjfggaa.Key
