/- What the calls keep: an X is alone, words are true; a client that is gone; shared locks alone. -/
import Derived.Test.YthodggkpkjfggaaKeyMath
namespace Go.Proofs.Ythodggkpkjfggaa.Key
set_option maxRecDepth 100000
def Alone (S : KS) : Prop := ∀ p c d l m, S.L p c = some l → S.L p d = some m → l.has = 2 → c = d
def noQ (S : KS) (c p : Int) : Prop := ∀ r ∈ S.Q p, r.cl ≠ c
def WOK (S : KS) (w : Wd) : Prop := (w.call = false → holdsS S w.cl w.pg = (if w.x = true then 2 else 1) ∧ noQ S w.cl w.pg) ∧ (w.call = true → S.L w.pg w.cl ≠ none ∧ (w.x = false → holdsS S w.cl w.pg = 2))
def JW (S : KS) : Prop := ∀ w ∈ S.said, WOK S w
section
variable {S : KS}
theorem ways_nil {p : Int} {r : Rq} (hwf : S.wf) (h : ways S p r = []) {c : Int} {l : Lk} (hl : S.L p c = some l) : barsB r c l = false := by
  cases hb : barsB r c l with
  | false => rfl
  | true =>
    have hc := hwf.lk p c l hl
    have : c ∈ ways S p r := List.mem_filter.2 ⟨(mem_upFrom 8 1 c).2 (by omega), by unfold inB; rw [hl]; exact hb⟩
    rw [h] at this; cases this
theorem bars_false {r : Rq} {c : Int} {l : Lk} (h : barsB r c l = false) (hc : c ≠ r.cl) : l.has ≠ 2 ∧ r.wants ≠ 2 := by
  unfold barsB at h
  have h1 : (c != r.cl) = true := by simp [hc]
  rw [h1, Bool.true_and, Bool.or_eq_false_iff] at h
  simpa using h
theorem bars_true {r : Rq} {c : Int} {l : Lk} (h : barsB r c l = true) : c ≠ r.cl ∧ (l.has = 2 ∨ r.wants = 2) := by
  unfold barsB at h
  simpa using h
theorem grant_L (p : Int) (r : Rq) (q c : Int) : (grantK S p r).L q c = if q = p ∧ c = r.cl then some ⟨hasK S r p, 0, false⟩ else S.L q c := rfl
theorem grant_Q (p : Int) (r : Rq) (q : Int) : (grantK S p r).Q q = if q = p then (S.Q p).filter (notR r.cl) else S.Q q := rfl
theorem grant_S (p : Int) (r : Rq) : (grantK S p r).said = S.said ++ [⟨false, r.cl, p, hasK S r p == 2⟩] := rfl
theorem alone_grant {p : Int} {r : Rq} (hwf : S.wf) (h : Alone S) (hw : ways S p r = []) : Alone (grantK S p r) := by
  intro q c d l m hl hm h2
  rw [grant_L] at hl hm
  split at hl
  · rename_i e
    split at hm
    · rename_i e'; rw [e.2, e'.2]
    · rename_i e'
      have hd : d ≠ r.cl := fun x => e' ⟨e.1, x⟩
      injection hl with hl
      subst hl
      rw [e.1] at hm
      have hb := bars_false (ways_nil hwf hw hm) hd
      have h2' : hasK S r p = 2 := h2
      unfold hasK at h2'
      have hh : holdsS S r.cl p = 2 := by omega
      unfold holdsS at hh
      cases hs : S.L p r.cl with
      | none => rw [hs] at hh; cases hh
      | some l0 =>
        rw [hs] at hh
        rw [e.2]
        exact h p r.cl d l0 m hs hm hh
  · rename_i e
    split at hm
    · rename_i e'
      have hc : c ≠ r.cl := fun x => e ⟨e'.1, x⟩
      rw [e'.1] at hl
      exact absurd h2 (bars_false (ways_nil hwf hw hl) hc).1
    · exact h q c d l m hl hm h2
theorem word_grant {p : Int} {r : Rq} (hr : r ∈ S.Q p) (hrw : r.wants = 1 ∨ r.wants = 2) {w : Wd} (h : WOK S w) : WOK (grantK S p r) w := by
  by_cases e : w.pg = p ∧ w.cl = r.cl
  · refine ⟨fun hc => ?_, fun hc => ⟨?_, fun hx => ?_⟩⟩
    · have := (h.1 hc).2 r (by rw [e.1]; exact hr)
      exact absurd e.2.symm this
    · rw [grant_L, if_pos e]; simp
    · have h2 := (h.2 hc).2 hx
      unfold holdsS
      rw [grant_L, if_pos e]
      dsimp only
      unfold hasK
      rw [← e.2, ← e.1, h2]
      omega
  · have hL : (grantK S p r).L w.pg w.cl = S.L w.pg w.cl := by rw [grant_L, if_neg e]
    have hH : holdsS (grantK S p r) w.cl w.pg = holdsS S w.cl w.pg := by unfold holdsS; rw [hL]
    refine ⟨fun hc => ⟨by rw [hH]; exact (h.1 hc).1, fun s hs => ?_⟩, fun hc => ⟨by rw [hL]; exact (h.2 hc).1, fun hx => by rw [hH]; exact (h.2 hc).2 hx⟩⟩
    rw [grant_Q] at hs
    split at hs
    · rename_i e1
      exact (h.1 hc).2 s (by rw [e1]; exact (List.mem_filter.1 hs).1)
    · exact (h.1 hc).2 s hs
theorem jw_grant {p : Int} {r : Rq} (hwf : S.wf) (hr : r ∈ S.Q p) (h : JW S) : JW (grantK S p r) := by
  have hrw := (hwf.rq p r hr).2.2.2.2
  intro w hw
  rw [grant_S] at hw
  rcases List.mem_append.1 hw with hw | hw
  · exact word_grant hr hrw (h w hw)
  · obtain rfl := List.mem_singleton.1 hw
    refine ⟨fun _ => ⟨?_, fun s hs => ?_⟩, fun hc => by cases hc⟩
    · unfold holdsS
      dsimp only
      rw [grant_L, if_pos ⟨rfl, rfl⟩]
      dsimp only
      rcases hasK_or hwf (p := p) hrw with e | e <;> rw [e] <;> rfl
    · dsimp only at hs
      rw [grant_Q, if_pos rfl] at hs
      have := (List.mem_filter.1 hs).2
      intro e
      simp [notR, e] at this
theorem call1_is (p st c : Int) : call1 p st S c = S ∨ ∃ l, S.L p c = some l ∧ call1 p st S c = sayK (setK S p c (some { l with called := st })) true c p st := by
  unfold call1
  split
  · exact .inl rfl
  · rename_i l hl
    split
    · exact .inr ⟨l, hl, rfl⟩
    · exact .inl rfl
theorem call1_holds (p st c d q : Int) : holdsS (call1 p st S c) d q = holdsS S d q := by
  rcases call1_is (S := S) p st c with e | ⟨l, hl, e⟩
  · rw [e]
  · rw [e]
    unfold holdsS sayK setK
    dsimp only
    by_cases e1 : q = p ∧ d = c
    · rw [if_pos e1, e1.1, e1.2, hl]
    · rw [if_neg e1]
theorem holds_none {d q : Int} (hwf : S.wf) : holdsS S d q = 0 ↔ S.L q d = none := by
  unfold holdsS
  cases h : S.L q d with
  | none => simp
  | some l => have := (hwf.lk q d l h).2.2.2.2; simp; omega
theorem alone_of_holds {T : KS} (hS : S.wf) (hT : T.wf) (h : ∀ d q, holdsS T d q = holdsS S d q) (ha : Alone S) : Alone T := by
  intro q c d l m hl hm h2
  have h1 : holdsS S c q = 2 := by rw [← h c q]; unfold holdsS; rw [hl]; exact h2
  have h3 : holdsS S d q ≠ 0 := by rw [← h d q]; intro e; rw [(holds_none hT).1 e] at hm; cases hm
  cases e1 : S.L q c with
  | none => unfold holdsS at h1; rw [e1] at h1; cases h1
  | some l1 =>
    cases e2 : S.L q d with
    | none => exact absurd ((holds_none hS).2 e2) h3
    | some m1 =>
      unfold holdsS at h1; rw [e1] at h1
      exact ha q c d l1 m1 e1 e2 h1
theorem wok_of {T : KS} (hS : S.wf) (hT : T.wf) (h : ∀ d q, holdsS T d q = holdsS S d q) (hQ : ∀ q, ∀ r ∈ T.Q q, r ∈ S.Q q) {w : Wd} (hw : WOK S w) : WOK T w :=
  ⟨fun hc => ⟨by rw [h]; exact (hw.1 hc).1, fun r hr => (hw.1 hc).2 r (hQ _ r hr)⟩, fun hc => ⟨fun e => (hw.2 hc).1 ((holds_none hS).1 (by rw [← h]; exact (holds_none hT).2 e)), fun hx => by rw [h]; exact (hw.2 hc).2 hx⟩⟩
theorem call1_Q (p st c q : Int) : (call1 p st S c).Q q = S.Q q := by
  rcases call1_is (S := S) p st c with e | ⟨l, _, e⟩ <;> rw [e] <;> rfl
theorem jw_call1 {p st c : Int} (hwf : S.wf) (hst : st = 2 ∨ holdsS S c p = 2) (h : JW S) : JW (call1 p st S c) := by
  have hT := hwf.call1 p st c
  have hh := fun d q => call1_holds (S := S) p st c d q
  have hq : ∀ q, ∀ r ∈ (call1 p st S c).Q q, r ∈ S.Q q := fun q r hr => by rw [call1_Q] at hr; exact hr
  rcases call1_is (S := S) p st c with e | ⟨l, hl, e⟩
  · rw [e]; exact h
  · intro w hw
    have hs : (call1 p st S c).said = S.said ++ [⟨true, c, p, st == 2⟩] := by rw [e]; rfl
    rw [hs] at hw
    rcases List.mem_append.1 hw with hw | hw
    · exact wok_of hwf hT hh hq (h w hw)
    · obtain rfl := List.mem_singleton.1 hw
      refine ⟨(fun hc => by cases hc), fun _ => ⟨fun e1 => ?_, fun hx => ?_⟩⟩
      · have := (holds_none hT).2 e1
        rw [hh, holds_none hwf, hl] at this; cases this
      · rw [hh]
        rcases hst with e | e
        · simp [e] at hx
        · exact e
theorem jw_callK {p st : Int} : ∀ (cs : List Int) {S : KS}, S.wf → (∀ c ∈ cs, st = 2 ∨ holdsS S c p = 2) → JW S → JW (callK S p cs st)
  | [], _, _, _, h => h
  | c :: cs, S, hwf, hst, h => jw_callK cs (hwf.call1 p st c) (fun d hd => by rw [call1_holds]; exact hst d (List.mem_cons_of_mem _ hd)) (jw_call1 hwf (hst c List.mem_cons_self) h)
theorem callK_holds {p st d q : Int} : ∀ (cs : List Int) (S : KS), holdsS (callK S p cs st) d q = holdsS S d q
  | [], _ => rfl
  | c :: cs, S => (callK_holds cs (call1 p st S c)).trans (call1_holds p st c d q)
theorem callK_Q {p st q : Int} : ∀ (cs : List Int) (S : KS), (callK S p cs st).Q q = S.Q q
  | [], _ => rfl
  | c :: cs, S => (callK_Q cs (call1 p st S c)).trans (call1_Q p st c q)
theorem ways_mem {p : Int} {r : Rq} {c : Int} (h : c ∈ ways S p r) : ∃ l, S.L p c = some l ∧ barsB r c l = true := by
  have h2 := (List.mem_filter.1 h).2
  unfold inB at h2
  cases hl : S.L p c with
  | none => rw [hl] at h2; cases h2
  | some l => rw [hl] at h2; exact ⟨l, rfl, h2⟩
theorem safe_settleN : ∀ (n : Nat) {S : KS} (p : Int), S.wf → Alone S → JW S → Alone (settleN n S p) ∧ JW (settleN n S p)
  | n, S, p, hwf, ha, hj => by
    unfold settleN
    cases hq : S.Q p with
    | nil => exact ⟨ha, hj⟩
    | cons r q =>
      have hr : r ∈ S.Q p := by rw [hq]; exact List.mem_cons_self
      have hrw := hwf.rq p r hr
      dsimp only
      split
      · rename_i hw
        cases n with
        | zero => exact ⟨ha, hj⟩
        | succ m => exact safe_settleN m p (hwf.grant hrw) (alone_grant hwf ha hw) (jw_grant hwf hr hj)
      · refine ⟨alone_of_holds hwf (hwf.callK p r.wants _) (fun d q => callK_holds _ _) ha, jw_callK _ hwf (fun c hc => ?_) hj⟩
        obtain ⟨l, hl, hb⟩ := ways_mem hc
        rcases (bars_true hb).2 with e | e
        · exact .inr (by unfold holdsS; rw [hl]; exact e)
        · exact .inl e
def Safe (S : KS) : Prop := S.wf ∧ Alone S ∧ JW S
theorem Safe.settle (h : Safe S) (p : Int) : Safe (settleK S p) := ⟨h.1.settle p, safe_settleN _ p h.1 h.2.1 h.2.2⟩
theorem safe_stls : ∀ (L : List Int) {S : KS}, Safe S → Safe (L.foldl settleK S)
  | [], _, h => h
  | p :: L, _, h => safe_stls L (h.settle p)
theorem safe_quiet (hwf : S.wf) (ha : Alone S) (hs : S.said = []) : Safe S := ⟨hwf, ha, fun w hw => by rw [hs] at hw; cases hw⟩
/-- between two calls -/
def Calm (S : KS) : Prop := S.wf ∧ Alone S ∧ S.said = []
theorem alone_setK {p c : Int} {o : Option Lk} (h : Alone S) (ho : ∀ l, o = some l → S.L p c ≠ none ∧ (l.has ≠ 2 ∨ holdsS S c p = 2)) : Alone (setK S p c o) := by
  intro q a b l m hl hm h2
  unfold setK at hl hm
  dsimp only at hl hm
  have key : ∀ {x y : Int} {u v : Lk}, (if q = p ∧ x = c then o else S.L q x) = some u → u.has = 2 → (if q = p ∧ y = c then o else S.L q y) = some v → x = y := by
    intro x y u v hu h2 hv
    have h1 : ∃ u', S.L q x = some u' ∧ u'.has = 2 := by
      split at hu
      · rename_i e
        rcases (ho u hu).2 with e1 | e1
        · exact absurd h2 e1
        · unfold holdsS at e1
          rw [e.1, e.2]
          cases hs : S.L p c with
          | none => rw [hs] at e1; cases e1
          | some u' => rw [hs] at e1; exact ⟨u', rfl, e1⟩
      · exact ⟨u, hu, h2⟩
    obtain ⟨u', hu', h2'⟩ := h1
    split at hv
    · rename_i e
      by_cases ex : x = c
      · rw [ex, e.2]
      · cases hs : S.L q y with
        | none => exact absurd (by rw [← e.1, ← e.2]; exact hs) (ho v hv).1
        | some v' => exact h q x y u' v' hu' hs h2'
    · exact h q x y u' v hu' hv h2'
  exact key hl h2 hm
theorem calm_free (h : Calm S) (c p : Int) (keep : Bool) : Safe (freeK S c p keep) := by
  unfold freeK
  split
  · exact safe_quiet h.1 h.2.1 h.2.2
  · rename_i h0
    refine Safe.settle (safe_quiet (h.1.setK fun l hl => ?_) (alone_setK h.2.1 fun l hl => ⟨fun e => h0 ((holds_none h.1).2 e), ?_⟩) h.2.2) p
    · cases hs : S.L p c with
      | none => exact absurd ((holds_none h.1).2 hs) h0
      | some l0 =>
        have := h.1.lk p c l0 hs
        cases keep with
        | true => rw [if_pos rfl] at hl; injection hl with hl; subst hl; exact ⟨this.1, this.2.1, this.2.2.1, this.2.2.2.1, .inl rfl⟩
        | false => rw [if_neg (by simp)] at hl; cases hl
    · cases keep with
      | true => rw [if_pos rfl] at hl; injection hl with hl; subst hl; exact .inl (by simp)
      | false => rw [if_neg (by simp)] at hl; cases hl
theorem calm_busy (h : Calm S) (c p : Int) : Safe (busyK S c p) := by
  have hw := h.1.busy c p
  unfold busyK at hw ⊢
  cases hl : S.L p c with
  | none => exact safe_quiet h.1 h.2.1 h.2.2
  | some l =>
    rw [hl] at hw
    refine safe_quiet hw (alone_setK h.2.1 fun l' e => ⟨by rw [hl]; simp, ?_⟩) h.2.2
    injection e with e
    subst e
    by_cases h2 : l.has = 2
    · exact .inr (by unfold holdsS; rw [hl]; exact h2)
    · exact .inl h2
theorem calm_ask (h : Calm S) (c p : Int) (x : Bool) : Safe (askK S c p x) := by
  have hw := h.1.ask c p x
  by_cases h0 : askX S c p = 0
  · by_cases h1 : wantI x ≤ holdsS S c p
    · have e : askK S c p x = sayK S false c p (holdsS S c p) := by unfold askK; rw [if_pos h0, if_pos h1]
      rw [e] at hw ⊢
      refine ⟨hw, h.2.1, fun w hw' => ?_⟩
      have hs : (sayK S false c p (holdsS S c p)).said = [⟨false, c, p, holdsS S c p == 2⟩] := by unfold sayK; rw [h.2.2]; rfl
      rw [hs] at hw'
      obtain rfl := List.mem_singleton.1 hw'
      refine ⟨fun _ => ⟨?_, fun r hr e => ?_⟩, (fun hc => by cases hc)⟩
      · have hx : 1 ≤ wantI x := by cases x <;> decide
        have hh : holdsS (sayK S false c p (holdsS S c p)) c p = holdsS S c p := rfl
        rw [hh]
        dsimp only
        rcases holds_or h.1 c p with e | e | e
        · omega
        · rw [e]; rfl
        · rw [e]; rfl
      · unfold askX at h0
        split at h0
        · cases h0
        · split at h0
          · cases h0
          · rename_i hn
            exact hn (List.any_eq_true.2 ⟨r, hr, by simp [e]⟩)
    · have e : askK S c p x = settleK (setQ S p (S.Q p ++ [⟨c, wantI x⟩])) p := by unfold askK; rw [if_pos h0, if_neg h1]
      rw [e]
      have hw2 : (setQ S p (S.Q p ++ [⟨c, wantI x⟩])).wf := by
        have hb : (1 ≤ c ∧ c ≤ 8 ∧ 0 ≤ p ∧ p < 1024) ∧ ∀ r ∈ S.Q p, r.cl ≠ c := by
          unfold askX at h0
          split at h0
          · cases h0
          · split at h0
            · cases h0
            · rename_i a b
              refine ⟨by omega, fun r hr e => b (List.any_eq_true.2 ⟨r, hr, by simp [e]⟩)⟩
        refine h.1.setQ (fun r hr => ?_) ?_
        · rcases List.mem_append.1 hr with hr | hr
          · exact h.1.rq p r hr
          · obtain rfl := List.mem_singleton.1 hr
            exact ⟨hb.1.2.2.1, hb.1.2.2.2, hb.1.1, hb.1.2.1, by cases x <;> simp [wantI]⟩
        · rw [List.map_append, List.nodup_append]
          refine ⟨h.1.nd p, by simp, fun a ha b hb' e => ?_⟩
          obtain ⟨r, hr, rfl⟩ := List.mem_map.1 ha
          simp at hb'
          exact hb.2 r hr (by rw [e, hb'])
      exact Safe.settle (safe_quiet hw2 h.2.1 h.2.2) p
  · have e : askK S c p x = S := by unfold askK; rw [if_neg h0]
    rw [e]; exact safe_quiet h.1 h.2.1 h.2.2
theorem calm_unqs (c : Int) : ∀ (L : List Int) {S : KS}, Calm S → Calm (L.foldl (fun S p => unqK S c p) S)
  | [], _, h => h
  | p :: L, S, h => calm_unqs c L (S := unqK S c p) ⟨h.1.unq c p, h.2.1, h.2.2⟩
theorem calm_unls (c : Int) : ∀ (L : List Int) {S : KS}, Calm S → Calm (L.foldl (fun S p => setK S p c none) S)
  | [], _, h => h
  | p :: L, S, h => calm_unls c L (S := setK S p c none) ⟨h.1.setK (fun l e => by cases e), alone_setK h.2.1 (fun l e => by cases e), h.2.2⟩
theorem calm_leave (h : Calm S) (c : Int) (o : List Int) : Safe (leaveK S c o) := by
  have h2 := calm_unqs c (waitsP S c) h
  exact safe_stls _ (safe_quiet h2.1 h2.2.1 h2.2.2)
theorem calm_gone (h : Calm S) (c : Int) : Safe (goneK S c) := calm_leave (calm_unls c (heldP S c 1) h) c _
theorem calm_new : Calm newK := ⟨new_wf, (fun p c d l m hl => by cases hl), rfl⟩
theorem Safe.taken (h : Safe S) : Calm { S with said := [] } := ⟨⟨h.1.lk, h.1.rq, h.1.nd⟩, h.2.1, rfl⟩
/-- what a word says, as the law asks -/
theorem wok_ask (h : Safe S) {w : Wd} (hw : w ∈ S.said) : (Int.le (-9223372036854775808) w.cl ∧ w.cl ≤ 9223372036854775807 ∧ -9223372036854775808 ≤ w.pg ∧ w.pg ≤ 9223372036854775807) ∧ holdsS S w.cl w.pg ≠ 0 ∧ (w.call = true → w.x = false → holdsS S w.cl w.pg = 2) ∧ (w.call = false → (w.x = true ↔ holdsS S w.cl w.pg = 2)) := by
  have hk := h.2.2 w hw
  have h0 : holdsS S w.cl w.pg ≠ 0 := by
    cases hc : w.call with
    | true => exact fun e => (hk.2 hc).1 ((holds_none h.1).1 e)
    | false => rw [(hk.1 hc).1]; split <;> decide
  have hb : ∃ l, S.L w.pg w.cl = some l := by
    cases e : S.L w.pg w.cl with
    | none => exact absurd ((holds_none h.1).2 e) h0
    | some l => exact ⟨l, rfl⟩
  obtain ⟨l, hl⟩ := hb
  have hr := h.1.lk _ _ _ hl
  refine ⟨⟨by show (-9223372036854775808 : Int) ≤ _; omega, by omega, by omega, by omega⟩, h0, fun hc hx => (hk.2 hc).2 hx, fun hc => ?_⟩
  rw [(hk.1 hc).1]
  cases w.x <;> simp
/-- how many hold a page, how many as an X -/
def cntF (f : Int → Bool) (k : Nat) : Nat := ((upFrom 1 k).filter f).length
theorem upFrom_snoc : ∀ (n : Nat) (lo : Int), upFrom lo (n + 1) = upFrom lo n ++ [lo + n]
  | 0, lo => by simp [upFrom]
  | n + 1, lo => by
    rw [upFrom, upFrom_snoc n (lo + 1), upFrom, List.cons_append]
    congr 3
    omega
theorem cntF_succ (f : Int → Bool) (k : Nat) : cntF f (k + 1) = cntF f k + (if f (1 + k) = true then 1 else 0) := by
  unfold cntF
  rw [upFrom_snoc, List.filter_append, List.length_append]
  congr 1
  cases h : f (1 + k) <;> simp [h]
theorem alone_cnt (hwf : S.wf) (h : Alone S) (p : Int) (k : Nat) : cntF (fun c => holdsS S c p == 2) k ≤ 1 ∧ (1 ≤ cntF (fun c => holdsS S c p == 2) k → cntF (fun c => decide (0 < holdsS S c p)) k ≤ 1) := by
  have key : ∀ c d, holdsS S c p = 2 → 0 < holdsS S d p → d = c := fun c d h1 h2 => by
    cases e1 : S.L p c with
    | none => rw [(holds_none hwf).2 e1] at h1; cases h1
    | some l =>
      cases e2 : S.L p d with
      | none => rw [(holds_none hwf).2 e2] at h2; omega
      | some m =>
        unfold holdsS at h1; rw [e1] at h1
        exact (h p c d l m e1 e2 h1).symm
  have one : ∀ (f : Int → Bool) c, (∀ d, f d = true → d = c) → cntF f k ≤ 1 := fun f c hf => by
    have hn : ((upFrom 1 k).filter f).Nodup := (up_nodup k 1).sublist List.filter_sublist
    unfold cntF
    have := nodup_len 1 c _ hn (fun x hx => by have := hf x (List.mem_filter.1 hx).2; omega)
    exact this
  by_cases hx : ∃ c, holdsS S c p = 2
  · obtain ⟨c, hc⟩ := hx
    exact ⟨one _ c fun d hd => key c d hc (by simp at hd; omega), fun _ => one _ c fun d hd => key c d hc (by simpa using hd)⟩
  · have h0 : cntF (fun c => holdsS S c p == 2) k = 0 := by
      unfold cntF
      rw [List.length_eq_zero_iff, List.filter_eq_nil_iff]
      intro c _ hc
      exact hx ⟨c, by simpa using hc⟩
    omega
/-! how many words -/
theorem leave_said (hwf : S.wf) (c : Int) (o : List Int) : (leaveK S c o).said.length ≤ S.said.length + 16 * (1024 + o.length) := by
  have hq : ∀ (L : List Int) (T : KS), T.wf → (L.foldl (fun S p => unqK S c p) T).wf ∧ (L.foldl (fun S p => unqK S c p) T).said = T.said := by
    intro L
    induction L with
    | nil => exact fun T hT => ⟨hT, rfl⟩
    | cons p L ih => exact fun T hT => ⟨(ih _ (hT.unq c p)).1, (ih _ (hT.unq c p)).2⟩
  have h1 := hq (waitsP S c) S hwf
  have h2 := fold_said (f := settleK) (k := 16) (fun _ _ h => ⟨h.settle _, settle_said h _⟩) ((waitsP S c ++ o).mergeSort fun x y => decide (x ≤ y)) h1.1
  rw [h1.2] at h2
  have h3 : ((waitsP S c ++ o).mergeSort fun x y => decide (x ≤ y)).length = (waitsP S c).length + o.length := by simp
  rw [h3] at h2
  have h4 := pages_len (waitB S c)
  unfold leaveK
  unfold waitsP at h2 h4 ⊢
  omega
theorem ask_said (hwf : S.wf) (c p : Int) (x : Bool) : (askK S c p x).said.length ≤ S.said.length + 40 := by
  unfold askK
  split
  · split
    · simp [sayK]
    · have h1 := settleN_said ((setQ S p (S.Q p ++ [⟨c, wantI x⟩])).Q p).length (setQ S p (S.Q p ++ [⟨c, wantI x⟩])) p
      have h2 : ((setQ S p (S.Q p ++ [⟨c, wantI x⟩])).Q p).length = (S.Q p).length + 1 := by simp [setQ]
      have h3 := hwf.len p
      have h4 : (setQ S p (S.Q p ++ [⟨c, wantI x⟩])).said = S.said := rfl
      unfold settleK
      rw [h4] at h1
      omega
  · omega
theorem free_said (hwf : S.wf) (c p : Int) (keep : Bool) : (freeK S c p keep).said.length ≤ S.said.length + 40 := by
  unfold freeK
  split
  · omega
  · have h1 := settleN_said ((setK S p c (if keep = true then some ⟨1, 0, false⟩ else none)).Q p).length (setK S p c (if keep = true then some ⟨1, 0, false⟩ else none)) p
    have h3 := hwf.len p
    have h2 : (setK S p c (if keep = true then some ⟨1, 0, false⟩ else none)).Q p = S.Q p := rfl
    have h4 : (setK S p c (if keep = true then some ⟨1, 0, false⟩ else none)).said = S.said := rfl
    unfold settleK
    rw [h4] at h1
    rw [h2] at h1 ⊢
    omega
theorem busy_said (c p : Int) : (busyK S c p).said = S.said := by
  unfold busyK
  cases S.L p c <;> rfl
theorem held_len (S : KS) (c k : Int) : (heldP S c k).length ≤ 1024 := pages_len _
theorem gone_said (hwf : S.wf) (c : Int) : (goneK S c).said.length ≤ S.said.length + 16 * 2048 := by
  have hq : ∀ (L : List Int) (T : KS), T.wf → (L.foldl (fun S p => setK S p c none) T).wf ∧ (L.foldl (fun S p => setK S p c none) T).said = T.said := by
    intro L
    induction L with
    | nil => exact fun T hT => ⟨hT, rfl⟩
    | cons p L ih => exact fun T hT => ⟨(ih _ (hT.setK fun l e => by cases e)).1, (ih _ (hT.setK fun l e => by cases e)).2⟩
  have h1 := hq (heldP S c 1) S hwf
  have h2 := leave_said h1.1 c (heldP S c 1)
  rw [h1.2] at h2
  have h3 := held_len S c 1
  unfold goneK
  omega
end
end Go.Proofs.Ythodggkpkjfggaa.Key
