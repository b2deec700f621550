/- Two ends that talk: the states, what holds of them, and the rounds in which all comes. -/
import Derived.Test.YtbbikibkijncgaaCordTalkMath
namespace Go.Proofs.Ytbbikibkijncgaa.Cord
set_option maxRecDepth 100000
structure TS where
  A : CE
  B : CE
  tA : List ByteArray
  tB : List ByteArray
  aA : List ByteArray
  aB : List ByteArray
  pl : List (Gm × Bool)
def TS.swap (t : TS) : TS := ⟨t.B, t.A, t.tB, t.tA, t.aB, t.aA, t.pl.map fun x => (x.1, !x.2)⟩
def poolOf (l : List (Gm × Bool)) (b : Bool) : List Gm := (l.filter fun x => x.2 == b).map (·.1)
theorem pool_app (a b : List (Gm × Bool)) (c : Bool) : poolOf (a ++ b) c = poolOf a c ++ poolOf b c := by simp [poolOf]
theorem pool_swap (l : List (Gm × Bool)) (b : Bool) : poolOf (l.map fun x => (x.1, !x.2)) b = poolOf l (!b) := by
  induction l with
  | nil => rfl
  | cons x r ih =>
    obtain ⟨g, c⟩ := x
    unfold poolOf at ih ⊢
    cases b <;> cases c <;> simpa using ih
theorem pool_same (l : List Gm) (b c : Bool) : poolOf (l.map fun g => (g, b)) c = if b = c then l else [] := by
  induction l with
  | nil => split <;> rfl
  | cons x r ih =>
    unfold poolOf at ih ⊢
    cases b <;> cases c <;> simp_all
theorem pool_mem {l : List (Gm × Bool)} {g : Gm} {b : Bool} : g ∈ poolOf l b ↔ (g, b) ∈ l := by
  unfold poolOf
  simp
structure Inv (ep : Int) (t : TS) : Prop where
  ab : Half ep t.A t.B t.tB t.aB (poolOf t.pl true)
  ba : Half ep t.B t.A t.tA t.aA (poolOf t.pl false)
  wa : t.A.wf
  wb : t.B.wf
theorem Inv.swap {ep : Int} {t : TS} (h : Inv ep t) : Inv ep t.swap :=
  ⟨by show Half ep t.B t.A t.tA t.aA (poolOf (t.pl.map _) true); rw [pool_swap]; exact h.ba, by show Half ep t.A t.B t.tB t.aB (poolOf (t.pl.map _) false); rw [pool_swap]; exact h.ab, h.wb, h.wa⟩
def newT (ep : Int) : TS := ⟨newE ep, newE ep, [], [], [], [], []⟩
theorem inv_new {ep : Int} (h1 : 1 ≤ ep) (h2 : ep ≤ 1073741824) : Inv ep (newT ep) := ⟨half_new ep, half_new ep, wf_new h1 h2, wf_new h1 h2⟩
/-- an end is given a text -/
def giveA (t : TS) (s : ByteArray) : TS := if sendX t.A s = 0 then { t with A := sendE t.A s, tB := t.tB ++ [s] } else t
theorem Inv.giveA {ep : Int} {t : TS} (h : Inv ep t) {s : ByteArray} (hs : s.size ≤ 1024) : Inv ep (giveA t s) := by
  unfold Cord.giveA
  split
  · rename_i h0
    rcases sendX_is t.A s with ⟨h1, _⟩ | ⟨_, _, h1, _⟩ | ⟨_, h1, _, _⟩
    · omega
    · omega
    · obtain ⟨g1, g2, g3, g4⟩ := send_got t.A s
      exact ⟨h.ab.send hs h1, h.ba.other g1 g2, wf_send h.wa s, h.wb⟩
  · exact h
theorem giveA_A (t : TS) (s : ByteArray) : (giveA t s).A = sendE t.A s := by
  unfold giveA
  split
  · rfl
  · rename_i h0
    rcases sendX_is t.A s with ⟨_, _, h⟩ | ⟨_, _, _, h⟩ | ⟨_, _, h, _⟩
    · exact h.symm
    · exact h.symm
    · exact absurd h h0
/-- a datagram comes -/
def comesA (t : TS) (g : Gm) : TS := { t with B := takeE t.B g, aB := t.aB ++ takeL t.B g }
theorem Inv.comesA {ep : Int} {t : TS} (h : Inv ep t) {g : Gm} (hg : (g, true) ∈ t.pl) : takeX t.B g = 0 ∧ Inv ep (comesA t g) := by
  obtain ⟨h1, h2, h3⟩ := h.ab.take h.ba (pool_mem.2 hg)
  exact ⟨h1, h2, h3, h.wa, wf_take h.wb g⟩
/-- an end sends -/
def sendsA (t : TS) : TS := { t with A := outE t.A, pl := t.pl ++ (outL t.A).map fun g => (g, true) }
theorem Inv.sendsA {ep : Int} {t : TS} (h : Inv ep t) : Inv ep (sendsA t) := by
  refine ⟨?_, ?_, wf_out h.wa, h.wb⟩
  · show Half ep (outE t.A) t.B t.tB t.aB (poolOf (t.pl ++ _) true)
    rw [pool_app, pool_same, if_pos rfl]
    exact h.ab.out h.wa
  · show Half ep t.B (outE t.A) t.tA t.aA (poolOf (t.pl ++ _) false)
    rw [pool_app, pool_same, if_neg (by decide), List.append_nil]
    exact h.ba.other rfl rfl
/-! ### a round in which the first end sends, and all of it comes -/
def runA (t : TS) (l : List Gm) : TS := l.foldl comesA t
theorem take_got {B : CE} (hw : B.wf) {g : Gm} (hx : checkX B g = 0) : B.got ≤ (takeE B g).got ∧ g.ak ≤ ((takeE B g).ack : Int) ∧ B.ack ≤ (takeE B g).ack ∧ (g.sq = 0 → (takeE B g).due = B.due) ∧ (g.sq ≠ 0 → (takeE B g).due = true) ∧ ∀ x : Nat, g.sq = (x : Int) → 1 ≤ x → x ≤ B.got + 1 → x ≤ (takeE B g).got := by
  obtain ⟨s1, s2, s3, s4⟩ := settle_got B g.ak.toNat
  have hk : g.ak ≤ ((settleE B g.ak.toNat).ack : Int) ∧ B.ack ≤ (settleE B g.ak.toNat).ack := by
    unfold settleE
    split
    · constructor <;> omega
    · constructor <;> dsimp only <;> omega
  have hne : ¬ (checkX B g ≠ 0) := by simp [hx]
  unfold takeE
  rw [if_neg hne]
  by_cases h0 : g.sq = 0
  · rw [if_pos h0]
    exact ⟨by rw [s1]; exact Nat.le_refl _, hk.1, hk.2, fun _ => s3, fun h => absurd h0 h, fun x h1 h2 => by omega⟩
  · rw [if_neg h0]
    refine ⟨by show B.got ≤ (settleE B g.ak.toNat).got + _; omega, hk.1, hk.2, fun h => absurd h h0, fun _ => rfl, fun x h1 h2 h3 => ?_⟩
    show x ≤ (settleE B g.ak.toNat).got + (told (layE (settleE B g.ak.toNat) g.sq.toNat g.bd)).length
    rw [s1]
    rcases Nat.lt_or_ge B.got x with h4 | h4
    · have hxe : x = B.got + 1 := by omega
      have hbd : g.bd.size ≤ 16384 := by rcases check_cases B g with ⟨_, h⟩ | ⟨_, _, h⟩ | ⟨_, _, _, h⟩ | ⟨_, _, _, _, h⟩ | ⟨_, _, _, _, _, h⟩ | ⟨_, _, _, _, _, h⟩ | ⟨_, _, _, _, _, _, h⟩ | ⟨_, h, _⟩ | ⟨_, _, _, _, _, h, _⟩ <;> omega
      have hwl : (layE (settleE B g.ak.toNat) g.sq.toNat g.bd).wf := wf_lay (wf_settle hw _) (by rw [s1]; omega) hbd
      have hend := told_end hwl
      rcases Nat.eq_zero_or_pos (told (layE (settleE B g.ak.toNat) g.sq.toNat g.bd)).length with h5 | h5
      · exfalso
        rw [h5] at hend
        have hxn : g.sq.toNat = B.got + 1 := by omega
        rw [hxn] at hend
        unfold layE at hend
        dsimp only at hend
        rw [s1, Nat.add_zero] at hend
        split at hend
        · unfold upd at hend; rw [if_pos rfl] at hend; cases hend
        · rename_i hc; exact hc ⟨hend, Nat.lt_succ_self _⟩
      · omega
    · omega
/-- what holds behind i of the datagrams -/
structure Rnd (ep : Int) (t : TS) (i : Nat) (u : TS) : Prop where
  inv : Inv ep u
  A : u.A = outE t.A
  tA : u.tA = t.tA
  tB : u.tB = t.tB
  aA : u.aA = t.aA
  pl : u.pl = (sendsA t).pl
  got : t.A.op ≠ [] → t.A.ack + i ≤ u.B.got
  due1 : t.A.op ≠ [] → 0 < i → u.B.due = true
  due0 : t.A.op = [] → u.B.due = t.B.due
  ack : 0 < i → t.A.got ≤ u.B.ack
  same : i = 0 → u.B = t.B ∧ u.aB = t.aB
theorem out_at {e : CE} {i : Nat} {g : Gm} (h : (outL e)[i]? = some g) : (e.op = [] ∧ i = 0 ∧ e.due = true ∧ g = gmA e) ∨ (e.op ≠ [] ∧ ∃ s, e.op[i]? = some s ∧ g = gm e i s) := by
  unfold outL at h
  split at h
  · rename_i h0
    split at h
    · rename_i hd
      rcases i with _ | i
      · exact .inl ⟨h0, rfl, hd, by simpa using h.symm⟩
      · simp at h
    · simp at h
  · rename_i h0
    have hlt : i < e.op.length := by have := gms_len e; have := (List.getElem?_eq_some_iff.1 h).1; omega
    have hx : e.op[i]? = some e.op[i] := List.getElem?_eq_getElem hlt
    refine .inr ⟨h0, e.op[i], hx, ?_⟩
    rw [gms_get hx] at h
    injection h with h; exact h.symm
theorem Rnd.start {ep : Int} {t : TS} (h : Inv ep t) : Rnd ep t 0 (sendsA t) :=
  ⟨h.sendsA, rfl, rfl, rfl, rfl, rfl, fun _ => h.ab.ack, fun _ h => absurd h (Nat.lt_irrefl 0), fun _ => rfl, fun h => absurd h (Nat.lt_irrefl 0), fun _ => ⟨rfl, rfl⟩⟩
theorem Rnd.next {ep : Int} {t u : TS} {i : Nat} (h : Rnd ep t i u) {g : Gm} (hg : (outL t.A)[i]? = some g) : takeX u.B g = 0 ∧ Rnd ep t (i + 1) (comesA u g) := by
  have hm : (g, true) ∈ u.pl := by
    rw [h.pl]
    exact List.mem_append.2 (.inr (List.mem_map.2 ⟨g, List.mem_of_getElem? hg, rfl⟩))
  obtain ⟨h1, h2⟩ := h.inv.comesA hm
  obtain ⟨k1, k2, k3, k4, k5, k6⟩ := take_got h.inv.wb h1
  have hak : g.ak = (t.A.got : Int) := by rcases out_at hg with ⟨_, _, _, rfl⟩ | ⟨_, s, _, rfl⟩ <;> rfl
  refine ⟨h1, h2, h.A, h.tA, h.tB, h.aA, h.pl, fun hne => ?_, fun hne _ => ?_, fun h0 => ?_, fun _ => ?_, fun h => absurd h (Nat.succ_ne_zero i)⟩
  · rcases out_at hg with ⟨h0, _⟩ | ⟨_, s, hs, rfl⟩
    · exact absurd h0 hne
    · have := h.got hne
      exact k6 (t.A.ack + (i + 1)) (by simp [gm]; omega) (by omega) (by omega)
  · rcases out_at hg with ⟨h0, _⟩ | ⟨_, s, hs, rfl⟩
    · exact absurd h0 hne
    · exact k5 (by simp [gm]; omega)
  · rcases out_at hg with ⟨_, _, _, rfl⟩ | ⟨hne, _⟩
    · exact (k4 rfl).trans (h.due0 h0)
    · exact absurd h0 hne
  · rw [hak] at k2; show t.A.got ≤ (takeE u.B g).ack; omega
/-- what holds between the rounds; r: how many there were; the end that sends next is the first one -/
structure S1 (t : TS) : Prop where
  got : t.B.got = t.tB.length
  due : t.A.due = false
  or_ : t.A.op = [] ∨ t.B.due = true
structure S3 (t : TS) : Prop where
  gA : t.A.got = t.tA.length
  gB : t.B.got = t.tB.length
  oA : t.A.op = []
  oB : t.B.op = []
  dA : t.A.due = false
  dB : t.B.due = false
structure S2 (t : TS) : Prop where
  gA : t.A.got = t.tA.length
  gB : t.B.got = t.tB.length
  oA : t.A.op = []
  dB : t.B.due = false
  or_ : t.B.op = [] ∨ t.A.due = true
section
variable {ep : Int} {t u : TS}
theorem Rnd.full (h : Rnd ep t (outL t.A).length u) (h0 : Inv ep t) : u.B.got = u.tB.length := by
  have h1 := h.inv.ab.got
  have h2 := h0.ab.giv
  rw [h.tB] at h1 ⊢
  by_cases hne : t.A.op = []
  · have h3 := h.inv.ab.ack
    rw [h.A] at h3
    have : (outE t.A).ack = t.A.ack := rfl
    rw [hne] at h2; simp at h2; omega
  · have h3 := h.got hne
    have h4 : (outL t.A).length = t.A.op.length := by unfold outL; rw [if_neg hne, gms_len]
    omega
theorem out_none {e : CE} (h : (outL e).length = 0) : e.op = [] ∧ e.due = false := by
  unfold outL at h
  split at h
  · rename_i h0
    split at h
    · simp at h
    · rename_i hd; exact ⟨h0, by simpa using hd⟩
  · rename_i h0; rw [gms_len] at h; exact absurd (List.eq_nil_of_length_eq_zero h) h0
theorem s1_of (h : Rnd ep t (outL t.A).length u) (h0 : Inv ep t) : S1 u := by
  refine ⟨h.full h0, by rw [h.A]; rfl, ?_⟩
  rw [h.A]
  by_cases hne : t.A.op = []
  · exact .inl hne
  · refine .inr (h.due1 hne ?_)
    have h4 : (outL t.A).length = t.A.op.length := by unfold outL; rw [if_neg hne, gms_len]
    have : t.A.op.length ≠ 0 := fun x => hne (List.eq_nil_of_length_eq_zero x)
    omega
theorem op_nil {A B : CE} {tx at_ : List ByteArray} {pl : List Gm} (h : Half ep A B tx at_ pl) (hk : tx.length ≤ A.ack) : A.op = [] := by
  have := h.giv
  exact List.eq_nil_of_length_eq_zero (by omega)
/-- the second round: seen from the one that sends (t.A is the second end here) -/
theorem s2_of (h : Rnd ep t (outL t.A).length u) (h0 : Inv ep t) (h1 : S1 t.swap) : S2 u.swap := by
  have hs := s1_of h h0
  have ga : t.A.got = t.tA.length := h1.got
  refine ⟨hs.got, ?_, ?_, hs.due, hs.or_⟩
  · show u.A.got = u.tA.length
    rw [h.A, h.tA]; exact ga
  · show u.B.op = []
    rcases Nat.eq_zero_or_pos (outL t.A).length with hz | hz
    · have hn := out_none hz
      have hb : u.B = t.B := (h.same hz).1
      rw [hb]
      rcases h1.or_ with h2 | h2
      · exact h2
      · have h3 : t.A.due = true := h2
        rw [hn.2] at h3; cases h3
    · have hk := h.ack hz
      refine op_nil h.inv.ba ?_
      rw [h.tA, ← ga]; exact hk
theorem s3_of (h : Rnd ep t (outL t.A).length u) (h0 : Inv ep t) (h2 : S2 t) : S3 u := by
  refine ⟨by rw [h.A, h.tA]; exact h2.gA, h.full h0, by rw [h.A]; exact h2.oA, ?_, by rw [h.A]; rfl, (h.due0 h2.oA).trans h2.dB⟩
  rcases Nat.eq_zero_or_pos (outL t.A).length with hz | hz
  · have hn := out_none hz
    rw [(h.same hz).1]
    rcases h2.or_ with h3 | h3
    · exact h3
    · rw [hn.2] at h3; cases h3
  · have hk := h.ack hz
    refine op_nil h.inv.ba ?_
    rw [h.tA, ← h2.gA]; exact hk
theorem s3_stays (h : Rnd ep t (outL t.A).length u) (h3 : S3 t) : S3 u := by
  have hz : (outL t.A).length = 0 := by unfold outL; rw [if_pos h3.oA, h3.dA]; rfl
  have hb : u.B = t.B := (h.same hz).1
  have ha : u.A = t.A := by rw [h.A]; unfold outE; have := h3.dA; cases hA : t.A; rw [hA] at this; cases this; rfl
  exact ⟨by rw [ha, h.tA]; exact h3.gA, by rw [hb, h.tB]; exact h3.gB, by rw [ha]; exact h3.oA, by rw [hb]; exact h3.oB, by rw [ha]; exact h3.dA, by rw [hb]; exact h3.dB⟩
theorem S3.swap (h : S3 t) : S3 t.swap := ⟨h.gB, h.gA, h.oB, h.oA, h.dB, h.dA⟩
theorem S3.back (h : S3 t.swap) : S3 t := ⟨h.gB, h.gA, h.oB, h.oA, h.dB, h.dA⟩
/-- how far r rounds have brought it -/
def Stage (r : Nat) (t : TS) : Prop := match r with
  | 0 => True
  | 1 => S1 t
  | 2 => S2 t
  | _ => S3 t
theorem stage_even {r : Nat} (hr : r = 0 ∨ r = 2 ∨ r = 4) (h : Rnd ep t (outL t.A).length u) (h0 : Inv ep t) (hs : Stage r t) : Stage (r + 1) u := by
  rcases hr with rfl | rfl | rfl
  · exact s1_of h h0
  · exact s3_of h h0 hs
  · exact s3_stays h hs
theorem stage_odd {r : Nat} (hr : r = 1 ∨ r = 3 ∨ r = 5) (h : Rnd ep t (outL t.A).length u) (h0 : Inv ep t) (hs : Stage r t.swap) : Stage (r + 1) u.swap := by
  rcases hr with rfl | rfl | rfl
  · exact s2_of h h0 hs
  · exact (s3_stays h (S3.back hs)).swap
  · exact (s3_stays h (S3.back hs)).swap
/-- what the statement asks in the end -/
theorem stage_end (h : Inv ep t) (hs : Stage 6 t) : t.aA = t.tA ∧ t.aB = t.tB ∧ t.A.op.length = 0 ∧ t.B.op.length = 0 ∧ owesB t.A = false ∧ owesB t.B = false := by
  have h3 : S3 t := hs
  refine ⟨?_, ?_, by rw [h3.oA]; rfl, by rw [h3.oB]; rfl, ?_, ?_⟩
  · rw [h.ba.at_is, h3.gA, List.take_length]
  · rw [h.ab.at_is, h3.gB, List.take_length]
  · unfold owesB; rw [h3.oA, h3.dA]; rfl
  · unfold owesB; rw [h3.oB, h3.dB]; rfl
end
end Go.Proofs.Ytbbikibkijncgaa.Cord
