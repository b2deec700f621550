/- Undone down to one of a transaction's entries, as the statement MendBack does it, on plain data. The statements' own great, with no entries. A recovery that is cut off is gone on with: what the statement asks, on plain data. -/
import Derived.Test.YtkeocnhndnbamaaGreatQBook15
import Derived.Test.YtkeocnhndnbamaaGreatQBook5
import Derived.Test.YtkeocnhndnbamaaGreatQBook11
import Derived.Test.YtkeocnhndnbamaaGreatQBook31
namespace Go.Proofs.YtkeocnhndnbamaaGreat.Mend
set_option maxRecDepth 100000
open Go.Proofs.YtkeocnhndnbamaaGreat.Slab (Slot nos atL)
open Go.Proofs.YtkeocnhndnbamaaGreat.Ent (Ent longB goodB)
open Go.Proofs.YtkeocnhndnbamaaGreat.Patch
open Go.Proofs.YtkeocnhndnbamaaGreat.Past (T3 txE ofL)
open Go.Proofs.YtkeocnhndnbamaaGreat.MLog
section
variable {p : PD} {s : St T3 Slot Im} {P T : Nat}
/-- a step of it -/
def downB (p : PD) (c down : Int) : Option Ent := backL p.list (txnP p c) down
def downP (p : PD) (c : Int) (x : Ent) : PD := addP p (turnX x (lsnP p c x.page) (p.last c))
/-- where it stands: behind A's last entry of the client nothing that is undone lies at or ahead of that one -/
structure Dn (p : PD) (s : St T3 Slot Im) (P T : Nat) (A : List Ent) (sA : St T3 Slot Im) (c down : Int) (t : T3) : Prop where
  liv : Liv p s P T
  logA : Log G i0 (A.map enE) sA
  tx : txnP p c = t
  last : sA.last t = down
  rest : ∃ R, p.list = A ++ R ∧ ∀ y ∈ R, txE y = t → (enE y).kind = 2 → down ≤ y.next
theorem Dn.stk {A : List Ent} {sA : St T3 Slot Im} {c down : Int} {t : T3} (h : Dn p s P T A sA c down t) (hc : Cl c) :
    ∃ Q, s.stk t = Q ++ sA.stk t ∧ (∀ x ∈ Q, down < x.lsn ∧ down ≤ x.prev) ∧ ∀ n, sA.own n = some t → ∀ k, undo Q n k (G.at_ (s.pg n).2 k) = G.at_ (sA.pg n).2 k := by
  obtain ⟨R, hR, hn⟩ := h.rest
  have hlog := h.liv.core.log
  rw [hR, List.map_append] at hlog
  have he : s.ended t = false := by rw [← h.tx]; exact (h.liv.live c hc).1
  obtain ⟨Q, q1, q2, -, q4⟩ := back_is h.logA t (R.map enE) hlog he fun y hy ht hk => by
    obtain ⟨v, hv, rfl⟩ := mem_map hy
    rw [h.last]
    exact hn v hv ht hk
  rw [h.last] at q2
  exact ⟨Q, q1, q2, fun n hn k => (q4 n hn).2 k⟩
/-- one more is undone, or it is done -/
theorem Dn.step {A : List Ent} {sA : St T3 Slot Im} {c down : Int} {t : T3} (h : Dn p s P T A sA c down t) (hc : Cl c) (hP : P ≤ 1000) :
    (downB p c down = none ∧ ∀ n, sA.own n = some t → ∀ k, G.at_ (s.pg n).2 k = G.at_ (sA.pg n).2 k) ∨
      ∃ x s', downB p c down = some x ∧ down < x.lsn ∧ turnC x (lsnP p c x.page) (p.last c) = 0 ∧ addB p (turnX x (lsnP p c x.page) (p.last c)) = true ∧ Dn (downP p c x) s' P T A sA c down t ∧ (s'.stk t).length + 1 = (s.stk t).length := by
  obtain ⟨Q, q1, q2, q3⟩ := h.stk hc
  have htx := h.tx
  rcases next_is h.liv.core.good h.liv.core.log (txnP p c) with ⟨h1, h2⟩ | ⟨y, hy, r, h1, h2⟩
  · left
    rw [htx] at h1
    rw [h1] at q1
    have hQ : Q = [] := (List.append_eq_nil_iff.1 q1.symm).1
    refine ⟨by unfold downB backL; rw [h2], fun n hn k => ?_⟩
    have := q3 n hn k
    rw [hQ] at this
    exact this
  · have h1' := h1
    rw [htx] at h1'
    by_cases hd : down < y.lsn
    · right
      have hbk : downB p c down = some y := by unfold downB backL; rw [h2]; dsimp only; rw [if_pos hd]
      have hl0 : 0 ≤ down := by rw [← h.last]; exact (inv_log h.logA).lst t
      have hb0 : backL p.list (txnP p c) 0 = some y := by unfold backL; rw [h2]; dsimp only; rw [if_pos (by omega)]
      rcases liv_undo h.liv hP hc with ⟨e1, -, -⟩ | ⟨s', e1, e2, e3, e4⟩
      · rw [h1] at e1; cases e1
      · have e5 := e1
        unfold undoB at e5
        rw [hb0] at e5
        dsimp only at e5
        rw [Bool.and_eq_true, decide_eq_true_eq] at e5
        have e6 : undoP p c = downP p c y := by
          unfold undoP
          rw [hb0]
          dsimp only
          rw [if_pos e5.1]; rfl
        rw [e6] at e2 e3
        obtain ⟨R, hR, hn⟩ := h.rest
        have e7 : (downP p c y).list = A ++ (R ++ [turnX y (lsnP p c y.page) (p.last c)]) := by
          unfold downP addP
          rw [if_pos e5.2, ← List.append_assoc, ← hR]; rfl
        -- the change that is undone lies behind A
        have hyQ : enE y ∈ Q := by
          cases Q with
          | nil =>
            exfalso
            rw [List.nil_append] at q1
            have hm := stk_lsn h.logA t (enE y) (by rw [← q1, h1']; exact List.mem_cons_self)
            have hm1 : y.lsn ≤ sA.last t := hm.1
            rw [h.last] at hm1
            omega
          | cons z Q' =>
            rw [h1', List.cons_append] at q1
            injection q1 with q5 q6
            rw [q5]; exact List.mem_cons_self
        have hprev : down ≤ y.prev := (q2 _ hyQ).2
        have htb : turnX y (lsnP p c y.page) (p.last c) = turnY y (lsnP p c y.page) (p.last c) := by
          have := e5.1
          unfold turnC at this
          unfold turnX
          split at this
          · rename_i hb; rw [if_pos hb]
          · cases this
        refine ⟨y, s', hbk, hd, e5.1, e5.2, ⟨e2, h.logA, by rw [e3, htx], h.last, _, e7, fun v hv ht hk => ?_⟩, by rw [← htx]; exact e4⟩
        rcases List.mem_append.1 hv with hv | hv
        · exact hn v hv ht hk
        · have : v = turnX y (lsnP p c y.page) (p.last c) := by simpa using hv
          rw [this, htb]
          exact hprev
    · left
      have hbk : downB p c down = none := by unfold downB backL; rw [h2]; dsimp only; rw [if_neg hd]
      refine ⟨hbk, fun n hn k => ?_⟩
      have hQ : Q = [] := by
        cases Q with
        | nil => rfl
        | cons z Q' =>
          exfalso
          rw [h1', List.cons_append] at q1
          injection q1 with q5 q6
          have := (q2 z List.mem_cons_self).1
          rw [← q5] at this
          exact hd this
      have := q3 n hn k
      rw [hQ] at this
      exact this
/-- the pages that a transaction changed that isn't at its end are its own -/
theorem own_of {A : List Ent} {sA : St T3 Slot Im} {t : T3} (hA : Log G i0 (A.map enE) sA) (he : sA.ended t = false) : ∀ e ∈ A, txE e = t → sA.own e.page = some t := fun e hm ht => by
  have h1 := ((live_log hA).own (enE e) (List.mem_map_of_mem hm) (by rw [show (enE e).t = t from ht]; exact he)).2
  rw [show (enE e).t = t from ht] at h1
  exact h1
theorem ended_pre {j0 : Im} {A : List (En T3 Slot)} {sA : St T3 Slot Im} (hA : Log G j0 A sA) (t : T3) (B : List (En T3 Slot)) : ∀ {s : St T3 Slot Im}, Log G j0 (A ++ B) s → s.ended t = false → sA.ended t = false := by
  refine snoc_ind (P := fun B => ∀ {s : St T3 Slot Im}, Log G j0 (A ++ B) s → s.ended t = false → sA.ended t = false) ?_ ?_ B
  · intro s h he
    rw [List.append_nil] at h
    rw [log_det hA h]; exact he
  · intro B e ih s h he
    rw [← List.append_assoc] at h
    obtain ⟨s0, h0, hs⟩ := log_snoc h
    exact ih h0 (step_ended hs he)
/-- where it begins -/
theorem Dn.start (h : Liv p s P T) {c : Int} {i : Nat} {x : Ent} (hi : p.list[i]? = some x) (ht : txE x = txnP p c)
    (hno : ∀ y ∈ p.list.drop (i + 1), txE y = txnP p c → (enE y).kind = 2 → x.lsn ≤ y.next) : ∃ sA, Dn p s P T (p.list.take (i + 1)) sA c x.lsn (txnP p c) := by
  have hlog := h.core.log
  rw [← List.take_append_drop (i + 1) p.list, List.map_append] at hlog
  obtain ⟨sA, hA⟩ := log_pre _ hlog
  refine ⟨sA, h, hA, rfl, ?_, p.list.drop (i + 1), (List.take_append_drop _ _).symm, hno⟩
  have hA2 := hA
  rw [List.take_add_one, hi, List.map_append] at hA2
  obtain ⟨s0, h0, hs⟩ := log_snoc hA2
  rw [(step_last hs).1, ← ht]
  exact upd_same _ _ _
end
end Go.Proofs.YtkeocnhndnbamaaGreat.Mend
namespace Go.Proofs.YtkeocnhndnbamaaGreat.Mend
set_option maxRecDepth 100000
open Go.RowKit Go.Sort
open Go.Proofs.YtkeocnhndnbamaaGreat.Mem
def GreatRes (m : Nat) (ls : List Lf) (w : World) (e : Ending) (w' : World) : Prop := ∃ G, e = .returned (.bool G) ∧ w' = w ∧ (G = false → m ≤ 12 ∧ ∀ x ∈ ls, x.z.length ≤ 50)
set_option maxRecDepth 100000 in
set_option maxHeartbeats 4000000 in
theorem great_any (a : Option Addr) (m c : Nat) (ls : List Lf) (w : World) (h : LeavesI w a m ls) (_hm : m ≤ maxLen) :
    Calls Tryz.prog 22 #[.slice none 0 0, .slice a m c] w (GreatRes m ls w) := by
  have HL := Lib.hid h
  have hlen := h.1
  clear h
  by_cases h1 : 12 < m
  · have e1 : decide ((m : Int) > 12) = true := decide_eq_true (by omega)
    go_enter Tryz.func22, Tryz.ntmps22
    go_wp2
    go_ret
    exact ⟨true, rfl, rfl, fun h => by cases h⟩
  have e1 : decide ((m : Int) > 12) = false := decide_eq_false (by omega)
  go_enter Tryz.func22, Tryz.ntmps22
  go_wp2
  go_loopw [5] (fun iv wr => iv = .int .i64 0 ∧ wr = w) (fun _ _ => 0)
  case atStart => exact ⟨rfl, rfl⟩
  case round =>
    obtain ⟨rfl, rfl⟩ := hrel
    go_wp2
    go_loopw [6] (fun iv wz => ∃ j : Nat, j ≤ m ∧ iv = .int .i64 (j : Int) ∧ wz = wr ∧ Hid (∀ x ∈ ls.take j, x.z.length ≤ 50)) (fun iv _ => m - intN iv)
    case atStart => exact ⟨0, Nat.zero_le _, rfl, rfl, Lib.hid (by simp)⟩
    case round =>
      obtain ⟨j, hj, rfl, rfl, HS⟩ := hrel
      by_cases hjl : j < m
      · obtain ⟨b, off, a', n', c', x, rfl, -, hx, -, -, c3, hsl, hml⟩ := HL.out.at_ hjl
        have hd : decide ((j : Int) < (m : Int)) = true := decide_eq_true (by omega)
        have hz := hsl.len
        by_cases h50 : 50 < n'
        · have e2 : decide ((n' : Int) > 50) = true := decide_eq_true (by omega)
          go_wp2
          go_ret
          exact ⟨true, rfl, rfl, fun h => by cases h⟩
        · have e2 : decide ((n' : Int) > 50) = false := decide_eq_false (by omega)
          go_wp2
          go_loopw [7] (fun kv wz => ∃ k : Nat, k ≤ n' ∧ kv = .int .i64 (k : Int) ∧ wz = wr) (fun kv _ => n' - intN kv)
          case atStart => exact ⟨0, Nat.zero_le _, rfl, rfl⟩
          case round =>
            obtain ⟨k, hk, rfl, rfl⟩ := hrel
            by_cases hkl : k < n'
            · have hd2 : decide ((k : Int) < (n' : Int)) = true := decide_eq_true (by omega)
              obtain ⟨b2, off2, rfl, -, hc⟩ := hsl.2.2 (by omega)
              obtain ⟨-, q2⟩ := hc k hkl
              clear hc hsl
              generalize (x.z.getD k Slab.nos).d = y at q2
              by_cases hy : 1024 < y.size
              · have e3 : decide ((y.size : Int) > 1024) = true := decide_eq_true (by omega)
                go_wp2
                go_ret
                exact ⟨true, rfl, rfl, fun h => by cases h⟩
              · have e3 : decide ((y.size : Int) > 1024) = false := decide_eq_false (by omega)
                go_wp2
                go_roundw
                case rel => exact ⟨k + 1, by omega, by go_num, by first | rfl | trivial⟩
                case measure => simp [intN]; omega
            · obtain rfl : k = n' := by omega
              have hd2 : decide ((k : Int) < (k : Int)) = false := decide_eq_false (by omega)
              have HS2 := Lib.hid (show ∀ y ∈ ls.take (j + 1), y.z.length ≤ 50 from fun y hy => by
                rw [List.take_add_one, hx] at hy
                rcases List.mem_append.1 hy with h | h
                · exact HS.out y h
                · have : y = x := by simpa using h
                  rw [this]; omega)
              go_wp2
              go_roundw
              case rel => exact ⟨j + 1, by omega, by go_num, by first | rfl | trivial, HS2⟩
              case measure => simp [intN]; omega
      · obtain rfl : j = m := by omega
        have hd : decide ((j : Int) < (j : Int)) = false := decide_eq_false (by omega)
        go_wp2
        go_ret
        refine ⟨false, rfl, rfl, fun _ => ⟨by omega, ?_⟩⟩
        have := HS.out
        rwa [List.take_of_length_le (by omega)] at this
end Go.Proofs.YtkeocnhndnbamaaGreat.Mend
namespace Go.Proofs.YtkeocnhndnbamaaGreat.Mend
set_option maxRecDepth 100000
open Go.RowKit
open Go.Proofs.YtkeocnhndnbamaaGreat.Slab (Slot)
open Go.Proofs.YtkeocnhndnbamaaGreat.Ent (Ent goodB longB)
open Go.Proofs.YtkeocnhndnbamaaGreat.Past (T3 txE)
open Go.Proofs.YtkeocnhndnbamaaGreat.MLog
open Go.Proofs.YtkeocnhndnbamaaGreat.Patch (allR)
theorem stk_in {T S I : Type} [DecidableEq T] {G : Img I S} {j0 : I} {L : List (En T S)} {s : St T S I} (h : Log G j0 L s) : ∀ t x, x ∈ s.stk t → x ∈ L := by
  induction h with
  | nil => intro t x hx; cases hx
  | @snoc L s s' e hL hs ih =>
    intro t x hx
    cases hs with
    | @change i' hk =>
      dsimp only at hx
      by_cases ht : t = e.t
      · rw [ht, upd_same] at hx
        rcases List.mem_cons.1 hx with rfl | hx
        · simp
        · exact List.mem_append_left _ (ih _ _ hx)
      · rw [upd_ne _ _ ht] at hx; exact List.mem_append_left _ (ih _ _ hx)
    | @undo y r i' hk he hp h1 h2 hst =>
      dsimp only at hx
      by_cases ht : t = e.t
      · rw [ht, upd_same] at hx
        exact List.mem_append_left _ (ih e.t x (by rw [hst]; exact List.mem_cons_of_mem _ hx))
      · rw [upd_ne _ _ ht] at hx; exact List.mem_append_left _ (ih _ _ hx)
    | end_ hk =>
      dsimp only at hx
      by_cases ht : t = e.t
      · rw [ht, upd_same] at hx; cases hx
      · rw [upd_ne _ _ ht] at hx; exact List.mem_append_left _ (ih _ _ hx)
/-- what is undone lies on pages that the log has changed -/
theorem run_page {T S I : Type} [DecidableEq T] {G : Img I S} {C : T → Prop} {j0 : I} {L B : List (En T S)} {s m : St T S I} (hL : Log G j0 L s) (h : Run G C L s B m) (Q : Int → Prop) (hq : ∀ e ∈ L, Q e.page) : ∀ e ∈ B, Q e.page := by
  induction h with
  | refl => intro e he; cases he
  | @snoc B m m' e h hk hC hs ih =>
    obtain ⟨a1, a2, -⟩ := run_is hL h
    intro x hx
    rcases List.mem_append.1 hx with hx | hx
    · exact ih x hx
    · have : x = e := by simpa using hx
      subst this
      cases hs with
      | @change i' hk2 => omega
      | @undo y r i' hk2 he hp h1 h2 hst hpg =>
        rw [hpg]
        have hy : y ∈ m.stk x.t := by rw [hst]; exact List.mem_cons_self
        have hyk := ((inv_log a1).mem _ y hy).2.1
        rcases List.mem_append.1 (stk_in a1 _ y hy) with h5 | h5
        · exact hq y h5
        · have := (a2 y h5).1; omega
      | end_ hk2 => omega
section
variable {p : PD} {s : St T3 Slot Im} {P T : Nat} {ver : Nat → Nat} {k : Nat} {sk : St T3 Slot Im} {E : List Ent} {R : List Lf}
/-- the entries added lie on the four pages -/
theorem added_fit {C : T3 → Prop} {L B F : List Ent} {m z : St T3 Slot Im} (hL : Log G i0 (L.map enE) sk) (hu : Undone C L sk B F m z) (hr : ∀ x ∈ L, 0 ≤ x.page ∧ x.page ≤ 3) : ∀ x ∈ B ++ F, goodB x = true ∧ (longB x.kind = true → 0 ≤ x.page ∧ x.page ≤ 3) := fun x hx => by
  refine ⟨hu.good x hx, fun hl => ?_⟩
  rcases List.mem_append.1 hx with hx | hx
  · exact run_page hL hu.run (fun q => 0 ≤ q ∧ q ≤ 3) (fun e he => by obtain ⟨y, hy, rfl⟩ := mem_map he; exact hr y hy) (enE x) (List.mem_map_of_mem hx)
  · have h1 := ((hu.kinds hL).2 x hx).1
    have h2 := (kind_long (hu.good x (List.mem_append_right _ hx))).1 hl
    omega
theorem take_pre (p : PD) {v k : Nat} (h : v ≤ k) : ∃ R, p.list.take k = p.list.take v ++ R := ⟨(p.list.take k).drop v, by
  conv => lhs; rw [← List.take_append_drop v (p.list.take k)]
  rw [List.take_take, Nat.min_eq_left h]⟩
/-- the second restart -/
theorem again_two (hv : Liv p s P T) (hP : P ≤ 80) (hk : k ≤ p.list.length) (hver : ∀ n, n < 4 → ver n ≤ k) (hlog : LogOK (p.list.take k) sk (mixV p ver) 1000) (hp : PostU (fun _ => True) (p.list.take k) sk (mixV p ver) 1000 E R) (j : Nat) :
    ∃ sj, LogOK (p.list.take k ++ E.take j) sj (mixV p ver) 2000 ∧ (∀ x ∈ mixV p ver, allR x.n x.l x.z (p.list.take k ++ E.take j) = (0, (sj.pg x.n).1, (sj.pg x.n).2.1)) ∧ fold0 (p.list.take k ++ E.take j) = fold0 (p.list.take k) ∧ (E.length ≤ j → ∀ t, 0 < sj.last t → sj.ended t = true) := by
  obtain ⟨B, F, m, z, rfl, hu, hR, hl, hlen⟩ := hp
  have hpot := hv.pot
  have hL80 : (p.list.take k).length ≤ 80 := by rw [List.length_take]; omega
  have hrng : ∀ x ∈ p.list.take k, 0 ≤ x.page ∧ x.page ≤ 3 := fun x hx => (hv.core.rng x (List.mem_of_mem_take hx)).1
  have hfit := added_fit hlog.log hu hrng
  obtain ⟨sj, j1, -, j3, j4⟩ := hu.again (j := j) (A := []) (sA := st0 i0) hlog.good hlog.log Log.nil ⟨p.list.take k, (List.nil_append _).symm⟩
  refine ⟨sj, ⟨j1, j4, fun x hx => ?_, by decide, ?_, hlog.ok, fun x hx => ⟨j4 x hx, fun hlb => ?_⟩⟩, fun x hx => ?_, j3, fun hj t ht => ?_⟩
  · rcases List.mem_append.1 hx with hx | hx
    · have := hlog.lsn x hx; omega
    · have := hl x (List.mem_of_mem_take hx); omega
  · rw [List.length_append, List.length_take (l := B ++ F)]; omega
  · rcases List.mem_append.1 hx with hx | hx
    · exact mixV_idx p ver (hrng x hx)
    · exact mixV_idx p ver ((hfit x (List.mem_of_mem_take hx)).2 hlb)
  · obtain ⟨n, hn, rfl⟩ := mixV_mem hx
    obtain ⟨sv, l1, l2⟩ := ver_at hv (Nat.le_trans (hver n hn) hk)
    obtain ⟨sj2, q1, q2, -⟩ := hu.again (j := j) hlog.good hlog.log l1 (take_pre p (hver n hn))
    have hd := log_det q1 j1
    subst hd
    have h5 := q2 (n : Int)
    rw [l2]
    exact h5
  · rw [List.take_of_length_le hj] at j1
    have hz := (hu.log hlog.log).2
    rw [← List.append_assoc] at hz
    rw [← List.append_assoc] at j1
    have hd := log_det j1 hz
    rw [hd] at ht ⊢
    exact hu.all t trivial ht
/-- the third one: over the pages that the first one left -/
theorem again_three (hv : Liv p s P T) (hP : P ≤ 80) (hk : k ≤ p.list.length) (hlog : LogOK (p.list.take k) sk (mixV p ver) 1000) (hp : PostU (fun _ => True) (p.list.take k) sk (mixV p ver) 1000 E R) :
    ∃ z, LogOK (p.list.take k ++ E) z R 2000 ∧ (∀ x ∈ R, allR x.n x.l x.z (p.list.take k ++ E) = (0, (z.pg x.n).1, (z.pg x.n).2.1)) ∧ fold0 (p.list.take k ++ E) = fold0 (p.list.take k) ∧ (∀ t, 0 < z.last t → z.ended t = true) ∧ R = (mixV p ver).map (fun x => ⟨x.n, (z.pg x.n).1, (z.pg x.n).2.1⟩) := by
  obtain ⟨z0, -, -, -, hb⟩ := post_pages hlog hp
  obtain ⟨B, F, m, z, rfl, hu, hR, hl, hlen⟩ := hp
  have hpot := hv.pot
  have hL80 : (p.list.take k).length ≤ 80 := by rw [List.length_take]; omega
  have hrng : ∀ x ∈ p.list.take k, 0 ≤ x.page ∧ x.page ≤ 3 := fun x hx => (hv.core.rng x (List.mem_of_mem_take hx)).1
  have hfit := added_fit hlog.log hu hrng
  have hz := (hu.log hlog.log).2
  have hgood : ∀ x ∈ p.list.take k ++ (B ++ F), goodB x = true := fun x hx => by
    rcases List.mem_append.1 hx with hx | hx
    · exact hlog.good x hx
    · exact hu.good x hx
  have hlsn : ∀ x ∈ p.list.take k ++ (B ++ F), x.lsn ≤ 2000 := fun x hx => by
    rcases List.mem_append.1 hx with hx | hx
    · have := hlog.lsn x hx; omega
    · have := hl x hx; omega
  have hpgs : ∀ n, 0 ≤ (z.pg n).1 ∧ (z.pg n).1 ≤ 2000 := fun n => ⟨(inv_log hz).pgs n, log_page hz (by decide) (fun e he => by obtain ⟨x, hx, rfl⟩ := mem_map he; exact hlsn x hx) n⟩
  have hidx : ∀ q, idxL R q = idxL (mixV p ver) q := fun q => by
    rw [hR]
    unfold idxL
    rw [List.findIdx?_map]; rfl
  refine ⟨z, ⟨hz, hgood, hlsn, by decide, by rw [List.length_append]; omega, ⟨?_, fun x hx => ?_, fun x hx => ?_⟩, fun x hx => ⟨hgood x hx, fun hlb => ?_⟩⟩, fun x hx => ?_, fold_quiet _ _ fun x hx => ?_, fun t ht => hu.all t trivial ht, hR⟩
  · have := hlog.ok.apart
    rw [hR]
    unfold Apart at this ⊢
    rw [List.pairwise_map]
    exact this
  · rw [hR] at hx
    obtain ⟨y, hy, rfl⟩ := List.mem_map.1 hx
    exact hlog.ok.num y hy
  · rw [hR] at hx
    obtain ⟨y, hy, rfl⟩ := List.mem_map.1 hx
    show Slab.goodB (z.pg y.n).1 (z.pg y.n).2.1 = true
    have := hpgs y.n
    exact good_at this.1 (by omega)
  · rw [hidx]
    rcases List.mem_append.1 hx with hx | hx
    · exact mixV_idx p ver (hrng x hx)
    · exact mixV_idx p ver ((hfit x hx).2 hlb)
  · rw [hR] at hx
    obtain ⟨y, hy, rfl⟩ := List.mem_map.1 hx
    have h5 := redo_log (A := p.list.take k ++ (B ++ F)) (R := []) (by rw [List.append_nil]; exact hgood) hz (by rw [List.append_nil]; exact hz) y.n
    rw [List.append_nil] at h5
    exact h5
  · have hk := hu.kinds hlog.log
    rcases List.mem_append.1 hx with hx | hx
    · have := (hk.1 x hx).1; omega
    · have := (hk.2 x hx).1; omega
theorem post_none {L : List Ent} {ls : List Lf} {K : Int} (hlog : LogOK L sk ls K) (hall : ∀ t, 0 < sk.last t → sk.ended t = true) (hp : PostU (fun _ => True) L sk ls K E R) : E = [] := by
  obtain ⟨B, F, m, z, rfl, hu, -⟩ := hp
  obtain ⟨h1, h2⟩ := hu.none hlog.log hall
  rw [h1, h2]; rfl
end
end Go.Proofs.YtkeocnhndnbamaaGreat.Mend
