/- What the statements of layer 18 say of a log, on plain data. The changes of a list by their pages, in memory. Small laws on worlds in which blocks were made: for drawn regions with a call. An entry's box, written. Cells that a walk reads on, held over calls that only make memory. -/
import Derived.Test.YtkeocnhndnbamaaGreatQBook10
import Derived.Test.YtkeocnhndnbamaaGreatQBook12
import Derived.Test.YtkeocnhndnbamaaGreatQPastTake
import Derived.Test.YtkeocnhndnbamaaGreatQBook11
import Derived.Test.YtkeocnhndnbamaaGreatQBook4
import Derived.Test.YtkeocnhndnbamaaGreatQBook2
import Derived.Test.YtkeocnhndnbamaaGreatRows
import Derived.Below
import Derived.WalkKit
import Derived.Deep.Draws
namespace Go.Proofs.YtkeocnhndnbamaaGreat.Mend
set_option maxRecDepth 100000
open Go.Proofs.YtkeocnhndnbamaaGreat.Slab (Slot nos atL)
open Go.Proofs.YtkeocnhndnbamaaGreat.Ent (Ent longB goodB)
open Go.Proofs.YtkeocnhndnbamaaGreat.Patch
open Go.Proofs.YtkeocnhndnbamaaGreat.Past (T3 txE ofL)
open Go.Proofs.YtkeocnhndnbamaaGreat.MLog
def fold0 (L : List Ent) : Int → Int → Slot := foldA (L.map enE) (fun _ _ => nos)
theorem fold0_at (L : List Ent) (n k : Int) : foldA (L.map enE) (fun _ k => G.at_ i0 k) n k = fold0 L n k := by
  have : (fun (_ : Int) (k : Int) => G.at_ i0 k) = fun _ _ => nos := by
    funext _ k
    show atL 0 [] k = nos
    unfold atL
    split
    · split
      · rename_i h; simp at h; omega
      · rfl
    · rfl
  rw [this]; rfl
theorem pg_ent {T S I : Type} [DecidableEq T] {G : Img I S} {j0 : I} {L : List (En T S)} {s : St T S I} (h : Log G j0 L s) (n : Int) : (s.pg n).1 = 0 ∨ ∃ e ∈ L, e.lsn = (s.pg n).1 := by
  induction h with
  | nil => exact .inl rfl
  | @snoc L s s' e hL hs ih =>
    have hp := step_page (inv_log hL) hs n
    by_cases hc : (e.kind = 1 ∨ e.kind = 2) ∧ e.page = n
    · obtain ⟨-, -, i', -, h4⟩ := hp.2 hc
      exact .inr ⟨e, by simp, by rw [h4]⟩
    · rw [hp.1 hc]
      exact ih.imp id fun ⟨y, hy, q⟩ => ⟨y, List.mem_append_left _ hy, q⟩
/-- a log told again to its own pages, of whatever version -/
theorem redo_log {A R : List Ent} {sA s : St T3 Slot Im} (hg : ∀ x ∈ A ++ R, goodB x = true) (hA : Log G i0 (A.map enE) sA) (h : Log G i0 ((A ++ R).map enE) s) (n : Int) :
    allR n (sA.pg n).1 (sA.pg n).2.1 (A ++ R) = (0, (s.pg n).1, (s.pg n).2.1) := by
  have h2 := h
  rw [List.map_append] at h2
  have hr := redo_all hA h2 n
  rw [← List.map_append] at hr
  have h0 := (inv_log hA).pgs n
  have hb : (sA.pg n).1 ≤ 1099511627776 := by
    rcases pg_ent hA n with h3 | ⟨e, he, h4⟩
    · omega
    · obtain ⟨y, hy, rfl⟩ := mem_map he
      have := ent_lsn (hg y (List.mem_append_left _ hy))
      have h4 : y.lsn = (sA.pg n).1 := h4
      omega
  have ha := all_is n hg h0 hb hr
  unfold allR
  rw [if_pos (good_at h0 hb)]
  exact ha
theorem redo_vers {L : List Ent} {now : Pgs} {all : List Pgs} {s : St T3 Slot Im} (h : Core L now all s) {v k : Nat} (hv : v ≤ k) {nv nk : Pgs} (h1 : all[v]? = some nv) (h2 : all[k]? = some nk) (n : Int) :
    allR n (nv n).1 (nv n).2 (L.take k) = (0, (nk n).1, (nk n).2) := by
  obtain ⟨sv, lv, ev⟩ := h.hist v nv h1
  obtain ⟨sk, lk, ek⟩ := h.hist k nk h2
  have hsplit : L.take k = L.take v ++ (L.take k).drop v := by
    conv => lhs; rw [← List.take_append_drop v (L.take k)]
    rw [List.take_take, Nat.min_eq_left hv]
  rw [hsplit] at lk
  have hr := redo_log (fun x hx => h.good x (List.mem_of_mem_take (by rw [hsplit]; exact hx))) lv lk n
  rw [← hsplit] at hr
  rw [ev, ek]
  exact hr
/-- some losers are undone, and at their end -/
structure Undone (C : T3 → Prop) (L : List Ent) (s : St T3 Slot Im) (B F : List Ent) (m z : St T3 Slot Im) : Prop where
  run : Run G C (L.map enE) s (B.map enE) m
  fin : Fin G m (F.map enE) z
  clean : ∀ t, C t → m.ended t = false → m.stk t = []
  mine : ∀ e ∈ F, C (txE e)
  all : ∀ t, C t → 0 < z.last t → z.ended t = true
  good : ∀ x ∈ B ++ F, goodB x = true
section
variable {C : T3 → Prop} {L B F : List Ent} {s m z : St T3 Slot Im}
theorem Undone.log (h : Undone C L s B F m z) (hL : Log G i0 (L.map enE) s) : Log G i0 ((L ++ B).map enE) m ∧ Log G i0 ((L ++ (B ++ F)).map enE) z := by
  have h1 := (run_is hL h.run).1
  have h2 := (fin_is h1 h.fin).1
  refine ⟨by rw [List.map_append]; exact h1, ?_⟩
  rw [List.map_append, List.map_append, ← List.append_assoc]
  exact h2
/-- just what was committed -/
theorem Undone.folds (h : Undone (fun _ => True) L s B F m z) (hL : Log G i0 (L.map enE) s) (n k : Int) : G.at_ (z.pg n).2 k = fold0 L n k := by
  rw [← fold0_at]
  exact restart hL h.run h.fin (fun t ht => h.clean t trivial ht) n k
theorem Undone.kinds (h : Undone C L s B F m z) (hL : Log G i0 (L.map enE) s) : (∀ e ∈ B, (enE e).kind = 2 ∧ C (txE e)) ∧ (∀ e ∈ F, (enE e).kind = 4 ∧ C (txE e)) := by
  have h1 := run_is hL h.run
  have h2 := fin_is h1.1 h.fin
  exact ⟨fun e he => h1.2.1 (enE e) (List.mem_map_of_mem he), fun e he => ⟨h2.2.1 (enE e) (List.mem_map_of_mem he), h.mine e he⟩⟩
/-- without a Commit nothing is committed -/
theorem fold_quiet (L : List Ent) : ∀ (X : List Ent), (∀ e ∈ X, (enE e).kind ≠ 3) → fold0 (L ++ X) = fold0 L := fun X => by
  refine snoc_ind (P := fun X => (∀ e ∈ X, (enE e).kind ≠ 3) → fold0 (L ++ X) = fold0 L) ?_ ?_ X
  · intro _; rw [List.append_nil]
  · intro X e ih h
    unfold fold0 at ih ⊢
    rw [← List.append_assoc, List.map_append, List.map_cons, List.map_nil, fold_snoc, if_neg (h e (by simp))]
    exact ih fun x hx => h x (List.mem_append_left _ hx)
/-- nobody is a loser: nothing is added -/
theorem Undone.none (h : Undone C L s B F m z) (hL : Log G i0 (L.map enE) s) (hall : ∀ t, 0 < s.last t → s.ended t = true) : B = [] ∧ F = [] := by
  have hB : B = [] := by
    cases hb : B with
    | nil => rfl
    | cons e r =>
      exfalso
      have h1 := run_is hL h.run
      rw [hb] at h1
      have hlog := h1.1
      rw [List.map_cons] at hlog
      rw [show List.map enE L ++ enE e :: List.map enE r = (List.map enE L ++ [enE e]) ++ List.map enE r by simp] at hlog
      obtain ⟨s1, hs1⟩ := log_pre _ hlog
      obtain ⟨s0, h0, hst⟩ := log_snoc hs1
      rw [log_det h0 hL] at hst
      have hk : (enE e).kind = 2 := (h1.2.1 (enE e) (by simp)).1
      have hsl := step_last hst
      cases hst with
      | @change i' hk2 => omega
      | @undo x r2 i' hk2 he hp q1 q2 hs =>
        have hm := (inv_log hL).mem (enE e).t x (by rw [hs]; exact List.mem_cons_self)
        have hlv := (inv_log hL).live _ _ hm.2.2
        rw [hall _ hlv.2] at he; cases he
      | end_ hk2 => omega
  refine ⟨hB, ?_⟩
  cases hf : F with
  | nil => rfl
  | cons e r =>
    exfalso
    have h1 := (run_is hL h.run).1
    have h2 := fin_is h1 h.fin
    rw [hf, hB] at h2
    have hlog := h2.1
    rw [List.map_cons, List.map_nil, List.append_nil, show List.map enE L ++ enE e :: List.map enE r = (List.map enE L ++ [enE e]) ++ List.map enE r by simp] at hlog
    obtain ⟨s1, hs1⟩ := log_pre _ hlog
    obtain ⟨s0, h0, hst⟩ := log_snoc hs1
    rw [log_det h0 hL] at hst
    have hk : (enE e).kind = 4 := h2.2.1 (enE e) (by simp)
    cases hst with
    | @change i' hk2 => omega
    | @undo x r2 i' hk2 => omega
    | end_ hk2 he hl => rw [hall _ hl] at he; cases he
/-- who has an entry is at its end, with an entry that says so -/
theorem Undone.ends (h : Undone (fun _ => True) L s B F m z) (hL : Log G i0 (L.map enE) s) : ∀ x ∈ L ++ (B ++ F), ∃ y ∈ L ++ (B ++ F), txE y = txE x ∧ ((enE y).kind = 3 ∨ (enE y).kind = 4) := fun x hx => by
  obtain ⟨-, hz⟩ := h.log hL
  obtain ⟨e1, e2, e3⟩ := ended_log hz (txE x)
  have h1 := h.all (txE x) trivial (e2.2 ⟨enE x, List.mem_map_of_mem hx, rfl⟩)
  obtain ⟨e, he, h2, h3⟩ := e1.1 h1
  obtain ⟨y, hy, rfl⟩ := mem_map he
  exact ⟨y, hy, h2, h3⟩
/-- each entry of a log goes on in its transaction -/
theorem goes_on {A : List Ent} {x : Ent} {R : List Ent} {z : St T3 Slot Im} (h : Log G i0 ((A ++ x :: R).map enE) z) (hg : ∀ y ∈ A, goodB y = true) (hk : (enE x).kind = 2 ∨ (enE x).kind = 4) :
    ∃ sA, Log G i0 (A.map enE) sA ∧ Past.lastOf A (txE x) = some x.prev ∧ 0 < x.prev ∧ x.prev < x.lsn ∧ ∀ y ∈ A, txE y = txE x → (enE y).kind ≠ 3 ∧ (enE y).kind ≠ 4 := by
  rw [List.map_append, List.map_cons, show List.map enE A ++ enE x :: List.map enE R = (List.map enE A ++ [enE x]) ++ List.map enE R by simp] at h
  obtain ⟨s1, hs1⟩ := log_pre _ h
  obtain ⟨sA, hA, hst⟩ := log_snoc hs1
  obtain ⟨q1, q2, q3, q4⟩ := step_last hst
  have hl : 0 < sA.last (txE x) := by
    cases hst with
    | @change i' hk2 => omega
    | @undo y r2 i' hk2 he hp p1 p2 hs =>
      have hm := (inv_log hA).mem (enE x).t y (by rw [hs]; exact List.mem_cons_self)
      exact ((inv_log hA).live _ _ hm.2.2).2
    | end_ hk2 he hl => exact hl
  have q4 : x.prev = sA.last (txE x) := q4
  have q2 : sA.last (txE x) < x.lsn := q2
  refine ⟨sA, hA, ?_, by omega, by omega, fun y hy ht => ?_⟩
  · rw [last_is A hg hA, if_pos hl, q4]
  · have h3 := (ended_log hA (txE x)).1
    have hno : ¬ ∃ e ∈ List.map enE A, e.t = txE x ∧ (e.kind = 3 ∨ e.kind = 4) := fun h4 => by
      have := h3.2 h4
      rw [show sA.ended (txE x) = false from q3] at this; cases this
    exact ⟨fun h5 => hno ⟨enE y, List.mem_map_of_mem hy, ht, .inl h5⟩, fun h5 => hno ⟨enE y, List.mem_map_of_mem hy, ht, .inr h5⟩⟩
/-- of one client's losers alone -/
theorem Undone.client {p : PD} {P T : Nat} {c : Int} (hv : Liv p s P T) (hc : Cl c) (h : Undone (fun t => t.cl = c) p.list s B F m z) (n : Int) :
    (p.owner n = c → ∀ k, G.at_ (z.pg n).2 k = fold0 p.list n k) ∧ (p.owner n ≠ c → z.pg n = s.pg n) := by
  have hL := hv.core.log
  obtain ⟨a1, a2, a3, a4, a5, a6, a7, a8⟩ := run_is hL h.run
  have f4 := (fin_is a1 h.fin).2.2.2.1
  rw [f4]
  refine ⟨fun ho k => ?_, fun ho => a8 n fun t ht he => ?_⟩
  · have hn0 : p.owner n ≠ 0 := by have := hc.1; omega
    have hown := (hv.own1 n hn0).2
    rw [ho] at hown
    have hstk : ownStk m n = [] := by
      unfold ownStk
      rw [a5, hown]
      exact h.clean (txnP p c) rfl (by rw [a4]; exact (hv.live c hc).1)
    rw [fold_clean a1 n hstk, a3, fold0_at]
  · by_cases h0 : p.owner n = 0
    · rw [hv.own0 n h0] at ht; cases ht
    · have h1 := (hv.own1 n h0).2
      rw [h1] at ht
      injection ht with ht
      exact ho (by rw [← he, ← ht]; rfl)
/-- a recovery that was cut off is gone on with -/
theorem Undone.again {j : Nat} {A : List Ent} {sA : St T3 Slot Im} (hg : ∀ x ∈ L, goodB x = true) (hL : Log G i0 (L.map enE) s) (h : Undone C L s B F m z)
    (hA : Log G i0 (A.map enE) sA) (hpre : ∃ R, L = A ++ R) : ∃ sj, Log G i0 ((L ++ (B ++ F).take j).map enE) sj ∧ (∀ n, allR n (sA.pg n).1 (sA.pg n).2.1 (L ++ (B ++ F).take j) = (0, (sj.pg n).1, (sj.pg n).2.1)) ∧
      fold0 (L ++ (B ++ F).take j) = fold0 L ∧ ∀ x ∈ L ++ (B ++ F).take j, goodB x = true := by
  obtain ⟨R, rfl⟩ := hpre
  have hz := (h.log hL).2
  have e : (A ++ R) ++ (B ++ F) = ((A ++ R) ++ (B ++ F).take j) ++ (B ++ F).drop j := by rw [List.append_assoc (A ++ R) ((B ++ F).take j), List.take_append_drop]
  rw [e, List.map_append] at hz
  obtain ⟨sj, hj⟩ := log_pre _ hz
  have hgood : ∀ x ∈ (A ++ R) ++ (B ++ F).take j, goodB x = true := fun x hx => by
    rcases List.mem_append.1 hx with hx | hx
    · exact hg x hx
    · exact h.good x (List.mem_of_mem_take hx)
  refine ⟨sj, hj, fun n => ?_, fold_quiet _ _ fun x hx => ?_, hgood⟩
  · rw [List.append_assoc] at hj hgood ⊢
    exact redo_log hgood hA hj n
  · have hk := h.kinds hL
    rcases List.mem_append.1 (List.mem_of_mem_take hx) with hx | hx
    · have := (hk.1 x hx).1; omega
    · have := (hk.2 x hx).1; omega
end
end Go.Proofs.YtkeocnhndnbamaaGreat.Mend
namespace Go.Proofs.YtkeocnhndnbamaaGreat.Mend
set_option maxRecDepth 100000
open Go.RowKit Go.Shelf Go.Sort Go.Maps
open Go.Proofs.YtkeocnhndnbamaaGreat.Mem
open Go.Proofs.YtkeocnhndnbamaaGreat.Slab (Slot Slots)
open Go.Proofs.YtkeocnhndnbamaaGreat.Ent (Ent goodB Ents EntAt SmallE longB entA cellsE cellsE_snoc)
open Go.Proofs.YtkeocnhndnbamaaGreat.Past (ents_mem AppRes run_appW step_known infoE)
open Go.Proofs.YtkeocnhndnbamaaGreat.Patch
open Go.Proofs.YtkeocnhndnbamaaGreat.Latch (MapN Sm sm_of)
/-- the changes of a page -/
def chg (C : List Ent) (n : Int) : List Ent := C.filter fun x => longB x.kind && decide (x.page = n)
theorem chg_snoc (C : List Ent) (x : Ent) (n : Int) : chg (C ++ [x]) n = if longB x.kind = true ∧ x.page = n then chg C n ++ [x] else chg C n := by
  unfold chg
  rw [List.filter_append]
  by_cases h : longB x.kind = true ∧ x.page = n
  · rw [if_pos h, List.filter_cons_of_pos (by simp [h.1, h.2]), List.filter_nil]
  · rw [if_neg h, List.filter_cons_of_neg (by simpa using h), List.filter_nil, List.append_nil]
theorem chg_len (C : List Ent) (n : Int) : (chg C n).length ≤ C.length := List.length_filter_le _ _
theorem allF_chg (n : Int) : ∀ (L : List Ent) (lsn : Int) (l : List Slot), allF n (chg L n) lsn l = allF n L lsn l
  | [], _, _ => rfl
  | x :: r, lsn, l => by
    have ih := allF_chg n r
    unfold chg at ih ⊢
    by_cases h : longB x.kind = true ∧ x.page = n
    · rw [List.filter_cons_of_pos (by simp [h.1, h.2]), allF, allF, if_pos h, if_pos h, ih]
    · rw [List.filter_cons_of_neg (by simpa using h), ih]
      conv => rhs; rw [allF, if_neg h]
theorem allR_chg (n lsn : Int) (l : List Slot) (L : List Ent) : allR n lsn l (chg L n) = allR n lsn l L := by
  unfold allR
  rw [allF_chg]
def gV (f : Int → Option Value) (n : Int) : Value := (f n).getD (.slice none 0 0)
theorem gV_upd (f : Int → Option Value) (p : Int) (v : Value) (n : Int) : gV (fun y => if y = p then some v else f y) n = if n = p then v else gV f n := by
  unfold gV
  dsimp only
  by_cases e : n = p
  · rw [if_pos e, if_pos e]; rfl
  · rw [if_neg e, if_neg e]
structure CHG (w W : World) (mb k : Nat) (C : List Ent) (f : Int → Option Value) : Prop where
  mp : MapN W mb k f
  rows : ∀ n, W.ownsRow w.heap.size 58 13 (gV f n) (chg C n).length (cellsE (chg C n))
  dj : ∀ n m g, n ≠ m → (gV f n).ownBlock = some g → (gV f m).ownBlock ≠ some g
  mb : w.heap.size ≤ mb
  bel : Below w.heap.size w W
section
variable {w W W' X : World} {mb k : Nat} {C : List Ent} {f : Int → Option Value}
theorem CHG.below (h : CHG w W mb k C f) (hb : Below W.heap.size W W') : CHG w W' mb k C f := ⟨h.mp.same (hb.block _ h.mp.lt), fun n => own_below (h.rows n) hb, h.dj, h.mb, below_go h.bel hb⟩
theorem CHG.skip (h : CHG w W mb k C f) {x : Ent} (hx : longB x.kind = false) : CHG w W mb (k + 1) (C ++ [x]) f :=
  ⟨h.mp.mono (Nat.le_succ _), fun n => by rw [chg_snoc, if_neg (by rw [hx]; simp)]; exact h.rows n, h.dj, h.mb, h.bel⟩
theorem zero_ents (w : World) : (zeroValue 29).run Tryz.prog w = .ok (.slice none 0 0) w := by kernel_rfl
theorem CHG.look (h : CHG w W mb k C f) {n : Int} (hn : Sm n) : (Instr.lookup 109 (.map (some mb)) (.int .i64 n) false).run Tryz.prog W = .ok (gV f n) W := h.mp.look Tryz.underlying109 (zero_ents _) hn
/-- one more: its page's row has grown, and is laid -/
theorem CHG.add (h : CHG w W mb k C f) (hb : Below W.heap.size W X) {x : Ent} {v' : Value} {w5 : World} (hx : longB x.kind = true) (hp : Sm x.page) (hk : k ≤ 1000000)
    (ha : AppRes X w5 w.heap.size 58 13 (gV f x.page) v' (chg C x.page ++ [x]).length (cellsE (chg C x.page ++ [x]))) :
    ∃ w6, (Instr.mapUpdate 109 (.map (some mb)) (.int .i64 x.page) v').run Tryz.prog w5 = .ok () w6 ∧ CHG w w6 mb (k + 1) (C ++ [x]) (fun y => if y = x.page then some v' else f y) ∧
      (∀ (g : Nat) (t : TypeId) (cs : Array Value), t ≠ 58 → Blk W g t cs → Blk w6 g t cs) ∧ (∀ (g : Nat) (t : TypeId) (cs : Array Value), (∀ n, (gV f n).ownBlock ≠ some g) → Blk W g t cs → Blk w6 g t cs) := by
  have h1 := h.below hb
  obtain ⟨ho, hg, hu⟩ := ha
  have hmr : ∀ n, (gV f n).ownBlock ≠ some mb := fun n e => by
    obtain ⟨cs, fr, hc⟩ := own_cells (h1.rows n) e
    obtain ⟨D, ⟨es, cl, hm, _⟩, _⟩ := h1.mp
    rw [hm] at hc; cases hc
  have hm5 : MapN w5 mb k f := h1.mp.same (hg.block _ h1.mp.lt fun e => hmr _ e.symm)
  obtain ⟨w6, hr, hm6, ht⟩ := hm5.put Tryz.underlying109 hp (by unfold maxLen; omega) v'
  have hg6 := ht.grown
  have hv' : v'.ownBlock ≠ some mb := fun e => by
    obtain ⟨cs, fr, hc⟩ := own_cells ho e
    obtain ⟨D, ⟨es, cl, hm, _⟩, _⟩ := hm5
    rw [hm] at hc; cases hc
  have hblk : ∀ (g : Nat) (t : TypeId) (cs : Array Value), (gV f x.page).ownBlock ≠ some g → Blk W g t cs → Blk w6 g t cs := fun g t cs hne hB => by
    have hX := hB.below hb hB.lt
    have h5 := hX.grown hg fun e => hne e.symm
    refine h5.grown hg6 fun e => ?_
    injection e with e
    exact (hm5.not_cells h5) e.symm
  refine ⟨w6, hr, ⟨hm6, fun n => ?_, fun n m g hnm e => ?_, h.mb, ?_⟩, fun g t cs ht2 hB => hblk g t cs (own_ty (h.rows _) hB ht2) hB, fun g t cs hn hB => hblk g t cs (hn _) hB⟩
  · rw [chg_snoc]
    by_cases e : x.page = n
    · subst e
      rw [if_pos ⟨hx, rfl⟩]
      rw [gV_upd, if_pos rfl]
      exact own_same ho fun q e2 => hg6.block q (own_lt ho e2) fun e3 => by injection e3 with e3; rw [← e3] at hv'; exact hv' e2
    · rw [if_neg fun h => e h.2]
      rw [gV_upd, if_neg fun h => e h.symm]
      refine own_same (own_same (h1.rows n) fun q e2 => hg.block q (own_lt (h1.rows n) e2) fun e3 => h.dj n x.page q (fun h => e h.symm) e2 e3.symm) fun q e2 => ?_
      refine hg6.block q (Nat.lt_of_lt_of_le (own_lt (h1.rows n) e2) hg.size) fun e3 => ?_
      injection e3 with e3
      rw [e3] at e2
      exact hmr n e2
  · have hval := gV_upd f x.page v'
    have hnew : ∀ m g, m ≠ x.page → v'.ownBlock = some g → (gV f m).ownBlock ≠ some g := fun m g hm hv e2 => by
      rcases hu with e1 | e1
      · rw [e1] at hv; exact h.dj m x.page g hm e2 hv
      · rw [e1] at hv
        injection hv with hv
        have := own_lt (h1.rows m) e2
        omega
    rw [hval] at e
    rw [hval]
    by_cases en : n = x.page
    · rw [if_pos en] at e
      have em : m ≠ x.page := fun q => hnm (en.trans q.symm)
      rw [if_neg em]
      exact hnew m g em e
    · rw [if_neg en] at e
      by_cases em : m = x.page
      · rw [if_pos em]
        exact fun hv => hnew n g en hv e
      · rw [if_neg em]
        exact h.dj n m g hnm e
  · have hs := h1.bel.size
    exact Past.below_grown (Past.below_grown h1.bel hs hg fun q e => Past.own_ge (h1.rows _) e) (Nat.le_trans hs hg.size) hg6 fun q e => by injection e with e; have := h.mb; omega
end
/-- append of an entry, as a step of a drawn region -/
theorem step_ent {ops : Array Oper} {o : Oper} {a : Act} {w wr : World} {K : Act → World → Prop} {Q : Exit → Act → World → Prop} {E : Prop} (hg : o.guard = none) (s x : Operand)
    (hop : o.op = .call { callee := .builtin .append, args := #[s, x], argTypes := #[29, 29] }) (B : Nat)
    (v : Value) (L : List Ent) (hs : a.eval s = v) (vb : Nat) (y : Ent) (hx : a.eval x = .slice (some ⟨vb, 0, none⟩) 1 1) (hP : Below wr.heap.size wr w ∧ Blk w vb 58 #[.int .i64 y.kind, .int .i64 y.cl, .int .i64 y.ep, .int .i64 y.n, .int .i64 y.lsn, .int .i64 y.prev, .int .i64 y.page, .int .i64 y.slot, .bool y.wu, .string y.wd, .bool y.iu, .string y.id, .int .i64 y.next])
    (hown : wr.ownsRow B 58 13 v L.length (cellsE L)) (hB : B ≤ wr.heap.size) (hn : L.length ≤ 900000)
    (hK : ∀ v' w', Below wr.heap.size wr w → AppRes w w' B 58 13 v v' (L ++ [y]).length (cellsE (L ++ [y])) → K (a.put o.dst v') w') :
    if Region.wanted o (yielded ops a.tmps) = true then Oper.wp Tryz.prog o a w K Q else E := by
  obtain ⟨v', w', hr, h2⟩ := run_appW (ty := o.type) Tryz.underlying29 infoE rfl (by decide) (by decide) (own_below hown hP.1) (some ⟨vb, 0, none⟩) 1 1 (entA y).toList (by rfl) (fun _ => ⟨_, rfl, fun j u hj => by
      have h1 := hP.2.cell j
      have h2 : (Addr.mk vb 0 none).add j = ⟨vb, j, none⟩ := by unfold Addr.add; split <;> simp_all
      rw [h2, h1, ← Array.getElem?_toList]
      exact hj⟩) (fun u hu => by simp [entA] at hu; rcases hu with rfl | rfl | rfl | rfl | rfl | rfl | rfl | rfl | rfl | rfl | rfl | rfl | rfl <;> rfl) (by omega) (Nat.le_trans hB hP.1.size)
  rw [cellsE_snoc] at h2
  refine step_known hg s x 29 29 hop v (.slice (some ⟨vb, 0, none⟩) 1 1) hs hx hr (hK v' w' hP.1 ?_)
  rw [List.length_append]
  exact h2
end Go.Proofs.YtkeocnhndnbamaaGreat.Mend
namespace Go.Proofs.YtkeocnhndnbamaaGreat.Mend
set_option maxRecDepth 100000
open Go.RowKit
open Go.Proofs.YtkeocnhndnbamaaGreat.Mem
theorem bn_d {W w' : World} (h : Below W.drew.heap.size W.drew w') : Below W.heap.size W w' := ⟨h.os, h.tape, h.output, h.size, h.block⟩
theorem bn_a {W w' : World} {o : Obj} (h : Below (W.alloc o).heap.size (W.alloc o) w') : Below W.heap.size W w' := below_go (Ent.below_box W o) h
theorem bn_ad {W w' : World} {o : Obj} (h : Below (W.alloc o).drew.heap.size (W.alloc o).drew w') : Below W.heap.size W w' := bn_a (bn_d h)
theorem bx_ad (W : World) (o : Obj) : Below W.heap.size W (W.alloc o).drew := (Ent.below_box W o).drew
theorem bx_d_a (W : World) (o : Obj) : Below W.heap.size W (W.drew.alloc o) := (Below.refl W.heap.size W).drew.alloc (Nat.le_refl _) o
theorem bx_d (W : World) : Below W.heap.size W W.drew := (Below.refl _ _).drew
/-- a new entry's box, over a call -/
theorem ebox {X w' : World} (hb : Below (X.alloc (.cells #[.int .i64 0, .int .i64 0, .int .i64 0, .int .i64 0, .int .i64 0, .int .i64 0, .int .i64 0, .int .i64 0, .bool false, .string ⟨#[]⟩, .bool false, .string ⟨#[]⟩, .int .i64 0] 58)).heap.size (X.alloc (.cells #[.int .i64 0, .int .i64 0, .int .i64 0, .int .i64 0, .int .i64 0, .int .i64 0, .int .i64 0, .int .i64 0, .bool false, .string ⟨#[]⟩, .bool false, .string ⟨#[]⟩, .int .i64 0] 58)) w') : Blk w' X.heap.size 58 #[.int .i64 0, .int .i64 0, .int .i64 0, .int .i64 0, .int .i64 0, .int .i64 0, .int .i64 0, .int .i64 0, .bool false, .string ⟨#[]⟩, .bool false, .string ⟨#[]⟩, .int .i64 0] := (Blk.new X _ _).below hb (Blk.new X _ _).lt
theorem ebox_d {X w' : World} (hb : Below (X.alloc (.cells #[.int .i64 0, .int .i64 0, .int .i64 0, .int .i64 0, .int .i64 0, .int .i64 0, .int .i64 0, .int .i64 0, .bool false, .string ⟨#[]⟩, .bool false, .string ⟨#[]⟩, .int .i64 0] 58)).drew.heap.size (X.alloc (.cells #[.int .i64 0, .int .i64 0, .int .i64 0, .int .i64 0, .int .i64 0, .int .i64 0, .int .i64 0, .int .i64 0, .bool false, .string ⟨#[]⟩, .bool false, .string ⟨#[]⟩, .int .i64 0] 58)).drew w') : Blk w' X.heap.size 58 #[.int .i64 0, .int .i64 0, .int .i64 0, .int .i64 0, .int .i64 0, .int .i64 0, .int .i64 0, .int .i64 0, .bool false, .string ⟨#[]⟩, .bool false, .string ⟨#[]⟩, .int .i64 0] := (Blk.new X _ _).below (show Below (X.alloc (.cells #[.int .i64 0, .int .i64 0, .int .i64 0, .int .i64 0, .int .i64 0, .int .i64 0, .int .i64 0, .int .i64 0, .bool false, .string ⟨#[]⟩, .bool false, .string ⟨#[]⟩, .int .i64 0] 58)).heap.size (X.alloc (.cells #[.int .i64 0, .int .i64 0, .int .i64 0, .int .i64 0, .int .i64 0, .int .i64 0, .int .i64 0, .int .i64 0, .bool false, .string ⟨#[]⟩, .bool false, .string ⟨#[]⟩, .int .i64 0] 58)) w' from ⟨hb.os, hb.tape, hb.output, hb.size, hb.block⟩) (Blk.new X _ _).lt
theorem blk13 {W : World} {g : Nat} {t : TypeId} {a0 a1 a2 a3 a4 a5 a6 a7 a8 a9 a10 a11 a12 : Value} (h : Blk W g t #[a0, a1, a2, a3, a4, a5, a6, a7, a8, a9, a10, a11, a12]) (v0 v1 v2 v3 v4 v5 v6 v7 v8 v9 v10 v11 v12 : Value) : Blk (((((((((((((W.setCell ⟨g, 0, none⟩ v0).setCell ⟨g, 1, none⟩ v1).setCell ⟨g, 2, none⟩ v2).setCell ⟨g, 3, none⟩ v3).setCell ⟨g, 4, none⟩ v4).setCell ⟨g, 5, none⟩ v5).setCell ⟨g, 6, none⟩ v6).setCell ⟨g, 7, none⟩ v7).setCell ⟨g, 8, none⟩ v8).setCell ⟨g, 9, none⟩ v9).setCell ⟨g, 10, none⟩ v10).setCell ⟨g, 11, none⟩ v11).setCell ⟨g, 12, none⟩ v12) g t #[v0, v1, v2, v3, v4, v5, v6, v7, v8, v9, v10, v11, v12] := by
  have h0 : Blk (W.setCell ⟨g, 0, none⟩ v0) g t #[v0, a1, a2, a3, a4, a5, a6, a7, a8, a9, a10, a11, a12] := h.set_ 0 v0
  have h1 : Blk ((W.setCell ⟨g, 0, none⟩ v0).setCell ⟨g, 1, none⟩ v1) g t #[v0, v1, a2, a3, a4, a5, a6, a7, a8, a9, a10, a11, a12] := h0.set_ 1 v1
  have h2 : Blk (((W.setCell ⟨g, 0, none⟩ v0).setCell ⟨g, 1, none⟩ v1).setCell ⟨g, 2, none⟩ v2) g t #[v0, v1, v2, a3, a4, a5, a6, a7, a8, a9, a10, a11, a12] := h1.set_ 2 v2
  have h3 : Blk ((((W.setCell ⟨g, 0, none⟩ v0).setCell ⟨g, 1, none⟩ v1).setCell ⟨g, 2, none⟩ v2).setCell ⟨g, 3, none⟩ v3) g t #[v0, v1, v2, v3, a4, a5, a6, a7, a8, a9, a10, a11, a12] := h2.set_ 3 v3
  have h4 : Blk (((((W.setCell ⟨g, 0, none⟩ v0).setCell ⟨g, 1, none⟩ v1).setCell ⟨g, 2, none⟩ v2).setCell ⟨g, 3, none⟩ v3).setCell ⟨g, 4, none⟩ v4) g t #[v0, v1, v2, v3, v4, a5, a6, a7, a8, a9, a10, a11, a12] := h3.set_ 4 v4
  have h5 : Blk ((((((W.setCell ⟨g, 0, none⟩ v0).setCell ⟨g, 1, none⟩ v1).setCell ⟨g, 2, none⟩ v2).setCell ⟨g, 3, none⟩ v3).setCell ⟨g, 4, none⟩ v4).setCell ⟨g, 5, none⟩ v5) g t #[v0, v1, v2, v3, v4, v5, a6, a7, a8, a9, a10, a11, a12] := h4.set_ 5 v5
  have h6 : Blk (((((((W.setCell ⟨g, 0, none⟩ v0).setCell ⟨g, 1, none⟩ v1).setCell ⟨g, 2, none⟩ v2).setCell ⟨g, 3, none⟩ v3).setCell ⟨g, 4, none⟩ v4).setCell ⟨g, 5, none⟩ v5).setCell ⟨g, 6, none⟩ v6) g t #[v0, v1, v2, v3, v4, v5, v6, a7, a8, a9, a10, a11, a12] := h5.set_ 6 v6
  have h7 : Blk ((((((((W.setCell ⟨g, 0, none⟩ v0).setCell ⟨g, 1, none⟩ v1).setCell ⟨g, 2, none⟩ v2).setCell ⟨g, 3, none⟩ v3).setCell ⟨g, 4, none⟩ v4).setCell ⟨g, 5, none⟩ v5).setCell ⟨g, 6, none⟩ v6).setCell ⟨g, 7, none⟩ v7) g t #[v0, v1, v2, v3, v4, v5, v6, v7, a8, a9, a10, a11, a12] := h6.set_ 7 v7
  have h8 : Blk (((((((((W.setCell ⟨g, 0, none⟩ v0).setCell ⟨g, 1, none⟩ v1).setCell ⟨g, 2, none⟩ v2).setCell ⟨g, 3, none⟩ v3).setCell ⟨g, 4, none⟩ v4).setCell ⟨g, 5, none⟩ v5).setCell ⟨g, 6, none⟩ v6).setCell ⟨g, 7, none⟩ v7).setCell ⟨g, 8, none⟩ v8) g t #[v0, v1, v2, v3, v4, v5, v6, v7, v8, a9, a10, a11, a12] := h7.set_ 8 v8
  have h9 : Blk ((((((((((W.setCell ⟨g, 0, none⟩ v0).setCell ⟨g, 1, none⟩ v1).setCell ⟨g, 2, none⟩ v2).setCell ⟨g, 3, none⟩ v3).setCell ⟨g, 4, none⟩ v4).setCell ⟨g, 5, none⟩ v5).setCell ⟨g, 6, none⟩ v6).setCell ⟨g, 7, none⟩ v7).setCell ⟨g, 8, none⟩ v8).setCell ⟨g, 9, none⟩ v9) g t #[v0, v1, v2, v3, v4, v5, v6, v7, v8, v9, a10, a11, a12] := h8.set_ 9 v9
  have h10 : Blk (((((((((((W.setCell ⟨g, 0, none⟩ v0).setCell ⟨g, 1, none⟩ v1).setCell ⟨g, 2, none⟩ v2).setCell ⟨g, 3, none⟩ v3).setCell ⟨g, 4, none⟩ v4).setCell ⟨g, 5, none⟩ v5).setCell ⟨g, 6, none⟩ v6).setCell ⟨g, 7, none⟩ v7).setCell ⟨g, 8, none⟩ v8).setCell ⟨g, 9, none⟩ v9).setCell ⟨g, 10, none⟩ v10) g t #[v0, v1, v2, v3, v4, v5, v6, v7, v8, v9, v10, a11, a12] := h9.set_ 10 v10
  have h11 : Blk ((((((((((((W.setCell ⟨g, 0, none⟩ v0).setCell ⟨g, 1, none⟩ v1).setCell ⟨g, 2, none⟩ v2).setCell ⟨g, 3, none⟩ v3).setCell ⟨g, 4, none⟩ v4).setCell ⟨g, 5, none⟩ v5).setCell ⟨g, 6, none⟩ v6).setCell ⟨g, 7, none⟩ v7).setCell ⟨g, 8, none⟩ v8).setCell ⟨g, 9, none⟩ v9).setCell ⟨g, 10, none⟩ v10).setCell ⟨g, 11, none⟩ v11) g t #[v0, v1, v2, v3, v4, v5, v6, v7, v8, v9, v10, v11, a12] := h10.set_ 11 v11
  have h12 : Blk (((((((((((((W.setCell ⟨g, 0, none⟩ v0).setCell ⟨g, 1, none⟩ v1).setCell ⟨g, 2, none⟩ v2).setCell ⟨g, 3, none⟩ v3).setCell ⟨g, 4, none⟩ v4).setCell ⟨g, 5, none⟩ v5).setCell ⟨g, 6, none⟩ v6).setCell ⟨g, 7, none⟩ v7).setCell ⟨g, 8, none⟩ v8).setCell ⟨g, 9, none⟩ v9).setCell ⟨g, 10, none⟩ v10).setCell ⟨g, 11, none⟩ v11).setCell ⟨g, 12, none⟩ v12) g t #[v0, v1, v2, v3, v4, v5, v6, v7, v8, v9, v10, v11, v12] := h11.set_ 12 v12
  exact h12
end Go.Proofs.YtkeocnhndnbamaaGreat.Mend
namespace Go.Proofs.YtkeocnhndnbamaaGreat.Ent
set_option maxRecDepth 100000
open Go.RowKit Go.Sort
open Go.Proofs.YtkeocnhndnbamaaGreat.Slab (Blk)
theorem ent_frozen {w : World} {g : Nat} {t : TypeId} {cs : Array Value} (h : Blk w g t cs) :
    w.frozen? ⟨g, 0, none⟩ = false ∧ w.frozen? ⟨g, 1, none⟩ = false ∧ w.frozen? ⟨g, 2, none⟩ = false ∧ w.frozen? ⟨g, 3, none⟩ = false ∧ w.frozen? ⟨g, 4, none⟩ = false ∧ w.frozen? ⟨g, 5, none⟩ = false ∧ w.frozen? ⟨g, 6, none⟩ = false ∧
    w.frozen? ⟨g, 7, none⟩ = false ∧ w.frozen? ⟨g, 8, none⟩ = false ∧ w.frozen? ⟨g, 9, none⟩ = false ∧ w.frozen? ⟨g, 10, none⟩ = false ∧ w.frozen? ⟨g, 11, none⟩ = false ∧ w.frozen? ⟨g, 12, none⟩ = false :=
  ⟨h.frozen 0, h.frozen 1, h.frozen 2, h.frozen 3, h.frozen 4, h.frozen 5, h.frozen 6, h.frozen 7, h.frozen 8, h.frozen 9, h.frozen 10, h.frozen 11, h.frozen 12⟩

theorem below13 {B r : Nat} {w W : World} (h : Below B w W) (hr : B ≤ r) (v0 v1 v2 v3 v4 v5 v6 v7 v8 v9 v10 v11 v12 : Value) : Below B w (((((((((((((W.setCell ⟨r, 0, none⟩ v0).setCell ⟨r, 1, none⟩ v1).setCell ⟨r, 2, none⟩ v2).setCell ⟨r, 3, none⟩ v3).setCell ⟨r, 4, none⟩ v4).setCell ⟨r, 5, none⟩ v5).setCell ⟨r, 6, none⟩ v6).setCell ⟨r, 7, none⟩ v7).setCell ⟨r, 8, none⟩ v8).setCell ⟨r, 9, none⟩ v9).setCell ⟨r, 10, none⟩ v10).setCell ⟨r, 11, none⟩ v11).setCell ⟨r, 12, none⟩ v12) :=
  (((((((((((((h.setCell (p := ⟨r, 0, none⟩) hr v0).setCell (p := ⟨r, 1, none⟩) hr v1).setCell (p := ⟨r, 2, none⟩) hr v2).setCell (p := ⟨r, 3, none⟩) hr v3).setCell (p := ⟨r, 4, none⟩) hr v4).setCell (p := ⟨r, 5, none⟩) hr v5).setCell (p := ⟨r, 6, none⟩) hr v6).setCell (p := ⟨r, 7, none⟩) hr v7).setCell (p := ⟨r, 8, none⟩) hr v8).setCell (p := ⟨r, 9, none⟩) hr v9).setCell (p := ⟨r, 10, none⟩) hr v10).setCell (p := ⟨r, 11, none⟩) hr v11).setCell (p := ⟨r, 12, none⟩) hr v12)
end Go.Proofs.YtkeocnhndnbamaaGreat.Ent
namespace Go.Proofs.YtkeocnhndnbamaaGreat
set_option maxRecDepth 100000
open Go.RowKit
/-- what lay in w lies as it lay, and these cells hold these values -/
def Hold (w W : World) (L : List (Addr × Value)) : Prop := Below w.heap.size w W ∧ ∀ x ∈ L, W.cell? x.1 = some x.2
section
variable {w W W' : World} {L : List (Addr × Value)}
theorem Hold.b (h : Hold w W L) : Below w.heap.size w W := h.1
theorem Hold.next (h : Hold w W L) (hb : Below W.heap.size W W') : Hold w W' L :=
  ⟨h.1.trans (hb.mono h.1.size), fun x hx => (hb.cell (World.block_lt_of_cell? _ _ (h.2 x hx))).trans (h.2 x hx)⟩
theorem Hold.drew (h : Hold w W L) (q : Nat) : Hold w (W.drewN q) L := ⟨⟨h.1.os, h.1.tape, h.1.output, h.1.size, h.1.block⟩, h.2⟩
theorem Hold.alloc (h : Hold w W L) (o : Obj) : Hold w (W.alloc o) L := h.next ((Below.refl _ _).alloc (Nat.le_refl _) _)
theorem Hold.cons (h : Hold w W L) {p : Addr} {v : Value} (hc : W.cell? p = some v) : Hold w W ((p, v) :: L) :=
  ⟨h.1, fun x hx => by rcases List.mem_cons.1 hx with rfl | hx; exact hc; exact h.2 x hx⟩
theorem Hold.nil (h : Below w.heap.size w W) : Hold w W [] := ⟨h, by simp⟩
variable {p0 p1 p2 p3 p4 p5 p6 p7 p8 p9 : Addr} {v0 v1 v2 v3 v4 v5 v6 v7 v8 v9 : Value}
end
end Go.Proofs.YtkeocnhndnbamaaGreat
