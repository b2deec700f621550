/- Maps by points (a transaction's name and an Lsn), in memory: look-up with ok and without, store. Where a log's entries are found, as plain data: each transaction's last entry, the first one of each of its Lsns. The document's own Of. The program's Of. -/
import Derived.Test.YtkeocnhndnbamaaGreatQBook12
import Derived.Test.YtkeocnhndnbamaaGreatQBook9
import Derived.Test.YtkeocnhndnbamaaGreatQBook10
import Derived.Test.YtkeocnhndnbamaaGreatQBook6
namespace Go.Proofs.YtkeocnhndnbamaaGreat.Mend
set_option maxRecDepth 100000
open Go.RowKit
open Go.Proofs.YtkeocnhndnbamaaGreat.Mem
open Go.Maps
open Go.Proofs.YtkeocnhndnbamaaGreat.Past (T3 t3_eq SmI smI_of SmT laidOut lawT keyLits_int_inv cellsT cellsI keyLits_txn)
structure P4 where
  t : T3
  l : Int
theorem p4_eq {a b : P4} : a = b ↔ a.t = b.t ∧ a.l = b.l := by
  obtain ⟨a, b⟩ := a; rename_i c; obtain ⟨c, d⟩ := c; simp
instance : DecidableEq P4 := fun a b => decidable_of_iff (a.t = b.t ∧ a.l = b.l) p4_eq.symm
theorem wideP : (match Tryz.prog.underlying 136 with | some (.array _ _) | some (.struct _) => true | _ => false) = true := by rw [Tryz.underlying136]
theorem lawP : Keyed Tryz.prog 136 := Keyed.of_law (deep_law_laid laidOut (m := 3) (by omega) (of_decide_eq_true (by kernel_rfl)) (by kernel_rfl) wideP)
def SmP (x : P4) : Prop := SmT x.t ∧ SmI x.l
def litP (x : P4) : Lit := .string (keyBytes [.int .i64 x.t.cl, .int .i64 x.t.ep, .int .i64 x.t.n, .int .i64 x.l])
theorem cellsP : Tryz.prog.cellsOf 136 = 4 := by kernel_rfl
theorem keyLits_p (d : Nat) (v0 v1 v2 v3 : Value) : Tryz.prog.keyLits (d + 1) 136 [v0, v1, v2, v3] =
    ([Tryz.prog.keyLits d 56 [v0, v1, v2], Tryz.prog.keyLits d 3 [v3]].mapM id).map List.flatten := by
  conv => lhs; unfold Program.keyLits
  rw [Tryz.underlying136]
  simp [cellsP, cellsT, cellsI]
theorem keyType_p : Tryz.prog.keyType 136 = true := by kernel_rfl
theorem formed_p (v0 v1 v2 v3 : Value) : (Value.agg #[v0, v1, v2, v3]).formed Tryz.prog 136 = true := by simp [Value.formed, Tryz.underlying136, cellsP]
theorem types_pos3 : ∃ d, Tryz.prog.types.size + 1 = d + 1 + 1 + 1 := ⟨Tryz.prog.types.size - 2, by have : 1 < Tryz.prog.types.size := of_decide_eq_true (by kernel_rfl); omega⟩
theorem keyP_mk {x : P4} (h : SmP x) : keyOf Tryz.prog 136 (.agg #[.int .i64 x.t.cl, .int .i64 x.t.ep, .int .i64 x.t.n, .int .i64 x.l]) = some (litP x) := by
  obtain ⟨⟨h1, h2, h3⟩, h4⟩ := h
  unfold SmI at h1 h2 h3 h4
  obtain ⟨d, hd⟩ := types_pos3
  unfold keyOf
  rw [Tryz.underlying136]
  rw [show (Value.agg #[.int .i64 x.t.cl, .int .i64 x.t.ep, .int .i64 x.t.n, .int .i64 x.l]).cells.toList = [.int .i64 x.t.cl, .int .i64 x.t.ep, .int .i64 x.t.n, .int .i64 x.l] from rfl]
  have e : Tryz.prog.keyLits (d + 1 + 1) 56 [.int .i64 x.t.cl, .int .i64 x.t.ep, .int .i64 x.t.n] = some [.int .i64 x.t.cl, .int .i64 x.t.ep, .int .i64 x.t.n] := by
    rw [keyLits_txn]
    simp only [Past.keyLits_int, h1, h2, h3, if_true]
    simp
  simp only [keyType_p, formed_p, Bool.and_self, if_true, hd, keyLits_p, e]
  rw [Past.keyLits_int, if_pos h4]
  simp [litP]
theorem litP_inj {a b : P4} (ha : SmP a) (hb : SmP b) (e : litP a = litP b) : a = b := by
  have h := lawP.inj (keyP_mk ha) (e ▸ keyP_mk hb)
  injection h with h
  simp at h
  exact p4_eq.2 ⟨t3_eq.2 ⟨h.1, h.2.1, h.2.2.1⟩, h.2.2.2⟩
/-- how an element reads: as itself -/
def RVP (v : Value) : Option (DataW Value × List MemPlace) := some (.held v, [])
/-- block b is a map: f; at most n entries -/
def MapP (w : World) (b : Nat) (n : Nat) (f : P4 → Option Value) : Prop :=
  ∃ D : DataW Value, w.ownsMap Tryz.prog 136 RVP b n D ∧ (∀ x, SmP x → has D (litP x) = (f x).isSome ∧ ∀ v, f x = some v → ∀ z, D.atKey (litP x) z = .held v) ∧
    (∀ x, f x ≠ none → SmP x)
theorem keyLitP {x : P4} (hx : SmP x) : WideAt.IsKeyLit (litP x) := lawP.key (keyP_mk hx)
section
variable {w w' : World} {b n : Nat} {f : P4 → Option Value}
theorem MapP.lt (h : MapP w b n f) : b < w.heap.size := by obtain ⟨D, h, _⟩ := h; exact h.lt
theorem MapP.dom (h : MapP w b n f) : ∀ x, f x ≠ none → SmP x := by obtain ⟨D, _, _, h⟩ := h; exact h
theorem MapP.mono (h : MapP w b n f) {m : Nat} (hm : n ≤ m) : MapP w b m f := by
  obtain ⟨D, h, h2⟩ := h
  exact ⟨D, h.mono hm, h2⟩
theorem MapP.same (h : MapP w b n f) (e : w'.heap[b]? = w.heap[b]?) : MapP w' b n f := by
  obtain ⟨D, ⟨es, clock, hb, r⟩, h2⟩ := h
  exact ⟨D, ⟨es, clock, e.trans hb, r⟩, h2⟩
theorem MapP.not_cells (h : MapP w b n f) {g : Nat} {t : TypeId} {cs : Array Value} (hg : Blk w g t cs) : b ≠ g := by
  obtain ⟨D, ⟨es, clock, hb, r⟩, h2⟩ := h
  intro e
  subst e
  unfold Blk at hg
  rw [hb] at hg
  cases hg
theorem mapP_made (w : World) : MapP (w.alloc (.map #[] 0)) w.heap.size 0 (fun _ => none) :=
  ⟨_, World.ownsMap_made _ _ _ _, fun x _ => ⟨rfl, fun s h => by cases h⟩, fun x h => absurd rfl h⟩
theorem MapP.ext (h : MapP w b n f) {g : P4 → Option Value} (e : ∀ x, f x = g x) : MapP w b n g := by
  obtain rfl : f = g := funext e
  exact h
/-- a look-up -/
theorem MapP.look {t e : TypeId} {z : Value} (h : MapP w b n f) (ht : Tryz.prog.underlying t = some (.map 136 e)) (hz : (zeroValue e).run Tryz.prog w = .ok z w) {x : P4} (hx : SmP x) :
    (Instr.lookup t (.map (some b)) (.agg #[.int .i64 x.t.cl, .int .i64 x.t.ep, .int .i64 x.t.n, .int .i64 x.l]) false).run Tryz.prog w = .ok ((f x).getD z) w := by
  obtain ⟨D, h, h2, _⟩ := h
  obtain ⟨v, ps, hr, hv⟩ := h.lookup lawP ht hz (zd := .held z) rfl (keyP_mk hx)
  rw [hr]
  obtain ⟨g1, g2⟩ := h2 x hx
  unfold RVP at hv
  injection hv with hv
  injection hv with hv _
  cases hf : f x with
  | none =>
    rw [hf] at g1
    rw [atKey_of_not_has g1] at hv
    injection hv with hv
    rw [hv]; rfl
  | some u =>
    rw [g2 u hf] at hv
    injection hv with hv
    rw [hv]; rfl
/-- .. with ok -/
theorem MapP.look_ok {t e : TypeId} {z : Value} (h : MapP w b n f) (ht : Tryz.prog.underlying t = some (.map 136 e)) (hz : (zeroValue e).run Tryz.prog w = .ok z w) {x : P4} (hx : SmP x) :
    (Instr.lookup t (.map (some b)) (.agg #[.int .i64 x.t.cl, .int .i64 x.t.ep, .int .i64 x.t.n, .int .i64 x.l]) true).run Tryz.prog w = .ok (.tuple #[(f x).getD z, .bool (f x).isSome]) w := by
  obtain ⟨D, h, h2, _⟩ := h
  obtain ⟨v, ps, hr, hv⟩ := h.look_ok lawP ht hz (zd := .held z) (zp := []) rfl (keyP_mk hx)
  rw [hr]
  obtain ⟨g1, g2⟩ := h2 x hx
  unfold RVP at hv
  injection hv with hv
  injection hv with hv _
  rw [g1]
  cases hf : f x with
  | none =>
    rw [hf] at g1
    rw [atKey_of_not_has g1] at hv
    injection hv with hv
    rw [hv]; rfl
  | some u =>
    rw [g2 u hf] at hv
    injection hv with hv
    rw [hv]; rfl
/-- a store -/
theorem MapP.put {t e : TypeId} (h : MapP w b n f) (ht : Tryz.prog.underlying t = some (.map 136 e)) {x : P4} (hx : SmP x) (hn : n < maxLen) (v : Value) :
    ∃ w', (Instr.mapUpdate t (.map (some b)) (.agg #[.int .i64 x.t.cl, .int .i64 x.t.ep, .int .i64 x.t.n, .int .i64 x.l]) v).run Tryz.prog w = .ok () w' ∧ MapP w' b (n + 1) (fun y => if y = x then some v else f y) ∧ w.mapTurned w' b := by
  obtain ⟨D, h, h2, h3⟩ := h
  obtain ⟨w', hr, ho, ht⟩ := h.store lawP ht hn (keyP_mk hx) (d := .held v) (ps := []) rfl
  have hgood : ∀ y, SmP y → has (D.put (litP x) (.held v)) (litP y) = (if y = x then some v else f y).isSome ∧ ∀ u, (if y = x then some v else f y) = some u → ∀ z, (D.put (litP x) (.held v)).atKey (litP y) z = .held u := by
    intro y hy
    by_cases hyx : y = x
    · subst hyx
      refine ⟨?_, fun t ht z => ?_⟩
      · rw [has_put_same h.isMap (keyLitP hy)]; simp
      · simp at ht; subst ht
        exact atKey_put_same h.isMap (keyLitP hy) _ _
    · have hne : litP y ≠ litP x := fun e => hyx (litP_inj hy hx e)
      obtain ⟨g1, g2⟩ := h2 y hy
      rw [if_neg hyx, has_put_other hne]
      refine ⟨g1, fun t ht z => ?_⟩
      rw [atKey_put_other hne]
      exact g2 t ht z
  refine ⟨w', hr, ⟨_, ho, hgood, fun y hy => ?_⟩, ht⟩
  by_cases hyx : y = x
  · rw [hyx]; exact hx
  · dsimp only at hy; rw [if_neg hyx] at hy; exact h3 y hy
end
end Go.Proofs.YtkeocnhndnbamaaGreat.Mend
namespace Go.Proofs.YtkeocnhndnbamaaGreat.Mend
set_option maxRecDepth 100000
open Go.Proofs.YtkeocnhndnbamaaGreat.Ent (Ent goodB)
open Go.Proofs.YtkeocnhndnbamaaGreat.Past (T3 txE ofL isT of_snoc)
open Go.Proofs.YtkeocnhndnbamaaGreat.MLog
/-- where the last entry of a transaction stands -/
def lastI : List Ent → T3 → Option Nat := fun L t => (List.range L.length).foldl (fun o i => if (L[i]?).map txE = some t then some i else o) none
theorem range_foldl_ext {α : Type} (f g : α → Nat → α) : ∀ (l : List Nat) (o : α), (∀ i ∈ l, ∀ o, f o i = g o i) → l.foldl f o = l.foldl g o
  | [], _, _ => rfl
  | i :: r, o, h => by
    rw [List.foldl_cons, List.foldl_cons, h i List.mem_cons_self]
    exact range_foldl_ext f g r _ fun j hj => h j (List.mem_cons_of_mem _ hj)
theorem lastI_snoc (A : List Ent) (x : Ent) (t : T3) : lastI (A ++ [x]) t = if txE x = t then some A.length else lastI A t := by
  unfold lastI
  rw [List.length_append, List.length_singleton, List.range_succ, List.foldl_append, List.foldl_cons, List.foldl_nil, List.getElem?_append_right (Nat.le_refl _), Nat.sub_self]
  have e : ∀ o, (List.range A.length).foldl (fun o i => if ((A ++ [x])[i]?).map txE = some t then some i else o) o = (List.range A.length).foldl (fun o i => if (A[i]?).map txE = some t then some i else o) o := fun o =>
    range_foldl_ext _ _ _ o fun i hi o => by rw [List.getElem?_append_left (List.mem_range.1 hi)]
  rw [e]
  by_cases h : txE x = t
  · rw [if_pos (by simp [h]), if_pos h]
  · rw [if_neg (by simp [h]), if_neg h]
/-- where the first entry of a point stands -/
def firstI (L : List Ent) (p : P4) : Option Nat := L.findIdx? fun x => decide (txE x = p.t ∧ x.lsn = p.l)
theorem firstI_snoc (A : List Ent) (x : Ent) (p : P4) : firstI (A ++ [x]) p = match firstI A p with | some i => some i | none => if txE x = p.t ∧ x.lsn = p.l then some A.length else none := by
  unfold firstI
  rw [Past.findIdx_snoc]
  cases A.findIdx? _ with
  | some i => rfl
  | none =>
    dsimp only
    by_cases h : txE x = p.t ∧ x.lsn = p.l
    · rw [if_pos (by simpa using h), if_pos h]
    · rw [if_neg (by simpa using h), if_neg h]
theorem firstI_some {L : List Ent} {p : P4} {i : Nat} (h : firstI L p = some i) : ∃ x, L[i]? = some x ∧ txE x = p.t ∧ x.lsn = p.l := by
  unfold firstI at h
  obtain ⟨h1, h2, -⟩ := List.findIdx?_eq_some_iff_getElem.1 h
  exact ⟨L[i], List.getElem?_eq_getElem h1, by simpa using h2⟩
theorem lastI_some : ∀ (L : List Ent) {t : T3} {i : Nat}, lastI L t = some i → ∃ x, L[i]? = some x ∧ txE x = t := fun L => by
  refine snoc_ind (P := fun L => ∀ {t : T3} {i : Nat}, lastI L t = some i → ∃ x, L[i]? = some x ∧ txE x = t) ?_ ?_ L
  · intro t i h; cases h
  · intro A x ih t i h
    rw [lastI_snoc] at h
    by_cases ht : txE x = t
    · rw [if_pos ht] at h
      injection h with h
      subst h
      exact ⟨x, by rw [List.getElem?_append_right (Nat.le_refl _), Nat.sub_self]; rfl, ht⟩
    · rw [if_neg ht] at h
      obtain ⟨y, h1, h2⟩ := ih h
      exact ⟨y, by rw [List.getElem?_append_left (List.getElem?_eq_some_iff.1 h1).1]; exact h1, h2⟩
theorem lastI_is : ∀ (L : List Ent), (∀ x ∈ L, goodB x = true) → ∀ t, ((lastI L t).bind fun i => L[i]?) = (ofL L t).getLast? := fun L => by
  refine snoc_ind (P := fun L => (∀ x ∈ L, goodB x = true) → ∀ t, ((lastI L t).bind fun i => L[i]?) = (ofL L t).getLast?) ?_ ?_ L
  · intro _ t; rfl
  · intro A x ih hg t
    have hA := ih (fun y hy => hg y (List.mem_append_left _ hy)) t
    rw [lastI_snoc, of_snoc]
    by_cases ht : txE x = t
    · rw [if_pos ht, if_pos ((isT_good (hg x (by simp)) t).2 ht)]
      simp
    · rw [if_neg ht, if_neg fun h => ht ((isT_good (hg x (by simp)) t).1 h), ← hA]
      cases hl : lastI A t with
      | none => rfl
      | some i =>
        obtain ⟨y, h1, -⟩ := lastI_some A hl
        show (A ++ [x])[i]? = A[i]?
        rw [List.getElem?_append_left (List.getElem?_eq_some_iff.1 h1).1]
theorem firstI_is {t : T3} {l : Int} : ∀ (L : List Ent), (∀ x ∈ L, goodB x = true) → ((firstI L ⟨t, l⟩).bind fun i => L[i]?) = (ofL L t).find? (fun y => decide (y.lsn = l)) := fun L => by
  refine snoc_ind (P := fun L => (∀ x ∈ L, goodB x = true) → ((firstI L ⟨t, l⟩).bind fun i => L[i]?) = (ofL L t).find? (fun y => decide (y.lsn = l))) ?_ ?_ L
  · intro _; rfl
  · intro A x ih hg
    have hA := ih (fun y hy => hg y (List.mem_append_left _ hy))
    rw [firstI_snoc, of_snoc]
    have hfind : (if isT t x = true then ofL A t ++ [x] else ofL A t).find? (fun y => decide (y.lsn = l)) = match (ofL A t).find? (fun y => decide (y.lsn = l)) with | some y => some y | none => if txE x = t ∧ x.lsn = l then some x else none := by
      have hit := isT_good (hg x (by simp)) t
      by_cases ht : txE x = t
      · rw [if_pos (hit.2 ht), List.find?_append]
        cases (ofL A t).find? _ with
        | some y => rfl
        | none =>
          by_cases hl : x.lsn = l
          · rw [if_pos ⟨ht, hl⟩]; simp [hl]
          · rw [if_neg fun h => hl h.2]; simp [hl]
      · rw [if_neg fun h => ht (hit.1 h), if_neg fun h => ht h.1]
        cases (ofL A t).find? _ <;> rfl
    rw [hfind, ← hA]
    cases hl : firstI A ⟨t, l⟩ with
    | some i =>
      obtain ⟨y, h1, -⟩ := firstI_some hl
      dsimp only [Option.bind_some]
      rw [List.getElem?_append_left (List.getElem?_eq_some_iff.1 h1).1, h1]
    | none =>
      dsimp only [Option.bind_none]
      by_cases hc : txE x = t ∧ x.lsn = l
      · rw [if_pos hc, if_pos hc]
        simp
      · rw [if_neg hc, if_neg hc]; rfl
/-- what the program's own next, lead answer: an entry, an error's number -/
def ansL : Option (Option Ent) → Ent × Int
  | none => (Ent.noE, 4)
  | some none => (Ent.noE, 0)
  | some (some x) => (x, 0)
theorem follow_step {L : List Ent} (hg : ∀ x ∈ L, goodB x = true) (t : T3) (f : Nat) (l : Int) (h0 : l ≠ 0) : followL (ofL L t) (f + 1) l = match (firstI L ⟨t, l⟩).bind fun i => L[i]? with
    | none => none
    | some y => if y.kind = 1 then some (some y) else if y.kind = 2 then followL (ofL L t) f y.next else none := by
  rw [followL, if_neg h0, firstI_is L hg]
  rfl
/-- more steps than needed change nothing -/
theorem follow_more {L : List Ent} (hg : ∀ x ∈ L, goodB x = true) (t : T3) : ∀ (f g : Nat) (l : Int), l.toNat < f → l.toNat < g → 0 ≤ l → followL (ofL L t) f l = followL (ofL L t) g l
  | 0, _, _, h, _, _ => absurd h (Nat.not_lt_zero _)
  | _ + 1, 0, _, _, h, _ => absurd h (Nat.not_lt_zero _)
  | f + 1, g + 1, l, hf, hgg, hl => by
    by_cases h0 : l = 0
    · rw [followL, followL, if_pos h0, if_pos h0]
    · rw [follow_step hg t f l h0, follow_step hg t g l h0]
      cases hb : (firstI L ⟨t, l⟩).bind fun i => L[i]? with
      | none => rfl
      | some y =>
        dsimp only
        by_cases h1 : y.kind = 1
        · rw [if_pos h1, if_pos h1]
        · rw [if_neg h1, if_neg h1]
          by_cases h2 : y.kind = 2
          · rw [if_pos h2, if_pos h2]
            have hy : y ∈ L ∧ y.lsn = l := by
              cases hi : firstI L ⟨t, l⟩ with
              | none => rw [hi] at hb; cases hb
              | some i =>
                obtain ⟨x, e1, -, e3⟩ := firstI_some hi
                rw [hi] at hb
                have hb : L[i]? = some y := hb
                rw [e1] at hb
                injection hb with hb
                subst hb
                exact ⟨List.mem_of_getElem? e1, e3⟩
            have hn := Ent.good_long (hg y hy.1) (by unfold Ent.longB; rw [h2]; rfl)
            have hh := Ent.head_parts hn.1
            exact follow_more hg t f g y.next (by omega) (by omega) hn.2.2.1
          · rw [if_neg h2, if_neg h2]
def leadL (L : List Ent) (t : T3) (l : Int) : Option (Option Ent) := followL (ofL L t) (l.toNat + 1) l
theorem next_cases {L : List Ent} (hg : ∀ x ∈ L, goodB x = true) (t : T3) : nextL L t = match (lastI L t).bind fun i => L[i]? with
    | none => some none
    | some e => if e.kind = 1 then some (some e) else if e.kind = 2 then leadL L t e.next else some none := by
  unfold nextL leadL
  rw [lastI_is L hg]
  rfl
end Go.Proofs.YtkeocnhndnbamaaGreat.Mend
namespace Go.Proofs.YtkeocnhndnbamaaGreat.Past
set_option maxRecDepth 100000
open Go.RowKit Go.Sort
open Go.Proofs.YtkeocnhndnbamaaGreat.Mem
open Go.Proofs.YtkeocnhndnbamaaGreat.Ent (Ent goodB Ents EntAt SmallE noE entA cellsE cellsE_snoc cellsE_length cellsE_get)
theorem info_parts {P : Program} {t : TypeId} {z : Value} {s b : Nat} (h : (P.info? t).map (fun i => (i.zero, i.size, i.bytes)) = some (some z, s, b)) : ∃ i, P.info? t = some i ∧ i.zero = some z ∧ i.size = s ∧ i.bytes = b := by
  cases e : P.info? t with
  | none => rw [e] at h; cases h
  | some i => rw [e] at h; simp at h; exact ⟨i, rfl, h.1, h.2.1, h.2.2⟩
def intV : Value → Nat
  | .int _ i => i.toNat
  | _ => 0
theorem add_at (b o j : Nat) : (Addr.mk b o none).add j = ⟨b, o + j, none⟩ := by unfold Addr.add; split <;> simp_all
/-- a row of entries handed back -/
def OfRes (L : List Ent) (w : World) (e : Ending) (w' : World) : Prop :=
  ∃ v, e = .returned v ∧ w'.ownsRow w.heap.size 58 13 v L.length (cellsE L) ∧ Below w.heap.size w w'
end Go.Proofs.YtkeocnhndnbamaaGreat.Past
namespace Go.Proofs.YtkeocnhndnbamaaGreat.Past
set_option maxRecDepth 100000
open Go.RowKit Go.Sort
open Go.Proofs.YtkeocnhndnbamaaGreat.Mem
open Go.Proofs.YtkeocnhndnbamaaGreat.Ent (Ent goodB Ents EntAt SmallE noE entA cellsE cellsE_snoc cellsE_length cellsE_get)
set_option maxRecDepth 100000 in
set_option maxHeartbeats 4000000 in
theorem of_any (a : Option Addr) (n c : Nat) (L : List Ent) (t : T3) (w : World) (h : Ents w a n L) (hn : n ≤ 1000000) :
    Calls Tryz.prog 33 #[.slice a n c, .agg #[.int .i64 t.cl, .int .i64 t.ep, .int .i64 t.n]] w (OfRes (ofL L t) w) := by
  obtain ⟨i0, hi, hz0, hz1, hz2⟩ := info_parts infoE
  have hL : L.length = n := h.1
  have HE := Lib.hid h
  clear h
  have HB0 := Lib.hid (Ent.below_box w (.cells #[.int .i64 t.cl, .int .i64 t.ep, .int .i64 t.n] 56))
  have HT0 := Lib.hid (Blk.new w 56 #[.int .i64 t.cl, .int .i64 t.ep, .int .i64 t.n])
  have hl0 := Ent.alloc_lt w (.cells #[.int .i64 t.cl, .int .i64 t.ep, .int .i64 t.n] 56)
  have HL := Lib.hid hL
  go_enter Tryz.func33, Tryz.ntmps33
  go_upto_region 1 with (fail)
  generalize hGen : w.alloc (.cells #[.int .i64 t.cl, .int .i64 t.ep, .int .i64 t.n] 56) = W at HB0 HT0 hl0 ⊢
  clear hGen
  clear hL
  go_wp2
  go_loopw [5, 10] (fun v i wr => ∃ k : Nat, k ≤ n ∧ i = .int .i64 (k : Int) ∧ Hid (wr.ownsRow W.heap.size 58 13 v (ofL (L.take k) t).length (cellsE (ofL (L.take k) t)) ∧ Below w.heap.size w wr ∧ Blk wr w.heap.size 56 #[.int .i64 t.cl, .int .i64 t.ep, .int .i64 t.n] ∧ W.heap.size ≤ wr.heap.size)) (fun _ i _ => n - intV i)
  case atStart => exact ⟨0, Nat.zero_le _, rfl, Lib.hid ⟨by rw [List.take_zero]; exact own_nil _ _ _ _, HB0.out, HT0.out, Nat.le_refl _⟩⟩
  case round =>
    obtain ⟨k, hk, rfl, HR⟩ := hrel
    obtain ⟨va, vc, rfl⟩ := own_shape HR.out.1
    by_cases hlt : k < n
    · have hx : L[k]? = some (L[k]'(by have := HL.out; omega)) := List.getElem?_eq_getElem _
      generalize L[k]'(by have := HL.out; omega) = x at hx
      obtain ⟨b, off, rfl, hbw, hat, hsm, -⟩ := ents_mem HE.out hx
      have HSM := Lib.hid (show Ent.Small x from hsm)
      have HN := Lib.hid (of_next t hx)
      have hd1 : decide ((k : Int) < (n : Int)) = true := decide_eq_true (by omega)
      obtain ⟨c0, c1, c2, c3, c4, c5, c6, c7, c8, c9, c10, c11, c12⟩ := (hat.next HR.out.2.1 hbw).cells
      have hbb := Ent.below_box wr (.cells #[.int .i64 x.kind, .int .i64 x.cl, .int .i64 x.ep, .int .i64 x.n, .int .i64 x.lsn, .int .i64 x.prev, .int .i64 x.page, .int .i64 x.slot, .bool x.wu, .string x.wd, .bool x.iu, .string x.id, .int .i64 x.next] 58)
      have H1 := Lib.hid (show (wr.alloc (.cells #[.int .i64 x.kind, .int .i64 x.cl, .int .i64 x.ep, .int .i64 x.n, .int .i64 x.lsn, .int .i64 x.prev, .int .i64 x.page, .int .i64 x.slot, .bool x.wu, .string x.wd, .bool x.iu, .string x.id, .int .i64 x.next] 58)).ownsRow W.heap.size 58 13 (.slice va (ofL (L.take k) t).length vc) (ofL (L.take k) t).length (cellsE (ofL (L.take k) t)) ∧ Below w.heap.size w (wr.alloc (.cells #[.int .i64 x.kind, .int .i64 x.cl, .int .i64 x.ep, .int .i64 x.n, .int .i64 x.lsn, .int .i64 x.prev, .int .i64 x.page, .int .i64 x.slot, .bool x.wu, .string x.wd, .bool x.iu, .string x.id, .int .i64 x.next] 58)) ∧ Blk (wr.alloc (.cells #[.int .i64 x.kind, .int .i64 x.cl, .int .i64 x.ep, .int .i64 x.n, .int .i64 x.lsn, .int .i64 x.prev, .int .i64 x.page, .int .i64 x.slot, .bool x.wu, .string x.wd, .bool x.iu, .string x.id, .int .i64 x.next] 58)) w.heap.size 56 #[.int .i64 t.cl, .int .i64 t.ep, .int .i64 t.n] ∧ W.heap.size ≤ (wr.alloc (.cells #[.int .i64 x.kind, .int .i64 x.cl, .int .i64 x.ep, .int .i64 x.n, .int .i64 x.lsn, .int .i64 x.prev, .int .i64 x.page, .int .i64 x.slot, .bool x.wu, .string x.wd, .bool x.iu, .string x.id, .int .i64 x.next] 58)).heap.size from
        ⟨own_below HR.out.1 hbb, HR.out.2.1.trans (hbb.mono HR.out.2.1.size), HR.out.2.2.1.below hbb HR.out.2.2.1.lt, Nat.le_trans HR.out.2.2.2 hbb.size⟩)
      have HX1 := Lib.hid (Blk.new wr 58 #[.int .i64 x.kind, .int .i64 x.cl, .int .i64 x.ep, .int .i64 x.n, .int .i64 x.lsn, .int .i64 x.prev, .int .i64 x.page, .int .i64 x.slot, .bool x.wu, .string x.wd, .bool x.iu, .string x.id, .int .i64 x.next])
      have hOL := Nat.le_trans (of_len (L.take k) t) (List.length_take_le k L)
      clear hx hat hsm hbb HR
      generalize ofL (L.take k) t = O at H1 HN hOL
      go_upto_region 5 with (fail)
      generalize wr.alloc (.cells #[.int .i64 x.kind, .int .i64 x.cl, .int .i64 x.ep, .int .i64 x.n, .int .i64 x.lsn, .int .i64 x.prev, .int .i64 x.page, .int .i64 x.slot, .bool x.wu, .string x.wd, .bool x.iu, .string x.id, .int .i64 x.next] 58) = W1 at H1 HX1 ⊢
      generalize wr.heap.size = gx at HX1 ⊢
      clear c0 c1 c2 c3 c4 c5 c6 c7 c8 c9 c10 c11 c12
      obtain ⟨c0, c1, c2, c3, c4, c5, c6, c7, c8, c9, c10, c11, c12⟩ := Ent.ent_cells HX1.out
      obtain ⟨d0, d1, d2⟩ := tx_cells H1.out.2.2.1
      have hq := fun W => run_eq_txn (txE x) t W
      have hgd := fun (A B : Operand) xs ys w => run_guard_txn .eql A B xs ys w
      have HST := Lib.hid (show isT t x = (goodB x && sameT (txE x) t) by rw [sameT_eq]; rfl)
      have CG := Lib.hid (Ent.good_any x W1 HSM.out)
      generalize hsb : sameT (txE x) t = sb at hq HST
      generalize goodB x = gb at CG HST
      unfold txE at hq
      dsimp only at hq
      clear hsb
      cases sb with
      | false =>
        have HN2 := Lib.hid (show ofL (L.take (k + 1)) t = O by rw [HN.out, HST.out, Bool.and_false]; rfl)
        clear CG HST HN
        go_wp2
        go_roundw
        case rel => exact ⟨k + 1, by omega, by go_num, Lib.hid (by rw [HN2.out]; exact H1.out)⟩
        case measure => simp [intV]; omega
      | true =>
        go_wp2_with fail
        refine CG.out.mono ?_
        rintro e w2 ⟨rfl, b2⟩
        have H2 := Lib.hid (show w2.ownsRow W.heap.size 58 13 (.slice va O.length vc) O.length (cellsE O) ∧ Below w.heap.size w w2 ∧ Blk w2 w.heap.size 56 #[.int .i64 t.cl, .int .i64 t.ep, .int .i64 t.n] ∧ W.heap.size ≤ w2.heap.size from
          ⟨own_below H1.out.1 b2, H1.out.2.1.trans (b2.mono H1.out.2.1.size), H1.out.2.2.1.below b2 H1.out.2.2.1.lt, Nat.le_trans H1.out.2.2.2 b2.size⟩)
        have HX2 := Lib.hid (HX1.out.below b2 HX1.out.lt)
        clear c0 c1 c2 c3 c4 c5 c6 c7 c8 c9 c10 c11 c12 d0 d1 d2 b2 hq hgd H1 HX1 CG
        cases gb with
        | false =>
          have HN2 := Lib.hid (show ofL (L.take (k + 1)) t = O by rw [HN.out, HST.out]; rfl)
          clear HST HN
          go_wp2
          go_roundw
          case rel => exact ⟨k + 1, by omega, by go_num, Lib.hid (by rw [HN2.out]; exact H2.out)⟩
          case measure => simp [intV]; omega
        | true =>
          have HN2 := Lib.hid (show ofL (L.take (k + 1)) t = O ++ [x] by rw [HN.out, HST.out]; rfl)
          clear HST HN
          obtain ⟨c0, c1, c2, c3, c4, c5, c6, c7, c8, c9, c10, c11, c12⟩ := Ent.ent_cells HX2.out
          have hsW := H2.out.2.2.2
          have hLn := HL.out
          go_wp2_with (at_builtin; refine wpList_append_own _ rfl _ _ 29 rfl W.heap.size 58 i0 (.agg #[.int .i64 0, .int .i64 0, .int .i64 0, .int .i64 0, .int .i64 0, .int .i64 0, .int .i64 0, .int .i64 0, .bool false, .string ⟨#[]⟩, .bool false, .string ⟨#[]⟩, .int .i64 0]) 13 120 Tryz.underlying29 hi hz0 hz1 hz2 rfl (by decide) _ O.length (cellsE O) rfl (own_below H2.out.1 (Ent.below_box _ _)) ⟨w2.heap.size, 0, none⟩ 1 1 (entA x).toList rfl rfl ?c1 ?c2 ?c3 ?c4 ?c5 ?_)
          case c1 =>
            intro j u hj
            rw [add_at, Nat.zero_add, (Blk.new w2 58 #[.int .i64 x.kind, .int .i64 x.cl, .int .i64 x.ep, .int .i64 x.n, .int .i64 x.lsn, .int .i64 x.prev, .int .i64 x.page, .int .i64 x.slot, .bool x.wu, .string x.wd, .bool x.iu, .string x.id, .int .i64 x.next]).cell j]
            simpa [entA] using hj
          case c2 => intro u hu; simp [entA] at hu; rcases hu with rfl | rfl | rfl | rfl | rfl | rfl | rfl | rfl | rfl | rfl | rfl | rfl | rfl <;> rfl
          case c3 => unfold maxLen; omega
          case c4 => omega
          case c5 => simp; omega
          intro v' w6 hown6 hgrow6 _
          rw [cellsE_snoc] at hown6
          have H6 := Lib.hid (show w6.ownsRow W.heap.size 58 13 v' (O ++ [x]).length (cellsE (O ++ [x])) ∧ Below w.heap.size w w6 ∧ Blk w6 w.heap.size 56 #[.int .i64 t.cl, .int .i64 t.ep, .int .i64 t.n] ∧ W.heap.size ≤ w6.heap.size from by
            have hbo : ∀ j, Value.ownBlock (.slice va O.length vc) = some j → W.heap.size ≤ j := fun j hj => own_ge H2.out.1 hj
            have hbb := Ent.below_box w2 (.cells (entA x) 58)
            have hs1 := H2.out.2.1.size
            refine ⟨by rw [List.length_append]; exact hown6, below_grown (H2.out.2.1.trans (hbb.mono hs1)) (Nat.le_trans hs1 hbb.size) hgrow6 (fun j hj => by have := hbo j hj; omega), (H2.out.2.2.1.alloc _).grown hgrow6 (fun e => by have := hbo _ e.symm; omega), Nat.le_trans H2.out.2.2.2 (Nat.le_trans hbb.size hgrow6.size)⟩)
          clear hown6 hgrow6 c0 c1 c2 c3 c4 c5 c6 c7 c8 c9 c10 c11 c12 H2 HX2
          go_wp2
          go_roundw
          case rel => exact ⟨k + 1, by omega, by go_num, Lib.hid (by rw [HN2.out]; exact H6.out)⟩
          case measure => simp [intV]; omega
    · obtain rfl : k = n := by omega
      have hd1 : decide ((k : Int) < (k : Int)) = false := decide_eq_false (by omega)
      have hF : L.take k = L := List.take_of_length_le (by have := HL.out; omega)
      rw [hF] at HR ⊢
      go_wp2
      go_ret
      exact ⟨_, rfl, own_base HR.out.1 (by omega), HR.out.2.1⟩
end Go.Proofs.YtkeocnhndnbamaaGreat.Past
