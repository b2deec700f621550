/- A client's locks in memory. -/
import Derived.Test.YtlalehoncclnaaaLatchSort
import Derived.StillTailTactics
import Derived.Deep.RegionHeld3
import Derived.Deep.RegionLaw
import Derived.Lib.QuietBelow
import Derived.Deep.CutBlock
import Derived.Deep.DeepCutAuto
import Derived.WalkSpells
namespace Go.Proofs.Ytlalehoncclnaaa.Latch
set_option maxRecDepth 100000
open Go.RowKit
open Go.Proofs.Ytlalehoncclnaaa.Mem
open Go.Maps
def lvlK (k : Lk) : Int := if k.x = true then 2 else 1
def lvl (p : Int) (L : LS) : Int := match atL p L with | some k => lvlK k | none => 0
def useV (k : Lk) : Value := .agg #[.int .i64 k.us, .int .i64 (2 - (k.wt : Int))]
def hasF (L : LS) (p : Int) : Option Value := (atL p L).map fun k => .int .i64 (lvlK k)
def useF (L : LS) (p : Int) : Option Value := (atL p L).bind fun k => if k.us = 0 then none else some (useV k)
def staysI (p : Int) (L : LS) : Int := match atL p L with | some k => if k.us = 0 then 0 else 2 - (k.wt : Int) | none => 0
structure TV (w : World) (p hb ub : Nat) (M : Nat → Prop) (L : LS) : Prop where
  ok : Ok L
  top : Blk w p 56 #[.map (some hb), .map (some ub)]
  hm : MapN w hb L.length (hasF L)
  um : MapN w ub L.length (useF L)
  nu : hb ≠ ub
  o0 : ¬ M p
  o1 : ¬ M hb
  o2 : ¬ M ub
  ml : ∀ k, M k → k < w.heap.size
def TQ (w : World) (p : Nat) (M : Nat → Prop) (L : LS) : Prop := ∃ hb ub, TV w p hb ub M L
theorem has_mem {L : LS} {x : Int} (h : hasF L x ≠ none) : x ∈ pagesL L := by
  unfold hasF at h
  cases e : atL x L with
  | none => rw [e] at h; exact absurd rfl h
  | some k => exact List.mem_map.2 ⟨k, at_mem e, at_pg e⟩
theorem use_mem {L : LS} {x : Int} (h : useF L x ≠ none) : x ∈ pagesL L := by
  unfold useF at h
  cases e : atL x L with
  | none => rw [e] at h; exact absurd rfl h
  | some k => exact List.mem_map.2 ⟨k, at_mem e, at_pg e⟩
theorem pages_length (L : LS) : (pagesL L).length = L.length := by simp [pagesL]
section
variable {w w' w1 : World} {p hb ub : Nat} {M M' : Nat → Prop} {L L' : LS}
theorem TV.sm (h : TV w p hb ub M L) : ∀ k ∈ L, Sm k.pg := fun k hk => h.hm.dom k.pg (by unfold hasF; rw [at_of_mem h.ok.1 hk]; simp)
theorem TV.np (h : TV w p hb ub M L) : hb ≠ p ∧ ub ≠ p := ⟨h.hm.not_cells h.top, h.um.not_cells h.top⟩
theorem TV.step (h : TV w p hb ub M L) (hs : w.heap.size ≤ w'.heap.size) (hk : ∀ k, k < w.heap.size → ¬ M k → w'.heap[k]? = w.heap[k]?) (hm : ∀ k, M' k → M k ∨ (w.heap.size ≤ k ∧ k < w'.heap.size)) : TV w' p hb ub M' L where
  ok := h.ok
  top := (hk p h.top.lt h.o0).trans h.top
  hm := h.hm.same (hk _ h.hm.lt h.o1)
  um := h.um.same (hk _ h.um.lt h.o2)
  nu := h.nu
  o0 := fun e => (hm p e).elim h.o0 fun x => by have := h.top.lt; omega
  o1 := fun e => (hm _ e).elim h.o1 fun x => by have := h.hm.lt; omega
  o2 := fun e => (hm _ e).elim h.o2 fun x => by have := h.um.lt; omega
  ml := fun k e => (hm k e).elim (fun x => Nat.lt_of_lt_of_le (h.ml k x) hs) (·.2)
theorem TV.below (h : TV w p hb ub M L) (hb' : Below w.heap.size w w') : TV w' p hb ub M L := h.step hb'.size (fun k hk _ => hb'.block k hk) (fun _ hk => .inl hk)
theorem TV.drewN (h : TV w p hb ub M L) (n : Nat) : TV (w.drewN n) p hb ub M L := h.step (Nat.le_refl _) (fun _ _ _ => rfl) (fun _ hk => .inl hk)
theorem TV.mono (h : TV w p hb ub M L) (hm : ∀ k, M' k → M k) : TV w p hb ub M' L := h.step (Nat.le_refl _) (fun _ _ _ => rfl) (fun k hk => .inl (hm k hk))
theorem TV.alloc (h : TV w p hb ub M L) (o : Obj) : TV (w.alloc o) p hb ub (fun k => M k ∨ k = w.heap.size) L :=
  h.step (by simp) (fun k hk _ => Below.heap_alloc w o k hk) (fun k hk => hk.elim .inl (fun e => .inr (by simp; omega)))
theorem TV.set_ (h : TV w p hb ub M L) {b : Nat} (hb' : M b) (i : Nat) (u : Value) : TV (w.setCell ⟨b, i, none⟩ u) p hb ub M L :=
  h.step (by simp) (fun k _ hk => Below.heap_setCell w ⟨b, i, none⟩ u k (fun e => hk ((show k = b from e) ▸ hb'))) (fun k hk => .inl hk)
theorem TQ.step (h : TQ w p M L) (hs : w.heap.size ≤ w'.heap.size) (hk : ∀ k, k < w.heap.size → ¬ M k → w'.heap[k]? = w.heap[k]?) (hm : ∀ k, M' k → M k ∨ (w.heap.size ≤ k ∧ k < w'.heap.size)) : TQ w' p M' L := by
  obtain ⟨a, b, h⟩ := h; exact ⟨a, b, h.step hs hk hm⟩
theorem TQ.below (h : TQ w p M L) (hb : Below w.heap.size w w') : TQ w' p M L := h.step hb.size (fun k hk _ => hb.block k hk) (fun _ hk => .inl hk)
/-- .. and what has been made meanwhile belongs to the others -/
theorem TQ.belowM (h : TQ w p M L) (hb : Below w.heap.size w w') : TQ w' p (fun k => M k ∨ (w.heap.size ≤ k ∧ k < w'.heap.size)) L := h.step hb.size (fun k hk _ => hb.block k hk) (fun _ hk => hk)
theorem TQ.mono (h : TQ w p M L) (hm : ∀ k, M' k → M k) : TQ w p M' L := h.step (Nat.le_refl _) (fun _ _ _ => rfl) (fun k hk => .inl (hm k hk))
theorem TQ.drewN (h : TQ w p M L) (n : Nat) : TQ (w.drewN n) p M L := h.step (Nat.le_refl _) (fun _ _ _ => rfl) (fun _ hk => .inl hk)
theorem TQ.alloc (h : TQ w p M L) (o : Obj) : TQ (w.alloc o) p (fun k => M k ∨ k = w.heap.size) L :=
  h.step (by simp) (fun k hk _ => Below.heap_alloc w o k hk) (fun k hk => hk.elim .inl (fun e => .inr (by simp; omega)))
theorem TQ.set_ (h : TQ w p M L) {b : Nat} (hb : M b) (i : Nat) (u : Value) : TQ (w.setCell ⟨b, i, none⟩ u) p M L :=
  h.step (by simp) (fun k _ hk => Below.heap_setCell w ⟨b, i, none⟩ u k (fun e => hk ((show k = b from e) ▸ hb))) (fun k hk => .inl hk)
theorem TQ.lt (h : TQ w p M L) : ∀ k, M k → k < w.heap.size := by obtain ⟨a, b, h⟩ := h; exact h.ml
theorem TQ.ok (h : TQ w p M L) : Ok L := by obtain ⟨a, b, h⟩ := h; exact h.ok
theorem TQ.sm (h : TQ w p M L) : ∀ k ∈ L, Sm k.pg := by obtain ⟨a, b, h⟩ := h; exact h.sm
theorem TQ.pl (h : TQ w p M L) : p < w.heap.size := by obtain ⟨a, b, h⟩ := h; exact h.top.lt
theorem TQ.pm (h : TQ w p M L) : ¬ M p := by obtain ⟨a, b, h⟩ := h; exact h.o0
theorem TV.topc (h : TV w p hb ub M L) : w.cell? ⟨p, 0, none⟩ = some (.map (some hb)) ∧ w.cell? ⟨p, 1, none⟩ = some (.map (some ub)) ∧ w.frozen? ⟨p, 0, none⟩ = false ∧ w.frozen? ⟨p, 1, none⟩ = false :=
  ⟨h.top.cell 0, h.top.cell 1, h.top.frozen 0, h.top.frozen 1⟩
theorem zero_i (w : World) : (zeroValue 3).run Try.prog w = .ok (.int .i64 0) w := by kernel_rfl
theorem zero_u (w : World) : (zeroValue 59).run Try.prog w = .ok (.agg #[.int .i64 0, .int .i64 0]) w := by kernel_rfl
theorem TV.lookH (h : TV w p hb ub M L) {x : Int} (hx : Sm x) : (Instr.lookup 53 (.map (some hb)) (.int .i64 x) false).run Try.prog w = .ok (.int .i64 (lvl x L)) w := by
  rw [h.hm.look Try.underlying53 (zero_i w) hx]
  unfold hasF lvl
  cases atL x L <;> rfl
theorem useF_get (x : Int) : (useF L x).getD (.agg #[.int .i64 0, .int .i64 0]) = .agg #[.int .i64 (usedL x L), .int .i64 (staysI x L)] := by
  unfold useF usedL staysI
  cases atL x L with
  | none => rfl
  | some k =>
    dsimp only [Option.bind_some]
    by_cases e : k.us = 0
    · rw [if_pos e, if_pos e, e]; rfl
    · rw [if_neg e, if_neg e]; rfl
theorem TV.lookU (h : TV w p hb ub M L) {x : Int} (hx : Sm x) : (Instr.lookup 54 (.map (some ub)) (.int .i64 x) false).run Try.prog w = .ok (.agg #[.int .i64 (usedL x L), .int .i64 (staysI x L)]) w := by
  rw [h.um.look Try.underlying54 (zero_u w) hx, useF_get]
theorem TV.lookO (h : TV w p hb ub M L) {x : Int} (hx : Sm x) : (Instr.lookup 54 (.map (some ub)) (.int .i64 x) true).run Try.prog w = .ok (.tuple #[.agg #[.int .i64 (usedL x L), .int .i64 (staysI x L)], .bool (useF L x).isSome]) w := by
  rw [h.um.look_ok Try.underlying54 (zero_u w) hx, useF_get]
/-- a lock is laid -/
theorem TV.putH (h : TV w p hb ub M L) {x : Int} (hx : Sm x) {v : Value} (hok : Ok L') (hn : L.length ≤ 1000000) (e1 : ∀ q, hasF L' q = if q = x then some v else hasF L q) (e2 : ∀ q, useF L' q = useF L q) :
    ∃ w', (Instr.mapUpdate 53 (.map (some hb)) (.int .i64 x) v).run Try.prog w = .ok () w' ∧ w'.cell? ⟨p, 0, none⟩ = some (.map (some hb)) ∧ Hid (TV w' p hb ub M L' ∧ Keep M w w') := by
  obtain ⟨w', hr, hm, ht⟩ := h.hm.put Try.underlying53 hx (by unfold maxLen; omega) v
  have hg := ht.grown
  have hbl : ∀ k, k < w.heap.size → k ≠ hb → w'.heap[k]? = w.heap[k]? := fun k hk hne => hg.block k hk (fun e => hne (by injection e))
  have htop := (hbl p h.top.lt (fun e => h.np.1 e.symm)).trans h.top
  refine ⟨w', hr, Blk.cell htop 0, Lib.hid ⟨{
    ok := hok
    top := htop
    hm := by have := (hm.ext fun q => (e1 q).symm).fit (ks := pagesL L') (fun q hq => has_mem hq); rwa [pages_length] at this
    um := by have := ((h.um.same (hbl _ h.um.lt h.nu.symm)).ext fun q => (e2 q).symm).fit (ks := pagesL L') (fun q hq => use_mem hq); rwa [pages_length] at this
    nu := h.nu
    o0 := h.o0
    o1 := h.o1
    o2 := h.o2
    ml := fun k hk => Nat.lt_of_lt_of_le (h.ml k hk) hg.size }, ?_⟩⟩
  exact (Keep.refl M w).grown hg h.ml (fun k e hk => h.o1 (by injection e with e; rw [e]; exact hk))
theorem TV.putU (h : TV w p hb ub M L) {x : Int} (hx : Sm x) {v : Value} (hok : Ok L') (hn : L.length ≤ 1000000) (e1 : ∀ q, useF L' q = if q = x then some v else useF L q) (e2 : ∀ q, hasF L' q = hasF L q) :
    ∃ w', (Instr.mapUpdate 54 (.map (some ub)) (.int .i64 x) v).run Try.prog w = .ok () w' ∧ w'.cell? ⟨p, 1, none⟩ = some (.map (some ub)) ∧ Hid (TV w' p hb ub M L' ∧ Keep M w w') := by
  obtain ⟨w', hr, hm, ht⟩ := h.um.put Try.underlying54 hx (by unfold maxLen; omega) v
  have hg := ht.grown
  have hbl : ∀ k, k < w.heap.size → k ≠ ub → w'.heap[k]? = w.heap[k]? := fun k hk hne => hg.block k hk (fun e => hne (by injection e))
  have htop := (hbl p h.top.lt (fun e => h.np.2 e.symm)).trans h.top
  refine ⟨w', hr, Blk.cell htop 1, Lib.hid ⟨{
    ok := hok
    top := htop
    um := by have := (hm.ext fun q => (e1 q).symm).fit (ks := pagesL L') (fun q hq => use_mem hq); rwa [pages_length] at this
    hm := by have := ((h.hm.same (hbl _ h.hm.lt h.nu)).ext fun q => (e2 q).symm).fit (ks := pagesL L') (fun q hq => has_mem hq); rwa [pages_length] at this
    nu := h.nu
    o0 := h.o0
    o1 := h.o1
    o2 := h.o2
    ml := fun k hk => Nat.lt_of_lt_of_le (h.ml k hk) hg.size }, ?_⟩⟩
  exact (Keep.refl M w).grown hg h.ml (fun k e hk => h.o2 (by injection e with e; rw [e]; exact hk))
theorem TV.delH (h : TV w p hb ub M L) {x : Int} (hx : Sm x) (hok : Ok L') (e1 : ∀ q, hasF L' q = if q = x then none else hasF L q) (e2 : ∀ q, useF L' q = useF L q) (ty : TypeId) :
    ∃ w', (Builtin.delete_ #[53, 3] ty #[.map (some hb), .int .i64 x]).run Try.prog w = .ok (.tuple #[]) w' ∧ Hid (TV w' p hb ub M L' ∧ Keep M w w') := by
  obtain ⟨w', hr, hm, ht⟩ := h.hm.del Try.underlying53 hx ty
  have hg := ht.grown
  have hbl : ∀ k, k < w.heap.size → k ≠ hb → w'.heap[k]? = w.heap[k]? := fun k hk hne => hg.block k hk (fun e => hne (by injection e))
  have htop := (hbl p h.top.lt (fun e => h.np.1 e.symm)).trans h.top
  refine ⟨w', hr, Lib.hid ⟨{
    ok := hok
    top := htop
    hm := by have := (hm.ext fun q => (e1 q).symm).fit (ks := pagesL L') (fun q hq => has_mem hq); rwa [pages_length] at this
    um := by have := ((h.um.same (hbl _ h.um.lt h.nu.symm)).ext fun q => (e2 q).symm).fit (ks := pagesL L') (fun q hq => use_mem hq); rwa [pages_length] at this
    nu := h.nu
    o0 := h.o0
    o1 := h.o1
    o2 := h.o2
    ml := fun k hk => Nat.lt_of_lt_of_le (h.ml k hk) hg.size }, ?_⟩⟩
  exact (Keep.refl M w).grown hg h.ml (fun k e hk => h.o1 (by injection e with e; rw [e]; exact hk))
end
/-! ### What each call makes of the two maps -/
section
variable {L : LS}
theorem hasF_of {q : Int} {L' : LS} (h : atL q L' = atL q L) : hasF L' q = hasF L q := by unfold hasF; rw [h]
theorem useF_of {q : Int} {L' : LS} (h : atL q L' = atL q L) : useF L' q = useF L q := by unfold useF; rw [h]
theorem hasF_grant (h : Ok L) (p : Int) (x : Bool) (q : Int) : hasF (grantL p x L) q = if q = p then some (.int .i64 (if x = true then 2 else 1)) else hasF L q := by
  have h1 := at_grant h.1 p x q
  by_cases e : q = p
  · rw [if_pos e] at h1 ⊢
    unfold hasF
    rw [h1]
    cases atL p L <;> rfl
  · rw [if_neg e] at h1 ⊢
    exact hasF_of h1
theorem useF_grant (h : Ok L) (p : Int) (x : Bool) (q : Int) : useF (grantL p x L) q = useF L q := by
  have h1 := at_grant h.1 p x q
  by_cases e : q = p
  · rw [if_pos e] at h1
    unfold useF
    rw [h1, e]
    cases atL p L <;> rfl
  · rw [if_neg e] at h1
    exact useF_of h1
theorem hasF_use (h : Ok L) (p : Int) (x : Bool) (q : Int) : hasF (useL p x L) q = hasF L q := by
  have h1 := at_use h.1 p x q
  by_cases e : q = p
  · rw [if_pos e] at h1
    unfold hasF
    rw [h1, e]
    cases atL p L with
    | none => rfl
    | some k =>
      dsimp only [Option.map_some]
      split <;> rfl
  · rw [if_neg e] at h1
    exact hasF_of h1
def strI (x : Bool) : Int := if x = true then 2 else 1
def staysN (p : Int) (L : LS) : Int := if usedL p L = 0 then 2 else staysI p L
theorem useF_use (h : Ok L) (p : Int) (x : Bool) (hh : hasL p x L = true) (q : Int) :
    useF (useL p x L) q = if q = p then some (.agg #[.int .i64 (max (usedL p L : Int) (strI x)), .int .i64 (staysN p L)]) else useF L q := by
  have h1 := at_use h.1 p x q
  by_cases e : q = p
  · rw [if_pos e] at h1 ⊢
    unfold useF
    rw [h1]
    have h2 : hasL p x L = true := hh
    unfold hasL at hh
    unfold staysN staysI usedL
    cases hk : atL p L with
    | none => rw [hk] at hh; cases hh
    | some k =>
      rw [hk] at hh
      obtain ⟨o1, o2, o3, o4⟩ := h.2 k (at_mem hk)
      rw [h2]
      dsimp only [Option.map_some, Option.bind_some]
      rw [if_pos rfl]
      unfold useV strI
      have b : (if k.us = 0 then (2 : Int) else if k.us = 0 then 0 else 2 - (k.wt : Int)) = 2 - (k.wt : Int) := by
        by_cases e : k.us = 0
        · rw [if_pos e]; omega
        · rw [if_neg e, if_neg e]
      rw [b]
      cases x with
      | true =>
        simp only [if_true]
        rw [if_neg (by omega), show max (k.us : Int) 2 = 2 by omega]
        rfl
      | false =>
        simp only [Bool.false_eq_true, if_false]
        by_cases e : k.us = 0
        · simp only [if_pos e]
          rw [if_neg (by omega), e]
          rfl
        · simp only [if_neg e]
          have : max (k.us : Int) 1 = k.us := by omega
          rw [this]
  · rw [if_neg e] at h1 ⊢
    exact useF_of h1
/-- Call where it has nothing to let go -/
theorem lvl_le {p : Int} (k : Lk) (hk : atL p L = some k) : lvl p L = lvlK k := by unfold lvl; rw [hk]
theorem call_nothing {p : Int} {all : Bool} (h : Ok L) (hl : lvl p L ≤ (if all = true then 0 else 1)) : callE p all L = 0 ∧ callL p all L = L := by
  have hid : ∀ {f : Lk → Option Lk}, (∀ k, k.pg = p → k ∈ L → f k = some k) → updL p f L = L := fun {f} hf => by
    unfold updL
    have : ∀ k ∈ L, (if k.pg = p then f k else some k) = some k := fun k hk => by
      by_cases e : k.pg = p
      · rw [if_pos e]; exact hf k e hk
      · rw [if_neg e]
    clear hf hl h
    induction L with
    | nil => rfl
    | cons a L ih =>
      rw [List.filterMap_cons, this a List.mem_cons_self]
      simp only []
      rw [ih fun k hk => this k (List.mem_cons_of_mem _ hk)]
  unfold lvl at hl
  unfold callE callL
  cases hk : atL p L with
  | none =>
    refine ⟨rfl, hid fun k e hm => ?_⟩
    have := at_of_mem h.1 hm
    rw [e, hk] at this
    cases this
  | some k =>
    rw [hk] at hl
    dsimp only at hl ⊢
    have h2 : lvlK k = if k.x = true then 2 else 1 := rfl
    cases all with
    | true =>
      simp only [if_true] at hl
      rw [h2] at hl
      split at hl <;> omega
    | false =>
      simp only [Bool.false_eq_true, if_false] at hl
      have hx : k.x = false := by
        cases hx : k.x with
        | false => rfl
        | true => rw [h2, hx] at hl; simp at hl
      refine ⟨by unfold callK; rw [hx]; rfl, hid fun j e hm => ?_⟩
      have := at_of_mem h.1 hm
      rw [e, hk] at this
      injection this with this
      subst this
      unfold callF
      rw [hx]
      rfl
/-- .. where its transaction needs it -/
theorem call_later {p : Int} {all : Bool} (h : Ok L) (hl : ¬ lvl p L ≤ (if all = true then 0 else 1)) (hu : (if all = true then 0 else 1) < (usedL p L : Int)) :
    callE p all L = 3 ∧ (∀ q, hasF (callL p all L) q = hasF L q) ∧ ∀ q, useF (callL p all L) q = if q = p then some (.agg #[.int .i64 (usedL p L), .int .i64 (min (staysI p L) (if all = true then 0 else 1))]) else useF L q := by
  unfold usedL staysI at *
  unfold callE
  unfold lvl at hl
  cases hk : atL p L with
  | none => rw [hk] at hu; dsimp only at hu; split at hu <;> omega
  | some k =>
    rw [hk] at hu hl
    dsimp only at hu hl ⊢
    obtain ⟨o1, o2, o3, o4⟩ := h.2 k (at_mem hk)
    have hc : ∀ q, atL q (callL p all L) = if q = p then callF all k else atL q L := fun q => by
      rw [at_call h.1, hk]; rfl
    have hx : all = false → k.x = true := fun e => by
      subst e
      cases hx : k.x with
      | true => rfl
      | false => unfold lvlK at hl; rw [hx] at hl; simp at hl
    have hf : callF all k = some { k with wt := if all = true then 2 else if k.wt = 0 then 1 else k.wt } ∧ callK all k = 3 := by
      unfold callF callK
      cases all with
      | true =>
        simp only [if_true] at hu ⊢
        rw [if_pos (by omega), if_pos (by omega)]
        exact ⟨rfl, rfl⟩
      | false =>
        simp only [Bool.false_eq_true, if_false] at hu ⊢
        have h2 : k.us = 2 := by omega
        rw [hx rfl]
        simp only [if_true]
        rw [if_pos h2, if_pos h2]
        exact ⟨rfl, rfl⟩
    refine ⟨hf.2, fun q => ?_, fun q => ?_⟩
    · by_cases e : q = p
      · unfold hasF; rw [hc, if_pos e, hf.1, e, hk]; rfl
      · refine hasF_of ?_; rw [hc, if_neg e]
    · by_cases e : q = p
      · have hus : ¬ k.us = 0 := by split at hu <;> omega
        rw [if_pos e]
        unfold useF
        rw [hc, if_pos e, hf.1]
        dsimp only [Option.bind_some]
        rw [if_neg hus, if_neg hus]
        unfold useV
        dsimp only
        congr 3
        congr 4
        cases all with
        | true => simp only [if_true]; omega
        | false =>
          simp only [Bool.false_eq_true, if_false]
          by_cases e : k.wt = 0
          · rw [if_pos e, e]; rfl
          · rw [if_neg e]; omega
      · rw [if_neg e]; refine useF_of ?_; rw [hc, if_neg e]
/-- .. where it doesn't -/
theorem call_now {p : Int} {all : Bool} (h : Ok L) (hl : ¬ lvl p L ≤ (if all = true then 0 else 1)) (hu : ¬ (if all = true then 0 else 1) < (usedL p L : Int)) :
    callE p all L = (if all = true then 1 else 2) ∧ (∀ q, hasF (callL p all L) q = if q = p then (if all = true then none else some (.int .i64 1)) else hasF L q) ∧ ∀ q, useF (callL p all L) q = useF L q := by
  unfold usedL at *
  unfold callE
  unfold lvl at hl
  cases hk : atL p L with
  | none => rw [hk] at hl; dsimp only at hl; split at hl <;> omega
  | some k =>
    rw [hk] at hu hl
    dsimp only at hu hl ⊢
    obtain ⟨o1, o2, o3, o4⟩ := h.2 k (at_mem hk)
    have hc : ∀ q, atL q (callL p all L) = if q = p then callF all k else atL q L := fun q => by
      rw [at_call h.1, hk]; rfl
    have hf : callF all k = (if all = true then none else some { k with x := false }) ∧ callK all k = (if all = true then 1 else 2) := by
      unfold callF callK
      cases all with
      | true =>
        simp only [if_true] at hu ⊢
        rw [if_neg (by omega), if_neg (by omega)]
        exact ⟨rfl, rfl⟩
      | false =>
        simp only [Bool.false_eq_true, if_false] at hu ⊢
        have hx : k.x = true := by
          cases hx : k.x with
          | true => rfl
          | false => unfold lvlK at hl; rw [hx] at hl; simp at hl
        have h2 : ¬ k.us = 2 := by omega
        rw [hx]
        simp only [if_true]
        rw [if_neg h2, if_neg h2]
        exact ⟨rfl, rfl⟩
    refine ⟨hf.2, fun q => ?_, fun q => ?_⟩
    · by_cases e : q = p
      · rw [if_pos e]
        unfold hasF
        rw [hc, if_pos e, hf.1]
        cases all <;> rfl
      · rw [if_neg e]; refine hasF_of ?_; rw [hc, if_neg e]
    · by_cases e : q = p
      · unfold useF
        rw [hc, if_pos e, hf.1, e, hk]
        cases all with
        | true =>
          simp only [if_true] at hu ⊢
          have : k.us = 0 := by omega
          simp [this]
        | false => rfl
      · refine useF_of ?_; rw [hc, if_neg e]
end
end Go.Proofs.Ytlalehoncclnaaa.Latch
