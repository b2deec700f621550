/- What RingKeeps knows of a ring, as plain data; rows of 64 in memory. -/
import Derived.Test.YtdpaeffhddehaaaRingKin
namespace Go.Proofs.Ytdpaeffhddehaaa.Ring
set_option maxRecDepth 100000
open Go.RowKit
open Go.Proofs.Ytdpaeffhddehaaa.Mem
structure Tr where
  v : Nat → ByteArray
  h : Nat → Bool
  q : Nat → Nat
def up {β : Type} (f : Nat → β) (k : Nat) (x : β) : Nat → β := fun j => if j = k then x else f j
theorem up_self {β : Type} (f : Nat → β) (k : Nat) (x : β) : up f k x k = x := by simp [up]
theorem up_other {β : Type} (f : Nat → β) {k j : Nat} (x : β) (h : j ≠ k) : up f k x j = f j := by simp [up, h]
structure Mt (S : RS ByteArray) (T : Tr) : Prop where
  wf : S.wf
  uniq : Uniq S
  key : ∀ i t, i < S.N → S.f i = some t → ∃ k : Nat, k < 64 ∧ t.key = (k : Int) ∧ T.h k = true ∧ T.v k = t.val ∧ T.q k = t.pins
  conv : ∀ k : Nat, k < 64 → T.h k = true → ∃ i t, i < S.N ∧ S.f i = some t ∧ t.key = (k : Int)
section
variable {S : RS ByteArray} {T : Tr}
theorem Mt.new {N : Nat} (h1 : 1 ≤ N) (h2 : N ≤ 64) : Mt (newR N) ⟨fun _ => ⟨#[]⟩, fun _ => false, fun _ => 0⟩ :=
  ⟨⟨h1, h2, h1⟩, fun i j t u _ _ h => (by cases h), fun i t _ h => (by cases h), fun k _ h => (by cases h)⟩
theorem Mt.hit (h : Mt S T) {k : Nat} (hk : k < 64) (hh : T.h k = true) : ∃ i t, atS S (k : Int) = some (i, t) ∧ i < S.N ∧ S.f i = some t ∧ t.key = (k : Int) ∧ t.val = T.v k ∧ t.pins = T.q k := by
  obtain ⟨i, t, hi, hf, ht⟩ := h.conv k hk hh
  obtain ⟨k', _, e1, _, e3, e4⟩ := h.key i t hi hf
  obtain rfl : k' = k := by omega
  exact ⟨i, t, by rw [← ht]; exact atS_uniq h.uniq hi hf, hi, hf, ht, e3.symm, e4.symm⟩
theorem Mt.miss (h : Mt S T) {k : Nat} (hh : T.h k = false) : ∀ j t, j < S.N → S.f j = some t → t.key ≠ (k : Int) := fun j t hj hf e => by
  obtain ⟨k', _, e1, e2, _, _⟩ := h.key j t hj hf
  obtain rfl : k' = k := by omega
  rw [hh] at e2; cases e2
theorem Mt.at_miss (h : Mt S T) {k : Nat} (hh : T.h k = false) : atS S (k : Int) = none := atS_none (fun i t hi hf => h.miss hh i t hi hf)
/-- a thing turned -/
theorem Mt.turned (h : Mt S T) {k i : Nat} {t u : Th ByteArray} (hk : k < 64) (hi : i < S.N) (hf : S.f i = some t) (ht : t.key = (k : Int)) (hu : u.key = (k : Int)) :
    Mt (putAt S i (some u)) ⟨up T.v k u.val, T.h, up T.q k u.pins⟩ := by
  have hh : T.h k = true := by
    obtain ⟨k', _, e1, e2, _, _⟩ := h.key i t hi hf
    obtain rfl : k' = k := by omega
    exact e2
  refine ⟨putAt_wf h.wf _ _, uniq_same h.uniq hi hf (hu.trans ht.symm), fun j x hj hx => ?_, fun k2 hk2 hh2 => ?_⟩
  · rw [putAt_at] at hx
    split at hx
    · cases hx
      exact ⟨k, hk, hu, hh, up_self _ _ _, up_self _ _ _⟩
    · rename_i hji
      obtain ⟨k', e0, e1, e2, e3, e4⟩ := h.key j x hj hx
      have hne : k' ≠ k := fun e => hji (h.uniq j i x t hj hi hx hf (by rw [e1, ht, e]))
      exact ⟨k', e0, e1, e2, by simp only; rw [up_other _ _ hne]; exact e3, by simp only; rw [up_other _ _ hne]; exact e4⟩
  · obtain ⟨j, x, hj, hx, e⟩ := h.conv k2 hk2 hh2
    by_cases hji : j = i
    · subst hji
      rw [hf] at hx; cases hx
      exact ⟨j, u, hj, by rw [putAt_at, if_pos rfl], by rw [hu, ← ht, e]⟩
    · exact ⟨j, x, hj, by rw [putAt_at, if_neg hji]; exact hx, e⟩
theorem up_same {β : Type} (f : Nat → β) (k : Nat) (x : β) (h : x = f k) : up f k x = f := by
  funext j
  unfold up
  split
  · rename_i e; rw [h, e]
  · rfl
/-- a thing that is as fresh as before, or not -/
theorem Mt.same (h : Mt S T) {k i : Nat} {t : Th ByteArray} (b : Bool) (hk : k < 64) (hi : i < S.N) (hf : S.f i = some t) (ht : t.key = (k : Int)) (hv : t.val = T.v k) (hq : t.pins = T.q k) : Mt (putAt S i (some { t with fresh := b })) T := by
  have := h.turned hk hi hf ht (u := { t with fresh := b }) ht
  simp only at this
  rw [up_same T.v k t.val hv, up_same T.q k t.pins hq] at this
  exact this
/-- a thing that isn't there yet, laid in a vacant frame -/
theorem Mt.laid (h : Mt S T) {k i : Nat} {x : ByteArray} (hk : k < 64) (hi : i < S.N) (hf : S.f i = none) (hh : T.h k = false) :
    Mt (putAt S i (some ⟨k, x, 0, true⟩)) ⟨up T.v k x, up T.h k true, up T.q k 0⟩ := by
  refine ⟨putAt_wf h.wf _ _, uniq_new h.uniq (fun j t hj ht => h.miss hh j t hj ht), fun j y hj hy => ?_, fun k2 hk2 hh2 => ?_⟩
  · rw [putAt_at] at hy
    split at hy
    · cases hy
      exact ⟨k, hk, rfl, up_self _ _ _, up_self _ _ _, up_self _ _ _⟩
    · obtain ⟨k', e0, e1, e2, e3, e4⟩ := h.key j y hj hy
      have hne : k' ≠ k := fun e => by rw [e, hh] at e2; cases e2
      exact ⟨k', e0, e1, by simp only; rw [up_other _ _ hne]; exact e2, by simp only; rw [up_other _ _ hne]; exact e3, by simp only; rw [up_other _ _ hne]; exact e4⟩
  · by_cases e : k2 = k
    · subst e
      exact ⟨i, _, hi, by rw [putAt_at, if_pos rfl], rfl⟩
    · simp only at hh2
      rw [up_other _ _ e] at hh2
      obtain ⟨j, y, hj, hy, e2⟩ := h.conv k2 hk2 hh2
      have hji : j ≠ i := fun e3 => by rw [e3, hf] at hy; cases hy
      exact ⟨j, y, hj, by rw [putAt_at, if_neg hji]; exact hy, e2⟩
/-- a thing gone -/
theorem Mt.gone (h : Mt S T) {k i : Nat} {t : Th ByteArray} (hi : i < S.N) (hf : S.f i = some t) (ht : t.key = (k : Int)) : Mt (putAt S i none) ⟨T.v, up T.h k false, T.q⟩ := by
  refine ⟨putAt_wf h.wf _ _, uniq_gone h.uniq, fun j y hj hy => ?_, fun k2 hk2 hh2 => ?_⟩
  · rw [putAt_at] at hy
    split at hy
    · cases hy
    · rename_i hji
      obtain ⟨k', e0, e1, e2, e3, e4⟩ := h.key j y hj hy
      have hne : k' ≠ k := fun e => hji (h.uniq j i y t hj hi hy hf (by rw [e1, ht, e]))
      exact ⟨k', e0, e1, by simp only; rw [up_other _ _ hne]; exact e2, e3, e4⟩
  · simp only at hh2
    have e : k2 ≠ k := fun e => by rw [e, up_self] at hh2; cases hh2
    rw [up_other _ _ e] at hh2
    obtain ⟨j, y, hj, hy, e2⟩ := h.conv k2 hk2 hh2
    have hji : j ≠ i := fun e3 => by rw [e3, hf] at hy; cases hy; omega
    exact ⟨j, y, hj, by rw [putAt_at, if_neg hji]; exact hy, e2⟩
/-- some are fresh no more -/
theorem Mt.tired (h : Mt S T) {S2 : RS ByteArray} (hN : S2.N = S.N) (hw : S2.wf) (hs : ∀ j, S2.f j = S.f j ∨ ∃ t, S.f j = some t ∧ t.pins = 0 ∧ S2.f j = some { t with fresh := false }) : Mt S2 T := by
  have back : ∀ j u, S2.f j = some u → ∃ t, S.f j = some t ∧ t.key = u.key ∧ t.val = u.val ∧ t.pins = u.pins := fun j u hu => by
    rcases hs j with e | ⟨t, e1, _, e3⟩
    · exact ⟨u, by rw [← e]; exact hu, rfl, rfl, rfl⟩
    · rw [e3] at hu; cases hu; exact ⟨t, e1, rfl, rfl, rfl⟩
  refine ⟨hw, fun i j t u hi hj ht hu e => ?_, fun i t hi ht => ?_, fun k hk hh => ?_⟩
  · obtain ⟨t', h1, h2, -, -⟩ := back i t ht
    obtain ⟨u', h3, h4, -, -⟩ := back j u hu
    exact h.uniq i j t' u' (by omega) (by omega) h1 h3 (by rw [h2, h4, e])
  · obtain ⟨t', h1, h2, h3, h4⟩ := back i t ht
    obtain ⟨k, e0, e1, e2, e3, e4⟩ := h.key i t' (by omega) h1
    exact ⟨k, e0, by rw [← h2, e1], e2, by rw [e3, h3], by rw [e4, h4]⟩
  · obtain ⟨i, t, hi, hf, e⟩ := h.conv k hk hh
    rcases hs i with e1 | ⟨t', e1, _, e3⟩
    · exact ⟨i, t, by omega, by rw [e1]; exact hf, e⟩
    · rw [hf] at e1; cases e1
      exact ⟨i, _, by omega, e3, e⟩
theorem low_mono {α : Type} {S : RS α} {a b : Nat} (h : Low S a) (hab : a ≤ b) : Low S b := fun i t ht => Nat.le_trans (h i t ht) hab
theorem low_put {α : Type} {S : RS α} {a i : Nat} {x : Option (Th α)} (h : Low S a) (hx : ∀ t, x = some t → t.pins ≤ a) : Low (putAt S i x) a := fun j t ht => by
  rw [putAt_at] at ht
  split at ht
  · exact hx t ht
  · exact h j t ht
theorem low_tired {α : Type} {S S2 : RS α} {a : Nat} (h : Low S a) (hs : ∀ j, S2.f j = S.f j ∨ ∃ t, S.f j = some t ∧ t.pins = 0 ∧ S2.f j = some { t with fresh := false }) : Low S2 a := fun j t ht => by
  rcases hs j with e | ⟨t', e1, e2, e3⟩
  · rw [e] at ht; exact h j t ht
  · rw [e3] at ht; cases ht; exact h j t' e1
theorem things_le {α : Type} (S : RS α) : (thingsR S).length ≤ S.N := thingsF_len S.f S.N
end
/-- a row of n in a block -/
def Arr (w : World) (g : Nat) (T : TypeId) (n : Nat) (e : Nat → Value) : Prop := ∃ cs, Blk w g T cs ∧ cs.size = n ∧ ∀ k, k < n → cs[k]? = some (e k)
section
variable {w w' : World} {g n : Nat} {T : TypeId} {e : Nat → Value}
theorem Arr.lt (h : Arr w g T n e) : g < w.heap.size := by obtain ⟨cs, h1, -⟩ := h; exact h1.lt
theorem Arr.at_ (h : Arr w g T n e) {k : Nat} (hk : k < n) : w.cell? ⟨g, k, none⟩ = some (e k) ∧ w.frozen? ⟨g, k, none⟩ = false := by
  obtain ⟨cs, h1, -, h3⟩ := h
  exact ⟨(h1.cell k).trans (h3 k hk), h1.frozen k⟩
theorem Arr.of_block (h : Arr w g T n e) (hb : w'.heap[g]? = w.heap[g]?) : Arr w' g T n e := by
  obtain ⟨cs, h1, h2⟩ := h
  exact ⟨cs, hb.trans h1, h2⟩
theorem Arr.keep {M : Nat → Prop} (h : Arr w g T n e) (hk : Keep M w w') (hm : M g) : Arr w' g T n e := h.of_block (hk.block g hm)
theorem Arr.below (h : Arr w g T n e) (hb : Below w.heap.size w w') : Arr w' g T n e := h.of_block (hb.block g h.lt)
theorem Arr.alloc (h : Arr w g T n e) (o : Obj) : Arr (w.alloc o) g T n e := h.of_block (Below.heap_alloc w o g h.lt)
theorem Arr.far (h : Arr w g T n e) {p : Addr} (hp : g ≠ p.block) (u : Value) : Arr (w.setCell p u) g T n e := h.of_block (Below.heap_setCell w p u g hp)
theorem Arr.set_ (h : Arr w g T n e) {k : Nat} (hk : k < n) (e' : Nat → Value) (he : ∀ j, e' j = if j = k then e' k else e j) : Arr (w.setCell ⟨g, k, none⟩ (e' k)) g T n e' := by
  obtain ⟨cs, h1, h2, h3⟩ := h
  refine ⟨_, h1.set_ k (e' k), by simpa using h2, fun j hj => ?_⟩
  by_cases e1 : j = k
  · subst e1
    rw [Array.getElem?_setIfInBounds, if_pos rfl, if_pos (by omega)]
  · rw [Array.getElem?_setIfInBounds, if_neg (fun h => e1 h.symm), he j, if_neg e1]
    exact h3 j hj
theorem Arr.made (w : World) (T : TypeId) (n : Nat) (z : Value) : Arr (w.alloc (.cells (madeCells #[z] n) T)) w.heap.size T n (fun _ => z) := by
  refine ⟨_, Blk.new w _ _, by simp [madeCells], fun k hk => ?_⟩
  simp [madeCells, hk, Nat.mod_one]
end
end Go.Proofs.Ytdpaeffhddehaaa.Ring
