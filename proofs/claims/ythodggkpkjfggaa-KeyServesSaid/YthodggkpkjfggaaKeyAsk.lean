/- New, Take, Busy, Free, Ask. -/
import Derived.Test.YthodggkpkjfggaaKeySettle
namespace Go.Proofs.Ythodggkpkjfggaa.Key
set_option maxRecDepth 100000
open Go.RowKit
open Go.Proofs.Ythodggkpkjfggaa.Mem
open Go.Maps
/-- a new table is in memory of its own -/
def NewRes (w : World) (e : Ending) (w' : World) : Prop := ∃ p, e = .returned (.pointer (some ⟨p, 0, none⟩)) ∧ w.heap.size ≤ p ∧ TQ w' p (fun k => k < w.heap.size) newK ∧ Below w.heap.size w w'
theorem new_tv (w : World) : TM (((w.alloc (.map #[] 0)).alloc (.map #[] 0)).alloc (.cells #[.map (some w.heap.size), .map (some (w.heap.size + 1)), .slice none 0 0] 61)) (w.heap.size + 1 + 1) (fun k => k < w.heap.size)
    ⟨w.heap.size, w.heap.size + 1, .slice none 0 0, fun _ => false, fun _ => 0, fun _ _ => 0, fun _ => false, fun _ => .slice none 0 0, fun k => if k = w.heap.size then some .locks else if k = w.heap.size + 1 then some .queues else if k = w.heap.size + 1 + 1 then some .top else none⟩ newK := by
  have m1 := map_made w 0 1024
  have m2 := map_made (w.alloc (.map #[] 0)) 0 1024
  have hs1 : (w.alloc (.map #[] 0)).heap.size = w.heap.size + 1 := by simp
  have hs2 : ((w.alloc (.map #[] 0)).alloc (.map #[] 0)).heap.size = w.heap.size + 1 + 1 := by simp
  have b3 := Blk.new ((w.alloc (.map #[] 0)).alloc (.map #[] 0)) 61 #[.map (some w.heap.size), .map (some (w.heap.size + 1)), .slice none 0 0]
  rw [hs1] at m2
  rw [hs2] at b3
  have hlm : lmF ⟨w.heap.size, w.heap.size + 1, .slice none 0 0, fun _ => false, fun _ => 0, fun _ _ => 0, fun _ => false, fun _ => .slice none 0 0, fun k => if k = w.heap.size then some .locks else if k = w.heap.size + 1 then some .queues else if k = w.heap.size + 1 + 1 then some .top else none⟩ = fun _ => none := by funext x; simp [lmF]
  have hqm : qmF ⟨w.heap.size, w.heap.size + 1, .slice none 0 0, fun _ => false, fun _ => 0, fun _ _ => 0, fun _ => false, fun _ => .slice none 0 0, fun k => if k = w.heap.size then some .locks else if k = w.heap.size + 1 then some .queues else if k = w.heap.size + 1 + 1 then some .top else none⟩ = fun _ => none := by funext x; simp [qmF]
  refine ⟨?_, fun k hk => ?_, fun k hk => by simp; omega⟩
  · exact {
      wf := new_wf
      top := b3
      lm := by
        rw [hlm]
        refine (m1.same ?_).same (Below.heap_alloc _ _ _ (by rw [hs2]; show w.heap.size < _; omega))
        exact Below.heap_alloc _ _ _ (by rw [hs1]; show w.heap.size < _; omega)
      im := fun x hx => by cases hx
      io := fun x c hc => absurd rfl hc
      lk := fun x c l hl => by cases hl
      qm := by
        rw [hqm]
        exact m2.same (Below.heap_alloc _ _ _ (by rw [hs2]; show w.heap.size + 1 < _; omega))
      qo := fun x hx => absurd rfl hx
      qr := fun x hx => by cases hx
      sd := own_nil _ _ _ _
      l0 := by simp; omega
      l1 := by simp
      l2 := by simp
      l3 := fun g hg => by simp [Value.ownBlock] at hg
      l4 := fun x hx => by cases hx
      l5 := fun x c hc => absurd rfl hc
      l6 := fun x hx => by cases hx
      lt := fun k hk => by
        dsimp only at hk
        simp
        split at hk
        · omega
        · split at hk
          · omega
          · split at hk
            · omega
            · exact absurd rfl hk }
  · dsimp only at hk
    intro hm
    split at hk
    · omega
    · split at hk
      · omega
      · split at hk
        · omega
        · exact absurd rfl hk
set_option maxRecDepth 100000 in
theorem new_any (w : World) : Calls Try.prog 10 #[] w (NewRes w) := by
  have HT := Lib.hid (new_tv w)
  have HB := Lib.hid ((((Below.refl w.heap.size w).alloc (Nat.le_refl _) (.map #[] 0)).alloc (by simp) (.map #[] 0)).alloc (by simp; omega) (.cells #[.map (some w.heap.size), .map (some (w.heap.size + 1)), .slice none 0 0] 61))
  have hmm := @run_makeMap Try.prog
  go_enter Try.func10, Try.ntmps10
  go_wp2
  go_ret
  exact ⟨_, rfl, by omega, ⟨_, HT.out⟩, HB.out⟩
/-- what was said since, in a row of its own -/
def TakeRes (p : Nat) (M : Nat → Prop) (S : KS) (w : World) (e : Ending) (w' : World) : Prop :=
  ∃ v, e = .returned v ∧ w'.ownsRow 0 36 4 v S.said.length (wordsV S.said) ∧ (∀ g, v.ownBlock = some g → ¬ M g) ∧ TQ w' p (fun k => M k ∨ v.ownBlock = some k) { S with said := [] } ∧ Keep M w w'
theorem TM.taken {w : World} {p : Nat} {M : Nat → Prop} {G : Gh} {S : KS} (h : TM w p M G S) :
    (w.setCell ⟨p, 2, none⟩ (.slice none 0 0)).ownsRow 0 36 4 G.v S.said.length (wordsV S.said) ∧ (∀ g, G.v.ownBlock = some g → ¬ M g) ∧ TQ (w.setCell ⟨p, 2, none⟩ (.slice none 0 0)) p (fun k => M k ∨ G.v.ownBlock = some k) { S with said := [] } ∧ Keep M w (w.setCell ⟨p, 2, none⟩ (.slice none 0 0)) := by
  have hpv : G.v.ownBlock ≠ some p := fun e => by have := h.l3 p e; rw [h.l0] at this; cases this
  have hbl : ∀ k t, G.σ k = some t → t ≠ .top → (w.setCell ⟨p, 2, none⟩ (.slice none 0 0)).heap[k]? = w.heap[k]? := fun k t hk h2 =>
    Below.heap_setCell w ⟨p, 2, none⟩ (.slice none 0 0) k (fun e => by rw [show k = p from e, h.l0] at hk; injection hk with hk; exact h2 hk.symm)
  refine ⟨own_set h.sd hpv 2 _, fun g hg => h.off g (by rw [h.l3 g hg]; simp), ⟨{ G with v := .slice none 0 0, σ := fun k => if G.v.ownBlock = some k then none else G.σ k }, ?_, fun k hk hm => ?_, fun k hk => ?_⟩, (Keep.refl M w).set_ (h.off p (by rw [h.l0]; simp)) 2 _⟩
  · have hσ : ∀ k t, G.σ k = some t → t ≠ .said → (if G.v.ownBlock = some k then none else G.σ k) = some t := fun k t hk ht => by
      rw [if_neg (fun e => by have := h.l3 k e; rw [hk] at this; injection this with this; exact ht this)]; exact hk
    exact {
      wf := ⟨h.wf.lk, h.wf.rq, h.wf.nd⟩
      top := by simpa using h.top.set_ 2 (.slice none 0 0)
      lm := h.lm.same (hbl _ _ h.l1 (by simp))
      im := fun x hx => (h.im x hx).same (hbl _ _ (h.l4 x hx) (by simp))
      io := h.io
      lk := fun x c l hl => (hbl _ _ (h.l5 x c (by rw [show S.L x c = some l from hl]; simp)) (by simp)).trans (h.lk x c l hl)
      qm := h.qm.same (hbl _ _ h.l2 (by simp))
      qo := h.qo
      qr := fun x hx => own_same (h.qr x hx) fun g hg => hbl g _ (h.l6 x hx g hg) (by simp)
      sd := own_nil _ _ _ _
      l0 := hσ _ _ h.l0 (by simp)
      l1 := hσ _ _ h.l1 (by simp)
      l2 := hσ _ _ h.l2 (by simp)
      l3 := fun g hg => by simp [Value.ownBlock] at hg
      l4 := fun x hx => hσ _ _ (h.l4 x hx) (by simp)
      l5 := fun x c hc => hσ _ _ (h.l5 x c hc) (by simp)
      l6 := fun x hx g hg => hσ _ _ (h.l6 x hx g hg) (by simp)
      lt := fun k hk => by
        dsimp only at hk
        split at hk
        · exact absurd rfl hk
        · have := h.lt k hk; simp; exact this }
  · dsimp only at hk
    split at hk
    · exact absurd rfl hk
    · rename_i e
      rcases hm with hm | hm
      · exact h.off k hk hm
      · exact e hm
  · rcases hk with hk | hk
    · have := h.ml k hk; simp; exact this
    · have := own_lt h.sd hk; simp; exact this
set_option maxRecDepth 100000 in
set_option maxHeartbeats 1000000 in
theorem take_any (p : Nat) (M : Nat → Prop) (S : KS) (w : World) (h : TQ w p M S) :
    Calls Try.prog 12 #[.pointer (some ⟨p, 0, none⟩)] w (TakeRes p M S w) := by
  obtain ⟨G, h⟩ := h
  obtain ⟨-, -, c2, f2⟩ := h.topc
  have FIN := Lib.hid (show TakeRes p M S w (.returned G.v) (w.setCell ⟨p, 2, none⟩ (.slice none 0 0)) from ⟨G.v, rfl, h.taken⟩)
  have q1 := run_eqt w p
  obtain ⟨a, c, e⟩ := own_shape h.sd
  rw [e] at c2 FIN
  clear h e
  go_enter Try.func12, Try.ntmps12
  go_wp2
  go_ret
  exact FIN.out
theorem take_nil (w : World) : Calls Try.prog 12 #[.pointer none] w fun e w' => e = .returned (.slice none 0 0) ∧ w = w' := by
  have hn := run_nilt
  go_enter Try.func12, Try.ntmps12
  go_wp2
  go_ret
  exact ⟨rfl, rfl⟩
theorem holds_nil (c x : Int) (w : World) : Calls Try.prog 24 #[.pointer none, .int .i64 c, .int .i64 x] w fun e w' => e = .returned (.int .i64 0) ∧ w = w' := by
  have hn := run_nilt
  go_enter Try.func24, Try.ntmps24
  go_wp2
  go_ret
  exact ⟨rfl, rfl⟩
end Go.Proofs.Ythodggkpkjfggaa.Key
