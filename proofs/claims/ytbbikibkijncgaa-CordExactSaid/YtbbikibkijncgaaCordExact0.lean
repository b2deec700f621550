/- Both ends side by side in memory: the program's and the document's own. -/
import Derived.Test.YtbbikibkijncgaaCordRef8
import Derived.Test.YtbbikibkijncgaaCordSame
namespace Go.Proofs.Ytbbikibkijncgaa.Cord
set_option maxRecDepth 100000
open Go.RowKit Go.Sort
open Go.Proofs.Ytbbikibkijncgaa.Mem
/-- e: the program's end, e2: the document's; M: blocks of the call's own that neither touches -/
def KX (W0 : World) (p u n m : Nat) (M : Nat → Prop) (e e2 : CE) (w : World) : Prop :=
  ∃ F G, EQ w p n F e ∧ UQ w u m G e2 ∧ (∀ k, F k → ¬ G k) ∧ (∀ k, F k → W0.heap.size ≤ k) ∧ (∀ k, G k → W0.heap.size ≤ k) ∧ (∀ k, M k → k < w.heap.size ∧ ¬ F k ∧ ¬ G k) ∧ Below W0.heap.size W0 w
section
variable {W0 w w' : World} {p u n m : Nat} {M N : Nat → Prop} {e e2 : CE}
theorem KX.bel (h : KX W0 p u n m M e e2 w) : Below W0.heap.size W0 w := by obtain ⟨F, G, _, _, _, _, _, _, h⟩ := h; exact h
theorem KX.wf (h : KX W0 p u n m M e e2 w) : e.wf := by obtain ⟨F, G, h, _⟩ := h; exact h.wf
theorem KX.mono (h : KX W0 p u n m M e e2 w) {n' m' : Nat} (h1 : n ≤ n') (h2 : m ≤ m') : KX W0 p u n' m' M e e2 w := by
  obtain ⟨F, G, k1, k2, k3⟩ := h; exact ⟨F, G, k1.mono h1, k2.mono h2, k3⟩
theorem KX.less (h : KX W0 p u n m M e e2 w) (hn : ∀ k, N k → M k) : KX W0 p u n m N e e2 w := by
  obtain ⟨F, G, k1, k2, k3, k4, k5, k6, k7⟩ := h; exact ⟨F, G, k1, k2, k3, k4, k5, fun k hk => k6 k (hn k hk), k7⟩
/-- new memory is guarded, too -/
theorem KX.below (h : KX W0 p u n m M e e2 w) (hb : Below w.heap.size w w') : KX W0 p u n m (fun k => M k ∨ (w.heap.size ≤ k ∧ k < w'.heap.size)) e e2 w' := by
  obtain ⟨F, G, k1, k2, k3, k4, k5, k6, k7⟩ := h
  have hs := hb.size
  refine ⟨F, G, k1.below hb, k2.below hb, k3, k4, k5, fun k hk => ?_, k7.trans (hb.mono k7.size)⟩
  rcases hk with hk | ⟨h1, h2⟩
  · obtain ⟨a, b, c⟩ := k6 k hk; exact ⟨by omega, b, c⟩
  · exact ⟨h2, fun x => by have := k1.lt k x; omega, fun x => by have := k2.lt k x; omega⟩
theorem KX.one {F : Nat → Prop} (_h1 : EQ w p n F e) {G : Nat → Prop} (h2 : UQ w u m G e2) (h3 : ∀ k, F k → ¬ G k) (h4 : ∀ k, F k → W0.heap.size ≤ k) (h5 : ∀ k, G k → W0.heap.size ≤ k) (h6 : ∀ k, M k → k < w.heap.size ∧ ¬ F k ∧ ¬ G k) (h7 : Below W0.heap.size W0 w) {n' : Nat} {e' : CE} {F' : Nat → Prop} (q1 : EQ w' p n' F' e') (q2 : ∀ k, F' k → F k ∨ w.heap.size ≤ k) (ht : Touch F w w') :
    KX W0 p u n' m M e' e2 w' ∧ Keep M w w' :=
  ⟨⟨F', G, q1, h2.touch ht (fun k hk hf => h3 k hf hk), fun k hk hg => (q2 k hk).elim (fun x => h3 k x hg) (fun x => by have := h2.lt k hg; omega), fun k hk => (q2 k hk).elim (h4 k) (fun x => Nat.le_trans h7.size x), h5,
    fun k hk => ⟨Nat.lt_of_lt_of_le (h6 k hk).1 ht.size, fun x => (q2 k x).elim (h6 k hk).2.1 (fun y => by have := (h6 k hk).1; omega), (h6 k hk).2.2⟩, h7.trans (ht.below h7.size h4)⟩, Keep.mono ht fun k hk => ⟨(h6 k hk).1, (h6 k hk).2.1⟩⟩
theorem KX.two {F : Nat → Prop} (h1 : EQ w p n F e) {G : Nat → Prop} (_h2 : UQ w u m G e2) (h3 : ∀ k, F k → ¬ G k) (h4 : ∀ k, F k → W0.heap.size ≤ k) (h5 : ∀ k, G k → W0.heap.size ≤ k) (h6 : ∀ k, M k → k < w.heap.size ∧ ¬ F k ∧ ¬ G k) (h7 : Below W0.heap.size W0 w) {m' : Nat} {e' : CE} {G' : Nat → Prop} (q1 : UQ w' u m' G' e') (q2 : ∀ k, G' k → G k ∨ w.heap.size ≤ k) (ht : Touch G w w') :
    KX W0 p u n m' M e e' w' ∧ Keep M w w' :=
  ⟨⟨F, G', h1.touch ht h3, q1, fun k hk hg => (q2 k hg).elim (h3 k hk) (fun x => by have := h1.lt k hk; omega), h4, fun k hk => (q2 k hk).elim (h5 k) (fun x => Nat.le_trans h7.size x),
    fun k hk => ⟨Nat.lt_of_lt_of_le (h6 k hk).1 ht.size, (h6 k hk).2.1, fun x => (q2 k x).elim (h6 k hk).2.2 (fun y => by have := (h6 k hk).1; omega)⟩, h7.trans (ht.below h7.size h5)⟩, Keep.mono ht fun k hk => ⟨(h6 k hk).1, (h6 k hk).2.2⟩⟩
theorem KX.send1 (h : KX W0 p u n m M e e2 w) (s : ByteArray) : Calls Try.prog 11 #[.pointer (some ⟨p, 0, none⟩), .string s] w fun r w' => r = .returned (.int .i64 (sendX e s)) ∧ KX W0 p u (n + 1) m M (sendE e s) e2 w' ∧ Keep M w w' := by
  obtain ⟨F, G, k1, k2, k3, k4, k5, k6, k7⟩ := h
  refine (send_any p n F e s w k1).mono ?_
  rintro r w' ⟨rfl, ⟨F', q1, q2⟩, ht⟩
  exact ⟨rfl, KX.one k1 k2 k3 k4 k5 k6 k7 q1 q2 ht⟩
theorem KX.send2 (h : KX W0 p u n m M e e2 w) (hm : m ≤ 900) (s : ByteArray) : Calls Try.prog 12 #[.pointer (some ⟨u, 0, none⟩), .string s] w fun r w' => r = .returned (.int .i64 (sendX e2 s)) ∧ KX W0 p u n (m + 1) M e (sendE e2 s) w' ∧ Keep M w w' := by
  obtain ⟨F, G, k1, k2, k3, k4, k5, k6, k7⟩ := h
  refine (usend_any u m G e2 s w k2 (by omega)).mono ?_
  rintro r w' ⟨rfl, ⟨F', q1, q2⟩, ht⟩
  exact ⟨rfl, KX.two k1 k2 k3 k4 k5 k6 k7 q1 q2 ht⟩
theorem KX.take1 (h : KX W0 p u n m M e e2 w) (hn : n ≤ 900) (g : Gm) : Calls Try.prog 17 #[.pointer (some ⟨p, 0, none⟩), .agg (gmV g)] w fun r w' => ∃ v q, r = .returned (.tuple #[.slice v (takeL e g).length q, .int .i64 (takeX e g)]) ∧ w'.ownsRow w.heap.size 9 1 (.slice v (takeL e g).length q) (takeL e g).length (strsV (takeL e g)) ∧
    KX W0 p u (n + 2) m (fun k => M k ∨ (Value.slice v (takeL e g).length q).ownBlock = some k) (takeE e g) e2 w' ∧ Keep M w w' := by
  obtain ⟨F, G, k1, k2, k3, k4, k5, k6, k7⟩ := h
  refine (take_is k1 (by omega) rfl rfl rfl).mono ?_
  rintro r w' ⟨v, q, rfl, ho, q1, ht⟩
  obtain ⟨⟨F2, G2, _, _, _, _, _, _, j7⟩, jk⟩ := KX.one k1 k2 k3 k4 k5 k6 k7 q1 (fun k hk => .inl hk) ht
  refine ⟨v, q, rfl, ho, ⟨F, G, q1, k2.touch ht (fun k hk hf => k3 k hf hk), k3, k4, k5, fun k hk => ?_, j7⟩, jk⟩
  rcases hk with hk | hk
  · obtain ⟨a, b, c⟩ := k6 k hk; exact ⟨Nat.lt_of_lt_of_le a ht.size, b, c⟩
  · have := own_ge ho k hk
    exact ⟨own_lt ho hk, fun x => by have := k1.lt k x; omega, fun x => by have := k2.lt k x; omega⟩
theorem KX.take2 (h : KX W0 p u n m M e e2 w) (hm : m ≤ 900) (g : Gm) : Calls Try.prog 18 #[.pointer (some ⟨u, 0, none⟩), .agg (gmV g)] w fun r w' => ∃ v q, r = .returned (.tuple #[.slice v (takeL e2 g).length q, .int .i64 (takeX e2 g)]) ∧ w'.ownsRow w.heap.size 9 1 (.slice v (takeL e2 g).length q) (takeL e2 g).length (strsV (takeL e2 g)) ∧
    KX W0 p u n (m + 1) M e (takeE e2 g) w' ∧ Keep M w w' := by
  obtain ⟨F, G, k1, k2, k3, k4, k5, k6, k7⟩ := h
  refine (utake_any u m G e2 g w k2 hm).mono ?_
  rintro r w' ⟨v, rfl, ho, ⟨G', q1, q2⟩, ht⟩
  obtain ⟨a, q, rfl⟩ := own_shape ho
  exact ⟨a, q, rfl, ho, KX.two k1 k2 k3 k4 k5 k6 k7 q1 q2 ht⟩
/-- rows of datagrams that an end answered: guarded -/
def GR (W0 w : World) (v : Option Addr) (q : Nat) (L : List Gm) : Prop := w.ownsRow W0.heap.size 29 6 (.slice v L.length q) L.length (gramsV L)
theorem KX.out1 (h : KX W0 p u n m M e e2 w) (hn : n ≤ 900) : Calls Try.prog 15 #[.pointer (some ⟨p, 0, none⟩)] w fun r w' => ∃ v q, r = .returned (.slice v (outL e).length q) ∧ GR W0 w' v q (outL e) ∧ KX W0 p u n m (fun k => M k ∨ (Value.slice v (outL e).length q).ownBlock = some k) (outE e) e2 w' ∧ Keep M w w' := by
  obtain ⟨F, G, k1, k2, k3, k4, k5, k6, k7⟩ := h
  refine (out_is k1 (by omega) rfl rfl).mono ?_
  rintro r w' ⟨v, q, rfl, ho, q1, ht⟩
  obtain ⟨⟨F2, G2, _, _, _, _, _, _, j7⟩, jk⟩ := KX.one k1 k2 k3 k4 k5 k6 k7 q1 (fun k hk => .inl hk) ht
  refine ⟨v, q, rfl, own_low ho k7.size, ⟨F, G, q1, k2.touch ht (fun k hk hf => k3 k hf hk), k3, k4, k5, fun k hk => ?_, j7⟩, jk⟩
  rcases hk with hk | hk
  · obtain ⟨a, b, c⟩ := k6 k hk; exact ⟨Nat.lt_of_lt_of_le a ht.size, b, c⟩
  · have := own_ge ho k hk
    exact ⟨own_lt ho hk, fun x => by have := k1.lt k x; omega, fun x => by have := k2.lt k x; omega⟩
theorem KX.out2 (h : KX W0 p u n m M e e2 w) : Calls Try.prog 16 #[.pointer (some ⟨u, 0, none⟩)] w fun r w' => ∃ v q, r = .returned (.slice v (outL e2).length q) ∧ GR W0 w' v q (outL e2) ∧ KX W0 p u n m (fun k => M k ∨ (Value.slice v (outL e2).length q).ownBlock = some k) e (outE e2) w' ∧ Keep M w w' := by
  obtain ⟨F, G, k1, k2, k3, k4, k5, k6, k7⟩ := h
  refine (uout_any u m G e2 w k2).mono ?_
  rintro r w' ⟨v, rfl, ho, q1, ht⟩
  obtain ⟨a, q, rfl⟩ := own_shape ho
  obtain ⟨⟨F2, G2, _, _, _, _, _, _, j7⟩, jk⟩ := KX.two k1 k2 k3 k4 k5 k6 k7 q1 (fun k hk => .inl hk) ht
  refine ⟨a, q, rfl, own_low ho k7.size, ⟨F, G, k1.touch ht k3, q1, k3, k4, k5, fun k hk => ?_, j7⟩, jk⟩
  rcases hk with hk | hk
  · obtain ⟨a, b, c⟩ := k6 k hk; exact ⟨Nat.lt_of_lt_of_le a ht.size, b, c⟩
  · have := own_ge ho k hk
    exact ⟨own_lt ho hk, fun x => by have := k1.lt k x; omega, fun x => by have := k2.lt k x; omega⟩
theorem KX.open_ (h : KX W0 p u n m M e e2 w) : Calls Try.prog 20 #[.pointer (some ⟨p, 0, none⟩)] w fun r w' => r = .returned (.int .i64 e.op.length) ∧ w = w' := by obtain ⟨F, G, h1, _⟩ := h; exact open_any p n F e w h1
theorem KX.got (h : KX W0 p u n m M e e2 w) : Calls Try.prog 21 #[.pointer (some ⟨p, 0, none⟩)] w fun r w' => r = .returned (.int .i64 e.got) ∧ w = w' := by obtain ⟨F, G, h1, _⟩ := h; exact got_any p n F e w h1
theorem KX.epoch (h : KX W0 p u n m M e e2 w) : Calls Try.prog 22 #[.pointer (some ⟨p, 0, none⟩)] w fun r w' => r = .returned (.int .i64 e.ep) ∧ w = w' := by obtain ⟨F, G, h1, _⟩ := h; exact epoch_any p n F e w h1
theorem KX.owes (h : KX W0 p u n m M e e2 w) : Calls Try.prog 13 #[.pointer (some ⟨p, 0, none⟩)] w fun r w' => r = .returned (.bool (owesB e)) ∧ w = w' := by obtain ⟨F, G, h1, _⟩ := h; exact owes_any p n F e w h1
theorem KX.at_ (h : KX W0 p u n m M e e2 w) : ∃ a1 c1, w.cell? ⟨u, 1, none⟩ = some (.slice a1 e2.op.length c1) ∧ w.cell? ⟨u, 3, none⟩ = some (.int .i64 e2.got) ∧ w.cell? ⟨u, 5, none⟩ = some (.bool e2.due) := by
  obtain ⟨F, G, _, ⟨v1, v4, E, h, _⟩, _⟩ := h
  obtain ⟨a, c, rfl⟩ := own_shape h.r1
  exact ⟨a, c, h.at_.2.1, h.at_.2.2.2.1, h.at_.2.2.2.2.2⟩
end
theorem KX.lt {W0 w : World} {p u n m : Nat} {M : Nat → Prop} {e e2 : CE} (h : KX W0 p u n m M e e2 w) : ∀ k, M k → k < w.heap.size := by obtain ⟨F, G, _, _, _, _, _, h6, _⟩ := h; exact fun k hk => (h6 k hk).1
theorem kx_new {W0 w1 w2 : World} {p u : Nat} {ep : Int} (h1 : EQ w1 p 0 (fun k => W0.heap.size ≤ k ∧ k < w1.heap.size) (newE ep)) (b1 : Below W0.heap.size W0 w1) (h2 : UQ w2 u 0 (fun k => w1.heap.size ≤ k ∧ k < w2.heap.size) (newE ep)) (b2 : Below w1.heap.size w1 w2) : KX W0 p u 0 0 (fun _ => False) (newE ep) (newE ep) w2 :=
  ⟨_, _, h1.below b2, h2, fun k hk hg => by have := hk.2; have := hg.1; omega, fun k hk => hk.1, fun k hk => Nat.le_trans b1.size hk.1, fun k hk => hk.elim, b1.trans (b2.mono b1.size)⟩
theorem send_ep (e : CE) (s : ByteArray) : (sendE e s).ep = e.ep := by unfold sendE; split <;> rfl
theorem take_ep (e : CE) (g : Gm) : (takeE e g).ep = e.ep := by
  have h : ∀ k, (settleE e k).ep = e.ep := fun k => by unfold settleE; split <;> rfl
  unfold takeE
  split
  · rfl
  · split
    · exact h _
    · exact h _
theorem owes_is (e : CE) : owesB e = (decide ((0 : Int) < (e.op.length : Int)) || e.due) := by
  unfold owesB
  rw [Bool.or_comm]
  congr 1
  by_cases h : 0 < e.op.length
  · rw [decide_eq_true h, decide_eq_true (by omega)]
  · rw [decide_eq_false h, decide_eq_false (by omega)]
end Go.Proofs.Ytbbikibkijncgaa.Cord
