/- Two ends in memory, beside others' blocks. -/
import Derived.Test.YtbbikibkijncgaaCordTakes
import Derived.Test.YtbbikibkijncgaaCordOut
namespace Go.Proofs.Ytbbikibkijncgaa.Cord
set_option maxRecDepth 100000
open Go.RowKit
open Go.Proofs.Ytbbikibkijncgaa.Mem
theorem own_touch {w w' : World} {G : Nat → Prop} {base n size : Nat} {t : TypeId} {v : Value} {xs : List Value} (h : w.ownsRow base t size v n xs) (ht : Touch G w w') (hd : ∀ g, v.ownBlock = some g → ¬ G g) : w'.ownsRow base t size v n xs :=
  own_same h fun g hg => ht.block (own_lt h hg) (hd g hg)
theorem take_is {p n : Nat} {F : Nat → Prop} {e : CE} {g : Gm} {w : World} {l : List ByteArray} {c : Int} {e' : CE} (h : EQ w p n F e) (hn : n ≤ 999000) (hc : takeX e g = c) (hl : takeL e g = l) (he : takeE e g = e') :
    Calls Try.prog 17 #[.pointer (some ⟨p, 0, none⟩), .agg (gmV g)] w fun r w' => ∃ a q, r = .returned (.tuple #[.slice a l.length q, .int .i64 c]) ∧ w'.ownsRow w.heap.size 9 1 (.slice a l.length q) l.length (strsV l) ∧ EQ w' p (n + 2) F e' ∧ Touch F w w' := by
  subst hc; subst hl; subst he
  refine (take_any p n F e g w h hn).mono ?_
  rintro r w' ⟨v, rfl, ho, h2, h3⟩
  obtain ⟨a, q, rfl⟩ := own_shape ho
  exact ⟨a, q, rfl, ho, h2, h3⟩
theorem send_is {p n : Nat} {F : Nat → Prop} {e : CE} {s : ByteArray} {w : World} {c : Int} {e' : CE} (h : EQ w p n F e) (hc : sendX e s = c) (he : sendE e s = e') :
    Calls Try.prog 11 #[.pointer (some ⟨p, 0, none⟩), .string s] w fun r w' => r = .returned (.int .i64 c) ∧ Did F w w' p (n + 1) e' := by
  subst hc; subst he
  exact send_any p n F e s w h
theorem out_is {p n : Nat} {F : Nat → Prop} {e : CE} {w : World} {l : List Gm} {e' : CE} (h : EQ w p n F e) (hn : n ≤ 1000000) (hl : outL e = l) (he : outE e = e') :
    Calls Try.prog 15 #[.pointer (some ⟨p, 0, none⟩)] w fun r w' => ∃ a q, r = .returned (.slice a l.length q) ∧ w'.ownsRow w.heap.size 29 6 (.slice a l.length q) l.length (gramsV l) ∧ EQ w' p n F e' ∧ Touch F w w' := by
  subst hl; subst he
  refine (out_any p n F e w h hn).mono ?_
  rintro r w' ⟨v, rfl, ho, h2, h3⟩
  obtain ⟨a, q, rfl⟩ := own_shape ho
  exact ⟨a, q, rfl, ho, h2, h3⟩
/-- two ends; M: blocks of others -/
def Two (W0 w : World) (a b nA nB : Nat) (eA eB : CE) (M : Nat → Prop) : Prop :=
  ∃ FA FB, EQ w a nA FA eA ∧ EQ w b nB FB eB ∧ (∀ k, FA k → ¬ FB k) ∧ (∀ k, FA k → W0.heap.size ≤ k) ∧ (∀ k, FB k → W0.heap.size ≤ k) ∧ (∀ k, M k → k < w.heap.size ∧ ¬ FA k ∧ ¬ FB k) ∧ Below W0.heap.size W0 w
section
variable {W0 w w' : World} {a b nA nB : Nat} {eA eB : CE} {M : Nat → Prop}
theorem Two.swap (h : Two W0 w a b nA nB eA eB M) : Two W0 w b a nB nA eB eA M := by
  obtain ⟨FA, FB, h1, h2, h3, h4, h5, h6, h7⟩ := h
  exact ⟨FB, FA, h2, h1, fun k x y => h3 k y x, h5, h4, fun k hk => ⟨(h6 k hk).1, (h6 k hk).2.2, (h6 k hk).2.1⟩, h7⟩
theorem Two.bel (h : Two W0 w a b nA nB eA eB M) : Below W0.heap.size W0 w := by obtain ⟨FA, FB, _, _, _, _, _, _, h⟩ := h; exact h
theorem Two.lt (h : Two W0 w a b nA nB eA eB M) : ∀ k, M k → k < w.heap.size := by obtain ⟨FA, FB, _, _, _, _, _, h, _⟩ := h; exact fun k hk => (h k hk).1
theorem Two.less (h : Two W0 w a b nA nB eA eB M) {M' : Nat → Prop} (hm : ∀ k, M' k → M k) : Two W0 w a b nA nB eA eB M' := by
  obtain ⟨FA, FB, h1, h2, h3, h4, h5, h6, h7⟩ := h
  exact ⟨FA, FB, h1, h2, h3, h4, h5, fun k hk => h6 k (hm k hk), h7⟩
theorem Two.mono (h : Two W0 w a b nA nB eA eB M) {n m : Nat} (h1 : nA ≤ n) (h2 : nB ≤ m) : Two W0 w a b n m eA eB M := by
  obtain ⟨FA, FB, i1, i2, h⟩ := h
  exact ⟨FA, FB, i1.mono h1, i2.mono h2, h⟩
/-- others have worked on their own blocks, and made some -/
theorem Two.other (h : Two W0 w a b nA nB eA eB M) (ht : Touch M w w') (hb : ∀ k, M k → W0.heap.size ≤ k) : Two W0 w' a b nA nB eA eB (fun k => M k ∨ (w.heap.size ≤ k ∧ k < w'.heap.size)) := by
  obtain ⟨FA, FB, h1, h2, h3, h4, h5, h6, h7⟩ := h
  refine ⟨FA, FB, h1.touch ht (fun k hk hm => (h6 k hm).2.1 hk), h2.touch ht (fun k hk hm => (h6 k hm).2.2 hk), h3, h4, h5, fun k hk => ?_, h7.trans (ht.below h7.size hb)⟩
  rcases hk with hk | hk
  · exact ⟨Nat.lt_of_lt_of_le (h6 k hk).1 ht.size, (h6 k hk).2⟩
  · exact ⟨hk.2, fun x => by have := h1.lt k x; omega, fun x => by have := h2.lt k x; omega⟩
theorem Two.below (h : Two W0 w a b nA nB eA eB M) (hb : Below w.heap.size w w') : Two W0 w' a b nA nB eA eB (fun k => M k ∨ (w.heap.size ≤ k ∧ k < w'.heap.size)) := by
  obtain ⟨FA, FB, h1, h2, h3, h4, h5, h6, h7⟩ := h
  refine ⟨FA, FB, h1.below hb, h2.below hb, h3, h4, h5, fun k hk => ?_, h7.trans (hb.mono h7.size)⟩
  rcases hk with hk | hk
  · exact ⟨Nat.lt_of_lt_of_le (h6 k hk).1 hb.size, (h6 k hk).2⟩
  · exact ⟨hk.2, fun x => by have := h1.lt k x; omega, fun x => by have := h2.lt k x; omega⟩
theorem Two.send (h : Two W0 w a b nA nB eA eB M) (s : ByteArray) {c : Int} {e' : CE} (hc : sendX eA s = c) (he : sendE eA s = e') :
    Calls Try.prog 11 #[.pointer (some ⟨a, 0, none⟩), .string s] w fun r w' => r = .returned (.int .i64 c) ∧ Two W0 w' a b (nA + 1) nB e' eB M ∧ Keep M w w' := by
  obtain ⟨FA, FB, h1, h2, h3, h4, h5, h6, h7⟩ := h
  refine (send_is h1 hc he).mono ?_
  rintro r w' ⟨rfl, ⟨F', hF, hsub⟩, ht⟩
  refine ⟨rfl, ⟨F', FB, hF, h2.touch ht (fun k hk x => h3 k x hk), fun k hk x => ?_, fun k hk => ?_, h5, fun k hk => ⟨Nat.lt_of_lt_of_le (h6 k hk).1 ht.size, fun x => ?_, (h6 k hk).2.2⟩, h7.trans (ht.below h7.size h4)⟩, Keep.mono ht fun k hk => ⟨(h6 k hk).1, (h6 k hk).2.1⟩⟩
  · rcases hsub k hk with y | y
    · exact h3 k y x
    · have := h2.lt k x; omega
  · rcases hsub k hk with y | y
    · exact h4 k y
    · have := h7.size; omega
  · rcases hsub k x with y | y
    · exact (h6 k hk).2.1 y
    · have := (h6 k hk).1; omega
theorem Two.turn (h : Two W0 w a b nA nB eA eB M) {n' : Nat} {e' : CE} {FA FB : Nat → Prop} (h1 : EQ w a nA FA eA) (h2 : EQ w b nB FB eB) (h3 : ∀ k, FA k → ¬ FB k) (h4 : ∀ k, FA k → W0.heap.size ≤ k) (h5 : ∀ k, FB k → W0.heap.size ≤ k) (h6 : ∀ k, M k → k < w.heap.size ∧ ¬ FA k ∧ ¬ FB k)
    (h8 : EQ w' a n' FA e') (ht : Touch FA w w') : Two W0 w' a b n' nB e' eB (fun k => M k ∨ (w.heap.size ≤ k ∧ k < w'.heap.size)) ∧ Keep M w w' := by
  have h7 := h.bel
  refine ⟨⟨FA, FB, h8, h2.touch ht (fun k hk x => h3 k x hk), h3, h4, h5, fun k hk => ?_, h7.trans (ht.below h7.size h4)⟩, Keep.mono ht fun k hk => ⟨(h6 k hk).1, (h6 k hk).2.1⟩⟩
  rcases hk with hk | hk
  · exact ⟨Nat.lt_of_lt_of_le (h6 k hk).1 ht.size, (h6 k hk).2⟩
  · exact ⟨hk.2, fun x => by have := h1.lt k x; omega, fun x => by have := h2.lt k x; omega⟩
theorem Two.take (h : Two W0 w a b nA nB eA eB M) (hn : nA ≤ 999000) (g : Gm) {l : List ByteArray} {c : Int} {e' : CE} (hc : takeX eA g = c) (hl : takeL eA g = l) (he : takeE eA g = e') :
    Calls Try.prog 17 #[.pointer (some ⟨a, 0, none⟩), .agg (gmV g)] w fun r w' => ∃ v q, r = .returned (.tuple #[.slice v l.length q, .int .i64 c]) ∧ w'.ownsRow w.heap.size 9 1 (.slice v l.length q) l.length (strsV l) ∧ Two W0 w' a b (nA + 2) nB e' eB (fun k => M k ∨ (w.heap.size ≤ k ∧ k < w'.heap.size)) ∧ Keep M w w' := by
  obtain ⟨FA, FB, h1, h2, h3, h4, h5, h6, h7⟩ := id h
  refine (take_is h1 hn hc hl he).mono ?_
  rintro r w' ⟨v, q, rfl, ho, h8, ht⟩
  exact ⟨v, q, rfl, ho, h.turn h1 h2 h3 h4 h5 h6 h8 ht⟩
theorem Two.out (h : Two W0 w a b nA nB eA eB M) (hn : nA ≤ 1000000) {l : List Gm} {e' : CE} (hl : outL eA = l) (he : outE eA = e') :
    Calls Try.prog 15 #[.pointer (some ⟨a, 0, none⟩)] w fun r w' => ∃ v q, r = .returned (.slice v l.length q) ∧ w'.ownsRow w.heap.size 29 6 (.slice v l.length q) l.length (gramsV l) ∧ Two W0 w' a b nA nB e' eB (fun k => M k ∨ (w.heap.size ≤ k ∧ k < w'.heap.size)) ∧ Keep M w w' := by
  obtain ⟨FA, FB, h1, h2, h3, h4, h5, h6, h7⟩ := id h
  refine (out_is h1 hn hl he).mono ?_
  rintro r w' ⟨v, q, rfl, ho, h8, ht⟩
  exact ⟨v, q, rfl, ho, h.turn h1 h2 h3 h4 h5 h6 h8 ht⟩
theorem Two.open_ (h : Two W0 w a b nA nB eA eB M) : Calls Try.prog 20 #[.pointer (some ⟨a, 0, none⟩)] w fun r w' => r = .returned (.int .i64 eA.op.length) ∧ w = w' := by
  obtain ⟨FA, FB, h1, _⟩ := h; exact open_any a nA FA eA w h1
theorem Two.got (h : Two W0 w a b nA nB eA eB M) : Calls Try.prog 21 #[.pointer (some ⟨a, 0, none⟩)] w fun r w' => r = .returned (.int .i64 eA.got) ∧ w = w' := by
  obtain ⟨FA, FB, h1, _⟩ := h; exact got_any a nA FA eA w h1
theorem Two.epoch (h : Two W0 w a b nA nB eA eB M) : Calls Try.prog 22 #[.pointer (some ⟨a, 0, none⟩)] w fun r w' => r = .returned (.int .i64 eA.ep) ∧ w = w' := by
  obtain ⟨FA, FB, h1, _⟩ := h; exact epoch_any a nA FA eA w h1
theorem Two.owes (h : Two W0 w a b nA nB eA eB M) : Calls Try.prog 13 #[.pointer (some ⟨a, 0, none⟩)] w fun r w' => r = .returned (.bool (owesB eA)) ∧ w = w' := by
  obtain ⟨FA, FB, h1, _⟩ := h; exact owes_any a nA FA eA w h1
end
/-- two new ends -/
theorem two_new {W0 w1 w2 : World} {a b : Nat} {ep eq : Int} (h1 : EQ w1 a 0 (fun k => W0.heap.size ≤ k ∧ k < w1.heap.size) (newE ep)) (b1 : Below W0.heap.size W0 w1) (h2 : EQ w2 b 0 (fun k => w1.heap.size ≤ k ∧ k < w2.heap.size) (newE eq)) (b2 : Below w1.heap.size w1 w2) : Two W0 w2 a b 0 0 (newE ep) (newE eq) (fun _ => False) :=
  ⟨_, _, h1.below b2, h2, fun k x y => by omega, fun k x => x.1, fun k x => Nat.le_trans b1.size x.1, fun k x => x.elim, b1.trans (b2.mono b1.size)⟩
end Go.Proofs.Ytbbikibkijncgaa.Cord
