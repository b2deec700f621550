/- An end of another epoch beside the talk's pool. -/
import Derived.Test.YtbbikibkijncgaaCordTalked
import Derived.Test.YtbbikibkijncgaaCordNil
namespace Go.Proofs.Ytbbikibkijncgaa.Cord
set_option maxRecDepth 100000
open Go.RowKit
open Go.Proofs.Ytbbikibkijncgaa.Mem
def sMine : ByteArray := ⟨#[109, 105, 110, 101]⟩
def eMine (ep : Int) : CE := ⟨ep, 0, [sMine], 0, fun _ => none, false⟩
def Old (W0 : World) (tp p n : Nat) (v4 : Value) (L : List (Gm × Bool)) (e : CE) (w : World) : Prop := ∃ F cs, EQ w p n F e ∧ Blk w tp 60 cs ∧ cs[6]? = some v4 ∧ w.ownsRow W0.heap.size 58 7 v4 L.length (sentV L) ∧ (∀ k, F k → W0.heap.size ≤ k ∧ k ≠ tp ∧ v4.ownBlock ≠ some k) ∧ Below W0.heap.size W0 w
section
variable {W0 w w' : World} {tp p n : Nat} {v4 : Value} {L : List (Gm × Bool)} {e : CE}
theorem Old.bel (h : Old W0 tp p n v4 L e w) : Below W0.heap.size W0 w := by obtain ⟨F, cs, _, _, _, _, _, h⟩ := h; exact h
theorem old_start {a b m : Nat} {V : Nat → Value} {X : Nat → Prop} {t : TS} {ep : Int} (h : TQ W0 w tp a b m V X t) (h1 : EQ w' p 0 (fun k => w.heap.size ≤ k ∧ k < w'.heap.size) (newE ep)) (b1 : Below w.heap.size w w') : Old W0 tp p 0 (V 4) t.pl (newE ep) w' := by
  have h2 := h.below b1
  exact ⟨_, _, h1, h2.blk, rfl, h2.r4, fun k hk => ⟨Nat.le_trans h.bel.size hk.1, fun x => by have := h.blk.lt; omega, fun x => by have := own_lt h.r4 x; omega⟩, h2.bel⟩
theorem Old.mine {ep : Int} (h : Old W0 tp p 0 v4 L (newE ep) w) : Calls Try.prog 11 #[.pointer (some ⟨p, 0, none⟩), .string sMine] w fun r w' => (∃ z, r = .returned (.int .i64 z)) ∧ Old W0 tp p 1 v4 L (eMine ep) w' := by
  obtain ⟨F, cs, h1, h2, h3, h4, h5, h6⟩ := h
  refine (send_is h1 (c := 0) (e' := eMine ep) (by unfold sendX; rw [if_neg (by decide), if_neg (by simp [newE])]) rfl).mono ?_
  rintro r w' ⟨rfl, ⟨F', h7, h8⟩, ht⟩
  have hF : ∀ k, F k → k < w.heap.size := h1.lt
  refine ⟨⟨0, rfl⟩, F', cs, h7, ht.blk h2 (fun x => (h5 tp x).2.1 rfl), h3, own_touch h4 ht (fun g hg x => (h5 g x).2.2 hg), fun k hk => ?_, h6.trans (ht.below h6.size (fun k hk => (h5 k hk).1))⟩
  rcases h8 k hk with h9 | h9
  · exact h5 k h9
  · exact ⟨Nat.le_trans h6.size h9, fun x => by have := h2.lt; omega, fun x => by have := own_lt h4 x; omega⟩
theorem Old.take (h : Old W0 tp p n v4 L e w) (hn : n ≤ 999000) (g : Gm) (hg : g.ep ≠ e.ep) :
    Calls Try.prog 17 #[.pointer (some ⟨p, 0, none⟩), .agg (gmV g)] w fun r w' => (∃ v q, r = .returned (.tuple #[.slice v 0 q, .int .i64 23])) ∧ Old W0 tp p (n + 2) v4 L e w' := by
  obtain ⟨F, cs, h1, h2, h3, h4, h5, h6⟩ := h
  have hx : checkX e g = 23 := by unfold checkX; rw [if_pos hg]
  refine (take_is h1 hn (c := 23) (l := []) (e' := e) hx (by unfold takeL; rw [if_pos (by rw [hx]; decide)]) (by unfold takeE; rw [if_pos (by rw [hx]; decide)])).mono ?_
  rintro r w' ⟨v, q, rfl, _, h7, ht⟩
  exact ⟨⟨v, q, rfl⟩, F, cs, h7, ht.blk h2 (fun x => (h5 tp x).2.1 rfl), h3, own_touch h4 ht (fun g hg x => (h5 g x).2.2 hg), h5, h6.trans (ht.below h6.size (fun k hk => (h5 k hk).1))⟩
theorem Old.open_ (h : Old W0 tp p n v4 L e w) : Calls Try.prog 20 #[.pointer (some ⟨p, 0, none⟩)] w fun r w' => r = .returned (.int .i64 e.op.length) ∧ w = w' := by
  obtain ⟨F, cs, h1, _⟩ := h; exact open_any p n F e w h1
theorem Old.got (h : Old W0 tp p n v4 L e w) : Calls Try.prog 21 #[.pointer (some ⟨p, 0, none⟩)] w fun r w' => r = .returned (.int .i64 e.got) ∧ w = w' := by
  obtain ⟨F, cs, h1, _⟩ := h; exact got_any p n F e w h1
theorem Old.cell (h : Old W0 tp p n v4 L e w) : w.cell? ⟨tp, 6, none⟩ = some v4 := by
  obtain ⟨F, cs, h1, h2, h3, _⟩ := h; exact (h2.cell 6).trans h3
theorem Old.shape (h : Old W0 tp p n v4 L e w) : ∃ a c, v4 = .slice a L.length c := by
  obtain ⟨F, cs, h1, h2, h3, h4, _⟩ := h; exact own_shape h4
/-- a datagram of the pool -/
theorem Old.pool (h : Old W0 tp p n v4 L e w) {K : Nat} (hK : K < L.length) : ∃ g c x, v4 = .slice (some ⟨g, 0, none⟩) L.length c ∧ L[K]? = some x ∧ w.cell? ⟨g, K * 7, none⟩ = some (.int .i64 x.1.cl) ∧ w.cell? ⟨g, K * 7 + 1, none⟩ = some (.bool x.1.up) ∧ w.cell? ⟨g, K * 7 + 2, none⟩ = some (.int .i64 x.1.ep) ∧
    w.cell? ⟨g, K * 7 + 3, none⟩ = some (.int .i64 x.1.sq) ∧ w.cell? ⟨g, K * 7 + 4, none⟩ = some (.int .i64 x.1.ak) ∧ w.cell? ⟨g, K * 7 + 5, none⟩ = some (.string x.1.bd) := by
  obtain ⟨F, cs, _, _, _, h4, _⟩ := h
  obtain ⟨g, c, e, _, _, hc⟩ := own_pos h4 (by omega)
  have hx : L[K]? = some L[K] := List.getElem?_eq_getElem hK
  have hcx : ∀ j, j < 7 → w.cell? ⟨g, K * 7 + j, none⟩ = (sentC L[K])[j]? := fun j hj => by rw [hc _ (by omega)]; exact sent_at L K _ hx j hj
  exact ⟨g, c, L[K], e, hx, hcx 0 (by decide), hcx 1 (by decide), hcx 2 (by decide), hcx 3 (by decide), hcx 4 (by decide), hcx 5 (by decide)⟩
end
theorem pool_ep {ep : Int} {t : TS} (h : Inv ep t) {x : Gm × Bool} (hx : x ∈ t.pl) : x.1.ep = ep := by
  obtain ⟨g, fi⟩ := x
  cases fi with
  | true => exact (h.ab.pl g (pool_mem.2 hx)).1
  | false => exact (h.ba.pl g (pool_mem.2 hx)).1
end Go.Proofs.Ytbbikibkijncgaa.Cord
