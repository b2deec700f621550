/- MistExact: the net and the document's own, side by side. -/
import Derived.Test.YtjlmmglhgmfgiaaMistRef2
import Derived.Test.YtjlmmglhgmfgiaaMistRef3
import Derived.Test.YtjlmmglhgmfgiaaMistRef4
import Derived.Test.YtjlmmglhgmfgiaaMistAll
import Derived.Test.YtjlmmglhgmfgiaaMistCopy
import Derived.Test.YtjlmmglhgmfgiaaMistActs
namespace Go.Proofs.Ytjlmmglhgmfgiaa.Mist
set_option maxRecDepth 100000
open Go.RowKit Go.Shelf
open Go.Proofs.Ytjlmmglhgmfgiaa.Mem Go.Proofs.Ytjlmmglhgmfgiaa.CordG
/-- the company of a net: what lay ahead, another net, boxes -/
def CoX (B q : Nat) (v : Value) (Y : Nat → Prop) (k : Nat) : Prop := k < B ∨ k = q ∨ v.ownBlock = some k ∨ Y k
structure TX (T U : TypeId) (w0 W : World) (p q : Nat) (vn vm : Value) (Y : Nat → Prop) (Ln Lm : List Gr) : Prop where
  n : PA T W p vn (CoX w0.heap.size q vm Y) Ln
  m : PA U W q vm (CoX w0.heap.size p vn Y) Lm
  bel : Below w0.heap.size w0 W
section
variable {T U : TypeId} {w0 W W' : World} {p q : Nat} {vn vm vn' vm' : Value} {Y Y' : Nat → Prop} {Ln Lm Ln' Lm' : List Gr}
theorem TX.less (h : TX T U w0 W p q vn vm Y Ln Lm) (hb : Below W.heap.size W W') (hY : ∀ k, Y' k → Y k ∨ (W.heap.size ≤ k ∧ k < W'.heap.size)) : TX T U w0 W' p q vn vm Y' Ln Lm := by
  refine ⟨h.n.step hb.size (fun k hk _ => hb.block k hk) ?_, h.m.step hb.size (fun k hk _ => hb.block k hk) ?_, h.bel.trans (hb.mono h.bel.size)⟩
  · rintro k (h1 | h1 | h1 | h1)
    · exact .inl (.inl h1)
    · exact .inl (.inr (.inl h1))
    · exact .inl (.inr (.inr (.inl h1)))
    · rcases hY k h1 with h2 | h2
      · exact .inl (.inr (.inr (.inr h2)))
      · exact .inr h2
  · rintro k (h1 | h1 | h1 | h1)
    · exact .inl (.inl h1)
    · exact .inl (.inr (.inl h1))
    · exact .inl (.inr (.inr (.inl h1)))
    · rcases hY k h1 with h2 | h2
      · exact .inl (.inr (.inr (.inr h2)))
      · exact .inr h2
theorem TX.below (h : TX T U w0 W p q vn vm Y Ln Lm) (hb : Below W.heap.size W W') : TX T U w0 W' p q vn vm Y Ln Lm := h.less hb fun _ h => .inl h
theorem TX.swap (h : TX T U w0 W p q vn vm Y Ln Lm) : TX U T w0 W q p vm vn Y Lm Ln := ⟨h.m, h.n, h.bel⟩
theorem TX.call (h : TX T U w0 W p q vn vm Y Ln Lm) (hn : PA T W' p vn' (CoX w0.heap.size q vm Y) Ln') (hk : Keep (CoX w0.heap.size q vm Y) W W') : TX T U w0 W' p q vn' vm Y Ln' Lm := by
  refine ⟨hn, h.m.move (hk.block q (.inr (.inl rfl))) (fun g hg => hk.block g (.inr (.inr (.inl hg)))) ?_ ?_ ?_, h.bel.trans (hk.below fun _ h => .inl h)⟩
  · rintro (h1 | h1 | h1 | h1)
    · exact h.m.m0 (.inl h1)
    · exact h.m.m0 (.inr (.inl h1))
    · exact hn.m1 q h1 (.inr (.inl rfl))
    · exact h.m.m0 (.inr (.inr (.inr h1)))
  · rintro g hg (h1 | h1 | h1 | h1)
    · exact h.m.m1 g hg (.inl h1)
    · exact h.m.m1 g hg (.inr (.inl h1))
    · exact hn.m1 g h1 (.inr (.inr (.inl hg)))
    · exact h.m.m1 g hg (.inr (.inr (.inr h1)))
  · rintro k (h1 | h1 | h1 | h1)
    · exact hn.lt k (.inl h1)
    · rw [h1]; exact hn.blk.lt
    · exact own_lt hn.own h1
    · exact hn.lt k (.inr (.inr (.inr h1)))
theorem TX.set_ (h : TX T U w0 W p q vn vm Y Ln Lm) {b : Nat} (hb : Y b) (hw : w0.heap.size ≤ b) (i : Nat) (u : Value) : TX T U w0 (W.setCell ⟨b, i, none⟩ u) p q vn vm Y Ln Lm :=
  ⟨h.n.set_ (.inr (.inr (.inr hb))) i u, h.m.set_ (.inr (.inr (.inr hb))) i u, h.bel.setCell (p := ⟨b, i, none⟩) hw u⟩
end
/-- .. the rows unnamed -/
def EX (w0 W : World) (p q : Nat) (Y : Nat → Prop) (Ln Lm : List Gr) : Prop := ∃ vn vm, TX 53 29 w0 W p q vn vm Y Ln Lm
section
variable {w0 W W' : World} {p q : Nat} {Y Y' : Nat → Prop} {Ln Lm : List Gr}
theorem EX.less (h : EX w0 W p q Y Ln Lm) (hb : Below W.heap.size W W') (hY : ∀ k, Y' k → Y k ∨ (W.heap.size ≤ k ∧ k < W'.heap.size)) : EX w0 W' p q Y' Ln Lm := by
  obtain ⟨vn, vm, h⟩ := h
  exact ⟨vn, vm, h.less hb hY⟩
theorem EX.below (h : EX w0 W p q Y Ln Lm) (hb : Below W.heap.size W W') : EX w0 W' p q Y Ln Lm := h.less hb fun _ h => .inl h
theorem EX.bel (h : EX w0 W p q Y Ln Lm) : Below w0.heap.size w0 W := by obtain ⟨vn, vm, h⟩ := h; exact h.bel
theorem EX.set_ (h : EX w0 W p q Y Ln Lm) {b : Nat} (hb : Y b) (hw : w0.heap.size ≤ b) (i : Nat) (u : Value) : EX w0 (W.setCell ⟨b, i, none⟩ u) p q Y Ln Lm := by
  obtain ⟨vn, vm, h⟩ := h
  exact ⟨vn, vm, h.set_ hb hw i u⟩
theorem EX.six (h : EX w0 W p q Y Ln Lm) {b : Nat} (hb : Y b) (hw : w0.heap.size ≤ b) (x : Gr) : EX w0 (six W b x) p q Y Ln Lm :=
  (((((h.set_ hb hw 0 _).set_ hb hw 1 _).set_ hb hw 2 _).set_ hb hw 3 _).set_ hb hw 4 _).set_ hb hw 5 _
theorem EX.yl (h : EX w0 W p q Y Ln Lm) {b : Nat} (hb : Y b) : b < W.heap.size := by obtain ⟨vn, vm, h⟩ := h; exact h.n.lt b (.inr (.inr (.inr hb)))
/-- a call of the net -/
theorem EX.onN (h : EX w0 W p q Y Ln Lm) {f : Nat} {args : Array Value} {r : Value} {Ln' : List Gr}
    (hc : ∀ M, PQ 53 W p M Ln → Calls Try.prog f args W fun e w' => e = .returned r ∧ PQ 53 w' p M Ln' ∧ Keep M W w') :
    Calls Try.prog f args W fun e w' => e = .returned r ∧ EX w0 w' p q Y Ln' Lm ∧ Keep Y W w' := by
  obtain ⟨vn, vm, h⟩ := h
  refine (hc _ ⟨vn, h.n⟩).mono ?_
  rintro e w' ⟨he, ⟨vn', hn⟩, hk⟩
  exact ⟨he, ⟨vn', vm, h.call hn hk⟩, hk.mono fun _ h => .inr (.inr (.inr h))⟩
theorem EX.onM (h : EX w0 W p q Y Ln Lm) {f : Nat} {args : Array Value} {r : Value} {Lm' : List Gr}
    (hc : ∀ M, PQ 29 W q M Lm → Calls Try.prog f args W fun e w' => e = .returned r ∧ PQ 29 w' q M Lm' ∧ Keep M W w') :
    Calls Try.prog f args W fun e w' => e = .returned r ∧ EX w0 w' p q Y Ln Lm' ∧ Keep Y W w' := by
  obtain ⟨vn, vm, h⟩ := h
  refine (hc _ ⟨vm, h.m⟩).mono ?_
  rintro e w' ⟨he, ⟨vm', hm⟩, hk⟩
  exact ⟨he, ⟨vn, vm', (h.swap.call hm hk).swap⟩, hk.mono fun _ h => .inr (.inr (.inr h))⟩
theorem EX.pn (h : EX w0 W p q Y Ln Lm) : ∃ M, PQ 53 W p M Ln := by obtain ⟨vn, vm, h⟩ := h; exact ⟨_, vn, h.n⟩
theorem EX.pm (h : EX w0 W p q Y Ln Lm) : ∃ M, PQ 29 W q M Lm := by obtain ⟨vn, vm, h⟩ := h; exact ⟨_, vm, h.m⟩
theorem EX.countN (h : EX w0 W p q Y Ln Lm) (hl : Ln.length ≤ 1000000) (c : Int) (u : Bool) :
    Calls Try.prog 19 #[.pointer (some ⟨p, 0, none⟩), .int .i64 c, .bool u] W fun e w' => e = .returned (.int .i64 (countL Ln c u : Int)) ∧ Below W.heap.size W w' := by
  obtain ⟨M, h⟩ := h.pn
  exact ncount_any p M Ln c u W h hl
theorem EX.countM (h : EX w0 W p q Y Ln Lm) (hl : Lm.length ≤ 1000000) (c : Int) (u : Bool) :
    Calls Try.prog 20 #[.pointer (some ⟨q, 0, none⟩), .int .i64 c, .bool u] W fun e w' => e = .returned (.int .i64 (countL Lm c u : Int)) ∧ Below W.heap.size W w' := by
  obtain ⟨M, h⟩ := h.pm
  exact ucount_below q M Lm c u W h hl
end
/-- what Pick and Eldest hand back, whatever it is -/
def gotB (o : Option Gr) : Bool := o.isSome
def gotG (o : Option Gr) : Gr := o.getD gz
theorem got_is {x : Gr} {b : Bool} {o : Option Gr} (h : o = none ∧ b = false ∧ x = gz ∨ o = some x ∧ b = true) : x = gotG o ∧ b = gotB o := by
  rcases h with ⟨rfl, rfl, rfl⟩ | ⟨rfl, rfl⟩ <;> exact ⟨rfl, rfl⟩
theorem got_n {p : Nat} {o : Option Gr} {L : List Gr} {w : World} {M : Nat → Prop} {e : Ending} {w' : World} (h : GotRes p M o L w e w') :
    e = .returned (.tuple #[.agg #[.int .i64 (gotG o).cl, .bool (gotG o).up, .int .i64 (gotG o).ep, .int .i64 (gotG o).sq, .int .i64 (gotG o).ak, .string (gotG o).bd], .bool (gotB o)]) ∧ PQ 53 w' p M L ∧ Keep M w w' := by
  obtain ⟨x, b, rfl, ho, h1, h2⟩ := h
  obtain ⟨rfl, rfl⟩ := got_is ho
  exact ⟨rfl, h1, h2⟩
theorem got_m {p : Nat} {o : Option Gr} {L : List Gr} {w : World} {M : Nat → Prop} {e : Ending} {w' : World} (h : UGot p M o L w e w') :
    e = .returned (.tuple #[.agg #[.int .i64 (gotG o).cl, .bool (gotG o).up, .int .i64 (gotG o).ep, .int .i64 (gotG o).sq, .int .i64 (gotG o).ak, .string (gotG o).bd], .bool (gotB o)]) ∧ PQ 29 w' p M L ∧ Keep M w w' := by
  obtain ⟨x, b, rfl, ho, h1, h2⟩ := h
  obtain ⟨rfl, rfl⟩ := got_is ho
  exact ⟨rfl, h1, h2⟩
/-- the boxes of a round -/
def Yx (gR gU bx bg bh k : Nat) : Prop := k = gR ∨ k = gU ∨ k = bx ∨ k = bg ∨ k = bh
/-- .. with what they hold -/
structure RX (w0 W : World) (p q gR gU bx bg bh : Nat) (Ln Lm : List Gr) (c : Array Value) (y z : Gr) : Prop where
  e : EX w0 W p q (Yx gR gU bx bg bh) Ln Lm
  r : Blk W gR 4 #[.bool false]
  u : Blk W gU 26 #[.pointer (some ⟨q, 0, none⟩)]
  x : Blk W bx 33 c
  g : Blk W bg 31 (gv y)
  h : Blk W bh 31 (gv z)
section
variable {w0 W W' : World} {p q gR gU bx bg bh : Nat} {Ln Lm Ln' Lm' : List Gr} {c : Array Value} {y z y' : Gr}
theorem RX.below (k : RX w0 W p q gR gU bx bg bh Ln Lm c y z) (hb : Below W.heap.size W W') : RX w0 W' p q gR gU bx bg bh Ln Lm c y z :=
  ⟨k.e.below hb, k.r.below hb k.r.lt, k.u.below hb k.u.lt, k.x.below hb k.x.lt, k.g.below hb k.g.lt, k.h.below hb k.h.lt⟩
theorem RX.kept (k : RX w0 W p q gR gU bx bg bh Ln Lm c y z) (he : EX w0 W' p q (Yx gR gU bx bg bh) Ln' Lm') (hk : Keep (Yx gR gU bx bg bh) W W') : RX w0 W' p q gR gU bx bg bh Ln' Lm' c y z :=
  ⟨he, hk.blk k.r (.inl rfl), hk.blk k.u (.inr (.inl rfl)), hk.blk k.x (.inr (.inr (.inl rfl))), hk.blk k.g (.inr (.inr (.inr (.inl rfl)))), hk.blk k.h (.inr (.inr (.inr (.inr rfl))))⟩
theorem RX.onN (k : RX w0 W p q gR gU bx bg bh Ln Lm c y z) {f : Nat} {args : Array Value} {r : Value}
    (hc : ∀ M, PQ 53 W p M Ln → Calls Try.prog f args W fun e w' => e = .returned r ∧ PQ 53 w' p M Ln' ∧ Keep M W w') :
    Calls Try.prog f args W fun e w' => e = .returned r ∧ RX w0 w' p q gR gU bx bg bh Ln' Lm c y z :=
  (k.e.onN hc).mono fun _ _ ⟨he, h1, h2⟩ => ⟨he, k.kept h1 h2⟩
theorem RX.onM (k : RX w0 W p q gR gU bx bg bh Ln Lm c y z) {f : Nat} {args : Array Value} {r : Value}
    (hc : ∀ M, PQ 29 W q M Lm → Calls Try.prog f args W fun e w' => e = .returned r ∧ PQ 29 w' q M Lm' ∧ Keep M W w') :
    Calls Try.prog f args W fun e w' => e = .returned r ∧ RX w0 w' p q gR gU bx bg bh Ln Lm' c y z :=
  (k.e.onM hc).mono fun _ _ ⟨he, h1, h2⟩ => ⟨he, k.kept h1 h2⟩
theorem six_far {W : World} {g b : Nat} {T : TypeId} {cs : Array Value} (h : Blk W g T cs) (hn : g ≠ b) (x : Gr) : Blk (six W b x) g T cs :=
  (((((h.far (p := ⟨b, 0, none⟩) hn _).far (p := ⟨b, 1, none⟩) hn _).far (p := ⟨b, 2, none⟩) hn _).far (p := ⟨b, 3, none⟩) hn _).far (p := ⟨b, 4, none⟩) hn _).far (p := ⟨b, 5, none⟩) hn _
theorem RX.setG (k : RX w0 W p q gR gU bx bg bh Ln Lm c y z) (h0 : w0.heap.size ≤ gR) (h1 : gR < gU) (h2 : gU < bx) (h3 : bx < bg) (h4 : bg < bh) : RX w0 (six W bg y') p q gR gU bx bg bh Ln Lm c y' z :=
  ⟨k.e.six (.inr (.inr (.inr (.inl rfl)))) (by omega) y', six_far k.r (by omega) y', six_far k.u (by omega) y', six_far k.x (by omega) y', six_blk k.g y', six_far k.h (by omega) y'⟩
theorem RX.setH (k : RX w0 W p q gR gU bx bg bh Ln Lm c y z) (h0 : w0.heap.size ≤ gR) (h1 : gR < gU) (h2 : gU < bx) (h3 : bx < bg) (h4 : bg < bh) : RX w0 (six W bh y') p q gR gU bx bg bh Ln Lm c y y' :=
  ⟨k.e.six (.inr (.inr (.inr (.inr rfl)))) (by omega) y', six_far k.r (by omega) y', six_far k.u (by omega) y', six_far k.x (by omega) y', six_far k.g (by omega) y', six_blk k.h y'⟩
theorem RX.cells {v0 v1 v2 v3 v4 v5 v6 v7 : Value} (k : RX w0 W p q gR gU bx bg bh Ln Lm #[v0, v1, v2, v3, v4, v5, v6, v7] y z) :
    W.cell? ⟨bx, 1, none⟩ = some v1 ∧ W.cell? ⟨bx, 2, none⟩ = some v2 ∧ W.cell? ⟨bx, 3, none⟩ = some v3 ∧ W.cell? ⟨bx, 4, none⟩ = some v4 ∧ W.cell? ⟨bx, 5, none⟩ = some v5 ∧ W.cell? ⟨bx, 6, none⟩ = some v6 ∧ W.cell? ⟨bx, 7, none⟩ = some v7 ∧ W.cell? ⟨gU, 0, none⟩ = some (.pointer (some ⟨q, 0, none⟩)) :=
  ⟨k.x.cell 1, k.x.cell 2, k.x.cell 3, k.x.cell 4, k.x.cell 5, k.x.cell 6, k.x.cell 7, k.u.cell 0⟩
/-- between two rounds -/
structure SX (w0 W : World) (p q gR gU : Nat) (L : List Gr) : Prop where
  e : EX w0 W p q (fun k => k = gR ∨ k = gU) L L
  r : Blk W gR 4 #[.bool false]
  u : Blk W gU 26 #[.pointer (some ⟨q, 0, none⟩)]
theorem RX.done {L : List Gr} (k : RX w0 W p q gR gU bx bg bh L L c y z) : SX w0 W p q gR gU L :=
  ⟨k.e.less (Below.refl _ _) (fun _ h => .inl (h.elim .inl (fun h => .inr (.inl h)))), k.r, k.u⟩
theorem SX.below {L : List Gr} (k : SX w0 W p q gR gU L) (hb : Below W.heap.size W W') : SX w0 W' p q gR gU L :=
  ⟨k.e.below hb, k.r.below hb k.r.lt, k.u.below hb k.u.lt⟩
end
/-- the round's boxes are made -/
theorem rx_new {w0 W : World} {p q gR gU : Nat} {L : List Gr} (k : SX w0 W p q gR gU L) (c : Array Value) :
    RX w0 (((W.alloc (.cells c 33)).alloc (.cells #[.int .i64 0, .bool false, .int .i64 0, .int .i64 0, .int .i64 0, .string ⟨#[]⟩] 31)).alloc (.cells #[.int .i64 0, .bool false, .int .i64 0, .int .i64 0, .int .i64 0, .string ⟨#[]⟩] 31)) p q gR gU W.heap.size (W.heap.size + 1) (W.heap.size + 1 + 1) L L c gz gz := by
  have hb := ((below_box W (.cells c 33)).alloc (by simp) (.cells #[.int .i64 0, .bool false, .int .i64 0, .int .i64 0, .int .i64 0, .string ⟨#[]⟩] 31)).alloc (by simp; omega) (.cells #[.int .i64 0, .bool false, .int .i64 0, .int .i64 0, .int .i64 0, .string ⟨#[]⟩] 31)
  refine ⟨k.e.less hb ?_, k.r.below hb k.r.lt, k.u.below hb k.u.lt, ((Blk.new W _ c).alloc _).alloc _, ?_, ?_⟩
  · rintro j (h | h | h | h | h)
    · exact .inl (.inl h)
    · exact .inl (.inr h)
    all_goals exact .inr (by simp; omega)
  · have := (Blk.new (W.alloc (.cells c 33)) 31 #[.int .i64 0, .bool false, .int .i64 0, .int .i64 0, .int .i64 0, .string ⟨#[]⟩]).alloc (.cells #[.int .i64 0, .bool false, .int .i64 0, .int .i64 0, .int .i64 0, .string ⟨#[]⟩] 31)
    rw [World.size_alloc] at this
    exact this
  · have := Blk.new ((W.alloc (.cells c 33)).alloc (.cells #[.int .i64 0, .bool false, .int .i64 0, .int .i64 0, .int .i64 0, .string ⟨#[]⟩] 31)) 31 #[.int .i64 0, .bool false, .int .i64 0, .int .i64 0, .int .i64 0, .string ⟨#[]⟩]
    rw [World.size_alloc, World.size_alloc] at this
    exact this
/-- two new nets -/
theorem sx_new {w0 w2 : World} {p gR : Nat} (hn : PQ 53 w2 p (fun k => k < p) []) (hr : Blk w2 gR 4 #[.bool false]) (h0 : w0.heap.size ≤ gR) (hp : gR < p) (hb : Below w0.heap.size w0 w2) :
    SX w0 ((w2.alloc (.cells #[.slice none 0 0] 29)).alloc (.cells #[.pointer (some ⟨w2.heap.size, 0, none⟩)] 26)) p w2.heap.size gR (w2.heap.size + 1) [] := by
  obtain ⟨vn, hn⟩ := hn
  have hbb := (below_box w2 (.cells #[.slice none 0 0] 29)).alloc (by simp) (.cells #[.pointer (some ⟨w2.heap.size, 0, none⟩)] 26)
  have hpl := hn.blk.lt
  have hs := hbb.size
  have hU := Blk.new (w2.alloc (.cells #[.slice none 0 0] 29)) 26 #[.pointer (some ⟨w2.heap.size, 0, none⟩)]
  rw [World.size_alloc] at hU
  have hQ := (Blk.new w2 29 #[.slice none 0 0]).alloc (.cells #[.pointer (some ⟨w2.heap.size, 0, none⟩)] 26)
  have hul := hU.lt
  refine ⟨⟨vn, .slice none 0 0, hn.move (hbb.block p hpl) (fun g hg => hbb.block g (own_lt hn.own hg)) ?_ ?_ ?_, ⟨hQ, own_nil _ _ _ _, by simp [Value.ownBlock], ?_, fun g hg => by simp [Value.ownBlock] at hg, ?_⟩, hb.trans (hbb.mono hb.size)⟩, hr.below hbb hr.lt, hU⟩
  · rintro (h | h | h | h | h)
    · omega
    · omega
    · simp [Value.ownBlock] at h
    · omega
    · omega
  · rintro g hg (h | h | h | h | h)
    · exact hn.m1 g hg (show g < p by omega)
    · have := own_lt hn.own hg; omega
    · simp [Value.ownBlock] at h
    · exact hn.m1 g hg (show g < p by omega)
    · have := own_lt hn.own hg; omega
  · rintro k (h | h | h | h | h)
    · omega
    · have := hQ.lt; omega
    · simp [Value.ownBlock] at h
    · omega
    · omega
  · rintro (h | h | h | h | h)
    · have := hb.size; omega
    · omega
    · have := own_lt hn.own h; omega
    · omega
    · omega
  · rintro k (h | h | h | h | h)
    · have := hb.size; omega
    · omega
    · have := own_lt hn.own h; omega
    · omega
    · omega
theorem heap_grows {w w' : World} {row : Option Nat} (hg : w.grownBy w' row) (hr : ∀ r, row = some r → ∃ o : Obj, w.heap[r]? = some o ∧ o.isCells = false) {g : Nat} {cs : Array Value} {T : TypeId} {z : Nat × Nat} (h : w.heap[g]? = some (.cells cs T z)) : w'.heap[g]? = w.heap[g]? :=
  hg.block g (Array.getElem?_eq_some_iff.1 h).1 (fun e => by
    obtain ⟨o, h1, h2⟩ := hr g e.symm
    rw [h] at h1; cases h1; cases h2)
theorem PA.grows {T : TypeId} {w w' : World} {p : Nat} {v : Value} {M : Nat → Prop} {L : List Gr} {row : Option Nat} (h : PA T w p v M L) (hg : w.grownBy w' row) (hr : ∀ r, row = some r → ∃ o : Obj, w.heap[r]? = some o ∧ o.isCells = false) : PA T w' p v M L :=
  h.move (heap_grows hg hr h.blk) (fun g hv => by
    rcases h.own.2 with ⟨rfl, _⟩ | ⟨g', c, cur, rfl, _, hc, _⟩
    · cases hv
    · cases hv
      exact heap_grows hg hr hc) h.m0 h.m1 (fun k hk => Nat.lt_of_lt_of_le (h.lt k hk) hg.size)
theorem EX.grows {w0 W W' : World} {p q : Nat} {Y : Nat → Prop} {Ln Lm : List Gr} {row : Option Nat} (h : EX w0 W p q Y Ln Lm) (hg : W.grownBy W' row) (hr : ∀ r, row = some r → w0.heap.size ≤ r ∧ ∃ o : Obj, W.heap[r]? = some o ∧ o.isCells = false) : EX w0 W' p q Y Ln Lm := by
  obtain ⟨vn, vm, h⟩ := h
  exact ⟨vn, vm, h.n.grows hg (fun r e => (hr r e).2), h.m.grows hg (fun r e => (hr r e).2), h.bel.grown hg h.bel.size (fun k e => (hr k e).1)⟩
/-- what a round of the going knows -/
structure RJ (w0 W : World) (p q gR gU gK : Nat) (L pre : List Gr) : Prop where
  e : EX w0 W p q (fun k => k = gR ∨ k = gU ∨ k = gK) L L
  r : Blk W gR 4 #[.bool false]
  u : Blk W gU 26 #[.pointer (some ⟨q, 0, none⟩)]
  k : Blk W gK 3 #[.int .i64 (pre.length : Int)]
  pf : pre <+: L
section
variable {w0 W W' : World} {p q gR gU gK : Nat} {L pre : List Gr} {x : Gr}
theorem RJ.grows {B : Nat} {row : Option Nat} (h : RJ w0 W p q gR gU gK L pre) (hB : w0.heap.size ≤ B) (hg : W.grownBy W' row) (hr : ∀ r, row = some r → B ≤ r ∧ ∃ o : Obj, W.heap[r]? = some o ∧ o.isCells = false) : RJ w0 W' p q gR gU gK L pre :=
  have hr2 := fun r e => (hr r e).2
  ⟨h.e.grows hg (fun r e => ⟨Nat.le_trans hB (hr r e).1, (hr r e).2⟩), blk_grows h.r hg hr2, blk_grows h.u hg hr2, blk_grows h.k hg hr2, h.pf⟩
theorem RJ.below (h : RJ w0 W p q gR gU gK L pre) (hb : Below W.heap.size W W') : RJ w0 W' p q gR gU gK L pre :=
  ⟨h.e.below hb, h.r.below hb h.r.lt, h.u.below hb h.u.lt, h.k.below hb h.k.lt, h.pf⟩
theorem RJ.next (h : RJ w0 W p q gR gU gK L pre) (hx : L[pre.length]? = some x) (h0 : w0.heap.size ≤ gR) (h1 : gR < gU) (h2 : gU < gK) : RJ w0 (W.setCell ⟨gK, 0, none⟩ (.int .i64 ((pre.length : Int) + 1))) p q gR gU gK L (pre ++ [x]) := by
  refine ⟨h.e.set_ (.inr (.inr rfl)) (by omega) 0 _, h.r.far (p := ⟨gK, 0, none⟩) (by show gR ≠ gK; omega) _, h.u.far (p := ⟨gK, 0, none⟩) (by show gU ≠ gK; omega) _, ?_, ?_⟩
  · have := h.k.set_ 0 (.int .i64 ((pre.length : Int) + 1))
    rw [show ((pre ++ [x]).length : Int) = (pre.length : Int) + 1 by simp]
    simpa using this
  · have e := List.prefix_iff_eq_take.1 h.pf
    rw [List.prefix_iff_eq_take, List.length_append, List.length_singleton, List.take_add_one, hx, ← e]
    rfl
/-- the reference's row as it stands -/
theorem RJ.row (h : RJ w0 W p q gR gU gK L pre) : ∃ a c, W.cell? ⟨q, 0, none⟩ = some (.slice a L.length c) ∧ ∀ x, L[pre.length]? = some x → ∃ g, a = some ⟨g, 0, none⟩ ∧ L.length ≤ c ∧ g < W.heap.size ∧ CellsG W g pre.length x := by
  obtain ⟨vn, vm, h⟩ := h.e
  obtain ⟨a, c, rfl⟩ := own_shape h.m.own
  refine ⟨a, c, h.m.blk.cell 0, fun x hx => ?_⟩
  obtain ⟨g, c', hv, hc, _, hg, hs⟩ := h.m.rowat hx
  injection hv with e1 e2 e3
  exact ⟨g, e1, by omega, hg, hs⟩
theorem RJ.np (h : RJ w0 W p q gR gU gK L pre) : ∃ v, NP W (some ⟨p, 0, none⟩) v L := by
  obtain ⟨vn, vm, h⟩ := h.e
  exact ⟨vn, h.n.np⟩
/-- the going begins -/
theorem rj_new (h : SX w0 W p q gR gU L) : RJ w0 ((W.alloc (.cells #[.pointer (some ⟨p, 0, none⟩)] 24)).alloc (.cells #[.int .i64 0] 3)) p q gR gU (W.heap.size + 1) L [] := by
  have hb := (below_box W (.cells #[.pointer (some ⟨p, 0, none⟩)] 24)).alloc (by simp) (.cells #[.int .i64 0] 3)
  refine ⟨h.e.less hb ?_, h.r.below hb h.r.lt, h.u.below hb h.u.lt, ?_, List.nil_prefix⟩
  · rintro j (e | e | e)
    · exact .inl (.inl e)
    · exact .inl (.inr e)
    · exact .inr (by simp; omega)
  · have := Blk.new (W.alloc (.cells #[.pointer (some ⟨p, 0, none⟩)] 24)) 3 #[.int .i64 0]
    rw [World.size_alloc] at this
    exact this
end
/-- a range over such an iterator whose round boxes what it is given -/
theorem range_box {g : Operand} {ps : Array Tmp} {assign body : Code} {Q : Exit → Go.Act → World → Prop} {a : Go.Act} {w : World} {gf : Nat} {lb : Array Value}
    (hg : a.eval g = .func (.func gf) #[] lb) (eg : ∀ args w, (callFunc gf args).run Try.prog w = .ok (.enter gf args) w)
    {gK : Nat} {S Sp : List Gr → Prop} {N : Nat} (hseq : SeqStopsK Fence.wide 5 Try.prog gf lb encG (KeepN gK) S Sp N w) (hps : ∀ x, (encG x).size = ps.size)
    (I : List Gr → World → Prop) (Ix : Code → List Gr → World → Prop) (hI : OwnFrom w.heap.size I) (hIx : ∀ c, OwnFrom w.heap.size (Ix c)) (h0 : I [] w) (af : Gr → Nat → Go.Act)
    (hassign : ∀ (l : Nat) (pre : List Gr) (x : Gr) (W : World) (K : Go.Act → World → Prop), I pre W → (∀ Bx W', KeepsFrom w.heap.size W W' → KeepN gK W W' → I pre W' → Blk W' Bx 31 (gv x) → Bx ≠ gK → K (af x Bx) W') →
      assign.wpIn (Fence.wide.inRound l) 4 Try.prog (Exit.then K (fun _ _ _ => False)) { tmps := (ps.zip (encG x)).foldl (fun t (p, v) => t.setIfInBounds p v) a.tmps, defers := [] } W)
    (hbody : ∀ (l : Nat) (pre : List Gr) (x : Gr) (Bx : Nat) (W : World), I pre W → Blk W Bx 31 (gv x) → Bx ≠ gK → pre.length < N → body.wpIn (Fence.wide.inRound l) 4 Try.prog (ownPostG w.heap.size (KeepN gK) I Ix (pre ++ [x]) W) (af x Bx) W)
    (hdone : ∀ (D : Nat) (xs : List Gr) (W : World), w.heap.size ≤ D → S xs → I xs W → W.heap[D]? = some (.deferred (some [])) → Q .normal { a with defers := { target := .collected D, args := #[] } :: a.defers } W)
    (hstop : ∀ (D : Nat) (c : Code) (pre : List Gr) (W : World), w.heap.size ≤ D → Sp pre → Ix c pre W → W.heap[D]? = some (.deferred (some [])) → c.wpIn Fence.wide 6 Try.prog Q { a with defers := { target := .collected D, args := #[] } :: a.defers } W) :
    (Code.rangeFunc g ps assign body).wpIn Fence.wide 6 Try.prog Q a w :=
  wpIn_rangeFunc_ownH (F := Fence.wide) (n := 6) rfl (by omega) hg trivial eg hseq (fun h k => keepN_t h k) (fun W l o o' _ h ho _ => keepN_b W l o o' h ho) (Below.refl _ _) hps I Ix hI hIx h0
    (fun x a' X => ∃ Bx, Blk X Bx 31 (gv x) ∧ Bx ≠ gK ∧ a' = af x Bx)
    (fun x a' s A B row h hg hr => by obtain ⟨Bx, h1, h2, h3⟩ := h; exact ⟨Bx, blkN (keepN_grown (b := gK) hg (fun r e => (hr r e).2)) h1 h2, h2, h3⟩)
    (fun l pre x W K hi hK => hassign l pre x W K hi (fun Bx W' h1 h2 h3 h4 h5 => hK _ W' h1 h2 h3 ⟨Bx, h4, h5, rfl⟩))
    (fun l pre x a' W _ _ hi ⟨Bx, h1, h2, h3⟩ hlt => h3 ▸ hbody l pre x Bx W hi h1 h2 hlt) hdone hstop
end Go.Proofs.Ytjlmmglhgmfgiaa.Mist
