/- The document's own Read: what stands in memory on its way. -/
import Derived.Test.YtcpkngkeechjeaaPastEnded
import Derived.Test.YtcpkngkeechjeaaPastView
import Derived.Test.YtcpkngkeechjeaaPastRes
import Derived.Test.YtcpkngkeechjeaaPastIns
namespace Go.Proofs.Ytcpkngkeechjeaa.Past
set_option maxRecDepth 100000
open Go.RowKit Go.Sort
open Go.Proofs.Ytcpkngkeechjeaa.Mem
open Go.Proofs.Ytcpkngkeechjeaa.Ent (Ent goodB Ents EntAt SmallE noE entA cellsE)
/-- the view that is made at u, the result at r -/
structure RD (w wr : World) (B r u : Nat) (sl dn pg : Value) (V : Vw) : Prop extends VV wr B u sl dn pg V where
  bel : Below w.heap.size w wr
  res : Blk wr r 37 #[.slice none 0 0, .slice none 0 0, .slice none 0 0]
  rlt : r < B
  rne : r ≠ u
  old : w.heap.size ≤ B ∧ w.heap.size ≤ u ∧ w.heap.size ≤ r
/-- .. and an entry at gx -/
structure RX (w wr : World) (B r u gx : Nat) (x : Ent) (sl dn pg : Value) (V : Vw) : Prop extends RD w wr B r u sl dn pg V where
  ent : Blk wr gx 31 #[.int .i64 x.kind, .int .i64 x.cl, .int .i64 x.ep, .int .i64 x.n, .int .i64 x.lsn, .int .i64 x.prev, .int .i64 x.page, .int .i64 x.slot, .bool x.wu, .string x.wd, .bool x.iu, .string x.id, .int .i64 x.next]
  xlt : B ≤ gx
section
variable {w wr w' : World} {B r u gx : Nat} {x : Ent} {sl dn pg : Value} {V : Vw}
theorem RD.below (h : RD w wr B r u sl dn pg V) (hb : Below wr.heap.size wr w') : RD w w' B r u sl dn pg V :=
  { toVV := h.toVV.below hb, bel := h.bel.trans (hb.mono h.bel.size), res := h.res.below hb h.res.lt, rlt := h.rlt, rne := h.rne, old := h.old }
theorem RX.below (h : RX w wr B r u gx x sl dn pg V) (hb : Below wr.heap.size wr w') : RX w w' B r u gx x sl dn pg V :=
  { toRD := h.toRD.below hb, ent := h.ent.below hb h.ent.lt, xlt := h.xlt }
theorem RD.box (h : RD w wr B r u sl dn pg V) (hB : B ≤ wr.heap.size) (x : Ent) : RX w (wr.alloc (.cells #[.int .i64 x.kind, .int .i64 x.cl, .int .i64 x.ep, .int .i64 x.n, .int .i64 x.lsn, .int .i64 x.prev, .int .i64 x.page, .int .i64 x.slot, .bool x.wu, .string x.wd, .bool x.iu, .string x.id, .int .i64 x.next] 31)) B r u wr.heap.size x sl dn pg V :=
  { toRD := h.below (Ent.below_box _ _), ent := Blk.new _ _ _, xlt := hB }
theorem RX.size (h : RX w wr B r u gx x sl dn pg V) : B ≤ wr.heap.size := Nat.le_trans h.xlt (Nat.le_of_lt h.ent.lt)
theorem below_set {W w1 : World} {b : Nat} (h : Below W.heap.size W w1) (hb : W.heap.size ≤ b) (i : Nat) (v : Value) : Below W.heap.size W (w1.setCell ⟨b, i, none⟩ v) := h.setCell (p := ⟨b, i, none⟩) hb v
theorem RX.setLos (h : RX w wr B r u gx x sl dn pg V) {N : Nat} {sl' : Value} {L : List (T3 × Int)} (ho : wr.ownsRow N 43 4 sl' L.length (cellsG loV L)) (hBN : B ≤ N) (hN : ∀ g, dn.ownBlock = some g ∨ pg.ownBlock = some g → g < N) :
    RX w (wr.setCell ⟨u, 0, none⟩ sl') B r u gx x sl' dn pg ⟨L, V.dn, V.pg⟩ :=
  { toVV := h.toVV.setLos ho hBN hN, bel := below_set h.bel h.old.2.1 _ _, res := h.res.far h.rne _, rlt := h.rlt, rne := h.rne, old := h.old, ent := h.ent.far (fun e => by have := h.xlt; have := h.lt; simp only at e; omega) _, xlt := h.xlt }
theorem RX.setPg (h : RX w wr B r u gx x sl dn pg V) {N : Nat} {pg' : Value} {L : List (Int × Int)} (ho : wr.ownsRow N 45 2 pg' L.length (cellsG fiV L)) (hBN : B ≤ N) (hN : ∀ g, dn.ownBlock = some g ∨ sl.ownBlock = some g → g < N) :
    RX w (wr.setCell ⟨u, 2, none⟩ pg') B r u gx x sl dn pg' ⟨V.los, V.dn, L⟩ :=
  { toVV := h.toVV.setPg ho hBN hN, bel := below_set h.bel h.old.2.1 _ _, res := h.res.far h.rne _, rlt := h.rlt, rne := h.rne, old := h.old, ent := h.ent.far (fun e => by have := h.xlt; have := h.lt; simp only at e; omega) _, xlt := h.xlt }
/-- behind the names that are done, one more: what the rest of the round asks -/
theorem RX.addDn (h : RX w wr B r u gx x sl dn pg V) {dn' : Value} {y : T3} (ha : AppRes wr w' B 24 3 dn dn' (V.dn ++ [y]).length (cellsG txV (V.dn ++ [y]))) (hx : ∀ g, dn.ownBlock = some g → g < gx) :
    RX w (w'.setCell ⟨u, 1, none⟩ dn') B r u gx x sl dn' pg ⟨V.los, V.dn ++ [y], V.pg⟩ := by
  have hv := h.toVV.addDn ha
  obtain ⟨ho, hg, hu⟩ := ha
  have hk : ∀ g, g < wr.heap.size → dn.ownBlock ≠ some g → w'.heap[g]? = wr.heap[g]? := fun g h1 h2 => hg.block g h1 fun e => h2 e.symm
  have hb : Below w.heap.size w w' := below_grown h.bel h.bel.size hg fun k e => Nat.le_trans h.old.1 (own_ge h.tx e)
  have hr : Blk w' r 37 #[.slice none 0 0, .slice none 0 0, .slice none 0 0] := (hk r h.res.lt (own_off h.tx h.rlt)).trans h.res
  have he : Blk w' gx 31 #[.int .i64 x.kind, .int .i64 x.cl, .int .i64 x.ep, .int .i64 x.n, .int .i64 x.lsn, .int .i64 x.prev, .int .i64 x.page, .int .i64 x.slot, .bool x.wu, .string x.wd, .bool x.iu, .string x.id, .int .i64 x.next] := (hk gx h.ent.lt (fun e => by have := hx gx e; omega)).trans h.ent
  exact { toVV := hv, bel := below_set hb h.old.2.1 _ _, res := hr.far h.rne _, rlt := h.rlt, rne := h.rne, old := h.old, ent := he.far (fun e => by have := h.xlt; have := h.lt; simp only at e; omega) _, xlt := h.xlt }
theorem VV.cells (h : VV wr B u sl dn pg V) : wr.cell? ⟨u, 0, none⟩ = some sl ∧ wr.cell? ⟨u, 1, none⟩ = some dn ∧ wr.cell? ⟨u, 2, none⟩ = some pg ∧ wr.frozen? ⟨u, 0, none⟩ = false ∧ wr.frozen? ⟨u, 1, none⟩ = false ∧ wr.frozen? ⟨u, 2, none⟩ = false :=
  ⟨h.blk.cell 0, h.blk.cell 1, h.blk.cell 2, h.blk.frozen 0, h.blk.frozen 1, h.blk.frozen 2⟩
/-- behind an append to a row of one's own -/
theorem app_next {w3 wz w6 : World} {T : TypeId} {size n m : Nat} {v v' : Value} {xs ys : List Value} {o : Obj} (ho : wz.ownsRow w3.heap.size T size v n xs) (hb : Below w3.heap.size w3 wz)
    (hA : AppRes (wz.alloc o) w6 w3.heap.size T size v v' m ys) : w6.ownsRow w3.heap.size T size v' m ys ∧ Below w3.heap.size w3 w6 := by
  have hbb := Ent.below_box wz o
  exact ⟨hA.1, below_grown (hb.trans (hbb.mono hb.size)) (Nat.le_trans hb.size hbb.size) hA.2.1 fun k e => own_ge ho e⟩
theorem RX.lookL (h : RX w wr B r u gx x sl dn pg V) (hb : Below wr.heap.size wr w') {i : Nat} {y : T3 × Int} (hi : V.los[i]? = some y) {g c m : Nat} (e : sl = .slice (some ⟨g, 0, none⟩) m c) :
    w'.cell? ⟨gx, 1, none⟩ = some (.int .i64 x.cl) ∧ w'.cell? ⟨gx, 2, none⟩ = some (.int .i64 x.ep) ∧ w'.cell? ⟨gx, 3, none⟩ = some (.int .i64 x.n) ∧ w'.cell? ⟨gx, 4, none⟩ = some (.int .i64 x.lsn) ∧ w'.cell? ⟨u, 0, none⟩ = some sl ∧
    w'.cell? ⟨g, i * 4, none⟩ = some (.int .i64 y.1.cl) ∧ w'.cell? ⟨g, i * 4 + 1, none⟩ = some (.int .i64 y.1.ep) ∧ w'.cell? ⟨g, i * 4 + 2, none⟩ = some (.int .i64 y.1.n) ∧ w'.cell? ⟨g, i * 4 + 3, none⟩ = some (.int .i64 y.2) := by
  have h2 := h.below hb
  obtain ⟨g', c', e', -, -, y0, y1, y2, y3⟩ := h2.loser hi
  rw [e] at e'
  injection e' with e1 e2 e3
  injection e1 with e1
  injection e1 with e1
  subst e1
  exact ⟨h2.ent.cell 1, h2.ent.cell 2, h2.ent.cell 3, h2.ent.cell 4, h2.blk.cell 0, y0, y1, y2, y3⟩
theorem quiet_next {w3 wz : World} {T : TypeId} {size n : Nat} {v : Value} {xs : List Value} (ho : wz.ownsRow w3.heap.size T size v n xs) (hb : Below w3.heap.size w3 wz) (q : Nat) :
    (wz.drewN q).ownsRow w3.heap.size T size v n xs ∧ Below w3.heap.size w3 (wz.drewN q) :=
  ⟨own_same ho fun _ _ => rfl, ⟨hb.os, hb.tape, hb.output, hb.size, hb.block⟩⟩
theorem calls_next {w3 wz w' : World} {T : TypeId} {size n : Nat} {v : Value} {xs : List Value} (ho : wz.ownsRow w3.heap.size T size v n xs) (hb : Below w3.heap.size w3 wz) (h : Below wz.heap.size wz w') :
    w'.ownsRow w3.heap.size T size v n xs ∧ Below w3.heap.size w3 w' := ⟨own_below ho h, hb.trans (h.mono hb.size)⟩
end
end Go.Proofs.Ytcpkngkeechjeaa.Past
