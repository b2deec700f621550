/- All that the statement PlateKeeps holds in memory. -/
import Derived.Test.YtjmjhjckdcniiaaPlateKeepsMem
import Derived.Deep.CutBlock
namespace Go.Proofs.Ytjmjhjckdcniiaa.Plate
open Go.RowKit
open Go.Proofs.Ytjmjhjckdcniiaa.Mem

/-- all that the statement holds in memory -/
structure Kin (w W : World) (p lB sB : Nat) (V : Nat → Value) (L : Nat → List UInt8) (f : Nat → UInt8) (M : Nat → Prop) (S : PS) : Prop where
  pq : PQ W p M S
  lt : Lt w.heap.size W lB sB V L f M
  mb : ∀ k, k < w.heap.size → M k
  bel : Below w.heap.size w W
section
variable {w W W' : World} {p lB sB : Nat} {V : Nat → Value} {L : Nat → List UInt8} {f : Nat → UInt8} {M : Nat → Prop} {S S' : PS}
theorem Kin.next (h : Kin w W p lB sB V L f M S) (hp : PQ W' p M S') (hk : Keep M W W') : Kin w W' p lB sB V L f M S' := ⟨hp, h.lt.keep hk, h.mb, h.bel.trans (hk.below h.mb)⟩
theorem Kin.below (h : Kin w W p lB sB V L f M S) (hb : Below W.heap.size W W') : Kin w W' p lB sB V L f M S := h.next (h.pq.below hb) (Keep.of_below hb h.pq.lt)
theorem Kin.push (h : Kin w W p lB sB V L f M S) {n g cap : Nat} {b : UInt8} (hn : n < 40)
    (ho : W'.ownsRow w.heap.size 5 1 (.slice (some ⟨g, 0, none⟩) ((L n).length + 1) cap) ((L n).length + 1) (bcells (L n) ++ [.int .u8 (b.toNat : Int)])) (hg : W.grownBy W' (V n).ownBlock) (ha : (V n).ownBlock = some g ∨ g = W.heap.size) (hgl : g < W'.heap.size) :
    ∃ V' M', Kin w (W'.setCell ⟨lB, n, none⟩ (.slice (some ⟨g, 0, none⟩) ((L n).length + 1) cap)) p lB sB V' (setF L n (L n ++ [b])) f M' S := by
  have hb : Below w.heap.size W W' := ⟨hg.os, hg.tape, hg.output, hg.size, fun k hk => hg.block k (Nat.lt_of_lt_of_le hk h.bel.size) (fun e => by have := own_ge (h.lt.own n hn) e.symm; omega)⟩
  exact ⟨_, _, h.pq.push h.lt hn hg ha hgl, h.lt.push h.pq.lt hn ho hg ha hgl, fun k hk => .inl (h.mb k hk), (h.bel.trans hb).setCell (p := ⟨lB, n, none⟩) h.lt.bl _⟩
theorem Kin.save (h : Kin w W p lB sB V L f M S) {n : Nat} (b : UInt8) : Kin w (W.setCell ⟨sB, n, none⟩ (.int .u8 (b.toNat : Int))) p lB sB V L (setF f n b) M S := by
  obtain ⟨sc, qv, hp⟩ := h.pq
  exact ⟨⟨sc, qv, hp.set_ h.lt.ms n _⟩, h.lt.save b, h.mb, h.bel.setCell (p := ⟨sB, n, none⟩) h.lt.bs _⟩
theorem Kin.congr (h : Kin w W p lB sB V L f M S) {f' : Nat → UInt8} (hf : ∀ k, k < 40 → f k = f' k) : Kin w W p lB sB V L f' M S := ⟨h.pq, h.lt.congr hf, h.mb, h.bel⟩
/-- the rows are made anew -/
theorem Kin.fresh (h : Kin w W p lB sB V L f M S) : ∃ M', Kin w (W.alloc (.cells (madeCells #[.slice none 0 0] 40) 30)) p W.heap.size sB nilV (fun _ => []) f M' S := by
  obtain ⟨cs, h1, h2⟩ := h.lt.safe
  have hsl := h1.lt
  have hbs := h.bel.size
  exact ⟨_, h.pq.alloc _, Lt.fresh ⟨cs, h1.alloc _, h2⟩ (Blk.new W _ _) (by omega) hbs h.lt.bs (.inr rfl) (.inl h.lt.ms), fun k hk => .inl (h.mb k hk), h.bel.alloc hbs _⟩
end
end Go.Proofs.Ytjmjhjckdcniiaa.Plate
