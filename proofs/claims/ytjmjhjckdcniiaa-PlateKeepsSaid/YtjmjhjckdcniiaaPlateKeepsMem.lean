/- The rows of bytes that the statement PlateKeeps makes, in memory. -/
import Derived.Test.YtjmjhjckdcniiaaPlateKeepsMath
import Derived.Deep.AppendLies
import Derived.Deep.RegionLaw
namespace Go.Proofs.Ytjmjhjckdcniiaa.Plate
open Go.RowKit
open Go.Proofs.Ytjmjhjckdcniiaa.Mem

def bcells (l : List UInt8) : List Value := l.map fun b => .int .u8 (b.toNat : Int)
theorem bcells_snoc (l : List UInt8) (b : UInt8) : bcells l ++ [.int .u8 (b.toNat : Int)] = bcells (l ++ [b]) := by simp [bcells]

/-- what was synced last (f), and the rows of what was written later (L, whose values are V) -/
structure Lt (B : Nat) (w : World) (lB sB : Nat) (V : Nat → Value) (L : Nat → List UInt8) (f : Nat → UInt8) (M : Nat → Prop) : Prop where
  safe : ∃ cs, Blk w sB 5 cs ∧ cs.size = 40 ∧ ∀ k, k < 40 → cs[k]? = some (.int .u8 ((f k).toNat : Int))
  row : ∃ cs, Blk w lB 30 cs ∧ cs.size = 40 ∧ ∀ k, k < 40 → cs[k]? = some (V k)
  own : ∀ k, k < 40 → w.ownsRow B 5 1 (V k) (L k).length (bcells (L k))
  apart : ∀ j k, j < 40 → k < 40 → j ≠ k → ∀ g, (V j).ownBlock = some g → (V k).ownBlock ≠ some g
  nl : ∀ k, k < 40 → (V k).ownBlock ≠ some lB
  ns : ∀ k, k < 40 → (V k).ownBlock ≠ some sB
  ls : lB ≠ sB
  bl : B ≤ lB
  bs : B ≤ sB
  ml : M lB
  ms : M sB
  mv : ∀ k, k < 40 → ∀ g, (V k).ownBlock = some g → M g
section
variable {B : Nat} {w w' : World} {lB sB p : Nat} {V : Nat → Value} {L : Nat → List UInt8} {f : Nat → UInt8} {M : Nat → Prop} {S : PS}
theorem Lt.keep (h : Lt B w lB sB V L f M) (hk : Keep M w w') : Lt B w' lB sB V L f M := by
  obtain ⟨cs, h1, h2⟩ := h.safe
  obtain ⟨ds, h3, h4⟩ := h.row
  exact ⟨⟨cs, hk.blk h1 h.ms, h2⟩, ⟨ds, hk.blk h3 h.ml, h4⟩, fun k hk' => own_same (h.own k hk') (fun g hg => hk.block g (h.mv k hk' g hg)), h.apart, h.nl, h.ns, h.ls, h.bl, h.bs, h.ml, h.ms, h.mv⟩
theorem Lt.get (h : Lt B w lB sB V L f M) {k : Nat} (hk : k < 40) : w.cell? ⟨sB, k, none⟩ = some (.int .u8 ((f k).toNat : Int)) ∧ w.frozen? ⟨sB, k, none⟩ = false ∧ w.cell? ⟨lB, k, none⟩ = some (V k) ∧ w.frozen? ⟨lB, k, none⟩ = false := by
  obtain ⟨cs, h1, h2, h5⟩ := h.safe
  obtain ⟨ds, h3, h4, h6⟩ := h.row
  exact ⟨(h1.cell k).trans (h5 k hk), h1.frozen k, (h3.cell k).trans (h6 k hk), h3.frozen k⟩
/-- the i-th byte of a row -/
theorem Lt.byte (h : Lt B w lB sB V L f M) {k i : Nat} (hk : k < 40) (hi : i < (L k).length) : ∃ g cap, V k = .slice (some ⟨g, 0, none⟩) (L k).length cap ∧ w.cell? ⟨g, i, none⟩ = some (.int .u8 (((L k).getD i 0).toNat : Int)) := by
  obtain ⟨g, cap, e, -, -, hc⟩ := own_pos (h.own k hk) (by omega)
  refine ⟨g, cap, e, (hc i (by omega)).trans ?_⟩
  simp [bcells, List.getD, hi]
/-- a byte is put behind a row -/
theorem Lt.push (h : Lt B w lB sB V L f M) (_hlt : ∀ k, M k → k < w.heap.size) {n g cap : Nat} {b : UInt8} (hn : n < 40)
    (ho : w'.ownsRow B 5 1 (.slice (some ⟨g, 0, none⟩) ((L n).length + 1) cap) ((L n).length + 1) (bcells (L n) ++ [.int .u8 (b.toNat : Int)])) (hg : w.grownBy w' (V n).ownBlock) (ha : (V n).ownBlock = some g ∨ g = w.heap.size) (_hgl : g < w'.heap.size) :
    Lt B (w'.setCell ⟨lB, n, none⟩ (.slice (some ⟨g, 0, none⟩) ((L n).length + 1) cap)) lB sB (setF V n (.slice (some ⟨g, 0, none⟩) ((L n).length + 1) cap)) (setF L n (L n ++ [b])) f (fun k => M k ∨ k = g) := by
  obtain ⟨cs, h1, h2⟩ := h.safe
  obtain ⟨ds, h3, h4, h5⟩ := h.row
  have hll := h3.lt
  have hsl := h1.lt
  have gl : g ≠ lB := by rcases ha with e | e; intro e2; exact h.nl n hn (e2 ▸ e); omega
  have gs : g ≠ sB := by rcases ha with e | e; intro e2; exact h.ns n hn (e2 ▸ e); omega
  have gk : ∀ k, k < 40 → k ≠ n → (V k).ownBlock ≠ some g := by
    intro k hk hkn
    rcases ha with e | e
    · exact h.apart n k hn hk (fun e => hkn e.symm) g e
    · intro e2; have := own_lt (h.own k hk) e2; omega
  refine ⟨⟨cs, (h1.grown hg (fun e => h.ns n hn e.symm)).far (show sB ≠ lB from fun e => h.ls e.symm) _, h2⟩, ⟨_, (h3.grown hg (fun e => h.nl n hn e.symm)).set_ n _, by simpa using h4, fun k hk => ?_⟩, fun k hk => ?_, ?_, ?_, ?_, h.ls, h.bl, h.bs, .inl h.ml, .inl h.ms, ?_⟩
  · by_cases hkn : k = n
    · subst hkn; rw [setF_same]; simp [h4, hk]
    · rw [setF_other _ _ hkn, Array.getElem?_setIfInBounds_ne (fun e => hkn e.symm)]; exact h5 k hk
  · by_cases hkn : k = n
    · subst hkn
      rw [setF_same, setF_same, List.length_append, ← bcells_snoc]
      exact own_set ho (by simp [Value.ownBlock]; exact gl) _ _
    · rw [setF_other _ _ hkn, setF_other _ _ hkn]
      refine own_set (own_same (h.own k hk) fun g' hg' => ?_) (h.nl k hk) _ _
      refine hg.block g' (own_lt (h.own k hk) hg') (fun e => ?_)
      exact h.apart k n hk hn hkn g' hg' e.symm
  · intro j k hj hk hjk g' hg'
    by_cases hjn : j = n
    · subst hjn
      rw [setF_same] at hg'
      simp [Value.ownBlock] at hg'
      subst hg'
      rw [setF_other _ _ (fun e => hjk e.symm)]
      exact gk k hk (fun e => hjk e.symm)
    · rw [setF_other _ _ hjn] at hg'
      by_cases hkn : k = n
      · subst hkn
        rw [setF_same]
        simp [Value.ownBlock]
        intro e; exact gk j hj hjn (e ▸ hg')
      · rw [setF_other _ _ hkn]; exact h.apart j k hj hk hjk g' hg'
  · intro k hk
    by_cases hkn : k = n
    · subst hkn; rw [setF_same]; simp [Value.ownBlock]; exact gl
    · rw [setF_other _ _ hkn]; exact h.nl k hk
  · intro k hk
    by_cases hkn : k = n
    · subst hkn; rw [setF_same]; simp [Value.ownBlock]; exact gs
    · rw [setF_other _ _ hkn]; exact h.ns k hk
  · intro k hk g' hg'
    by_cases hkn : k = n
    · subst hkn; rw [setF_same] at hg'; simp [Value.ownBlock] at hg'; exact .inr hg'.symm
    · rw [setF_other _ _ hkn] at hg'; exact .inl (h.mv k hk g' hg')
theorem PQ.push (hp : PQ w p M S) (h : Lt B w lB sB V L f M) {n g : Nat} {v : Value} (hn : n < 40) (hg : w.grownBy w' (V n).ownBlock) (ha : (V n).ownBlock = some g ∨ g = w.heap.size) (hgl : g < w'.heap.size) :
    PQ (w'.setCell ⟨lB, n, none⟩ v) p (fun k => M k ∨ k = g) S := by
  refine hp.step (by simpa using hg.size) (fun k hk hm => ?_) (fun k hk => ?_)
  · refine (Below.heap_setCell w' ⟨lB, n, none⟩ v k (fun e => hm ((show k = lB from e) ▸ h.ml))).trans (hg.block k hk (fun e => hm (h.mv n hn k e.symm)))
  · rcases hk with hk | hk
    · exact .inl hk
    · subst hk
      rcases ha with e | e
      · exact .inl (h.mv n hn k e)
      · right; simp; omega
/-- what is synced is noted -/
theorem Lt.save (h : Lt B w lB sB V L f M) {n : Nat} (b : UInt8) : Lt B (w.setCell ⟨sB, n, none⟩ (.int .u8 (b.toNat : Int))) lB sB V L (setF f n b) M := by
  obtain ⟨cs, h1, h2, h3⟩ := h.safe
  obtain ⟨ds, h4, h5⟩ := h.row
  refine ⟨⟨_, h1.set_ n _, by simpa using h2, fun k hk => ?_⟩, ⟨ds, h4.far (show lB ≠ sB from h.ls) _, h5⟩, fun k hk => own_set (h.own k hk) (h.ns k hk) _ _, h.apart, h.nl, h.ns, h.ls, h.bl, h.bs, h.ml, h.ms, h.mv⟩
  by_cases hkn : k = n
  · subst hkn; rw [setF_same]; simp [h2, hk]
  · rw [setF_other _ _ hkn, Array.getElem?_setIfInBounds_ne (fun e => hkn e.symm)]; exact h3 k hk
theorem Lt.congr (h : Lt B w lB sB V L f M) {f' : Nat → UInt8} (hf : ∀ k, k < 40 → f k = f' k) : Lt B w lB sB V L f' M := by
  obtain ⟨cs, h1, h2, h3⟩ := h.safe
  exact ⟨⟨cs, h1, h2, fun k hk => by rw [← hf k hk]; exact h3 k hk⟩, h.row, h.own, h.apart, h.nl, h.ns, h.ls, h.bl, h.bs, h.ml, h.ms, h.mv⟩
theorem own_ge {g n size : Nat} {t : TypeId} {v : Value} {xs : List Value} (h : w.ownsRow B t size v n xs) (hg : v.ownBlock = some g) : B ≤ g := by
  obtain ⟨_, ⟨rfl, _⟩ | ⟨g', cap, cur, rfl, hb, _⟩⟩ := h
  · cases hg
  · cases hg; exact hb
end
def nilV : Nat → Value := fun _ => .slice none 0 0
theorem Lt.fresh {B : Nat} {w : World} {lB sB : Nat} {f : Nat → UInt8} {M : Nat → Prop} (hs : ∃ cs, Blk w sB 5 cs ∧ cs.size = 40 ∧ ∀ k, k < 40 → cs[k]? = some (.int .u8 ((f k).toNat : Int))) (hl : Blk w lB 30 (madeCells #[.slice none 0 0] 40)) (ls : lB ≠ sB) (bl : B ≤ lB) (bs : B ≤ sB) (ml : M lB) (ms : M sB) :
    Lt B w lB sB nilV (fun _ => []) f M :=
  ⟨hs, ⟨_, hl, by simp [madeCells], fun k hk => by simp [madeCells, hk, nilV, Nat.mod_one]⟩, fun k _ => own_nil _ _ _ _, fun j k _ _ _ g hg => by simp [nilV, Value.ownBlock] at hg, fun k _ => by simp [nilV, Value.ownBlock], fun k _ => by simp [nilV, Value.ownBlock], ls, bl, bs, ml, ms, fun k _ g hg => by simp [nilV, Value.ownBlock] at hg⟩

theorem info_byterow : (Try.prog.info? 30).map (fun i => (i.zero, i.size, i.bytes)) = some (some (.slice none 0 0), 1, 24) := by kernel_rfl
theorem run_rows (w : World) :
    (Instr.makeSlice 31 (.int .i64 40) (.int .i64 40)).run Try.prog w = .ok (.slice (some ⟨w.heap.size, 0, none⟩) 40 40) (w.alloc (.cells (madeCells #[.slice none 0 0] 40) 30)) := by
  obtain ⟨i0, hi, hz0, hz1, hz2⟩ := info_parts info_byterow
  have h := run_make (P := Try.prog) w 31 30 i0 _ Try.underlying31 hi hz0 .i64 .i64 40 40 (by omega) (Int.le_refl _) (by rw [hz2]; omega) (by omega)
  rw [hz1] at h
  simpa [Value.cells] using h
theorem run_bytes40 (w : World) :
    (Instr.makeSlice 30 (.int .i64 40) (.int .i64 40)).run Try.prog w = .ok (.slice (some ⟨w.heap.size, 0, none⟩) 40 40) (w.alloc (.cells (madeCells #[.int .u8 0] 40) 5)) := run_made 40 (by decide) w

/-- append of one byte, as a step of a region that draws its order -/
theorem step_app_byte {ops : Array Oper} {o : Oper} {a : Act} {w : World} {K : Act → World → Prop} {Q : Exit → Act → World → Prop} {E : Prop}
    (hg : o.guard = none) (s x : Operand) (hop : o.op = Op.call { callee := Callee.builtin Builtin.append, args := #[s, x], argTypes := #[30, 30] }) (v : Value) (l : List UInt8) (b : UInt8) (gn B : Nat)
    (hs : a.eval s = v) (hx : a.eval x = .slice (some ⟨gn, 0, none⟩) 1 1) (hl : l.length ≤ 1000) (hbase : B ≤ w.heap.size)
    (hown : w.ownsRow B 5 1 v l.length (bcells l)) (hN : Blk w gn 5 #[.int .u8 (b.toNat : Int)])
    (hK : ∀ (g cap : Nat) (w' : World), w'.ownsRow B 5 1 (.slice (some ⟨g, 0, none⟩) (l.length + 1) cap) (l.length + 1) (bcells l ++ [.int .u8 (b.toNat : Int)]) → w.grownBy w' v.ownBlock → (v.ownBlock = some g ∨ g = w.heap.size) → g < w'.heap.size → K (a.put o.dst (.slice (some ⟨g, 0, none⟩) (l.length + 1) cap)) w') :
    if Region.wanted o (yielded ops a.tmps) = true then Oper.wp Try.prog o a w K Q else E := by
  obtain ⟨i0, hi, hz0, hz1, hz2⟩ := info_parts info_u8
  refine step_append_lies w hg s x 30 hop B 5 i0 (.int .u8 0) 1 1 Try.underlying30 hi hz0 hz1 hz2 rfl (by decide) v l.length (bcells l) hs hown ⟨gn, 0, none⟩ 1 1 [.int .u8 (b.toNat : Int)] hx rfl ?_ ?_ (by decide) (by unfold maxLen; omega) (by omega) hbase _ rfl ?_
  · intro j u hj
    have e : (Addr.mk gn 0 none).add j = ⟨gn, j, none⟩ := by unfold Addr.add; split <;> simp_all
    rw [e, hN.cell j]
    simpa using hj
  · intro u hu
    simp at hu
    subst hu; rfl
  · intro g cap w' h1 h2 h3 h4
    exact hK g cap w' h1 h2 h3 h4
end Go.Proofs.Ytjmjhjckdcniiaa.Plate
