/- The talk in memory: two ends and five rows; a datagram that comes, an end that sends. -/
import Derived.Test.YtbbikibkijncgaaCordTexts
import Derived.Test.YtbbikibkijncgaaCordStage
namespace Go.Proofs.Ytbbikibkijncgaa.Cord
set_option maxRecDepth 100000
open Go.RowKit
open Go.Proofs.Ytbbikibkijncgaa.Mem
def sentC (x : Gm × Bool) : List Value := (gmV x.1).toList ++ [.bool x.2]
def sentV (l : List (Gm × Bool)) : List Value := l.flatMap sentC
theorem sentC_len (x : Gm × Bool) : (sentC x).length = 7 := by simp [sentC, gmV]
theorem sent_len : ∀ l : List (Gm × Bool), (sentV l).length = l.length * 7
  | [] => rfl
  | g :: r => by
    have := sent_len r
    unfold sentV at this ⊢
    rw [List.flatMap_cons, List.length_append, this, List.length_cons, sentC_len]; omega
theorem sent_app (a b : List (Gm × Bool)) : sentV (a ++ b) = sentV a ++ sentV b := by simp [sentV]
theorem sent_one (x : Gm × Bool) : sentV [x] = sentC x := by simp [sentV]
theorem sent_at : ∀ (l : List (Gm × Bool)) (i : Nat) (g : Gm × Bool), l[i]? = some g → ∀ j, j < 7 → (sentV l)[i * 7 + j]? = (sentC g)[j]?
  | [], i, g, h, j, hj => by simp at h
  | y :: r, 0, g, h, j, hj => by
    obtain rfl : y = g := by simpa using h
    unfold sentV
    rw [List.flatMap_cons, List.getElem?_append_left (by rw [sentC_len]; omega)]; congr 1; omega
  | y :: r, i + 1, g, h, j, hj => by
    have := sent_at r i g (by simpa using h) j hj
    unfold sentV at this ⊢
    rw [List.flatMap_cons, List.getElem?_append_right (by rw [sentC_len]; omega), ← this]
    congr 1; rw [sentC_len]; omega
theorem sent_onecell (l : List (Gm × Bool)) : ∀ v ∈ sentV l, v.oneCell' = true := by
  intro v hv
  obtain ⟨x, _, hx⟩ := List.mem_flatMap.1 hv
  simp [sentC, gmV] at hx
  rcases hx with rfl | rfl | rfl | rfl | rfl | rfl | rfl <;> rfl
theorem info_sent : (Try.prog.info? 58).map (fun i => (i.zero, i.size, i.bytes)) = some (some (.agg #[.int .i64 0, .bool false, .int .i64 0, .int .i64 0, .int .i64 0, .string .empty, .bool false]), 7, 64) := by kernel_rfl
/-- the talk's own blocks -/
def TM (tp : Nat) (V : Nat → Value) (k : Nat) : Prop := k = tp ∨ ∃ i, i < 5 ∧ (V i).ownBlock = some k
structure TQ (W0 w : World) (tp a b n : Nat) (V : Nat → Value) (X : Nat → Prop) (t : TS) : Prop where
  blk : Blk w tp 60 #[.pointer (some ⟨a, 0, none⟩), .pointer (some ⟨b, 0, none⟩), V 0, V 1, V 2, V 3, V 4]
  r0 : w.ownsRow W0.heap.size 9 1 (V 0) t.tA.length (strsV t.tA)
  r1 : w.ownsRow W0.heap.size 9 1 (V 1) t.tB.length (strsV t.tB)
  r2 : w.ownsRow W0.heap.size 9 1 (V 2) t.aA.length (strsV t.aA)
  r3 : w.ownsRow W0.heap.size 9 1 (V 3) t.aB.length (strsV t.aB)
  r4 : w.ownsRow W0.heap.size 58 7 (V 4) t.pl.length (sentV t.pl)
  dis : ∀ i j g, i < 5 → j < 5 → i ≠ j → (V i).ownBlock = some g → (V j).ownBlock ≠ some g
  tp0 : ∀ i, i < 5 → (V i).ownBlock ≠ some tp
  tp1 : W0.heap.size ≤ tp
  two : Two W0 w a b n n t.A t.B (fun k => TM tp V k ∨ X k)
  dx : ∀ k, X k → ¬ TM tp V k
  lx : ∀ k, X k → W0.heap.size ≤ k
section
variable {W0 w w' : World} {tp a b n : Nat} {V : Nat → Value} {X : Nat → Prop} {t : TS}
theorem TQ.bel (h : TQ W0 w tp a b n V X t) : Below W0.heap.size W0 w := h.two.bel
theorem TQ.tm (h : TQ W0 w tp a b n V X t) : ∀ k, TM tp V k → W0.heap.size ≤ k ∧ k < w.heap.size := by
  rintro k (rfl | ⟨i, hi, hk⟩)
  · exact ⟨h.tp1, h.blk.lt⟩
  · rcases (show i = 0 ∨ i = 1 ∨ i = 2 ∨ i = 3 ∨ i = 4 by omega) with rfl | rfl | rfl | rfl | rfl
    · exact ⟨own_ge h.r0 k hk, own_lt h.r0 hk⟩
    · exact ⟨own_ge h.r1 k hk, own_lt h.r1 hk⟩
    · exact ⟨own_ge h.r2 k hk, own_lt h.r2 hk⟩
    · exact ⟨own_ge h.r3 k hk, own_lt h.r3 hk⟩
    · exact ⟨own_ge h.r4 k hk, own_lt h.r4 hk⟩
/-- an end has worked: the talk's own blocks are as they were -/
theorem TQ.keep (h : TQ W0 w tp a b n V X t) (hk : Keep (TM tp V) w w') {n' : Nat} {A B : CE} (h2 : Two W0 w' a b n' n' A B (fun k => TM tp V k ∨ X k)) : TQ W0 w' tp a b n' V X { t with A := A, B := B } :=
  ⟨hk.blk h.blk (.inl rfl), own_same h.r0 fun g hg => hk.block g (.inr ⟨0, by omega, hg⟩), own_same h.r1 fun g hg => hk.block g (.inr ⟨1, by omega, hg⟩), own_same h.r2 fun g hg => hk.block g (.inr ⟨2, by omega, hg⟩),
    own_same h.r3 fun g hg => hk.block g (.inr ⟨3, by omega, hg⟩), own_same h.r4 fun g hg => hk.block g (.inr ⟨4, by omega, hg⟩), h.dis, h.tp0, h.tp1, h2, h.dx, h.lx⟩
theorem TQ.below (h : TQ W0 w tp a b n V X t) (hb : Below w.heap.size w w') : TQ W0 w' tp a b n V X t :=
  h.keep (Keep.of_below hb fun k hk => (h.tm k hk).2) ((h.two.below hb).less fun _ hk => .inl hk)
theorem TQ.mono (h : TQ W0 w tp a b n V X t) {m : Nat} (hm : n ≤ m) : TQ W0 w tp a b m V X t :=
  ⟨h.blk, h.r0, h.r1, h.r2, h.r3, h.r4, h.dis, h.tp0, h.tp1, h.two.mono hm hm, h.dx, h.lx⟩
def put5 (V : Nat → Value) (i : Nat) (v : Value) : Nat → Value := fun j => if j = i then v else V j
/-- row i laid anew -/
theorem TQ.laid (h : TQ W0 w tp a b n V X t) {i : Nat} (hi : i < 5) {v : Value} {t' : TS} {w1 : World} (hg : w.grownBy w1 (V i).ownBlock) (hv : v.ownBlock = (V i).ownBlock ∨ v.ownBlock = some w.heap.size)
    (hA : t'.A = t.A) (hB : t'.B = t.B)
    (h0 : if i = 0 then w1.ownsRow W0.heap.size 9 1 v t'.tA.length (strsV t'.tA) else t'.tA = t.tA)
    (h1 : if i = 1 then w1.ownsRow W0.heap.size 9 1 v t'.tB.length (strsV t'.tB) else t'.tB = t.tB)
    (h2 : if i = 2 then w1.ownsRow W0.heap.size 9 1 v t'.aA.length (strsV t'.aA) else t'.aA = t.aA)
    (h3 : if i = 3 then w1.ownsRow W0.heap.size 9 1 v t'.aB.length (strsV t'.aB) else t'.aB = t.aB)
    (h4 : if i = 4 then w1.ownsRow W0.heap.size 58 7 v t'.pl.length (sentV t'.pl) else t'.pl = t.pl) :
    TQ W0 (w1.setCell ⟨tp, 2 + i, none⟩ v) tp a b n (put5 V i v) X t' ∧ Keep X w (w1.setCell ⟨tp, 2 + i, none⟩ v) := by
  have hne : ∀ j, j < 5 → j ≠ i → ∀ g, (V j).ownBlock = some g → some g ≠ (V i).ownBlock := fun j hj hji g hg1 hg2 => h.dis j i g hj hi hji hg1 hg2.symm
  have hvt : v.ownBlock ≠ some tp := by
    rcases hv with e | e <;> rw [e]
    · exact h.tp0 i hi
    · intro x; injection x; have := h.blk.lt; omega
  have hold : ∀ (j : Nat) (ty : TypeId) (sz m : Nat) (xs : List Value), j < 5 → j ≠ i → w.ownsRow W0.heap.size ty sz (V j) m xs → (w1.setCell ⟨tp, 2 + i, none⟩ v).ownsRow W0.heap.size ty sz (put5 V i v j) m xs := fun j ty sz m xs hj hji ho => by
    have : put5 V i v j = V j := by unfold put5; rw [if_neg hji]
    rw [this]
    exact own_set (own_same ho fun g hg1 => hg.block g (own_lt ho hg1) (hne j hj hji g hg1)) (h.tp0 j hj) _ _
  have hnew : put5 V i v i = v := by unfold put5; rw [if_pos rfl]
  have hb1 := (h.blk.grown hg (fun x => h.tp0 i hi x.symm)).set_ (2 + i) v
  have hT : Touch (TM tp V) w (w1.setCell ⟨tp, 2 + i, none⟩ v) := ((Touch.refl _ w).grown hg (fun k hk => .inl (.inr ⟨i, hi, hk⟩))).set_ (.inl (.inl rfl)) _ _
  have hsz := hT.size
  refine ⟨⟨?_, ?_, ?_, ?_, ?_, ?_, fun j k g hj hk hjk hgj hgk => ?_, fun j hj => ?_, h.tp1, ?_, fun k hx hk => ?_, h.lx⟩, Keep.mono hT fun k hk => ⟨h.two.lt k (.inr hk), h.dx k hk⟩⟩
  · rcases (show i = 0 ∨ i = 1 ∨ i = 2 ∨ i = 3 ∨ i = 4 by omega) with rfl | rfl | rfl | rfl | rfl <;> simpa [put5] using hb1
  · by_cases e : i = 0
    · subst e; rw [if_pos rfl] at h0; rw [hnew]; exact own_set h0 hvt _ _
    · rw [if_neg e] at h0; rw [h0]; exact hold 0 _ _ _ _ (by omega) (fun x => e x.symm) h.r0
  · by_cases e : i = 1
    · subst e; rw [if_pos rfl] at h1; rw [hnew]; exact own_set h1 hvt _ _
    · rw [if_neg e] at h1; rw [h1]; exact hold 1 _ _ _ _ (by omega) (fun x => e x.symm) h.r1
  · by_cases e : i = 2
    · subst e; rw [if_pos rfl] at h2; rw [hnew]; exact own_set h2 hvt _ _
    · rw [if_neg e] at h2; rw [h2]; exact hold 2 _ _ _ _ (by omega) (fun x => e x.symm) h.r2
  · by_cases e : i = 3
    · subst e; rw [if_pos rfl] at h3; rw [hnew]; exact own_set h3 hvt _ _
    · rw [if_neg e] at h3; rw [h3]; exact hold 3 _ _ _ _ (by omega) (fun x => e x.symm) h.r3
  · by_cases e : i = 4
    · subst e; rw [if_pos rfl] at h4; rw [hnew]; exact own_set h4 hvt _ _
    · rw [if_neg e] at h4; rw [h4]; exact hold 4 _ _ _ _ (by omega) (fun x => e x.symm) h.r4
  · unfold put5 at hgj hgk
    split at hgj
    · rename_i e1
      rw [if_neg (by omega)] at hgk
      rcases hv with e | e <;> rw [e] at hgj
      · exact h.dis i k g hi hk (by omega) hgj hgk
      · injection hgj with hgj
        have := (h.tm g (.inr ⟨k, hk, hgk⟩)).2
        omega
    · split at hgk
      · rename_i e1 e2
        rcases hv with e | e <;> rw [e] at hgk
        · exact h.dis j i g hj hi (by omega) hgj hgk
        · injection hgk with hgk
          have := (h.tm g (.inr ⟨j, hj, hgj⟩)).2
          omega
      · exact h.dis j k g hj hk hjk hgj hgk
  · unfold put5
    split
    · exact hvt
    · exact h.tp0 j hj
  · rw [hA, hB]
    refine (h.two.other (hT.mono fun k hk => .inl hk) (fun k hk => hk.elim (fun x => (h.tm k x).1) (h.lx k))).less fun k hk => ?_
    rcases hk with (rfl | ⟨j, hj, hk⟩) | hk
    · exact .inl (.inl (.inl rfl))
    · unfold put5 at hk
      split at hk
      · rcases hv with e | e <;> rw [e] at hk
        · exact .inl (.inl (.inr ⟨i, hi, hk⟩))
        · injection hk with hk
          refine .inr ⟨by omega, ?_⟩
          have : v.ownBlock = some k := by rw [e, hk]
          have h9 : k < w1.heap.size := by
            rcases (show i = 0 ∨ i = 1 ∨ i = 2 ∨ i = 3 ∨ i = 4 by omega) with rfl | rfl | rfl | rfl | rfl
            · exact own_lt (by simpa using h0) this
            · exact own_lt (by simpa using h1) this
            · exact own_lt (by simpa using h2) this
            · exact own_lt (by simpa using h3) this
            · exact own_lt (by simpa using h4) this
          simpa using h9
      · exact .inl (.inl (.inr ⟨j, hj, hk⟩))
    · exact .inl (.inr hk)
  · have hlt := h.two.lt k (.inr hx)
    rcases hk with rfl | ⟨j, hj, hk⟩
    · exact h.dx k hx (.inl rfl)
    · unfold put5 at hk
      split at hk
      · rcases hv with e | e <;> rw [e] at hk
        · exact h.dx k hx (.inr ⟨i, hi, hk⟩)
        · injection hk with hk; omega
      · exact h.dx k hx (.inr ⟨j, hj, hk⟩)
theorem TQ.keepX (h : TQ W0 w tp a b n V X t) (hb : Below w.heap.size w w') : Keep X w w' := Keep.of_below hb fun k hk => h.two.lt k (.inr hk)
/-- rows of the call's own, made since, are guarded, too -/
theorem TQ.guard (h : TQ W0 w tp a b n V X t) {Y : Nat → Prop} (h2 : Two W0 w a b n n t.A t.B (fun k => TM tp V k ∨ Y k)) (hy : ∀ k, Y k → ¬ TM tp V k) (ly : ∀ k, Y k → W0.heap.size ≤ k) : TQ W0 w tp a b n V Y t :=
  ⟨h.blk, h.r0, h.r1, h.r2, h.r3, h.r4, h.dis, h.tp0, h.tp1, h2, hy, ly⟩
theorem TQ.less (h : TQ W0 w tp a b n V X t) {Y : Nat → Prop} (hy : ∀ k, Y k → X k) : TQ W0 w tp a b n V Y t :=
  h.guard (h.two.less fun k hk => hk.imp id (hy k)) (fun k hk => h.dx k (hy k hk)) (fun k hk => h.lx k (hy k hk))
end
end Go.Proofs.Ytbbikibkijncgaa.Cord
