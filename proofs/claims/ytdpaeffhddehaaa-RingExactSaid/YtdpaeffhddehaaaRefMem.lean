/- The document's own ring in memory; the walks of its place, vacant, on. -/
import Derived.Test.YtdpaeffhddehaaaRingSMem
import Derived.Test.YtdpaeffhddehaaaRingTrack
import Derived.StillTailTactics
import Derived.Deep.LoopGhost
import Derived.Deep.CutBlock
import Derived.Deep.DeepCutAuto
namespace Go.Proofs.Ytdpaeffhddehaaa.Ref
set_option maxRecDepth 100000
open Go.RowKit
open Go.Proofs.Ytdpaeffhddehaaa.Mem
open Go.Proofs.Ytdpaeffhddehaaa.Ring
attribute [local go_sem] Oper.semAt_some
abbrev Thing := Th ByteArray
abbrev RState := RS ByteArray
theorem ret_bool' {a b : Bool} (h : a = b) : Ending.returned (.bool a) = .returned (.bool b) := by rw [h]
theorem ret_int' {a b : Int} (h : a = b) : Ending.returned (.int .i64 a) = .returned (.int .i64 b) := by rw [h]
def frC : Option Thing → List Value
  | none => [.bool false, .int .i64 0, .string ⟨#[]⟩, .int .i64 0, .bool false]
  | some t => [.bool true, .int .i64 t.key, .string t.val, .int .i64 (t.pins : Int), .bool t.fresh]
theorem frC_len (x : Option Thing) : (frC x).length = 5 := by cases x <;> rfl
structure UA (w : World) (u lb : Nat) (S : RState) : Prop where
  blk : Blk w u 71 #[.slice (some ⟨lb, 0, none⟩) S.N S.N, .int .i64 (S.hand : Int)]
  row : ∃ cs, Blk w lb 35 cs ∧ cs.size = S.N * 5 ∧ ∀ i, i < S.N → ∀ j, j < 5 → cs[i * 5 + j]? = (frC (S.f i))[j]?
  ne : u ≠ lb
  wf : S.wf
/-- what a call leaves of the other blocks -/
abbrev Apart (w : World) (u lb : Nat) (k : Nat) : Prop := k < w.heap.size ∧ k ≠ u ∧ k ≠ lb
section
variable {w w' : World} {u lb : Nat} {S : RState}
theorem UA.of_blocks (h : UA w u lb S) (h1 : w'.heap[u]? = w.heap[u]?) (h2 : w'.heap[lb]? = w.heap[lb]?) : UA w' u lb S := by
  obtain ⟨cs, r1, r2⟩ := h.row
  exact ⟨h1.trans h.blk, ⟨cs, h2.trans r1, r2⟩, h.ne, h.wf⟩
theorem UA.lu (h : UA w u lb S) : u < w.heap.size := h.blk.lt
theorem UA.ll (h : UA w u lb S) : lb < w.heap.size := by obtain ⟨cs, r1, -⟩ := h.row; exact r1.lt
theorem UA.below (h : UA w u lb S) (hb : Below w.heap.size w w') : UA w' u lb S := h.of_blocks (hb.block u h.lu) (hb.block lb h.ll)
theorem UA.keep {M : Nat → Prop} (h : UA w u lb S) (hk : Keep M w w') (h1 : M u) (h2 : M lb) : UA w' u lb S := h.of_blocks (hk.block u h1) (hk.block lb h2)
theorem UA.get (h : UA w u lb S) : w.cell? ⟨u, 0, none⟩ = some (.slice (some ⟨lb, 0, none⟩) S.N S.N) ∧ w.cell? ⟨u, 1, none⟩ = some (.int .i64 (S.hand : Int)) ∧ w.frozen? ⟨u, 1, none⟩ = false := ⟨h.blk.cell 0, h.blk.cell 1, h.blk.frozen 1⟩
theorem UA.cell (h : UA w u lb S) {i : Nat} (hi : i < S.N) (j : Nat) (hj : j < 5) : w.cell? ⟨lb, i * 5 + j, none⟩ = (frC (S.f i))[j]? ∧ w.frozen? ⟨lb, i * 5 + j, none⟩ = false := by
  obtain ⟨cs, r1, -, r3⟩ := h.row
  exact ⟨(r1.cell _).trans (r3 i hi j hj), r1.frozen _⟩
theorem UA.off (h : UA w u lb S) {i : Nat} (hi : i < S.N) (hf : S.f i = none) : w.cell? ⟨lb, i * 5, none⟩ = some (.bool false) ∧ w.cell? ⟨lb, i * 5 + 1, none⟩ = some (.int .i64 0) ∧ w.cell? ⟨lb, i * 5 + 1 + 1, none⟩ = some (.string ⟨#[]⟩) ∧ w.cell? ⟨lb, i * 5 + 1 + 1 + 1, none⟩ = some (.int .i64 0) ∧ w.cell? ⟨lb, i * 5 + 1 + 1 + 1 + 1, none⟩ = some (.bool false) := by
  have c := fun j hj => (h.cell hi j hj).1
  rw [hf] at c
  exact ⟨c 0 (by omega), c 1 (by omega), c 2 (by omega), c 3 (by omega), c 4 (by omega)⟩
theorem UA.on_ (h : UA w u lb S) {i : Nat} {t : Thing} (hi : i < S.N) (hf : S.f i = some t) : w.cell? ⟨lb, i * 5, none⟩ = some (.bool true) ∧ w.cell? ⟨lb, i * 5 + 1, none⟩ = some (.int .i64 t.key) ∧ w.cell? ⟨lb, i * 5 + 1 + 1, none⟩ = some (.string t.val) ∧ w.cell? ⟨lb, i * 5 + 1 + 1 + 1, none⟩ = some (.int .i64 (t.pins : Int)) ∧ w.cell? ⟨lb, i * 5 + 1 + 1 + 1 + 1, none⟩ = some (.bool t.fresh) := by
  have c := fun j hj => (h.cell hi j hj).1
  rw [hf] at c
  exact ⟨c 0 (by omega), c 1 (by omega), c 2 (by omega), c 3 (by omega), c 4 (by omega)⟩
theorem UA.fro (h : UA w u lb S) {i : Nat} (hi : i < S.N) : w.frozen? ⟨lb, i * 5, none⟩ = false ∧ w.frozen? ⟨lb, i * 5 + 1, none⟩ = false ∧ w.frozen? ⟨lb, i * 5 + 1 + 1, none⟩ = false ∧ w.frozen? ⟨lb, i * 5 + 1 + 1 + 1, none⟩ = false ∧ w.frozen? ⟨lb, i * 5 + 1 + 1 + 1 + 1, none⟩ = false :=
  ⟨(h.cell hi 0 (by omega)).2, (h.cell hi 1 (by omega)).2, (h.cell hi 2 (by omega)).2, (h.cell hi 3 (by omega)).2, (h.cell hi 4 (by omega)).2⟩
theorem UA.setHand (h : UA w u lb S) (n : Nat) (hn : n < S.N) : UA (w.setCell ⟨u, 1, none⟩ (.int .i64 (n : Int))) u lb { S with hand := n } := by
  obtain ⟨cs, r1, r2⟩ := h.row
  refine ⟨?_, ⟨cs, r1.far (p := ⟨u, 1, none⟩) (fun e => h.ne e.symm) _, r2⟩, h.ne, ⟨h.wf.n1, h.wf.n2, hn⟩⟩
  have := h.blk.set_ 1 (.int .i64 (n : Int))
  simpa using this
theorem row_out {cs : Array Value} {N i j k l : Nat} (hj : j < 5) (hl : l < 5) (hne : k ≠ i) (v : Value) (hN : cs.size = N * 5) : (cs.setIfInBounds (i * 5 + j) v)[k * 5 + l]? = cs[k * 5 + l]? := by
  have := hN
  rw [Array.getElem?_setIfInBounds, if_neg (by omega)]
/-- one cell turned -/
theorem UA.setTh (h : UA w u lb S) {i j : Nat} {x : Option Thing} (hi : i < S.N) (hj : j < 5) (v : Value) (hc : (frC (S.f i)).set j v = frC x) : UA (w.setCell ⟨lb, i * 5 + j, none⟩ v) u lb (putAt S i x) := by
  obtain ⟨cs, r1, r2, r3⟩ := h.row
  refine ⟨h.blk.far (p := ⟨lb, i * 5 + j, none⟩) h.ne _, ⟨_, r1.set_ _ v, (by rw [Array.size_setIfInBounds]; exact r2), fun k hk l hl => ?_⟩, h.ne, putAt_wf h.wf _ _⟩
  rw [putAt_at]
  by_cases e : k = i
  · subst e
    rw [if_pos rfl, ← hc, List.getElem?_set, ← r3 k hi l hl, Array.getElem?_setIfInBounds]
    by_cases e2 : j = l
    · subst e2
      rw [if_pos rfl, if_pos (by rw [r2]; omega), if_pos rfl, if_pos (by rw [frC_len]; omega)]
    · rw [if_neg (by omega), if_neg e2]
  · rw [if_neg e, row_out hj hl e v r2]
    exact r3 k hk l hl
/-- a frame laid whole -/
theorem UA.lay (h : UA w u lb S) {i : Nat} (x : Option Thing) {a b c d e : Value} (hi : i < S.N) (hx : frC x = [a, b, c, d, e]) :
    UA (((((w.setCell ⟨lb, i * 5, none⟩ a).setCell ⟨lb, i * 5 + 1, none⟩ b).setCell ⟨lb, i * 5 + 2, none⟩ c).setCell ⟨lb, i * 5 + 3, none⟩ d).setCell ⟨lb, i * 5 + 4, none⟩ e) u lb (putAt S i x) := by
  obtain ⟨cs, r1, r2, r3⟩ := h.row
  refine ⟨((((h.blk.far (p := ⟨lb, i * 5, none⟩) h.ne _).far (p := ⟨lb, i * 5 + 1, none⟩) h.ne _).far (p := ⟨lb, i * 5 + 2, none⟩) h.ne _).far (p := ⟨lb, i * 5 + 3, none⟩) h.ne _).far (p := ⟨lb, i * 5 + 4, none⟩) h.ne _,
    ⟨_, ((((r1.set_ _ a).set_ _ b).set_ _ c).set_ _ d).set_ _ e, (by simp only [Array.size_setIfInBounds]; exact r2), fun k hk l hl => ?_⟩, h.ne, putAt_wf h.wf _ _⟩
  rw [putAt_at]
  have hk' : k < S.N := hk
  by_cases e1 : k = i
  · subst e1
    rw [if_pos rfl, hx]
    simp only [Array.getElem?_setIfInBounds, Array.size_setIfInBounds, r2]
    rcases (show l = 0 ∨ l = 1 ∨ l = 2 ∨ l = 3 ∨ l = 4 by omega) with rfl | rfl | rfl | rfl | rfl
    · rw [if_neg (by omega), if_neg (by omega), if_neg (by omega), if_neg (by omega), if_pos (by omega), if_pos (by omega)]; rfl
    · rw [if_neg (by omega), if_neg (by omega), if_neg (by omega), if_pos (by omega), if_pos (by omega)]; rfl
    · rw [if_neg (by omega), if_neg (by omega), if_pos (by omega), if_pos (by omega)]; rfl
    · rw [if_neg (by omega), if_pos (by omega), if_pos (by omega)]; rfl
    · rw [if_pos (by omega), if_pos (by omega)]; rfl
  · rw [if_neg e1]
    simp only [Array.getElem?_setIfInBounds]
    rw [if_neg (by omega), if_neg (by omega), if_neg (by omega), if_neg (by omega), if_neg (by omega)]
    exact r3 k hk' l hl
theorem apart_set {w0 : World} (h : Keep (Apart w0 u lb) w0 w) {g : Nat} (hg : g = u ∨ g = lb) (j : Nat) (v : Value) : Keep (Apart w0 u lb) w0 (w.setCell ⟨g, j, none⟩ v) :=
  h.set_ (fun hk => hg.elim (fun e => hk.2.1 e) (fun e => hk.2.2 e)) j v
set_option maxHeartbeats 1600000 in
theorem place_any (k : Int) (w : World) (h : UA w u lb S) :
    Calls Try.prog 39 #[.pointer (some ⟨u, 0, none⟩), .int .i64 k] w fun e w' => e = .returned (.int .i64 (idx (findS S k))) ∧ w = w' := by
  obtain ⟨c0, -, -⟩ := h.get
  have hN := h.wf.n2
  have HA := Lib.hid h
  obtain ⟨N, hN2⟩ : ∃ N, N = S.N := ⟨_, rfl⟩
  unfold findS
  rw [← hN2] at hN c0 ⊢
  have HN2 := Lib.hid hN2
  clear h hN2
  go_enter Try.func39, Try.ntmps39
  go_wp2
  go_loop [5] (fun i => ∃ m : Nat, m ≤ N ∧ i = .int .i64 (m : Int) ∧ Hid (∀ j, j < m → keyP S.f k j = false)) (fun i => N - (intOf i).toNat)
  case atStart => exact ⟨0, Nat.zero_le _, rfl, Lib.hid (fun j hj => absurd hj (Nat.not_lt_zero _))⟩
  case round =>
    obtain ⟨m, hm, rfl, H0⟩ := hrel
    by_cases hlt : m < N
    · have hlt' : m < S.N := by rw [← HN2.out]; exact hlt
      cases hf : S.f m with
      | none =>
        obtain ⟨d0, -⟩ := HA.out.off hlt' hf
        have HQ := Lib.hid (show ∀ j, j < m + 1 → keyP S.f k j = false from fun j hj => by
          by_cases e : j = m
          · subst e; exact keyP_not (fun t ht => by rw [hf] at ht; cases ht)
          · exact H0.out j (by omega))
        clear hf hlt'
        go_wp2
        go_round
        case rel => exact ⟨m + 1, by omega, by go_num, HQ⟩
        case measure => simp [intOf]; omega
      | some t =>
        obtain ⟨d0, d1, -⟩ := HA.out.on_ hlt' hf
        by_cases hk : t.key = k
        · have HQ := Lib.hid (fst_some (keyP_is.2 ⟨t, hf, hk⟩) H0.out hlt)
          subst hk
          clear hf hlt'
          go_wp2
          go_ret
          exact ⟨ret_int' (by rw [HQ.out]; rfl), rfl⟩
        · have hk2 : (t.key == k) = false := by rw [beq_eq_false_iff_ne]; exact hk
          have HQ := Lib.hid (show ∀ j, j < m + 1 → keyP S.f k j = false from fun j hj => by
            by_cases e : j = m
            · subst e; exact keyP_not (fun t' ht => by rw [hf] at ht; cases ht; exact hk)
            · exact H0.out j (by omega))
          clear hf hlt' hk
          go_wp2
          go_round
          case rel => exact ⟨m + 1, by omega, by go_num, HQ⟩
          case measure => simp [intOf]; omega
    · obtain rfl : m = N := by omega
      go_wp2
      go_ret
      exact ⟨ret_int' (by rw [fst_none H0.out]; rfl), rfl⟩
set_option maxHeartbeats 1600000 in
theorem vacant_any (w : World) (h : UA w u lb S) :
    Calls Try.prog 40 #[.pointer (some ⟨u, 0, none⟩)] w fun e w' => e = .returned (.int .i64 (idx (vacS S))) ∧ w = w' := by
  obtain ⟨c0, -, -⟩ := h.get
  have hN := h.wf.n2
  have HA := Lib.hid h
  obtain ⟨N, hN2⟩ : ∃ N, N = S.N := ⟨_, rfl⟩
  unfold vacS
  rw [← hN2] at hN c0 ⊢
  have HN2 := Lib.hid hN2
  clear h hN2
  go_enter Try.func40, Try.ntmps40
  go_wp2
  go_loop [3] (fun i => ∃ m : Nat, m ≤ N ∧ i = .int .i64 (m : Int) ∧ Hid (∀ j, j < m → vacP S.f j = false)) (fun i => N - (intOf i).toNat)
  case atStart => exact ⟨0, Nat.zero_le _, rfl, Lib.hid (fun j hj => absurd hj (Nat.not_lt_zero _))⟩
  case round =>
    obtain ⟨m, hm, rfl, H0⟩ := hrel
    by_cases hlt : m < N
    · have hlt' : m < S.N := by rw [← HN2.out]; exact hlt
      cases hf : S.f m with
      | none =>
        obtain ⟨d0, -⟩ := HA.out.off hlt' hf
        have HQ := Lib.hid (fst_some (p := vacP S.f) (by unfold vacP; rw [hf]; rfl) H0.out hlt)
        clear hf hlt'
        go_wp2
        go_ret
        exact ⟨ret_int' (by rw [HQ.out]; rfl), rfl⟩
      | some t =>
        obtain ⟨d0, -⟩ := HA.out.on_ hlt' hf
        have HQ := Lib.hid (show ∀ j, j < m + 1 → vacP S.f j = false from fun j hj => by
          by_cases e : j = m
          · subst e; unfold vacP; rw [hf]; rfl
          · exact H0.out j (by omega))
        clear hf hlt'
        go_wp2
        go_round
        case rel => exact ⟨m + 1, by omega, by go_num, HQ⟩
        case measure => simp [intOf]; omega
    · obtain rfl : m = N := by omega
      go_wp2
      go_ret
      exact ⟨ret_int' (by rw [fst_none H0.out]; rfl), rfl⟩
theorem on_any (w : World) (h : UA w u lb S) :
    Calls Try.prog 41 #[.pointer (some ⟨u, 0, none⟩)] w fun e w' => e = .returned (.tuple #[]) ∧ UA w' u lb { S with hand := nx S } ∧ Keep (Apart w u lb) w w' := by
  obtain ⟨c0, c1, f1⟩ := h.get
  have hN1 := h.wf.n1
  have hN2 := h.wf.n2
  have hh := h.wf.hh
  have hmod : Int.tmod ((S.hand : Int) + 1) (S.N : Int) = ((nx S : Nat) : Int) := rfl
  have HU := Lib.hid ((h.below (Below.refl _ _).drew).setHand (nx S) (nx_lt h.wf))
  have HK := Lib.hid (apart_set (w := w.drew) ((Keep.refl (Apart w u lb) w).drewN 1) (.inl rfl) 1 (.int .i64 ((nx S : Nat) : Int)))
  have c0' : w.drew.cell? ⟨u, 0, none⟩ = some (.slice (some ⟨lb, 0, none⟩) S.N S.N) := c0
  have c1' : w.drew.cell? ⟨u, 1, none⟩ = some (.int .i64 (S.hand : Int)) := c1
  have f1' : w.drew.frozen? ⟨u, 1, none⟩ = false := f1
  have hXl := nx_lt h.wf
  generalize nx S = X at hmod HU HK hXl ⊢
  have hw1 : IntKind.i64.wrap ((S.hand : Int) + 1) = (S.hand : Int) + 1 := IntWalk.i64_in _ (by omega)
  have hw2 : IntKind.i64.wrap (X : Int) = (X : Int) := IntWalk.i64_in _ (by omega)
  have hw3 : IntKind.i64.wrap (S.N : Int) = (S.N : Int) := IntWalk.i64_in _ (by omega)
  have hn0 : ((S.N : Int) == 0) = false := by rw [beq_eq_false_iff_ne]; omega
  have hn1 : ¬ (S.N : Int) = 0 := by omega
  have hn2 : ¬ S.N = 0 := by omega
  clear h
  go_enter Try.func41, Try.ntmps41
  go_still_tail 14, (by kernel_rfl)
  change wpList _ _ _ _ _ w.drew
  clear c0 c1 f1
  generalize hGen : w.drew = W at c0' c1' f1' HU HK ⊢
  clear hGen
  go_wp2
  go_end0
  exact ⟨rfl, HU.out, HK.out⟩
end
end Go.Proofs.Ytdpaeffhddehaaa.Ref
