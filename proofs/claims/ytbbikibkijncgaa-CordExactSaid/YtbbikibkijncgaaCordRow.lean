/- An own row of texts: slices.Delete of the first ones, append of one. -/
import Derived.Test.YtbbikibkijncgaaCordMem
import Derived.Test.YtbbikibkijncgaaCopyK
import Derived.Lib.SliceRun
import Derived.Deep.RegionLaw
import Derived.Laws.CopyOwn
namespace Go.Proofs.Ytbbikibkijncgaa.Cord
set_option maxRecDepth 100000
open Go.RowKit
open Go.Proofs.Ytbbikibkijncgaa.Mem
/-- append, as a step of a drawn region, where its run is known -/
theorem step_append_known {P : Program} {ops : Array Oper} {o : Oper} {a : Act} {w : World} {K : Act → World → Prop} {Q : Exit → Act → World → Prop} {E : Prop}
    (hg : o.guard = none) (d x : Operand) (dT sT : TypeId) (hop : o.op = Op.call { callee := Callee.builtin Builtin.append, args := #[d, x], argTypes := #[dT, sT] })
    (v u : Value) (hd : a.eval d = v) (hx : a.eval x = u) {v' : Value} {w' : World} (hr : (Builtin.append_ #[dT, sT] o.type #[v, u]).run P w = .ok v' w') (hK : K (a.put o.dst v') w') :
    if Region.wanted o (yielded ops a.tmps) = true then Oper.wp P o a w K Q else E := by
  have hw : Region.wanted o (yielded ops a.tmps) = true := by simp [Region.wanted, hg]
  rw [if_pos hw]
  unfold Oper.wp
  simp [execOp, hop, resolve, invoke, builtin, hd, hx, hr, Result.andThen]
  exact hK
theorem info_str : (Try.prog.info? 9).map (fun i => (i.zero, i.size, i.bytes)) = some (some (.string .empty), 1, 16) := by kernel_rfl
theorem strs_one (l : List ByteArray) : ∀ v ∈ strsV l, v.oneCell' = true := by
  intro v hv
  obtain ⟨s, _, rfl⟩ := List.mem_map.1 hv
  rfl
theorem zero_cells (k : Nat) : (Builtin.zeroCells (Value.string .empty).cells k).toList = List.replicate k (.string .empty) := by
  apply List.ext_getElem?
  intro i
  simp only [Builtin.zeroCells, Value.cells]
  by_cases h : i < k
  · simp [h, Nat.mod_one]
  · simp [h]
theorem shape_blk {w : World} {g : Nat} {t : TypeId} {cs : Array Value} (h : Blk w g t cs) : w.shape? g = some (t, cs.size) := by
  unfold Blk at h
  simp [World.shape?, h]
set_option maxRecDepth 100000 in
set_option maxHeartbeats 4000000 in
theorem delete_walk (g c n k : Nat) (L : List ByteArray) (w : World) (cur : List Value) (hg : w.heap[g]? = some (.cells cur.toArray 9 (0, 0))) (hl : cur.length = c) (ht : cur.take n = strsV L) (hL : L.length = n) (hk : 0 < k) (hi : k ≤ n) (hc : n ≤ c) :
    Calls Try.prog 32 #[.slice (some ⟨g, 0, none⟩) n c, .int .i64 0, .int .i64 (k : Int)] w fun e w' =>
      e = .returned (.slice (some ⟨g, 0, none⟩) (n - k) c) ∧ w' = (w.drew.setRow g (splice cur 0 (strsV (L.drop k))).toArray).setRow g (splice (splice cur 0 (strsV (L.drop k))) (n - k) (List.replicate k (.string .empty))).toArray := by
  obtain ⟨i0, hi0, hz0, hz1, hz2⟩ := info_parts info_str
  have hBl : (strsV (L.drop k)).length = n - k := by rw [strs_len, List.length_drop, hL]
  obtain ⟨A, hA, hsrc⟩ : ∃ A : Addr, (if c = k then some (⟨g, 0, none⟩ : Addr) else some ⟨g, k, none⟩) = some A ∧ (∀ t u, (strsV (L.drop k))[t]? = some u → w.drew.cell? (A.add t) = some u) := by
    by_cases h : c = k
    · refine ⟨⟨g, 0, none⟩, by simp [h], fun t u hu => ?_⟩
      have := (List.getElem?_eq_some_iff.1 hu).1
      omega
    · refine ⟨⟨g, k, none⟩, by simp [h], fun t u hu => ?_⟩
      have hj2 : t < n - k := by have := (List.getElem?_eq_some_iff.1 hu).1; omega
      rw [Addr.add_lit]
      show w.cell? ⟨g, k + t, none⟩ = some u
      rw [Blk.cell (show Blk w g _ _ from hg), List.getElem?_toArray]
      have e : strsV (L.drop k) = (strsV L).drop k := by simp [strsV]
      rw [e, List.getElem?_drop, ← ht, List.getElem?_take_of_lt (by omega)] at hu
      exact hu
  have hap : ∀ ty sc, (Builtin.append_ #[40, 40] ty #[.slice (some ⟨g, 0, none⟩) 0 c, .slice (some A) (n - k) sc]).run Try.prog w.drew = .ok (.slice (some ⟨g, 0, none⟩) (0 + (n - k)) c) (w.drew.setRow g (splice cur 0 (strsV (L.drop k))).toArray) := fun ty sc => by
    have h := run_append_room (P := Try.prog) w.drew 40 ty 9 i0 Try.underlying40 hi0 g 0 c cur.toArray hg A (n - k) sc (strsV (L.drop k)) (by rw [hBl, hz1]; omega) hsrc (strs_one _) (by omega) (by rw [hBl, hz1]; simp; omega)
    rw [hz1] at h
    simpa [splice] using h
  rw [Nat.zero_add] at hap
  have hg1 : (w.drew.setRow g (splice cur 0 (strsV (L.drop k))).toArray).heap[g]? = some (.cells (splice cur 0 (strsV (L.drop k))).toArray 9 (0, 0)) := setRow_heap w.drew g _ _ _ _ hg
  have hl1 : (splice cur 0 (strsV (L.drop k))).length = c := by rw [length_splice _ _ _ (by omega), hl]
  generalize hW1 : w.drew.setRow g (splice cur 0 (strsV (L.drop k))).toArray = W1 at hap hg1 ⊢
  generalize splice cur 0 (strsV (L.drop k)) = c1 at hg1 hl1 ⊢
  have hcl : ∀ ty cc, (Builtin.clear_ #[40] ty #[.slice (some ⟨g, n - k, none⟩) (n - (n - k)) cc]).run Try.prog W1 = .ok (.tuple #[]) (W1.setRow g (splice c1 (n - k) (List.replicate k (.string .empty))).toArray) := fun ty cc => by
    have hst := run_storeCells_at Try.prog g (n - k) 9 (List.replicate k (.string .empty)) 0 c1.toArray W1 hg1 (by simp; omega) (by intro u hu; rw [List.eq_of_mem_replicate hu]; rfl)
    simp only [Nat.add_zero] at hst
    have h1 : n - (n - k) = k := by omega
    have hzc := zero_cells k
    have hzv : ∀ w, (zeroValue 9).run Try.prog w = .ok (Value.string .empty) w := zero_str
    rw [h1]
    clear hap hW1 hg1 hsrc hA hBl
    obtain ⟨k', rfl⟩ : ∃ k', k = k' + 1 := ⟨k - 1, by omega⟩
    simp [Builtin.clear_, run_underlying Try.underlying40, hzv, hzc, hst, splice]
  have hjc : k ≤ c := by omega
  have hne : ¬ ((0 : Int) = (k : Int)) := by omega
  have hb3 : (k : Int) ≤ (n : Int) := by omega
  have hb4 : (k : Int) ≤ (c : Int) := by omega
  have hb5 : (n : Int) ≤ (c : Int) := by omega
  have hnc : ¬ (c = n - k) := by omega
  have hn1 : n - k ≤ n := by omega
  clear hg1 hl1 hBl hg hl ht hL hsrc
  go_enter Try.func32, Try.ntmps32
  go_wp2_with fail
  go_region_law (refine step_append_known rfl (.tmp 22) (.tmp 25) 40 40 rfl (.slice (some ⟨g, 0, none⟩) 0 c) (.slice (some A) (n - k) (c - k)) (by simp [Act.eval, Act.put]) (by simp [Act.eval, Act.put]) (hap _ _) ?_)
  go_wp2
  go_ret
  exact ⟨rfl, rfl⟩
theorem splice_del (cur : List Value) (L : List ByteArray) (k c : Nat) (hk : k ≤ L.length) (hc : L.length ≤ c) (hl : cur.length = c) (zs : List Value) :
    (splice (splice cur 0 (strsV (L.drop k))) (L.length - k) zs).take (L.length - k) = strsV (L.drop k) := by
  have hBl : (strsV (L.drop k)).length = L.length - k := by rw [strs_len, List.length_drop]
  have e1 : (splice cur 0 (strsV (L.drop k))).take (L.length - k) = strsV (L.drop k) := by
    unfold splice
    rw [List.take_zero, List.nil_append, List.take_append_of_le_length (by omega), List.take_of_length_le (by omega)]
  have hs : (splice cur 0 (strsV (L.drop k))).length = c := by rw [length_splice _ _ _ (by omega), hl]
  generalize splice cur 0 (strsV (L.drop k)) = c1 at e1 hs
  unfold splice
  rw [List.take_append_of_le_length (by rw [List.length_take]; omega), List.take_take, Nat.min_self, e1]
/-- a row of the call's own handed back; nothing but the elder row and new memory was touched -/
def RowRes (base : Nat) (v : Value) (w : World) (L' : List ByteArray) (e : Ending) (w' : World) : Prop :=
  ∃ v', e = .returned v' ∧ w'.ownsRow base 9 1 v' L'.length (strsV L') ∧ w.grownBy w' v.ownBlock ∧ v'.ownBlock = v.ownBlock
theorem delete_any (v : Value) (L : List ByteArray) (k : Nat) (base : Nat) (w : World) (h : w.ownsRow base 9 1 v L.length (strsV L)) (h0 : 0 < k) (hk : k ≤ L.length) :
    Calls Try.prog 32 #[v, .int .i64 0, .int .i64 (k : Int)] w (RowRes base v w (L.drop k)) := by
  have hlen : (L.drop k).length = L.length - k := by simp
  rcases h.2 with ⟨_, h0⟩ | ⟨g, c, cur, rfl, hbg, hg, hnc, hcm, hcs, ht⟩
  · omega
  · have hBl : (strsV (L.drop k)).length = L.length - k := by rw [strs_len, hlen]
    have hcl : cur.toList.length = c := by simpa using hcs
    rw [Nat.mul_one] at ht
    refine (delete_walk g c L.length k L w cur.toList (by simpa using hg) hcl ht rfl h0 hk hnc).mono ?_
    rintro e w' ⟨rfl, rfl⟩
    have hg1 := setRow_heap w.drew g cur (splice cur.toList 0 (strsV (L.drop k))).toArray _ _ hg
    have hg2 := setRow_heap _ g _ (splice (splice cur.toList 0 (strsV (L.drop k))) (L.length - k) (List.replicate k (.string .empty))).toArray _ _ hg1
    have s1 : (splice cur.toList 0 (strsV (L.drop k))).length = c := by rw [length_splice _ _ _ (by omega)]; exact hcl
    have s2 : (splice (splice cur.toList 0 (strsV (L.drop k))) (L.length - k) (List.replicate k (.string .empty))).length = c := by rw [length_splice _ _ _ (by simp; omega)]; exact s1
    refine ⟨_, rfl, ⟨by rw [strs_len]; omega, .inr ⟨g, c, _, by rw [hlen], hbg, hg2, by omega, hcm, ?_, ?_⟩⟩, ⟨rfl, rfl, rfl, by simp [World.setRow], fun j hj hjr => ?_⟩, rfl⟩
    · rw [List.size_toArray, s2]; omega
    · rw [hlen, Nat.mul_one]
      exact splice_del cur.toList L k c hk hnc hcl _
    · have hjg : j ≠ g := fun e => hjr (by rw [e]; rfl)
      rw [setRow_other _ g j _ hjg, setRow_other _ g j _ hjg]
      rfl
/-- append of one text to an own row -/
theorem wpList_app {w : World} {ops : Array Oper} {rest : List Oper} {o : Oper} {a : Act} {Q : Exit → Act → World → Prop} (hgd : o.guard = none) (s x : Operand)
    (ho : o.op = .call { callee := .builtin .append, args := #[s, x], argTypes := #[40, 40] }) (B : Nat)
    (v : Value) (L : List ByteArray) (hs : a.eval s = v) (hown : w.ownsRow B 9 1 v L.length (strsV L)) (vb : Nat) (y : ByteArray) (hx : a.eval x = .slice (some ⟨vb, 0, none⟩) 1 1)
    (hb : Blk w vb 9 #[.string y]) (hn : L.length ≤ 3000000) (hB : B ≤ w.heap.size)
    (h : ∀ v' w', w'.ownsRow B 9 1 v' (L ++ [y]).length (strsV (L ++ [y])) → w.grownBy w' v.ownBlock → (v'.ownBlock = v.ownBlock ∨ v'.ownBlock = some w.heap.size) → wpList Try.prog ops Q rest (a.put o.dst v') w') : wpList Try.prog ops Q (o :: rest) a w := by
  obtain ⟨i0, hi, hz0, hz1, hz2⟩ := info_parts info_str
  refine wpList_append_own_at w hgd s x 40 ho B 9 i0 (.string .empty) 1 16 Try.underlying40 hi hz0 hz1 hz2 rfl (by decide) v L.length (strsV L) hs hown ⟨vb, 0, none⟩ 1 1 [.string y] hx rfl (fun j z hj => ?_) (fun z hz => ?_) (by unfold maxLen; omega) (by omega) hB ?_
  · rw [Addr.add_lit, hb.cell, Nat.zero_add, ← Array.getElem?_toList]; exact hj
  · simp at hz; rcases hz with rfl; rfl
  · intro v' w' h1 h2 _ h4
    refine h v' w' ?_ h2 h4
    rw [List.length_append, strs_app]; exact h1
end Go.Proofs.Ytbbikibkijncgaa.Cord
