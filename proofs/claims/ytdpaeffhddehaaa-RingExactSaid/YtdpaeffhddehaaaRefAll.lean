/- The walk of the document's own All. -/
import Derived.Test.YtdpaeffhddehaaaRefCalls
import Derived.Test.YtdpaeffhddehaaaRingSAll
namespace Go.Proofs.Ytdpaeffhddehaaa.Ref
set_option maxRecDepth 100000
open Go.RowKit
open Go.Proofs.Ytdpaeffhddehaaa.Mem
open Go.Proofs.Ytdpaeffhddehaaa.Ring
attribute [local go_sem] Oper.semAt_some

def fcells (ts : List Thing) : List Value := ts.flatMap fun t => frC (some t)
theorem fcells_length (q : List Thing) : (fcells q).length = q.length * 5 := by
  induction q with
  | nil => rfl
  | cons x r ih => show (_ :: _ :: _ :: _ :: _ :: fcells r).length = _; simp only [List.length_cons, ih]; omega
theorem fcells_get {q : List Thing} {i : Nat} {x : Thing} (h : q[i]? = some x) : (fcells q)[i * 5]? = some (.bool true) ∧ (fcells q)[i * 5 + 1]? = some (.int .i64 x.key) ∧ (fcells q)[i * 5 + 1 + 1]? = some (.string x.val) := by
  induction q generalizing i with
  | nil => simp at h
  | cons y r ih =>
    cases i with
    | zero => simp at h; subst h; exact ⟨rfl, rfl, rfl⟩
    | succ i =>
      have := ih (i := i) (by simpa using h)
      rw [show (i + 1) * 5 = i * 5 + 1 + 1 + 1 + 1 + 1 by omega]
      exact this
theorem fcells_snoc (q : List Thing) (x : Thing) : fcells q ++ frC (some x) = fcells (q ++ [x]) := by simp [fcells]
def AllRes (w : World) (ts : List Thing) (e : Ending) (w' : World) : Prop := ∃ a c, e = .returned (.slice a ts.length c) ∧ w'.ownsRow w.heap.size 35 5 (.slice a ts.length c) ts.length (fcells ts) ∧ Below w.heap.size w w'
section
variable {u lb : Nat} {S : RState}
theorem own_new0 (w : World) (t : TypeId) (size : Nat) : (w.alloc (.cells #[] t)).ownsRow w.heap.size t size (.slice (some ⟨w.heap.size, 0, none⟩) 0 0) 0 [] :=
  ⟨by simp, .inr ⟨w.heap.size, 0, #[], rfl, Nat.le_refl _, World.alloc_heap_new w _, Nat.le_refl _, by unfold maxLen; omega, by simp, by simp⟩⟩
set_option maxHeartbeats 1600000 in
theorem all_any (w : World) (h : UA w u lb S) :
    Calls Try.prog 23 #[.pointer (some ⟨u, 0, none⟩)] w (AllRes w (thingsR S)) := by
  have hN := h.wf.n2
  have HA := Lib.hid h
  have hb0 := (Below.refl w.heap.size w).alloc (Nat.le_refl _) (.cells #[] 35)
  have c0 := (h.below hb0).get.1
  unfold thingsR
  obtain ⟨N, hN2⟩ : ∃ N, N = S.N := ⟨_, rfl⟩
  rw [← hN2] at hN c0 ⊢
  have HN2 := Lib.hid hN2
  have HO0 := Lib.hid (own_new0 w 35 5)
  have HB0 := Lib.hid hb0
  clear h hN2 hb0
  obtain ⟨i0, hi, hz0, hz1, hz2⟩ := info_parts info_frame
  go_enter Try.func23, Try.ntmps23
  go_wp2
  clear c0
  go_loopw [3, 4] (fun v i wr => ∃ (m : Nat), m ≤ N ∧ i = .int .i64 (m : Int) ∧ Hid (wr.ownsRow w.heap.size 35 5 v (thingsF S.f m).length (fcells (thingsF S.f m))) ∧ Hid (Below w.heap.size w wr)) (fun _ i _ => N - (intOf i).toNat)
  case atStart => exact ⟨0, Nat.zero_le _, rfl, HO0, HB0⟩
  case round =>
    obtain ⟨m, hm, rfl, HO, HB⟩ := hrel
    clear HO0 HB0
    have hlen := thingsF_len S.f m
    have hA := HA.out.below HB.out
    have c0 := hA.get.1
    rw [← HN2.out] at c0
    by_cases hlt : m < N
    · have hlt' : m < S.N := by rw [← HN2.out]; exact hlt
      cases hf : S.f m with
      | none =>
        obtain ⟨d0, -⟩ := hA.off hlt' hf
        have HE := Lib.hid (show thingsF S.f (m + 1) = thingsF S.f m by rw [thingsF, hf]; simp)
        clear hf hA hlt'
        go_wp2
        go_roundw
        case rel => exact ⟨m + 1, by omega, by go_num, by rw [HE.out]; exact HO, HB⟩
        case measure => simp [intOf]; omega
      | some t =>
        obtain ⟨d0, d1, d2, d3, d4⟩ := hA.on_ hlt' hf
        have HE := Lib.hid (show thingsF S.f (m + 1) = thingsF S.f m ++ [t] by rw [thingsF, hf]; rfl)
        have HO2 := Lib.hid (own_below HO.out ((Below.refl _ _).alloc (Nat.le_refl _) (.cells #[.bool true, .int .i64 t.key, .string t.val, .int .i64 (t.pins : Int), .bool t.fresh] 35)))
        have HB2 := Lib.hid (HB.out.alloc HB.out.size (.cells #[.bool true, .int .i64 t.key, .string t.val, .int .i64 (t.pins : Int), .bool t.fresh] 35))
        obtain ⟨L, hL⟩ : ∃ L, L = thingsF S.f m := ⟨_, rfl⟩
        rw [← hL] at HO HO2 HE hlen
        clear hL hf hA hlt'
        go_wp2_with (at_builtin; refine wpList_append_own _ rfl _ _ 46 rfl w.heap.size 35 i0 (.agg #[.bool false, .int .i64 0, .string ⟨#[]⟩, .int .i64 0, .bool false]) 5 48 Try.underlying46 hi hz0 hz1 hz2 rfl (by decide) _ L.length (fcells L) rfl HO2.out ⟨wr.heap.size, 0, none⟩ 1 1 (frC (some t)) rfl rfl ?c1 ?c2 ?c3 ?c4 ?c5 ?_)
        case c1 =>
          intro j u hj
          match j, hj with
          | 0, hj => simp [frC] at hj; subst hj; simp [Addr.add]
          | 1, hj => simp [frC] at hj; subst hj; simp [Addr.add]
          | 2, hj => simp [frC] at hj; subst hj; simp [Addr.add]
          | 3, hj => simp [frC] at hj; subst hj; simp [Addr.add]
          | 4, hj => simp [frC] at hj; subst hj; simp [Addr.add]
        case c2 => intro u hu; simp [frC] at hu; rcases hu with rfl | rfl | rfl | rfl | rfl <;> rfl
        case c3 => unfold maxLen; omega
        case c4 => omega
        case c5 => have := HB2.out.size; simpa using this
        intro v' w2 hown' hgrow' _
        have HO3 := Lib.hid (show w2.ownsRow w.heap.size 35 5 v' (L ++ [t]).length (fcells (L ++ [t])) by rw [List.length_append, ← fcells_snoc]; exact hown')
        have HB3 := Lib.hid (HB2.out.grown hgrow' HB2.out.size (fun g e => by
          rcases HO2.out.2 with ⟨rfl, -⟩ | ⟨g', cap, cur, rfl, hg, -⟩
          · cases e
          · cases e; exact hg))
        clear hown' hgrow'
        go_wp2
        go_roundw
        case rel => exact ⟨m + 1, by omega, by go_num, by rw [HE.out]; exact HO3, HB3⟩
        case measure => simp [intOf]; omega
    · obtain rfl : m = N := by omega
      obtain ⟨a, c, hv⟩ := own_shape HO.out
      subst hv
      go_wp2
      go_ret
      exact ⟨a, c, rfl, HO.out, HB.out⟩
end
end Go.Proofs.Ytdpaeffhddehaaa.Ref
