/- The walks of a ring's things, Len, All, and of what All hands back. -/
import Derived.Test.YtdpaeffhddehaaaRingSPut
namespace Go.Proofs.Ytdpaeffhddehaaa.RingS
set_option maxRecDepth 100000
open Go.RowKit Go.Shelf
open Go.Proofs.Ytdpaeffhddehaaa.Mem
open Go.Proofs.Ytdpaeffhddehaaa.Ring
attribute [local go_sem] Oper.semAt_some

def tcells (ts : List Thing) : List Value := ts.flatMap fun t => (thC t).toList
theorem tcells_length (q : List Thing) : (tcells q).length = q.length * 4 := by
  induction q with
  | nil => rfl
  | cons x r ih => show (_ :: _ :: _ :: _ :: tcells r).length = _; simp only [List.length_cons, ih]; omega
theorem tcells_get {q : List Thing} {i : Nat} {x : Thing} (h : q[i]? = some x) : (tcells q)[i * 4]? = some (.int .i64 x.key) ∧ (tcells q)[i * 4 + 1]? = some (.string x.val) ∧ (tcells q)[i * 4 + 1 + 1]? = some (.int .i64 (x.pins : Int)) ∧ (tcells q)[i * 4 + 1 + 1 + 1]? = some (.bool x.fresh) := by
  induction q generalizing i with
  | nil => simp at h
  | cons y r ih =>
    cases i with
    | zero => simp at h; subst h; exact ⟨rfl, rfl, rfl, rfl⟩
    | succ i =>
      have := ih (i := i) (by simpa using h)
      rw [show (i + 1) * 4 = i * 4 + 1 + 1 + 1 + 1 by omega]
      exact this
theorem tcells_snoc (q : List Thing) (x : Thing) : tcells q ++ (thC x).toList = tcells (q ++ [x]) := by simp [tcells]
theorem info_thing : (Try.prog.info? 75).map (fun i => (i.zero, i.size, i.bytes)) = some (some (.agg #[.int .i64 0, .string (⟨#[]⟩ : ByteArray), .int .i64 0, .bool false]), 4, 40) := by kernel_rfl
/-- what things hands back -/
def ThRes (w : World) (ts : List Thing) (e : Ending) (w' : World) : Prop := ∃ a c, e = .returned (.slice a ts.length c) ∧ w'.ownsRow w.heap.size 75 4 (.slice a ts.length c) ts.length (tcells ts) ∧ Below w.heap.size w w'
section
variable {p fb : Nat} {ad : Nat → Nat} {M : Nat → Prop} {S : RState}
set_option maxHeartbeats 1600000 in
theorem things_nil (w : World) :
    Calls Try.prog 44 #[.pointer none] w (ThRes w []) := by
  go_enter Try.func44, Try.ntmps44
  go_wp2
  go_ret
  exact ⟨none, 0, rfl, own_nil _ _ _ _, Below.refl _ _⟩
set_option maxHeartbeats 1600000 in
theorem things_any (w : World) (h : RA w p fb ad M S) :
    Calls Try.prog 44 #[.pointer (some ⟨p, 0, none⟩)] w (ThRes w (thingsR S)) := by
  have hN := h.wf.n2
  obtain ⟨c0, -, -⟩ := h.get
  have HA := Lib.hid h
  unfold thingsR
  obtain ⟨N, hN2⟩ : ∃ N, N = S.N := ⟨_, rfl⟩
  rw [← hN2] at hN c0 ⊢
  have HN2 := Lib.hid hN2
  clear h hN2
  obtain ⟨i0, hi, hz0, hz1, hz2⟩ := info_parts info_thing
  go_enter Try.func44, Try.ntmps44
  go_wp2
  go_loopw [3, 5, 13] (fun v _ i wr => ∃ (k : Nat), k ≤ N ∧ i = .int .i64 (k : Int) ∧ Hid (wr.ownsRow w.heap.size 75 4 v (thingsF S.f k).length (tcells (thingsF S.f k))) ∧ Hid (Below w.heap.size w wr)) (fun _ _ i _ => N - (intOf i).toNat)
  case atStart => exact ⟨0, Nat.zero_le _, rfl, Lib.hid (own_nil _ _ _ _), Lib.hid (Below.refl _ _)⟩
  case round =>
    obtain ⟨k, hk, rfl, HO, HB⟩ := hrel
    have hlen := thingsF_len S.f k
    clear c0
    by_cases hlt : k < N
    · have hlt' : k < S.N := by rw [← HN2.out]; exact hlt
      have hA := HA.out.below HB.out
      cases hf : S.f k with
      | none =>
        have c1 := hA.off hlt' hf
        have e : thingsF S.f (k + 1) = thingsF S.f k := by rw [thingsF, hf]; simp
        have HE := Lib.hid e
        clear hf hA hlt' e
        go_wp2
        go_roundw
        case rel => exact ⟨k + 1, by omega, by go_num, by rw [HE.out]; exact HO, HB⟩
        case measure => simp [intOf]; omega
      | some t =>
        obtain ⟨c1, d0, d1, d2, d3, -, -, -⟩ := hA.on hlt' hf
        have e : thingsF S.f (k + 1) = thingsF S.f k ++ [t] := by rw [thingsF, hf]; rfl
        have HE := Lib.hid e
        clear hf hA hlt' e
        have HO2 := Lib.hid (own_below HO.out ((Below.refl _ _).alloc (Nat.le_refl _) (.cells #[.int .i64 t.key, .string t.val, .int .i64 (t.pins : Int), .bool t.fresh] 75)))
        have HB2 := Lib.hid (HB.out.alloc HB.out.size (.cells #[.int .i64 t.key, .string t.val, .int .i64 (t.pins : Int), .bool t.fresh] 75))
        obtain ⟨L, hL⟩ : ∃ L, L = thingsF S.f k := ⟨_, rfl⟩
        rw [← hL] at HO HO2 HE hlen
        clear hL
        go_wp2_with (at_builtin; refine wpList_append_own _ rfl _ _ 80 rfl w.heap.size 75 i0 (.agg #[.int .i64 0, .string (⟨#[]⟩ : ByteArray), .int .i64 0, .bool false]) 4 40 Try.underlying80 hi hz0 hz1 hz2 rfl (by decide) _ L.length (tcells L) rfl HO2.out ⟨wr.heap.size, 0, none⟩ 1 1 (thC t).toList rfl rfl ?c1 ?c2 ?c3 ?c4 ?c5 ?_)
        case c1 =>
          intro j u hj
          match j, hj with
          | 0, hj => simp [thC] at hj; subst hj; simp [Addr.add]
          | 1, hj => simp [thC] at hj; subst hj; simp [Addr.add]
          | 2, hj => simp [thC] at hj; subst hj; simp [Addr.add]
          | 3, hj => simp [thC] at hj; subst hj; simp [Addr.add]
        case c2 => intro u hu; simp [thC] at hu; rcases hu with rfl | rfl | rfl | rfl <;> rfl
        case c3 => unfold maxLen; omega
        case c4 => omega
        case c5 => have := HB2.out.size; simpa using this
        intro v' w2 hown' hgrow' _
        have HO3 := Lib.hid (show w2.ownsRow w.heap.size 75 4 v' (L ++ [t]).length (tcells (L ++ [t])) by rw [List.length_append, ← tcells_snoc]; exact hown')
        have HB3 := Lib.hid (HB2.out.grown hgrow' HB2.out.size (fun g e => by
          rcases HO2.out.2 with ⟨rfl, -⟩ | ⟨g', cap, cur, rfl, hg, -⟩
          · cases e
          · cases e; exact hg))
        clear hown' hgrow'
        go_wp2
        go_roundw
        case rel => exact ⟨k + 1, by omega, by go_num, by rw [HE.out]; exact HO3, HB3⟩
        case measure => simp [intOf]; omega
    · obtain rfl : k = N := by omega
      obtain ⟨a, c, hv⟩ := own_shape HO.out
      subst hv
      go_wp2
      go_ret
      exact ⟨a, c, rfl, HO.out, HB.out⟩
set_option maxHeartbeats 800000 in
theorem len_any (w : World) (h : RA w p fb ad M S) :
    Calls Try.prog 24 #[.pointer (some ⟨p, 0, none⟩)] w fun e w' => e = .returned (.int .i64 ((thingsR S).length : Nat)) ∧ Below w.heap.size w w' := by
  have HT := Lib.hid (things_any w h)
  clear h
  go_enter Try.func24, Try.ntmps24
  go_wp2_with fail
  refine HT.out.mono ?_
  rintro e w1 ⟨a, c, rfl, -, b1⟩
  go_wp2
  go_ret
  exact ⟨rfl, b1⟩
set_option maxHeartbeats 800000 in
theorem len_nil (w : World) :
    Calls Try.prog 24 #[.pointer none] w fun e w' => e = .returned (.int .i64 0) ∧ Below w.heap.size w w' := by
  have HT := Lib.hid (things_nil w)
  go_enter Try.func24, Try.ntmps24
  go_wp2_with fail
  refine HT.out.mono ?_
  rintro e w1 ⟨a, c, rfl, -, b1⟩
  go_wp2
  go_ret
  exact ⟨rfl, b1⟩
end
end Go.Proofs.Ytdpaeffhddehaaa.RingS
