/- The walk of (*Plate).Write. -/
import Derived.Test.YtnnppdjgmjgjhaaDoorPlateFate
namespace Go.Proofs.YtnnppdjgmjgjhaaDoor.Plate
set_option maxRecDepth 100000
open Go.RowKit
open Go.Proofs.YtnnppdjgmjgjhaaDoor.Mem

theorem info_write : (Tryd.prog.info? 76).map (fun i => (i.zero, i.size, i.bytes)) = some (some (.agg #[.int .i64 0, .string ⟨#[]⟩]), 2, 24) := by kernel_rfl
theorem PA.appended {w w' : World} {p sb n : Nat} {qv qv' : Value} {M : Nat → Prop} {S : PS} {s : ByteArray} (h : PA w p sb qv M S) (ho : w'.ownsRow 0 76 2 qv' (S.q.length + 1) (wcells S.q ++ [.int .i64 (n : Int), .string s]))
    (hg : w.grownBy w' qv.ownBlock) (ha : qv'.ownBlock = qv.ownBlock ∨ qv'.ownBlock = some w.heap.size) (hn : n < S.N) :
    PA (w'.setCell ⟨p, 1, none⟩ qv') p sb qv' M (putS S n s) ∧ Keep M w (w'.setCell ⟨p, 1, none⟩ qv') := by
  obtain ⟨cs, h1, h2⟩ := h.sec
  have hpl := h.blk.lt
  have hsl := h1.lt
  have hp : some p ≠ qv.ownBlock := fun e => h.n1 e.symm
  have hs : some sb ≠ qv.ownBlock := fun e => h.n2 e.symm
  have n1 : qv'.ownBlock ≠ some p := by rcases ha with e | e <;> rw [e]; exact h.n1; intro e; cases e; omega
  have n2 : qv'.ownBlock ≠ some sb := by rcases ha with e | e <;> rw [e]; exact h.n2; intro e; cases e; omega
  have hk : Keep M w w' := (Keep.refl M w).grown hg h.lt (fun k hk => h.m2 k hk)
  refine ⟨⟨?_, ⟨cs, (h1.grown hg hs).far (show sb ≠ p from fun e => h.n0 e.symm) _, h2⟩, own_set ?_ n1 _ _, ?_, h.n0, n1, n2, h.m0, h.m1, ?_, fun k hk' => ?_⟩, hk.set_ h.m0 _ _⟩
  · have := (h.blk.grown hg hp).set_ 1 qv'
    simpa [putS] using this
  · show w'.ownsRow 0 _ 2 qv' (S.q ++ [(⟨n, s⟩ : Wr)]).length (wcells (S.q ++ [(⟨n, s⟩ : Wr)]))
    rw [List.length_append, ← wcells_snoc]; exact ho
  · intro x hx
    rcases List.mem_append.1 hx with h' | h'
    · exact h.wf x h'
    · simp at h'; subst h'; exact hn
  · intro g hg'
    rcases ha with e | e
    · exact h.m2 g (e ▸ hg')
    · rw [e] at hg'; cases hg'; intro hk'; exact Nat.lt_irrefl _ (h.lt _ hk')
  · have := h.lt k hk'; have := hg.size; simp; omega
theorem write_ok {S : PS} {n : Int} {s : ByteArray} (h0 : S.off = false) (h1 : inS S n = true) (h2 : s.size = 256) : writeE S n s = actE S ∧ writeS S n s = actS (putS S n.toNat s) := by
  unfold writeE writeS; simp [h0, h1, h2]
theorem write_off {S : PS} {n : Int} {s : ByteArray} (h0 : S.off = true) : writeE S n s = 10 ∧ writeS S n s = S := by
  unfold writeE writeS; simp [h0]
theorem write_not {S : PS} {n : Int} {s : ByteArray} (h0 : S.off = false) (h1 : inS S n = false ∨ s.size ≠ 256) : writeE S n s = 1 ∧ writeS S n s = S := by
  unfold writeE writeS; rcases h1 with h1 | h1 <;> simp [h0, h1]
/-- a plate whose numbers are small -/
structure Tame (S : PS) : Prop where
  life : S.life ≤ 4611686018427387904
  acts : S.acts ≤ 4611686018427387904
  arm : S.arm ≤ 4611686018427387904
  q : S.q.length ≤ 1000000
set_option maxRecDepth 100000 in
set_option maxHeartbeats 1000000 in
theorem write_any (w : World) (p sb : Nat) (qv : Value) (M : Nat → Prop) (S : PS) (n : Int) (s : ByteArray) (h : PA w p sb qv M S) (ht : Tame S) :
    Calls Tryd.prog 49 #[.pointer (some ⟨p, 0, none⟩), .int .i64 n, .string s] w fun e w' => e = .returned (.int .i64 (writeE S n s)) ∧ (∃ qv', PA w' p sb qv' M (writeS S n s)) ∧ Keep M w w' := by
  have H := Lib.hid h
  have HT := Lib.hid ht
  have hr := ready_any w p sb qv M S h
  have hh := has_any w p sb qv M S n h
  clear ht
  cases ho : S.off with
  | true =>
    rw [ho, if_pos rfl] at hr
    have HR := Lib.hid hr
    have HE := Lib.hid (write_off (n := n) (s := s) ho)
    clear h hr hh ho
    go_enter Tryd.func49, Tryd.ntmps49
    go_wp2_with fail
    refine HR.out.mono ?_
    rintro e w1 ⟨rfl, rfl⟩
    go_wp2
    go_ret
    rw [HE.out.1, HE.out.2]
    exact ⟨rfl, ⟨qv, H.out⟩, Keep.refl _ _⟩
  | false =>
    rw [ho, if_neg (by decide)] at hr
    have HR := Lib.hid hr
    cases hin : inS S n with
    | false =>
      rw [hin] at hh
      have HH := Lib.hid hh
      have HE := Lib.hid (write_not (n := n) (s := s) ho (.inl hin))
      clear h hr hh ho hin
      go_enter Tryd.func49, Tryd.ntmps49
      go_wp2_with fail
      refine HR.out.mono ?_
      rintro e w1 ⟨rfl, rfl⟩
      go_wp2_with fail
      refine HH.out.mono ?_
      rintro e w1 ⟨rfl, rfl⟩
      go_wp2
      go_ret
      rw [HE.out.1, HE.out.2]
      exact ⟨rfl, ⟨qv, H.out⟩, Keep.refl _ _⟩
    | true =>
      rw [hin] at hh
      have HH := Lib.hid hh
      by_cases hs : s.size = 256
      · have HE := Lib.hid (write_ok ho hin hs)
        have hn : n.toNat < S.N ∧ ((n.toNat : Nat) : Int) = n := by unfold inS at hin; simp at hin; omega
        obtain ⟨m, rfl⟩ : ∃ m : Nat, n = (m : Int) := ⟨n.toNat, by omega⟩
        have hm : m < S.N := by have := hn.1; simpa using this
        have HM := Lib.hid hm
        have hs' : (s.size : Int) = 256 := by omega
        have hal := H.out.below ((Below.refl _ _).alloc (Nat.le_refl _) (.cells #[.int .i64 (m : Int), .string s] 76))
        have HAL := Lib.hid hal
        obtain ⟨i0, hi, hz0, hz1, hz2⟩ := info_parts info_write
        obtain ⟨-, c1, -⟩ := h.get
        clear h hr hh ho hin hn hs hal hm
        go_enter Tryd.func49, Tryd.ntmps49
        go_wp2_with fail
        refine HR.out.mono ?_
        rintro e w1 ⟨rfl, rfl⟩
        go_wp2_with fail
        refine HH.out.mono ?_
        rintro e w1 ⟨rfl, rfl⟩
        go_wp2_with (at_builtin; refine wpList_append_own_at _ rfl _ _ 60 rfl 0 76 i0 (.agg #[.int .i64 0, .string ⟨#[]⟩]) 2 24 Tryd.underlying60 hi hz0 hz1 hz2 rfl (by decide) qv S.q.length (wcells S.q) rfl HAL.out.own ⟨w.heap.size, 0, none⟩ 1 1 [.int .i64 (m : Int), .string s] rfl rfl ?c1 ?c2 ?c3 ?c4 ?c5 ?_)
        case c1 =>
          intro j u hj
          match j, hj with
          | 0, hj => simp at hj; subst hj; simp [Addr.add]
          | 1, hj => simp at hj; subst hj; simp [Addr.add]
        case c2 => intro u hu; simp at hu; rcases hu with rfl | rfl <;> rfl
        case c3 => have := HT.out.q; unfold maxLen; omega
        case c4 => have := HT.out.q; omega
        case c5 => exact Nat.zero_le _
        intro qv' w2 hown' hgrow' _ hat
        obtain ⟨a', c', rfl⟩ := own_shape hown'
        obtain ⟨P2, K2⟩ := HAL.out.appended hown' hgrow' (by rw [World.size_alloc]; exact hat) HM.out
        have f1 := (HAL.out.blk.grown hgrow' (fun e => HAL.out.n1 e.symm)).frozen 1
        have d1 : w2.cell? ⟨p, 1, none⟩ = some qv := (HAL.out.blk.grown hgrow' (fun e => HAL.out.n1 e.symm)).cell 1
        have HP2 := Lib.hid P2
        have HK2 := Lib.hid ((Keep.of_below ((Below.refl w.heap.size w).alloc (Nat.le_refl _) (.cells #[.int .i64 (m : Int), .string s] 76)) H.out.lt).trans K2)
        clear hown' hgrow' hat P2 K2 c1
        go_wp2_with fail
        refine (act_any _ p sb _ M _ HP2.out HT.out.life HT.out.acts HT.out.arm).mono ?_
        rintro e w3 ⟨rfl, h3, k3⟩
        have H3 := Lib.hid h3
        have HK3 := Lib.hid (HK2.out.trans k3)
        clear h3 k3
        go_wp2
        go_ret
        rw [HE.out.1, HE.out.2]
        exact ⟨rfl, ⟨_, H3.out⟩, HK3.out⟩
      · have HE := Lib.hid (write_not (n := n) (s := s) ho (.inr hs))
        have hs' : ((s.size : Int) == 256) = false := by rw [beq_eq_false_iff_ne]; omega
        clear h hr hh ho hin
        go_enter Tryd.func49, Tryd.ntmps49
        go_wp2_with fail
        refine HR.out.mono ?_
        rintro e w1 ⟨rfl, rfl⟩
        go_wp2_with fail
        refine HH.out.mono ?_
        rintro e w1 ⟨rfl, rfl⟩
        go_wp2
        go_ret
        rw [HE.out.1, HE.out.2]
        exact ⟨rfl, ⟨qv, H.out⟩, Keep.refl _ _⟩
end Go.Proofs.YtnnppdjgmjgjhaaDoor.Plate
