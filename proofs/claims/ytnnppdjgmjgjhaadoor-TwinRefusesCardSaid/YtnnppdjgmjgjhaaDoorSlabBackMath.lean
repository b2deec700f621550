/- There and back: what is written is read, and what is read was written so. -/
import Derived.Test.YtnnppdjgmjgjhaaDoorSlabDecMath
import Derived.Test.YtnnppdjgmjgjhaaDoorSlabEnc
import Derived.Test.YtnnppdjgmjgjhaaDoorSlabLaws
namespace Go.Proofs.YtnnppdjgmjgjhaaDoor.Slab
set_option maxRecDepth 100000
open Go.RowKit Go.Sort

theorem beN_beL (L : Nat) (hL : L < 256 ^ 8) : ∀ t, t ≤ 8 → beN (beL L (8 - t)) = L / 256 ^ (8 - t)
  | 0, _ => by
    have h : beL L (8 - 0) = [] := rfl
    rw [h, Nat.div_eq_of_lt (by simpa using hL)]; rfl
  | t + 1, h => by
    have ih := beN_beL L hL t (by omega)
    have e : 8 - t = (8 - (t + 1)) + 1 := by omega
    rw [beL_next L (8 - (t + 1)) (by omega), beN_snoc, ← e, ih]
    unfold byteAt
    rw [UInt8.toNat_ofNat', e, Nat.pow_succ, ← Nat.div_div_eq_div_mul]
    generalize L / 256 ^ (8 - (t + 1)) = q
    omega
theorem beN_inj' : ∀ (n : Nat) {a b : List UInt8}, a.length = n → b.length = n → beN a = beN b → a = b
  | 0, a, b, h1, h2, _ => by rw [List.eq_nil_of_length_eq_zero h1, List.eq_nil_of_length_eq_zero h2]
  | n + 1, a, b, h1, h2, he => by
    rcases List.eq_nil_or_concat a with rfl | ⟨a', x, rfl⟩
    · simp at h1
    rcases List.eq_nil_or_concat b with rfl | ⟨b', y, rfl⟩
    · simp at h2
    rw [List.concat_eq_append] at h1 he ⊢
    rw [List.concat_eq_append] at h2 he ⊢
    rw [beN_snoc, beN_snoc] at he
    have k1 := x.toNat_lt
    have k2 := y.toNat_lt
    have e1 : beN a' = beN b' := by omega
    have e2 : x.toNat = y.toNat := by omega
    have e3 : x = y := UInt8.toNat_inj.1 e2
    rw [beN_inj' n (by simpa using h1) (by simpa using h2) e1, e3]
theorem beN_inj {a b : List UInt8} (h : a.length = b.length) (he : beN a = beN b) : a = b := beN_inj' b.length h rfl he
theorem beN_lt8 {s : List UInt8} (h : s.length = 8) : beN s < 256 ^ 8 := by
  have := beN_lt s 8 (by omega)
  rwa [List.take_of_length_le (by omega)] at this
theorem beL_beN {s : List UInt8} (h : s.length = 8) : beL (beN s) 0 = s := by
  refine beN_inj (by rw [beL_length, h]) ?_
  have := beN_beL (beN s) (beN_lt8 h) 8 (by omega)
  simpa using this
theorem take_slot {x : Slot} (hx : wrongB x = false) (r : List UInt8) : takeL (slotB x ++ r) = some (x, r) := by
  have hs : x.d.size ≤ 200 := by simp [wrongB] at hx; omega
  unfold slotB
  by_cases hu : x.u = true
  · rw [if_pos hu, List.cons_append, takeL_cons]
    have hb : (UInt8.ofNat x.d.size).toNat = x.d.size := by rw [UInt8.toNat_ofNat']; omega
    have hl : x.d.data.toList.length = x.d.size := by simp
    rw [hb, if_neg (by omega), if_pos (by rw [List.length_append, hl]; omega), List.take_append_of_le_length (by omega), List.take_of_length_le (by omega), List.drop_append_of_le_length (by omega), List.drop_of_length_le (by omega)]
    obtain ⟨u, d⟩ := x
    simp only at hu
    subst hu
    rfl
  · rw [if_neg hu, List.cons_append, takeL_cons]
    have h0 : x = nos := by
      obtain ⟨u, d⟩ := x
      simp only [Bool.not_eq_true] at hu
      subst hu
      have : d.size = 0 := by
        have h2 := hx
        unfold wrongB at h2
        rw [Bool.or_eq_false_iff] at h2
        simpa using h2.2
      rw [size_zero this]
      rfl
    rw [if_pos (by rfl), h0]
    rfl
theorem takes_slots {l : List Slot} (hl : l.any wrongB = false) (r : List UInt8) : ∀ k, k ≤ l.length → takesL k (slotsB l ++ r) = some (l.take k, slotsB (l.drop k) ++ r)
  | 0, _ => by simp [takesL]
  | k + 1, h => by
    rw [takesL, takes_slots hl r k (by omega)]
    simp only
    have hk : l.drop k = l[k] :: l.drop (k + 1) := List.drop_eq_getElem_cons (by omega)
    have hw : wrongB l[k] = false := by simpa using List.any_eq_false.1 hl _ (List.getElem_mem (by omega))
    have : slotsB (l.drop k) = slotB l[k] ++ slotsB (l.drop (k + 1)) := by rw [hk]; rfl
    rw [this, List.append_assoc, take_slot hw]
    simp only
    rw [List.take_succ_eq_append_getElem (by omega)]
theorem headB_len (L : Nat) (l : List Slot) : (headB L l).length = 9 + (slotsB l).length := by unfold headB; simp [beL_length]; omega
theorem encB_len {L : Nat} {l : List Slot} (h : 9 + sz l ≤ 240) : (encB L l).length = 240 := by
  have := slotsB_le l
  have h2 := headB_len L l
  unfold encB
  rw [List.length_append, List.length_replicate]
  omega
theorem dec_enc {L : Nat} {l : List Slot} (hg : goodB (L : Int) l = true) : decR (encB L l) = ((L : Int), l, 0) := by
  have hp := good_parts hg
  have hL : L < 256 ^ 8 := by have : (256 : Nat) ^ 8 = 18446744073709551616 := by decide
                              omega
  have he : encB L l = beL L 0 ++ UInt8.ofNat l.length :: (slotsB l ++ List.replicate (240 - (headB L l).length) 0) := by unfold encB headB; simp
  unfold decR
  rw [if_pos (encB_len hp.2.2.2.2.2)]
  have h8 : (beL L 0).length = 8 := beL_length L 0
  have e1 : (encB L l).take 8 = beL L 0 := by rw [he, List.take_append_of_le_length (by omega), List.take_of_length_le (by omega)]
  have e2 : (encB L l).getD 8 0 = UInt8.ofNat l.length := by
    rw [he]; simp [List.getD, h8]
  have e3 : (encB L l).drop 9 = slotsB l ++ List.replicate (240 - (headB L l).length) 0 := by
    rw [he, show 9 = (beL L 0).length + 1 by omega, List.drop_append]
    simp
  have e4 : (UInt8.ofNat l.length).toNat = l.length := by rw [UInt8.toNat_ofNat']; omega
  have e5 : beN (beL L 0) = L := by have := beN_beL L hL 8 (by omega); simpa using this
  rw [e1, e2, e3, e4, e5, takes_slots hp.2.2.2.2.1 _ _ (Nat.le_refl _)]
  have e6 : sgn L = (L : Int) := by unfold sgn; rw [if_pos (by omega)]
  rw [decOf_some, e6, List.take_length, List.drop_length, if_pos]
  refine ⟨hg, ?_⟩
  rw [List.any_eq_false]
  intro b hb
  have : b ∈ List.replicate (240 - (headB L l).length) (0 : UInt8) := by simpa [slotsB] using hb
  rw [(List.mem_replicate.1 this).2]
  decide
theorem take_is {r r' : List UInt8} {x : Slot} (h : takeL r = some (x, r')) : r = slotB x ++ r' := by
  cases r with
  | nil => cases h
  | cons b r =>
    rw [takeL_cons] at h
    have hb := b.toNat_lt
    split at h
    · rename_i hc
      simp only [Option.some.injEq, Prod.mk.injEq] at h
      obtain ⟨rfl, rfl⟩ := h
      have : b = 255 := UInt8.toNat_inj.1 hc
      rw [this]
      rfl
    · split at h
      · rename_i hle
        simp only [Option.some.injEq, Prod.mk.injEq] at h
        obtain ⟨rfl, rfl⟩ := h
        have e : (ByteArray.mk (r.take b.toNat).toArray).size = b.toNat := by
          show (List.toArray _).size = _
          simp; omega
        unfold slotB
        rw [if_pos rfl]
        simp only [e]
        rw [UInt8.ofNat_toNat]
        simp
      · cases h
theorem takes_is {s : List UInt8} : ∀ {k : Nat} {z : List Slot} {r : List UInt8}, takesL k s = some (z, r) → s = slotsB z ++ r
  | 0, z, r, h => by
    simp only [takesL, Option.some.injEq, Prod.mk.injEq] at h
    obtain ⟨rfl, rfl⟩ := h
    rfl
  | k + 1, z, r, h => by
    rw [takesL] at h
    cases h1 : takesL k s with
    | none => rw [h1] at h; cases h
    | some p =>
      obtain ⟨z0, r0⟩ := p
      rw [h1] at h
      simp only at h
      cases h2 : takeL r0 with
      | none => rw [h2] at h; cases h
      | some q =>
        obtain ⟨x, r1⟩ := q
        rw [h2] at h
        simp only [Option.some.injEq, Prod.mk.injEq] at h
        obtain ⟨rfl, rfl⟩ := h
        rw [takes_is h1, take_is h2]
        simp [slotsB]
theorem zeros_is {r : List UInt8} (h : r.any nzB = false) : r = List.replicate r.length 0 := by
  refine List.eq_replicate_iff.2 ⟨rfl, fun b hb => ?_⟩
  have := List.any_eq_false.1 h b hb
  simp [nzB] at this
  exact UInt8.toNat_inj.1 (by simpa using this)
/-- what is read is a good image, written so; or nothing -/
theorem dec_is (t : List UInt8) : (∃ (L : Nat) (z : List Slot), decR t = ((L : Int), z, 0) ∧ goodB (L : Int) z = true ∧ encB L z = t) ∨ decR t = (0, [], 4) := by
  unfold decR
  by_cases h : t.length = 240
  · rw [if_pos h]
    cases hT : takesL (t.getD 8 0).toNat (t.drop 9) with
    | none => exact .inr rfl
    | some p =>
      obtain ⟨z, r⟩ := p
      rw [decOf_some]
      by_cases hc : goodB (sgn (beN (t.take 8))) z = true ∧ r.any nzB = false
      · rw [if_pos hc]
        obtain ⟨hg, hz⟩ := hc
        have hp := good_parts hg
        have h8 : (t.take 8).length = 8 := by simp; omega
        have hv := beN_lt8 h8
        have hpw : (256 : Nat) ^ 8 = 18446744073709551616 := by decide
        have hL : sgn (beN (t.take 8)) = ((beN (t.take 8) : Nat) : Int) := by
          have h1 := hp.1
          unfold sgn at h1 ⊢
          split
          · rfl
          · rename_i hc; rw [if_neg hc] at h1; omega
        rw [hL] at hg hp ⊢
        refine .inl ⟨_, z, rfl, hg, ?_⟩
        have hb := beL_beN h8
        have hk := (takesL_len hT).1
        have hr := takes_is hT
        have hzr := zeros_is hz
        have h9 : t = t.take 8 ++ t.getD 8 0 :: t.drop 9 := by
          have e1 : t[8]? = some (t.getD 8 0) := by simp [List.getD, h]
          have e2 : t.drop 8 = t.getD 8 0 :: t.drop 9 := by
            have := List.drop_eq_getElem_cons (l := t) (i := 8) (by omega)
            rw [this]
            congr 1
            simp [List.getD, h]
          rw [← e2, List.take_append_drop]
        have hlen : (headB (beN (t.take 8)) z).length + r.length = 240 := by
          rw [headB_len]
          have := congrArg List.length hr
          simp at this
          omega
        unfold encB
        rw [show 240 - (headB (beN (t.take 8)) z).length = r.length by omega, ← hzr]
        unfold headB
        rw [hb, hk, UInt8.ofNat_toNat, List.append_assoc, List.cons_append, ← hr, ← h9]
      · rw [if_neg hc]
        exact .inr rfl
  · rw [if_neg h]
    exact .inr rfl
theorem enc_inj {l1 l2 : Int} {z1 z2 : List Slot} (h1 : goodB l1 z1 = true) (h2 : goodB l2 z2 = true) : encS' l1 z1 = encS' l2 z2 ↔ l1 = l2 ∧ z1 = z2 := by
  constructor
  · intro h
    unfold encS' at h
    rw [if_pos h1, if_pos h2] at h
    obtain ⟨L1, rfl⟩ := Int.eq_ofNat_of_zero_le (good_parts h1).1
    obtain ⟨L2, rfl⟩ := Int.eq_ofNat_of_zero_le (good_parts h2).1
    have e : encB (L1 : Int).toNat z1 = encB (L2 : Int).toNat z2 := by
      have := congrArg (fun x : ByteArray => x.data.toList) h
      simpa using this
    have d1 := dec_enc h1
    have d2 := dec_enc h2
    rw [Int.toNat_natCast, Int.toNat_natCast] at e
    rw [e, d2] at d1
    simp only [Prod.mk.injEq] at d1
    exact ⟨d1.1.symm, d1.2.1.symm⟩
  · rintro ⟨rfl, rfl⟩; rfl
end Go.Proofs.YtnnppdjgmjgjhaaDoor.Slab
