/- The walks of slab.number and slab.take. -/
import Derived.Test.YtnnppdjgmjgjhaaDoorSlabFitsMath
import Derived.Deep.RegionHeld3
namespace Go.Proofs.YtnnppdjgmjgjhaaDoor.Slab
set_option maxRecDepth 100000
open Go.RowKit Go.Sort

/-- the bytes as a number, the greatest first -/
def beN (s : List UInt8) : Nat := s.foldl (fun v b => v * 256 + b.toNat) 0
def sgn (v : Nat) : Int := if v < 9223372036854775808 then (v : Int) else (v : Int) - 18446744073709551616
theorem beN_snoc (s : List UInt8) (b : UInt8) : beN (s ++ [b]) = beN s * 256 + b.toNat := by simp [beN]
theorem beN_next {s : List UInt8} {k : Nat} (h : k < s.length) : beN (s.take (k + 1)) = beN (s.take k) * 256 + s[k].toNat := by
  rw [List.take_succ_eq_append_getElem h, beN_snoc]
theorem beN_lt (s : List UInt8) : ∀ k, k ≤ s.length → beN (s.take k) < 256 ^ k
  | 0, _ => by simp [beN]
  | k + 1, h => by
    rw [beN_next (by omega), Nat.pow_succ]
    have := beN_lt s k (by omega)
    have hb := s[k].toNat_lt
    omega
theorem or_byte {v : Nat} (hv : v < 72057594037927936) {b : Nat} (hb : b < 256) : bits .or .i64 (wrap64 ((v : Int) * 256)) (wrap64 (b : Int)) = sgn (v * 256 + b) := by
  have e1 : BitVec.ofInt 64 (wrap64 ((v : Int) * 256)) = BitVec.ofNat 64 (2 ^ 8 * v) := by
    apply BitVec.eq_of_toNat_eq
    rw [BitVec.toNat_ofInt, BitVec.toNat_ofNat]
    unfold wrap64
    omega
  have e2 : BitVec.ofInt 64 (wrap64 (b : Int)) = BitVec.ofNat 64 b := by
    apply BitVec.eq_of_toNat_eq
    rw [BitVec.toNat_ofInt, BitVec.toNat_ofNat]
    unfold wrap64
    omega
  have h : bits .or .i64 (wrap64 ((v : Int) * 256)) (wrap64 (b : Int)) = IntKind.i64.wrap ((BitVec.ofInt 64 (wrap64 ((v : Int) * 256)) ||| BitVec.ofInt 64 (wrap64 (b : Int))).toNat : Int) := rfl
  rw [h, e1, e2]
  have e3 : (BitVec.ofNat 64 (2 ^ 8 * v) ||| BitVec.ofNat 64 b).toNat = v * 256 + b := by
    rw [BitVec.toNat_or, BitVec.toNat_ofNat, BitVec.toNat_ofNat, Nat.mod_eq_of_lt (by omega), Nat.mod_eq_of_lt (by omega), ← Nat.two_pow_add_eq_or_of_lt (by omega)]
    omega
  rw [e3, IntKind.wrap_i64]
  unfold sgn
  omega

set_option maxRecDepth 100000 in
set_option maxHeartbeats 4000000 in
theorem number_any (s : ByteArray) (w : World) (hs : s.size = 8) :
    Calls Tryd.prog 87 #[.string s] w fun e w' => e = .returned (.int .i64 (sgn (beN s.data.toList))) ∧ w = w' := by
  have hlen : s.data.toList.length = 8 := by rw [← hs]; simp
  go_enter Tryd.func87, Tryd.ntmps87
  go_wp2
  go_loopw [3, 7] (fun v i wr => ∃ k : Nat, k ≤ 8 ∧ i = .int .i64 (k : Int) ∧ v = .int .i64 (sgn (beN (s.data.toList.take k))) ∧ w = wr) (fun _ i _ => 8 - (intOf i).toNat)
  case atStart => exact ⟨0, Nat.zero_le _, rfl, rfl, rfl⟩
  case round =>
    obtain ⟨k, hk, rfl, rfl, rfl⟩ := hrel
    by_cases hlt : k < 8
    · have hv := beN_lt s.data.toList k (by omega)
      have hv2 : beN (s.data.toList.take k) < 72057594037927936 := Nat.lt_of_lt_of_le hv (by
        have : (256 : Nat) ^ k ≤ 256 ^ 7 := Nat.pow_le_pow_right (by decide) (by omega)
        exact this)
      have hn := beN_next (s := s.data.toList) (k := k) (by omega)
      have hg : sgn (beN (s.data.toList.take k)) = ((beN (s.data.toList.take k) : Nat) : Int) := by unfold sgn; rw [if_pos (by omega)]
      rw [hg]
      have HN := Lib.hid hn
      have hz : wrap64 (((beN (s.data.toList.take k) : Nat) : Int) * 256) = wrap64 (((beN (s.data.toList.take k) : Nat) : Int) * 256) := rfl
      clear hn hg hv
      generalize beN (s.data.toList.take k) = v at hv2 HN ⊢
      clear hz
      go_wp2
      go_roundw
      case rel =>
        refine ⟨k + 1, by omega, by go_num, ?_, trivial⟩
        rw [HN.out]
        have := or_byte hv2 (s.data.toList[k]'(by omega)).toNat_lt
        have he : s.data.toList[k]'(by omega) = s[k]'(by omega) := by simp; rfl
        rw [he] at this ⊢
        simp only [Value.int.injEq, true_and]
        simpa using this
      case measure => simp [intOf]; omega
    · obtain rfl : k = 8 := by omega
      rw [List.take_of_length_le (by omega)]
      go_wp2
      go_ret
      exact ⟨rfl, rfl⟩

theorem ext_str {s : ByteArray} {b : UInt8} {r : List UInt8} (h : s.data.toList = b :: r) (j : Nat) : s.extract 1 (1 + j) = ⟨(r.take j).toArray⟩ := by
  refine ByteArray.ext (Array.toList_inj.1 ?_)
  rw [Lib.extract_data, h, Nat.add_comm]
  simp
theorem ext_end {s : ByteArray} {b : UInt8} {r : List UInt8} (h : s.data.toList = b :: r) (i : Nat) : s.extract (1 + i) s.size = ⟨(r.drop i).toArray⟩ := by
  refine ByteArray.ext (Array.toList_inj.1 ?_)
  rw [Lib.extract_data, List.take_of_length_le (by simp), h, Nat.add_comm]
  simp
/-- one slot off the front of a text -/
def takeL : List UInt8 → Option (Slot × List UInt8)
  | [] => none
  | b :: r => if b.toNat = 255 then some (nos, r) else if b.toNat ≤ r.length then some (⟨true, ⟨(r.take b.toNat).toArray⟩⟩, r.drop b.toNat) else none
def takeV (s : List UInt8) : Value := match takeL s with
  | none => .tuple #[.agg #[.bool false, .string ⟨#[]⟩], .string ⟨#[]⟩, .bool false]
  | some (x, r) => .tuple #[.agg #[.bool x.u, .string x.d], .string ⟨r.toArray⟩, .bool true]

theorem takeL_cons (b : UInt8) (r : List UInt8) : takeL (b :: r) = if b.toNat = 255 then some (nos, r) else if b.toNat ≤ r.length then some (⟨true, ⟨(r.take b.toNat).toArray⟩⟩, r.drop b.toNat) else none := rfl
theorem takeV_none {b : UInt8} {r : List UInt8} (h : b.toNat = 255) : takeV (b :: r) = .tuple #[.agg #[.bool false, .string ⟨#[]⟩], .string ⟨r.toArray⟩, .bool true] := by
  unfold takeV; rw [takeL_cons, if_pos h]; rfl
theorem takeV_some {b : UInt8} {r : List UInt8} (h : ¬ b.toNat = 255) (h2 : b.toNat ≤ r.length) : takeV (b :: r) = .tuple #[.agg #[.bool true, .string ⟨(r.take b.toNat).toArray⟩], .string ⟨(r.drop b.toNat).toArray⟩, .bool true] := by
  unfold takeV; rw [takeL_cons, if_neg h, if_pos h2]
theorem takeV_short {b : UInt8} {r : List UInt8} (h : ¬ b.toNat = 255) (h2 : ¬ b.toNat ≤ r.length) : takeV (b :: r) = .tuple #[.agg #[.bool false, .string ⟨#[]⟩], .string ⟨#[]⟩, .bool false] := by
  unfold takeV; rw [takeL_cons, if_neg h, if_neg h2]

set_option maxRecDepth 100000 in
set_option maxHeartbeats 4000000 in
theorem take_any (s : ByteArray) (w : World) (hs : s.size ≤ 140737488351232) :
    Calls Tryd.prog 88 #[.string s] w fun e w' => e = .returned (takeV s.data.toList) ∧ Below w.heap.size w w' := by
  have hA : Below w.heap.size w (w.alloc (.cells #[.bool false, .string ⟨#[]⟩] 81)) := (Below.refl _ _).alloc (Nat.le_refl _) _
  by_cases h0 : s.size = 0
  · obtain rfl := size_zero h0
    go_enter Tryd.func88, Tryd.ntmps88
    go_wp2
    exact bodyPost_ret (v := .tuple #[.agg #[.bool false, .string ⟨#[]⟩], .string ⟨#[]⟩, .bool false]) (by simp [results, Tryd.results88, go_sem]) rfl ⟨rfl, hA⟩
  · have hl := list_ne h0
    have hp : (0 : Int) < (s.size : Int) := by omega
    have hp1 : (1 : Int) ≤ (s.size : Int) := by omega
    obtain ⟨b, r, hbr⟩ : ∃ b r, s.data.toList = b :: r := by
      cases h : s.data.toList with
      | nil => have : s.data.toList.length = s.size := by simp
               rw [h] at this; simp at this; omega
      | cons b r => exact ⟨b, r, rfl⟩
    have hsz : s.size = r.length + 1 := by
      have : s.data.toList.length = s.size := by simp
      rw [hbr] at this; simpa using this.symm
    have hb : ∀ h : 0 < s.size, (s[0]'h).toNat = b.toNat := fun h => by
      have : s.data.toList[0]? = some b := by rw [hbr]; rfl
      have h2 : s.data[0]? = some b := by simpa using this
      have h3 := (Array.getElem?_eq_some_iff.1 h2).2
      show (s.data[0]).toNat = _
      rw [h3]
    have HBR := Lib.hid hbr
    have HSZ := Lib.hid hsz
    have hb256 := b.toNat_lt
    clear hbr hsz
    generalize hN : b.toNat = N at hb hb256
    have HNN := Lib.hid hN
    clear hN
    have hw : wrap64 (1 + wrap64 (N : Int)) = 1 + (N : Int) := by unfold wrap64; omega
    have hm0 : (0 : Int) ≤ 1 + (N : Int) := by omega
    have e0 := (Blk.new w 81 #[.bool false, .string ⟨#[]⟩])
    have q0 : (w.alloc (.cells #[.bool false, .string ⟨#[]⟩] 81)).cell? ⟨w.heap.size, 0, none⟩ = some (.bool false) := e0.cell 0
    have q1 : (w.alloc (.cells #[.bool false, .string ⟨#[]⟩] 81)).cell? ⟨w.heap.size, 1, none⟩ = some (.string ⟨#[]⟩) := e0.cell 1
    have f0 := e0.frozen 0
    have f1 := e0.frozen 1
    by_cases h1 : N = 255
    · subst h1
      go_enter Tryd.func88, Tryd.ntmps88
      go_upto_region 1 with (fail)
      generalize hGen : w.alloc (.cells #[.bool false, .string ⟨#[]⟩] 81) = W at hA q0 q1 f0 f1 e0 ⊢
      clear hGen
      go_wp2
      go_region_held3 (fun _ => True) (trivial) (fail)
      go_goals
      go_wp2
      exact bodyPost_ret (v := .tuple #[.agg #[.bool false, .string ⟨#[]⟩], .string (s.extract 1 s.size), .bool true]) (by simp [results, Tryd.results88, go_sem, q0, q1]) rfl ⟨by rw [HBR.out]; rw [takeV_none HNN.out]; have := ext_end HBR.out 0; simp only [Nat.add_zero, List.drop_zero] at this; rw [this], ((hA.setCell (p := ⟨w.heap.size, 0, none⟩) (Nat.le_refl _) _).setCell (p := ⟨w.heap.size, 1, none⟩) (Nat.le_refl _) _).drew⟩
    · by_cases h2 : N ≤ r.length
      · have hm1 : 1 + (N : Int) ≤ (s.size : Int) := by have := HSZ.out; omega
        have hm2 : (1 : Int) ≤ 1 + (N : Int) := by omega
        have hne : ((N : Int) == 255) = false := by simp; omega
        go_enter Tryd.func88, Tryd.ntmps88
        go_upto_region 1 with (fail)
        generalize hGen : w.alloc (.cells #[.bool false, .string ⟨#[]⟩] 81) = W at hA q0 q1 f0 f1 e0 ⊢
        clear hGen
        go_wp2
        go_region_held3 (fun _ => True) (trivial) (fail)
        go_goals
        go_wp2
        exact bodyPost_ret (v := .tuple #[.agg #[.bool true, .string (s.extract 1 (1 + (N : Int)).toNat)], .string (s.extract (1 + (N : Int)).toNat s.size), .bool true]) (by simp [results, Tryd.results88, go_sem, q0, q1]) rfl ⟨by rw [HBR.out]; rw [takeV_some (by rw [HNN.out]; exact h1) (by rw [HNN.out]; exact h2), HNN.out, show (1 + (N : Int)).toNat = 1 + N by omega, ext_str HBR.out, ext_end HBR.out], ((hA.setCell (p := ⟨w.heap.size, 0, none⟩) (Nat.le_refl _) _).setCell (p := ⟨w.heap.size, 1, none⟩) (Nat.le_refl _) _).drew⟩
      · have hm1 : (s.size : Int) < 1 + (N : Int) := by have := HSZ.out; omega
        have hne : ((N : Int) == 255) = false := by simp; omega
        go_enter Tryd.func88, Tryd.ntmps88
        go_upto_region 1 with (fail)
        generalize hGen : w.alloc (.cells #[.bool false, .string ⟨#[]⟩] 81) = W at hA q0 q1 f0 f1 e0 ⊢
        clear hGen
        go_wp2
        exact bodyPost_ret (v := .tuple #[.agg #[.bool false, .string ⟨#[]⟩], .string ⟨#[]⟩, .bool false]) (by simp [results, Tryd.results88, go_sem, q0, q1]) rfl ⟨by rw [HBR.out]; rw [takeV_short (by rw [HNN.out]; exact h1) (by rw [HNN.out]; exact h2)], ((hA.setCell (p := ⟨w.heap.size, 0, none⟩) (Nat.le_refl _) _).setCell (p := ⟨w.heap.size, 1, none⟩) (Nat.le_refl _) _)⟩
end Go.Proofs.YtnnppdjgmjgjhaaDoor.Slab
