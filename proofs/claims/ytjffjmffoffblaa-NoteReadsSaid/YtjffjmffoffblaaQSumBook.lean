/- Plain facts on the check of sum: the register, moved bit by bit; no program is named here. The walks of sum.take and sum.Of. The walks of the statements' own beginning and of the document's own answer. The walks of the statements SumExact, SumRest. -/
import Derived.Laws.Entries
import Derived.Test.YtjffjmffoffblaaRows
import Derived.WalkKit
import Derived.WalkSpells
import Derived.WalkLawsBesides
import Derived.BigQuiet
import Derived.Deep.QuietTactic
import Derived.IntWalk
import Derived.Lib.Hide
import Derived.WalkSmall
import Derived.StillTailTactics
namespace Go.Proofs.Ytjffjmffoffblaa.Sum
set_option maxRecDepth 100000

def poly : BitVec 32 := 3988292384#32
/-- a move of the register -/
def half (r : BitVec 32) : BitVec 32 := (r >>> 1) ^^^ (if r.getLsbD 0 then poly else 0#32)
def halves : Nat → BitVec 32 → BitVec 32
  | 0, r => r
  | n + 1, r => half (halves n r)
def byteOf (b : UInt8) : BitVec 32 := BitVec.ofNat 32 b.toNat
def take (r : BitVec 32) (b : UInt8) : BitVec 32 := halves 8 (r ^^^ byteOf b)
def crc (r : BitVec 32) (l : List UInt8) : BitVec 32 := l.foldl take r
def check (l : List UInt8) : BitVec 32 := ~~~ crc 4294967295#32 l

theorem crc_append (r : BitVec 32) (l m : List UInt8) : crc r (l ++ m) = crc (crc r l) m := by unfold crc; rw [List.foldl_append]
theorem crc_snoc (r : BitVec 32) (l : List UInt8) (b : UInt8) : crc r (l ++ [b]) = take (crc r l) b := by rw [crc_append]; rfl
theorem halves_add (m n : Nat) (r : BitVec 32) : halves (m + n) r = halves m (halves n r) := by
  induction m with
  | zero => rw [Nat.zero_add]; rfl
  | succ m ih => rw [Nat.succ_add]; show half _ = half _; rw [ih]

theorem xor_lc (a b c : BitVec 32) : a ^^^ (b ^^^ c) = b ^^^ (a ^^^ c) := by rw [← BitVec.xor_assoc, BitVec.xor_comm a b, BitVec.xor_assoc]
theorem half_xor (a b : BitVec 32) : half (a ^^^ b) = half a ^^^ half b := by
  unfold half
  rw [BitVec.getLsbD_xor, BitVec.ushiftRight_xor_distrib]
  cases a.getLsbD 0 <;> cases b.getLsbD 0 <;> simp [BitVec.xor_assoc, xor_lc poly]
  exact BitVec.xor_comm _ _
theorem halves_xor (n : Nat) (a b : BitVec 32) : halves n (a ^^^ b) = halves n a ^^^ halves n b := by
  induction n with
  | zero => rfl
  | succ n ih => show half _ = half _ ^^^ half _; rw [ih, half_xor]
/-- the highest bit tells whether poly was put on -/
theorem half_top (r : BitVec 32) : (half r).getLsbD 31 = r.getLsbD 0 := by
  unfold half
  rw [BitVec.getLsbD_xor, BitVec.getLsbD_ushiftRight]
  have h1 : r.getLsbD (1 + 31) = false := BitVec.getLsbD_of_ge _ _ (by decide)
  rw [h1]
  cases r.getLsbD 0 <;> decide
theorem half_zero {r : BitVec 32} (h : half r = 0#32) : r = 0#32 := by
  have h0 : r.getLsbD 0 = false := by rw [← half_top r, h]; decide
  unfold half at h
  rw [h0] at h
  simp at h
  apply BitVec.eq_of_getLsbD_eq
  intro i hi
  cases i with
  | zero => rw [h0]; simp
  | succ i =>
    have := congrArg (fun x => BitVec.getLsbD x i) h
    simp only [BitVec.getLsbD_ushiftRight] at this
    rw [Nat.add_comm, this]; simp
theorem halves_zero : ∀ (n : Nat) {r : BitVec 32}, halves n r = 0#32 → r = 0#32
  | 0, _, h => h
  | n + 1, _, h => halves_zero n (half_zero h)
theorem xor_self_iff {a b : BitVec 32} : a ^^^ b = 0#32 ↔ a = b := by
  constructor
  · intro h
    have : a ^^^ b ^^^ b = 0#32 ^^^ b := by rw [h]
    rw [BitVec.xor_assoc, BitVec.xor_self, BitVec.xor_zero, BitVec.zero_xor] at this
    exact this
  · rintro rfl; exact BitVec.xor_self
theorem halves_inj {n : Nat} {a b : BitVec 32} (h : halves n a = halves n b) : a = b := by
  apply xor_self_iff.1
  apply halves_zero n
  rw [halves_xor, h, BitVec.xor_self]
theorem take_inj {a b : BitVec 32} {c : UInt8} (h : take a c = take b c) : a = b := by
  have h1 := halves_inj h
  have : a ^^^ byteOf c ^^^ byteOf c = b ^^^ byteOf c ^^^ byteOf c := by rw [h1]
  rw [BitVec.xor_assoc, BitVec.xor_assoc, BitVec.xor_self, BitVec.xor_zero, BitVec.xor_zero] at this
  exact this
theorem crc_inj : ∀ (l : List UInt8) {a b : BitVec 32}, crc a l = crc b l → a = b
  | [], _, _, h => h
  | _ :: l, _, _, h => take_inj (crc_inj l h)

/-- a move of a word whose lowest bit is 0 -/
theorem half_shl (x : BitVec 32) (h : x.getLsbD 31 = false) : half (x <<< 1) = x := by
  unfold half
  have h0 : (x <<< 1).getLsbD 0 = false := by simp
  rw [h0]
  simp
  apply BitVec.eq_of_getLsbD_eq
  intro i hi
  rw [BitVec.getLsbD_ushiftRight, BitVec.getLsbD_shiftLeft]
  by_cases h31 : i = 31
  · subst h31; rw [h]; decide
  · have e1 : decide (1 + i < 32) = true := by simp; omega
    have e2 : decide (1 + i < 1) = false := by simp
    rw [e1, e2]
    have e3 : 1 + i - 1 = i := by omega
    rw [e3]; rfl
theorem halves_shl : ∀ (n : Nat) (x : BitVec 32), (∀ i, 32 - n ≤ i → x.getLsbD i = false) → n ≤ 32 → halves n (x <<< n) = x
  | 0, x, _, _ => by simp [halves]
  | n + 1, x, h, hn => by
    have e : x <<< (n + 1) = (x <<< 1) <<< n := by rw [Nat.add_comm, BitVec.shiftLeft_add]
    show half (halves n _) = x
    rw [e, halves_shl n (x <<< 1) ?_ (by omega)]
    · exact half_shl x (h 31 (by omega))
    · intro i hi
      rw [BitVec.getLsbD_shiftLeft]
      by_cases hi0 : i < 1
      · simp [hi0]
      · rw [h (i - 1) (by omega)]; simp
theorem byteOf_high (b : UInt8) (i : Nat) (h : 8 ≤ i) : (byteOf b).getLsbD i = false := by
  unfold byteOf
  rw [BitVec.getLsbD_ofNat]
  have hb := b.toNat_lt
  have : b.toNat < 2 ^ i := Nat.lt_of_lt_of_le hb (Nat.pow_le_pow_right (n := 2) (by decide) h)
  rw [Nat.testBit_lt_two_pow this]; simp

/-- four bytes, the lowest first -/
def word (b0 b1 b2 b3 : UInt8) : BitVec 32 := byteOf b0 ^^^ (byteOf b1 <<< 8) ^^^ (byteOf b2 <<< 16) ^^^ (byteOf b3 <<< 24)
theorem take_four (r : BitVec 32) (b0 b1 b2 b3 : UInt8) : crc r [b0, b1, b2, b3] = halves 32 (r ^^^ word b0 b1 b2 b3) := by
  show take (take (take (take r b0) b1) b2) b3 = _
  unfold take word
  have e1 : byteOf b1 = halves 8 (byteOf b1 <<< 8) := (halves_shl 8 _ (fun i hi => byteOf_high _ _ (by omega)) (by decide)).symm
  have e2 : byteOf b2 = halves 16 (byteOf b2 <<< 16) := (halves_shl 16 _ (fun i hi => byteOf_high _ _ (by omega)) (by decide)).symm
  have e3 : byteOf b3 = halves 24 (byteOf b3 <<< 24) := (halves_shl 24 _ (fun i hi => byteOf_high _ _ (by omega)) (by decide)).symm
  conv => lhs; rw [e1, ← halves_xor, ← halves_add]
  conv => lhs; rw [e2, ← halves_xor, ← halves_add]
  conv => lhs; rw [e3, ← halves_xor, ← halves_add]
  simp [BitVec.xor_assoc]
theorem word_bits (b0 b1 b2 b3 : UInt8) : word b0 b1 b2 b3 = BitVec.ofNat 32 (b0.toNat + 256 * b1.toNat + 65536 * b2.toNat + 16777216 * b3.toNat) := by
  have h0 := b0.toNat_lt; have h1 := b1.toNat_lt; have h2 := b2.toNat_lt; have h3 := b3.toNat_lt
  have key : ∀ (k : Nat) (x y : Nat), x < 2 ^ k → BitVec.ofNat 32 x ^^^ (BitVec.ofNat 32 y <<< k) = BitVec.ofNat 32 (x + 2 ^ k * y) := by
    intro k x y hx
    apply BitVec.eq_of_getLsbD_eq
    intro i hi
    rw [BitVec.getLsbD_xor, BitVec.getLsbD_shiftLeft]
    simp only [BitVec.getLsbD_ofNat, hi, decide_true, Bool.true_and]
    rw [Nat.add_comm, Nat.testBit_two_pow_mul_add _ hx]
    by_cases hk : i < k
    · simp [hk]
    · rw [if_neg hk, Nat.testBit_lt_two_pow (Nat.lt_of_lt_of_le hx (Nat.pow_le_pow_right (by decide) (by omega)))]
      have : i - k < 32 := by omega
      simp [hk, this]
  unfold word byteOf
  rw [key 8 _ _ (by omega), key 16 _ _ (by omega), key 24 _ _ (by omega)]
theorem word_inj {a0 a1 a2 a3 b0 b1 b2 b3 : UInt8} (h : word a0 a1 a2 a3 = word b0 b1 b2 b3) : a0 = b0 ∧ a1 = b1 ∧ a2 = b2 ∧ a3 = b3 := by
  rw [word_bits, word_bits] at h
  have h0 := a0.toNat_lt; have h1 := a1.toNat_lt; have h2 := a2.toNat_lt; have h3 := a3.toNat_lt
  have g0 := b0.toNat_lt; have g1 := b1.toNat_lt; have g2 := b2.toNat_lt; have g3 := b3.toNat_lt
  have := congrArg BitVec.toNat h
  rw [BitVec.toNat_ofNat, BitVec.toNat_ofNat, Nat.mod_eq_of_lt (by omega), Nat.mod_eq_of_lt (by omega)] at this
  refine ⟨UInt8.toNat_inj.1 (by omega), UInt8.toNat_inj.1 (by omega), UInt8.toNat_inj.1 (by omega), UInt8.toNat_inj.1 (by omega)⟩

/-- P2.2: four bytes in the place of others -/
theorem tells (p q : List UInt8) (a0 a1 a2 a3 b0 b1 b2 b3 : UInt8) (h : check (p ++ [a0, a1, a2, a3] ++ q) = check (p ++ [b0, b1, b2, b3] ++ q)) :
    [a0, a1, a2, a3] = [b0, b1, b2, b3] := by
  unfold check at h
  have h1 := BitVec.not_inj.1 h
  simp only [crc_append] at h1
  have h2 := crc_inj q h1
  rw [take_four, take_four] at h2
  have h3 := halves_inj h2
  have h4 := congrArg (fun x => crc 4294967295#32 p ^^^ x) h3
  simp only [← BitVec.xor_assoc, BitVec.xor_self, BitVec.zero_xor] at h4
  obtain ⟨rfl, rfl, rfl, rfl⟩ := word_inj h4
  rfl

/-- a check's four bytes -/
def quad (c : BitVec 32) : List UInt8 := [(c.toNat % 256).toUInt8, (c.toNat / 256 % 256).toUInt8, (c.toNat / 65536 % 256).toUInt8, (c.toNat / 16777216 % 256).toUInt8]
theorem u8_toNat (n : Nat) (h : n < 256) : n.toUInt8.toNat = n := by
  simp [Nat.toUInt8, UInt8.toNat_ofNat']; omega
theorem quad_word (c : BitVec 32) : word (c.toNat % 256).toUInt8 (c.toNat / 256 % 256).toUInt8 (c.toNat / 65536 % 256).toUInt8 (c.toNat / 16777216 % 256).toUInt8 = c := by
  have hc := c.isLt
  rw [word_bits, u8_toNat _ (by omega), u8_toNat _ (by omega), u8_toNat _ (by omega), u8_toNat _ (by omega)]
  apply BitVec.eq_of_toNat_eq
  rw [BitVec.toNat_ofNat]
  omega
/-- P2.2: a text and behind it its check -/
theorem rest (l : List UInt8) : check (l ++ quad (check l)) = 558161692#32 := by
  have h1 : crc 4294967295#32 (l ++ quad (check l)) = halves 32 4294967295#32 := by
    rw [crc_append]
    unfold quad
    rw [take_four, quad_word]
    unfold check
    congr 1
    generalize crc 4294967295#32 l = r
    apply BitVec.eq_of_getLsbD_eq
    intro i hi
    have : (4294967295#32) = BitVec.allOnes 32 := by decide
    rw [this, BitVec.getLsbD_allOnes, BitVec.getLsbD_xor, BitVec.getLsbD_not]
    simp [hi]
  unfold check at h1 ⊢
  rw [h1]
  decide +kernel

/-- the document's own way, bit by bit of the byte, the lowest first: a bit -/
def refAt (r : BitVec 32) (b : UInt8) (k : Nat) : BitVec 32 := halves k (r ^^^ byteOf b) ^^^ (byteOf b >>> k)
theorem refAt_zero (r : BitVec 32) (b : UInt8) : refAt r b 0 = r := by
  unfold refAt halves
  rw [BitVec.ushiftRight_zero, BitVec.xor_assoc, BitVec.xor_self, BitVec.xor_zero]
theorem refAt_eight (r : BitVec 32) (b : UInt8) : refAt r b 8 = take r b := by
  unfold refAt take
  have : byteOf b >>> 8 = 0#32 := by
    apply BitVec.eq_of_getLsbD_eq
    intro i hi
    rw [BitVec.getLsbD_ushiftRight, byteOf_high _ _ (by omega)]; simp
  rw [this, BitVec.xor_zero]
theorem refAt_next (r : BitVec 32) (b : UInt8) (k : Nat) :
    refAt r b (k + 1) = if (byteOf b).getLsbD k != (refAt r b k).getLsbD 0 then ((refAt r b k) >>> 1) ^^^ poly else (refAt r b k) >>> 1 := by
  have hy : halves k (r ^^^ byteOf b) = refAt r b k ^^^ (byteOf b >>> k) := by
    unfold refAt
    rw [BitVec.xor_assoc, BitVec.xor_self, BitVec.xor_zero]
  have h1 : refAt r b (k + 1) = half (halves k (r ^^^ byteOf b)) ^^^ (byteOf b >>> (k + 1)) := rfl
  rw [h1, hy]
  generalize refAt r b k = x
  unfold half
  rw [BitVec.ushiftRight_xor_distrib, BitVec.getLsbD_xor, ← BitVec.shiftRight_add]
  have e0 : (byteOf b >>> k).getLsbD 0 = (byteOf b).getLsbD k := by rw [BitVec.getLsbD_ushiftRight]; rfl
  rw [e0]
  have e : ∀ p q z : BitVec 32, p ^^^ q ^^^ z ^^^ q = p ^^^ z := by
    intro p q z
    rw [BitVec.xor_assoc (p ^^^ q), BitVec.xor_comm z q, ← BitVec.xor_assoc, BitVec.xor_assoc p, BitVec.xor_self, BitVec.xor_zero]
  rw [e]
  cases x.getLsbD 0 <;> cases (byteOf b).getLsbD k <;> simp
end Go.Proofs.Ytjffjmffoffblaa.Sum
namespace Go.Proofs.Ytjffjmffoffblaa.Sum
set_option maxRecDepth 100000
open Go.RowKit
theorem ret_int' {k : IntKind} {a b : Int} (h : a = b) : Ending.returned (.int k a) = .returned (.int k b) := by rw [h]

theorem ofInt_toNat (a : BitVec 32) : BitVec.ofInt 32 (a.toNat : Int) = a := by
  rw [BitVec.ofInt_natCast]; simp
theorem wrap_toNat (a : BitVec 32) : IntKind.u32.wrap (a.toNat : Int) = (a.toNat : Int) := by
  have := a.isLt
  rw [IntKind.wrap_u32]; omega
theorem bits_xor32 (a b : BitVec 32) : bits .xor .u32 (a.toNat : Int) (b.toNat : Int) = ((a ^^^ b).toNat : Int) := by
  show IntKind.u32.wrap ((BitVec.ofInt 32 (a.toNat : Int) ^^^ BitVec.ofInt 32 (b.toNat : Int)).toNat : Int) = _
  rw [ofInt_toNat, ofInt_toNat, wrap_toNat]
theorem bits_and32 (a b : BitVec 32) : bits .and .u32 (a.toNat : Int) (b.toNat : Int) = ((a &&& b).toNat : Int) := by
  show IntKind.u32.wrap ((BitVec.ofInt 32 (a.toNat : Int) &&& BitVec.ofInt 32 (b.toNat : Int)).toNat : Int) = _
  rw [ofInt_toNat, ofInt_toNat, wrap_toNat]
theorem byteOf_toNat (b : UInt8) : (byteOf b).toNat = b.toNat := by
  have := b.toNat_lt
  unfold byteOf
  rw [BitVec.toNat_ofNat]; omega

theorem shr1_toNat (r : BitVec 32) : (Int.ofNat r.toNat) / (2 : Int) = Int.ofNat (r >>> 1).toNat := by
  rw [BitVec.toNat_ushiftRight, Nat.shiftRight_eq_div_pow]; simp
theorem and1 (r : BitVec 32) : bits .and .u32 (r.toNat : Int) 1 = if r.getLsbD 0 then 1 else 0 := by
  have e : (1 : Int) = ((1#32).toNat : Int) := by decide
  rw [e, bits_and32]
  have h : r &&& 1#32 = if r.getLsbD 0 then 1#32 else 0#32 := by
    apply BitVec.eq_of_getLsbD_eq
    intro i hi
    rw [BitVec.getLsbD_and, BitVec.getLsbD_ofNat]
    cases i with
    | zero => cases r.getLsbD 0 <;> simp
    | succ i =>
      have : Nat.testBit 1 (i + 1) = false := by simp [Nat.testBit_succ]
      rw [this]
      cases r.getLsbD 0 <;> simp
  rw [h]
  cases r.getLsbD 0 <;> decide
theorem half_int (r : BitVec 32) : bits .xor .u32 ((r.toNat : Int) / 2) (bits .and .u32 3988292384 (-bits .and .u32 (r.toNat : Int) 1 % 4294967296)) = ((half r).toNat : Int) := by
  rw [and1]
  have e1 := shr1_toNat r
  simp only [Int.ofNat_eq_natCast] at e1
  rw [e1]
  unfold half
  cases r.getLsbD 0 with
  | true =>
    have e : bits .and .u32 3988292384 (-(if true = true then (1 : Int) else 0) % 4294967296) = (poly.toNat : Int) := by decide
    rw [e, bits_xor32]; rfl
  | false =>
    have e : bits .and .u32 3988292384 (-(if false = true then (1 : Int) else 0) % 4294967296) = ((0#32).toNat : Int) := by decide
    rw [e, bits_xor32]; rfl

set_option maxRecDepth 100000 in
set_option maxHeartbeats 400000 in
theorem take_any (r : BitVec 32) (b : UInt8) (w : World) :
    Calls Try.prog 46 #[.int .u32 (r.toNat : Int), .int .u8 (b.toNat : Int)] w fun e w' => e = .returned (.int .u32 ((take r b).toNat : Int)) ∧ w = w' := by
  have hr := r.isLt
  have hb := b.toNat_lt
  go_enter Try.func46, Try.ntmps46
  go_wp2
  go_loop [0, 9] (fun t i => ∃ k : Nat, k ≤ 8 ∧ i = .int .i64 k ∧ t = .int .u32 ((halves k (r ^^^ byteOf b)).toNat : Int)) (fun _ i => 8 - (intOf i).toNat)
  case atStart => exact ⟨0, by omega, rfl, by rw [← byteOf_toNat, bits_xor32]; rfl⟩
  case round =>
    obtain ⟨k, hk, rfl, rfl⟩ := hrel
    have hx := (halves k (r ^^^ byteOf b)).isLt
    by_cases hlt : k < 8
    · go_wp2
      go_round
      case rel => exact ⟨k + 1, by omega, by go_num, by rw [half_int]; rfl⟩
      case measure => simp [intOf]; omega
    · go_wp2
      go_ret
      obtain rfl : k = 8 := by omega
      exact ⟨rfl, rfl⟩

/-- texts one behind the other -/
def flat (ss : List ByteArray) : List UInt8 := ss.flatMap fun s => s.data.toList
theorem flat_take (ss : List ByteArray) (k : Nat) (h : k < ss.length) : flat (ss.take (k + 1)) = flat (ss.take k) ++ (ss.getD k ⟨#[]⟩).data.toList := by
  unfold flat
  rw [List.take_succ_eq_append_getElem h]
  rw [List.flatMap_append]
  simp [List.getD, h]
theorem take_snoc (s : ByteArray) (k : Nat) (h : k < s.size) : s.data.toList.take (k + 1) = s.data.toList.take k ++ [s[k]] := by
  rw [List.take_succ_eq_append_getElem (by simpa using h)]; rfl
theorem not_int (r : BitVec 32) : bits .xor .u32 (r.toNat : Int) 4294967295 = ((~~~ r).toNat : Int) := by
  have e : (4294967295 : Int) = ((BitVec.allOnes 32).toNat : Int) := by decide
  rw [e, bits_xor32, BitVec.xor_allOnes]

theorem not_max (r : BitVec 32) : bits .xor .u32 IntKind.u32.max (r.toNat : Int) = ((~~~ r).toNat : Int) := by
  have e : IntKind.u32.max = ((BitVec.allOnes 32).toNat : Int) := by decide
  rw [e, bits_xor32, BitVec.allOnes_xor]

/-- the texts lie in a row of cells -/
def Texts (w : World) (b o : Nat) (ss : List ByteArray) : Prop := (∀ i, i < ss.length → w.cell? ⟨b, o + i, none⟩ = some (.string (ss.getD i ⟨#[]⟩))) ∧ (∀ i, i < ss.length → (ss.getD i ⟨#[]⟩).size ≤ 9223372036854775807) ∧ ss.length ≤ 9223372036854775807

set_option maxRecDepth 100000 in
set_option maxHeartbeats 400000 in
theorem of_any (b o c : Nat) (ss : List ByteArray) (w : World) (h : Texts w b o ss) :
    Calls Try.prog 25 #[.slice (some ⟨b, o, none⟩) ss.length c] w fun e w' => e = .returned (.int .u32 ((check (flat ss)).toNat : Int)) ∧ w = w' := by
  obtain ⟨hc, hs, hn⟩ := h
  have HC := Lib.hid hc
  have HS := Lib.hid hs
  clear hc hs
  go_enter Try.func25, Try.ntmps25
  go_wp2
  go_loop [3, 9] (fun t i => ∃ k : Nat, k ≤ ss.length ∧ i = .int .i64 k ∧ t = .int .u32 ((crc 4294967295#32 (flat (ss.take k))).toNat : Int)) (fun _ i => ss.length - (intOf i).toNat)
  case atStart => exact ⟨0, by omega, rfl, rfl⟩
  case round =>
    obtain ⟨k, hk, rfl, rfl⟩ := hrel
    by_cases hlt : k < ss.length
    · have hcell := HC.out k hlt
      have hsz := HS.out k hlt
      have hft := flat_take ss k hlt
      have HF := Lib.hid hft
      clear hft
      generalize hr0 : crc 4294967295#32 (flat (ss.take k)) = r0 at *
      generalize hsk : ss.getD k ⟨#[]⟩ = s at *
      have HR0 := Lib.hid hr0
      clear hr0 hsk
      go_wp2
      go_loop [3, 15] (fun t i => ∃ j : Nat, j ≤ s.size ∧ i = .int .i64 j ∧ t = .int .u32 ((crc r0 (s.data.toList.take j)).toNat : Int)) (fun _ i => s.size - (intOf i).toNat)
      case atStart => exact ⟨0, by omega, rfl, rfl⟩
      case round =>
        obtain ⟨j, hj, rfl, rfl⟩ := hrel
        by_cases hjt : j < s.size
        · have HT := Lib.hid (take_snoc s j hjt)
          go_wp2_with fail
          refine (take_any _ _ _).mono ?_
          rintro e w' ⟨rfl, rfl⟩
          go_wp2
          go_round
          case rel => exact ⟨j + 1, by omega, by go_num, by rw [HT.out, crc_snoc]⟩
          case measure => simp [intOf]; omega
        · go_wp2
          go_round
          case rel => exact ⟨k + 1, by omega, by go_num, by rw [HF.out, crc_append, HR0.out, List.take_of_length_le (by simp; omega)]⟩
          case measure => simp [intOf]; omega
    · go_wp2
      go_ret
      obtain rfl : k = ss.length := by omega
      refine ⟨ret_int' ?_, rfl⟩
      rw [not_max, List.take_length]; rfl
end Go.Proofs.Ytjffjmffoffblaa.Sum
namespace Go.Proofs.Ytjffjmffoffblaa.Sum
set_option maxRecDepth 100000
open Go.RowKit

theorem below_next {W w w' : World} (h : Below W.heap.size W w) (h' : Below w.heap.size w w') : Below W.heap.size W w' := h.trans (h'.mono h.size)
theorem below_drew {W w : World} (h : Below W.heap.size W w) (q : Nat) : Below W.heap.size W (w.drewN q) := below_drewN h q
theorem texts_new (w : World) (T : TypeId) (cs : Array Value) (ss : List ByteArray) (hcs : cs = (ss.map Value.string).toArray) (hs : ∀ s ∈ ss, s.size ≤ 9223372036854775807) (hn : ss.length ≤ 9223372036854775807) :
    Texts (w.alloc (.cells cs T)) w.heap.size 0 ss := by
  subst hcs
  refine ⟨fun i hi => ?_, fun i hi => ?_, hn⟩
  · rw [Nat.zero_add, World.cell?_alloc_new]
    simp [List.getD, hi]
  · apply hs
    simp [List.getD, hi]
theorem of_new (w : World) (T : TypeId) (cs : Array Value) (ss : List ByteArray) (n c : Nat) (v : Int) (hcs : cs = (ss.map Value.string).toArray) (hn : n = ss.length) (hl : ss.length ≤ 9223372036854775807)
    (hs : ∀ s ∈ ss, s.size ≤ 9223372036854775807) (hv : ((check (flat ss)).toNat : Int) = v) :
    Calls Try.prog 25 #[.slice (some ⟨w.heap.size, 0, none⟩) n c] (w.alloc (.cells cs T)) fun e w' => e = .returned (.int .u32 v) ∧ Below w.heap.size w w' := by
  subst hn
  refine (of_any _ 0 c ss _ (texts_new w T cs ss hcs hs hl)).mono ?_
  rintro e w' ⟨rfl, rfl⟩
  exact ⟨by rw [hv], (Below.refl _ _).alloc (Nat.le_refl _) _⟩
theorem bit_int (b : UInt8) (k : Nat) : bits .and .u32 ((b.toNat : Int) / 2 ^ k % 4294967296) 1 = if (byteOf b).getLsbD k then 1 else 0 := by
  have hb := b.toNat_lt
  have e : ((b.toNat : Int) / 2 ^ k % 4294967296) = (((byteOf b >>> k).toNat : Nat) : Int) := by
    rw [BitVec.toNat_ushiftRight, byteOf_toNat, Nat.shiftRight_eq_div_pow]
    have h1 : ((b.toNat : Int) / 2 ^ k) = ((b.toNat / 2 ^ k : Nat) : Int) := by simp
    have h2 := Nat.div_le_self b.toNat (2 ^ k)
    rw [h1]
    generalize b.toNat / 2 ^ k = q at h2
    omega
  rw [e, and1, BitVec.getLsbD_ushiftRight]; rfl
theorem differ (b : UInt8) (k : Nat) (x : BitVec 32) (v : Bool) (h : (bits .and .u32 ((b.toNat : Int) / 2 ^ k % 4294967296) 1 != bits .and .u32 (x.toNat : Int) 1) = v) : ((byteOf b).getLsbD k != x.getLsbD 0) = v := by
  rw [bit_int, and1] at h
  rw [← h]
  cases (byteOf b).getLsbD k <;> cases x.getLsbD 0 <;> rfl
theorem xor_poly (x : BitVec 32) : bits .xor .u32 ((x.toNat : Int) / 2) 3988292384 = (((x >>> 1) ^^^ poly).toNat : Int) := by
  have e1 := shr1_toNat x
  simp only [Int.ofNat_eq_natCast] at e1
  have e : (3988292384 : Int) = (poly.toNat : Int) := by decide
  rw [e1, e, bits_xor32]
theorem shr_only (x : BitVec 32) : ((x.toNat : Int) / (2 : Int)) = (((x >>> 1)).toNat : Int) := by
  have e1 := shr1_toNat x
  simp only [Int.ofNat_eq_natCast] at e1
  exact e1

set_option maxRecDepth 100000 in
set_option maxHeartbeats 400000 in
theorem ref_any (s : ByteArray) (w : World) (hs : s.size ≤ 9223372036854775807) :
    Calls Try.prog 12 #[.string s] w fun e w' => e = .returned (.int .u32 ((check s.data.toList).toNat : Int)) ∧ w = w' := by
  go_enter Try.func12, Try.ntmps12
  go_wp2
  go_loop [3, 4] (fun t i => ∃ j : Nat, j ≤ s.size ∧ i = .int .i64 j ∧ t = .int .u32 ((crc 4294967295#32 (s.data.toList.take j)).toNat : Int)) (fun _ i => s.size - (intOf i).toNat)
  case atStart => exact ⟨0, by omega, rfl, rfl⟩
  case round =>
    obtain ⟨j, hj, rfl, rfl⟩ := hrel
    by_cases hlt : j < s.size
    · have HT := Lib.hid (take_snoc s j hlt)
      generalize hr0 : crc 4294967295#32 (s.data.toList.take j) = r0 at *
      have HR0 := Lib.hid hr0
      clear hr0
      go_wp2
      go_loop [3, 5] (fun t i => ∃ k : Nat, k ≤ 8 ∧ i = .int .i64 k ∧ t = .int .u32 ((refAt r0 s[j] k).toNat : Int)) (fun _ i => 8 - (intOf i).toNat)
      case atStart => exact ⟨0, by omega, rfl, by rw [refAt_zero]⟩
      case round =>
        obtain ⟨k, hk, rfl, rfl⟩ := hrel
        have hx := (refAt r0 s[j] k).isLt
        have HN := Lib.hid (refAt_next r0 s[j] k)
        by_cases hkt : k < 8
        · go_wp2
          all_goals
            have hd := differ _ _ _ _ (by assumption)
            go_round
            case rel => exact ⟨k + 1, by omega, by go_num, by rw [HN.out, hd]; first | (rw [xor_poly]; rfl) | (rw [shr_only]; rfl)⟩
            case measure => simp [intOf]; omega
        · obtain rfl : k = 8 := by omega
          clear hx HN
          go_wp2
          go_round
          case rel => exact ⟨j + 1, by omega, by go_num, by rw [HT.out, crc_snoc, refAt_eight, HR0.out]⟩
          case measure => simp [intOf]; omega
    · go_wp2
      go_ret
      refine ⟨ret_int' ?_, rfl⟩
      rw [not_int, List.take_of_length_le (by simp; omega)]; rfl
end Go.Proofs.Ytjffjmffoffblaa.Sum
namespace Go.Proofs.Ytjffjmffoffblaa.Sum
set_option maxRecDepth 100000
open Go.RowKit

/-- a check's bytes as the walk spells them -/
theorem conv4 (w : World) (x0 x1 x2 x3 : Int) : (convert 66 9 (.slice (some ⟨w.heap.size, 0, none⟩) 4 4)).run Try.prog (w.alloc (.cells #[.int .u8 x0, .int .u8 x1, .int .u8 x2, .int .u8 x3] 5)) =
    .ok (.string (strOfNums [x0, x1, x2, x3])) (w.alloc (.cells #[.int .u8 x0, .int .u8 x1, .int .u8 x2, .int .u8 x3] 5)) :=
  run_convert_bytes_arg _ _ 5 Try.underlying66 Try.underlying5 _ 0 4 4 [x0, x1, x2, x3] rfl (fun i hi => by
    rw [Nat.zero_add, World.cell?_alloc_new]
    rcases i with _ | _ | _ | _ | i
    · rfl
    · rfl
    · rfl
    · rfl
    · omega) _ Try.underlying9
end Go.Proofs.Ytjffjmffoffblaa.Sum
