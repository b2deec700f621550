/- The walks of the statements' own beginning and of great; the statement EntryCosts. -/
import Derived.Test.YtjffjmffoffblaaQEntEnc
import Derived.Test.YtjffjmffoffblaaQEntDec
namespace Go.Proofs.Ytjffjmffoffblaa.Ent
set_option maxRecDepth 100000
open Go.RowKit
open Go.Proofs.Ytjffjmffoffblaa.Slab (Blk ret_int' ret_bool')
open Go.Proofs.Ytjffjmffoffblaa.Nib (below_next below_drew enc encStr Fits)
open Go.Lib (uvarint_small zigzag)

def X0 : Ent := ⟨3, 1, 1, 1, 5, 4, 0, 0, false, ⟨#[]⟩, false, ⟨#[]⟩, 0⟩
theorem enc_one {n : Int} {k : Nat} {b : UInt8} (h : zigzag n = k) (hk : k < 128) (hb : Nat.toUInt8 k = b) : enc n = [b] := by unfold enc; rw [h, uvarint_small hk, hb]
theorem good0 : goodB X0 = true := by decide
theorem smallNo : Small noE := by unfold Small noE; decide
/-- Decode, by its answer -/
theorem decode_is {s : ByteArray} {x : Ent} {t : ByteArray} {c : Int} (h : decX s.data.toList = x ∧ decT s.data.toList = t.data.toList ∧ decC s.data.toList = c) (w : World) (hs : s.size ≤ 140737488351232) :
    Calls Try.prog 50 #[.string s] w fun e w' => e = .returned (.tuple #[.agg #[.int .i64 x.kind, .int .i64 x.cl, .int .i64 x.ep, .int .i64 x.n, .int .i64 x.lsn, .int .i64 x.prev, .int .i64 x.page, .int .i64 x.slot, .bool x.wu, .string x.wd, .bool x.iu, .string x.id, .int .i64 x.next], .string t, .int .i64 c]) ∧ Below w.heap.size w w' := by
  have := decode_any s _ rfl w hs
  rw [h.1, h.2.1, h.2.2, list_arr] at this
  exact this

theorem good_small {x : Ent} (h : goodB x = true) : Small x := by
  cases hl : longB x.kind with
  | true =>
    obtain ⟨_, hc, _⟩ := good_long h hl
    obtain ⟨_, _, c3, c4⟩ := ch_parts hc
    have := (of_decide_eq_true c3).1
    have := (of_decide_eq_true c4).1
    exact ⟨by omega, by omega⟩
  | false =>
    obtain ⟨_, _, _, b4, _, b6, _⟩ := of_decide_eq_true (good_short h hl).2.2
    exact ⟨by omega, by omega⟩
end Go.Proofs.Ytjffjmffoffblaa.Ent
