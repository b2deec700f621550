/- The document's own ended and Needed. -/
import Derived.Test.YtcpkngkeechjeaaPastOf
namespace Go.Proofs.Ytcpkngkeechjeaa.Past
set_option maxRecDepth 100000
open Go.RowKit Go.Sort
open Go.Proofs.Ytcpkngkeechjeaa.Mem
open Go.Proofs.Ytcpkngkeechjeaa.Ent (Ent goodB Ents EntAt SmallE noE entA cellsE)
theorem ended_cons (x : Ent) (r : List Ent) : (x :: r).any endB = (endB x || r.any endB) := rfl
set_option maxRecDepth 100000 in
set_option maxHeartbeats 2000000 in
theorem uended_any (a : Option Addr) (n c : Nat) (L : List Ent) (t : T3) (w : World) (h : Ents w a n L) (hn : n ≤ 1000000) :
    Calls Try.prog 28 #[.slice a n c, .agg #[.int .i64 t.cl, .int .i64 t.ep, .int .i64 t.n]] w fun e w' => e = .returned (.bool (endedB L t)) ∧ Below w.heap.size w w' := by
  have hL : L.length = n := h.1
  have HB0 := Lib.hid (Ent.below_box w (.cells #[.int .i64 t.cl, .int .i64 t.ep, .int .i64 t.n] 24))
  have HT0 := Lib.hid (Blk.new w 24 #[.int .i64 t.cl, .int .i64 t.ep, .int .i64 t.n])
  have hl0 := Ent.alloc_lt w (.cells #[.int .i64 t.cl, .int .i64 t.ep, .int .i64 t.n] 24)
  have HC := Lib.hid (uof_any a n c L t _ (h.next HB0.out) hn)
  have HS := Lib.hid (of_small (t := t) h.2.1)
  have hOL := of_len L t
  unfold endedB
  clear h
  obtain ⟨bE, hbE⟩ : ∃ bE, bE = (ofL L t).any endB := ⟨_, rfl⟩
  rw [← hbE]
  have HBE := Lib.hid hbE
  clear hbE
  go_enter Try.func28, Try.ntmps28
  go_upto_region 1 with (fail)
  generalize hGen : w.alloc (.cells #[.int .i64 t.cl, .int .i64 t.ep, .int .i64 t.n] 24) = W at HB0 HT0 hl0 HC ⊢
  clear hGen
  obtain ⟨d0, d1, d2⟩ := tx_cells HT0.out
  go_wp2_with fail
  refine HC.out.mono ?_
  rintro e w1 ⟨v, rfl, ho, b1⟩
  generalize ofL L t = O at ho HS hOL HBE
  obtain ⟨va, vc, rfl, he, -⟩ := ents_own ho HS.out
  have HE := Lib.hid he
  have HB1 := Lib.hid (HB0.out.trans (b1.mono (Nat.le_of_lt hl0)))
  clear he ho b1 d0 d1 d2 HC
  go_wp2
  go_loopw [6] (fun i wr => ∃ k : Nat, k ≤ O.length ∧ i = .int .i64 (k : Int) ∧ Hid (bE = (O.drop k).any endB) ∧ w1 = wr) (fun i _ => O.length - intV i)
  case atStart => exact ⟨0, Nat.zero_le _, rfl, HBE, rfl⟩
  case round =>
    obtain ⟨k, hk, rfl, HA, rfl⟩ := hrel
    by_cases hlt : k < O.length
    · have hx : O[k]? = some O[k] := List.getElem?_eq_getElem hlt
      have hd : O.drop k = O[k] :: O.drop (k + 1) := List.drop_eq_getElem_cons hlt
      generalize O[k] = x at hx hd
      obtain ⟨b, off, rfl, hbw, hat, -, -⟩ := ents_mem HE.out hx
      obtain ⟨c0, -⟩ := hat.cells
      have HA2 := Lib.hid (show bE = (endB x || (O.drop (k + 1)).any endB) by rw [HA.out, hd]; rfl)
      clear hx hd hat HA
      by_cases hg : x.kind > 2
      · have e1 : endB x = true := decide_eq_true hg
        have HR := Lib.hid (show bE = true by rw [HA2.out, e1]; rfl)
        clear HA2
        have e2 : decide (x.kind > 2) = true := decide_eq_true hg
        clear e1
        go_wp2
        go_ret
        exact ⟨by rw [HR.out]; rfl, HB1.out⟩
      · have e1 : endB x = false := decide_eq_false hg
        have HR := Lib.hid (show bE = (O.drop (k + 1)).any endB by rw [HA2.out, e1]; rfl)
        clear HA2
        have e2 : decide (x.kind > 2) = false := decide_eq_false hg
        clear e1
        go_wp2
        go_roundw
        case rel => exact ⟨k + 1, by omega, by go_num, HR, trivial⟩
        case measure => simp [intV]; omega
    · obtain rfl : k = O.length := by omega
      have HR := Lib.hid (show bE = false by rw [HA.out, List.drop_length]; rfl)
      clear HA
      go_wp2
      go_ret
      exact ⟨by rw [HR.out]; rfl, HB1.out⟩
end Go.Proofs.Ytcpkngkeechjeaa.Past
