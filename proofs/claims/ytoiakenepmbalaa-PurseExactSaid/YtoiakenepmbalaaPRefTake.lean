/- The document's own purse in memory: Take. -/
import Derived.Test.YtoiakenepmbalaaPRefSet
namespace Go.Proofs.Ytoiakenepmbalaa.PRef
set_option maxRecDepth 100000
open Go.RowKit
open Go.Proofs.Ytoiakenepmbalaa.Mem
open Go.Proofs.Ytoiakenepmbalaa.Purse
set_option maxRecDepth 100000 in
set_option maxHeartbeats 4000000 in
theorem take_any (u : Nat) (v : Value) (L : List Due) (k n : Int) (w : World) (h : UA w u v L) (hw : wfL L) (hn : L.length ≤ 1000000) :
    Calls Try.prog 12 #[.pointer (some ⟨u, 0, none⟩), .int .i64 k, .int .i64 n] w fun e w' => e = .returned (.int .i64 (takeN L k n)) ∧ Laid u w w' v (takeL L k n) := by
  by_cases h1 : n < 1
  · have e1 : takeN L k n = 0 := takeN_not (by omega)
    have e2 : takeL L k n = L := by unfold takeL; rw [if_neg (by omega)]
    rw [e1, e2]
    have HS := Lib.hid (show Laid u w w v L from ⟨v, h, .inl rfl, Keep.refl _ _⟩)
    clear h e1 e2
    go_enter Try.func12, Try.ntmps12
    go_wp2
    go_ret
    exact ⟨rfl, HS.out⟩
  rw [← set_take hw (show 1 ≤ n by omega)]
  have hot := ofL_total L k hw.pos
  have hon := ofL_nn hw.pos k
  have hts := hw.sum
  have htk : takeN L k n = if n ≤ ofL L k then n else ofL L k := by unfold takeN; rw [if_neg h1]
  have hpos : 0 ≤ takeN L k n ∧ takeN L k n ≤ ofL L k := by rw [htk]; split <;> omega
  have hwo : IntKind.i64.wrap (ofL L k - takeN L k n) = ofL L k - takeN L k n := by rw [IntKind.wrap_i64]; omega
  have HOF := Lib.hid (of_any u v L k w h hw.srt hn)
  have HSET := Lib.hid (set_any u v L k (ofL L k - takeN L k n) w h hn)
  clear h hot hon hts hpos
  generalize takeN L k n = t at HSET hwo htk ⊢
  generalize ofL L k = o at HOF HSET hwo htk ⊢
  generalize setL L k (o - t) = L9 at HSET ⊢
  by_cases hle : n ≤ o
  · rw [if_pos hle] at htk
    subst htk
    have hle2 : ¬ o < t := by omega
    clear hle
    go_enter Try.func12, Try.ntmps12
    go_wp2_with fail
    refine HOF.out.mono ?_; rintro e w1 ⟨rfl, rfl⟩
    go_wp2_with fail
    refine HSET.out.mono ?_; rintro e w1 ⟨⟨v0, rfl⟩, hl⟩
    have HLD := Lib.hid hl
    clear hl
    go_wp2
    go_ret
    exact ⟨rfl, HLD.out⟩
  · rw [if_neg hle] at htk
    subst htk
    have hle2 : t < n := by omega
    rw [Int.sub_self] at HSET hwo
    clear hle
    go_enter Try.func12, Try.ntmps12
    go_wp2_with fail
    refine HOF.out.mono ?_; rintro e w1 ⟨rfl, rfl⟩
    go_wp2_with fail
    refine HSET.out.mono ?_; rintro e w1 ⟨⟨v0, rfl⟩, hl⟩
    have HLD := Lib.hid hl
    clear hl
    go_wp2
    go_ret
    exact ⟨rfl, HLD.out⟩
end Go.Proofs.Ytoiakenepmbalaa.PRef
