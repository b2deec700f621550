/- The document's own purse in memory: Ask. -/
import Derived.Test.YtoiakenepmbalaaPRefSet
namespace Go.Proofs.Ytoiakenepmbalaa.PRef
set_option maxRecDepth 100000
open Go.RowKit
open Go.Proofs.Ytoiakenepmbalaa.Mem
open Go.Proofs.Ytoiakenepmbalaa.Purse
set_option maxRecDepth 100000 in
set_option maxHeartbeats 4000000 in
theorem ask_any (u : Nat) (v : Value) (L : List Due) (k n room : Int) (w : World) (h : UA w u v L) (hw : wfL L) (hn : L.length ≤ 1000000) (hr : room ≤ 9223372036854775807) :
    Calls Try.prog 10 #[.pointer (some ⟨u, 0, none⟩), .int .i64 k, .int .i64 n, .int .i64 room] w fun e w' => e = .returned (.bool (askB L n room)) ∧ Laid u w w' v (askL L k n room) := by
  have hsame : Laid u w w v L := ⟨v, h, .inl rfl, Keep.refl _ _⟩
  have hno : ∀ (e : Ending) (w' : World), ¬ (1 ≤ n ∧ n ≤ 1048576 ∧ n ≤ room ∧ total L ≤ room - n) → (e = Ending.returned (.bool false) ∧ w = w') → (e = .returned (.bool (askB L n room)) ∧ Laid u w w' v (askL L k n room)) := by
    rintro e w' hno ⟨rfl, rfl⟩
    have e1 : askB L n room = false := decide_eq_false hno
    exact ⟨by rw [e1], by unfold askL; rw [e1]; exact hsame⟩
  have htn := total_nn L hw.pos
  have hts := hw.sum
  by_cases h1 : n < 1
  · refine Calls.mono ?_ (fun e w' => hno e w' (by omega))
    clear hno h
    go_enter Try.func10, Try.ntmps10
    go_wp2
    go_ret
    exact ⟨rfl, rfl⟩
  by_cases h2 : 1048576 < n
  · refine Calls.mono ?_ (fun e w' => hno e w' (by omega))
    clear hno h
    go_enter Try.func10, Try.ntmps10
    go_wp2
    go_ret
    exact ⟨rfl, rfl⟩
  by_cases h3 : room < n
  · refine Calls.mono ?_ (fun e w' => hno e w' (by omega))
    clear hno h
    go_enter Try.func10, Try.ntmps10
    go_wp2
    go_ret
    exact ⟨rfl, rfl⟩
  have hwr : IntKind.i64.wrap (room - n) = room - n := by rw [IntKind.wrap_i64]; omega
  have HSUM := Lib.hid (sum_any u v L w h hw hn)
  by_cases h4 : room - n < total L
  · refine Calls.mono ?_ (fun e w' => hno e w' (by omega))
    clear hno h
    generalize total L = t at HSUM h4 htn hts
    go_enter Try.func10, Try.ntmps10
    go_wp2_with fail
    refine HSUM.out.mono ?_; rintro e w1 ⟨rfl, rfl⟩
    go_wp2
    go_ret
    exact ⟨rfl, rfl⟩
  have hyes : askB L n room = true := decide_eq_true (by omega)
  have e3 : askL L k n room = addL L k n := by unfold askL; rw [hyes]; rfl
  rw [hyes, e3, ← set_ask hw (show 1 ≤ n by omega)]
  have hot := ofL_total L k hw.pos
  have hon := ofL_nn hw.pos k
  have hwo : IntKind.i64.wrap (ofL L k + n) = ofL L k + n := by rw [IntKind.wrap_i64]; omega
  have HOF := Lib.hid (of_any u v L k w h hw.srt hn)
  have HSET := Lib.hid (set_any u v L k (ofL L k + n) w h hn)
  clear hno h hsame hyes e3 hot hon
  generalize total L = t at HSUM h4 htn hts
  generalize ofL L k = o at HOF HSET hwo ⊢
  generalize setL L k (o + n) = L9 at HSET ⊢
  go_enter Try.func10, Try.ntmps10
  go_wp2_with fail
  refine HSUM.out.mono ?_; rintro e w1 ⟨rfl, rfl⟩
  go_wp2_with fail
  refine HOF.out.mono ?_; rintro e w1 ⟨rfl, rfl⟩
  go_wp2_with fail
  refine HSET.out.mono ?_; rintro e w1 ⟨⟨v0, rfl⟩, hl⟩
  have HLD := Lib.hid hl
  clear hl
  go_wp2
  go_ret
  exact ⟨rfl, HLD.out⟩
end Go.Proofs.Ytoiakenepmbalaa.PRef
