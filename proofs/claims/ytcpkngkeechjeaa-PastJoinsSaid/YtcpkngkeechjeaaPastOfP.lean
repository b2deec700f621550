/- The program's Of. -/
import Derived.Test.YtcpkngkeechjeaaPastOf
import Derived.Test.YtcpkngkeechjeaaEntGood
namespace Go.Proofs.Ytcpkngkeechjeaa.Past
set_option maxRecDepth 100000
open Go.RowKit Go.Sort
open Go.Proofs.Ytcpkngkeechjeaa.Mem
open Go.Proofs.Ytcpkngkeechjeaa.Ent (Ent goodB Ents EntAt SmallE noE entA cellsE cellsE_snoc cellsE_length cellsE_get)
set_option maxRecDepth 100000 in
set_option maxHeartbeats 4000000 in
theorem of_any (a : Option Addr) (n c : Nat) (L : List Ent) (t : T3) (w : World) (h : Ents w a n L) (hn : n ≤ 1000000) :
    Calls Try.prog 10 #[.slice a n c, .agg #[.int .i64 t.cl, .int .i64 t.ep, .int .i64 t.n]] w (OfRes (ofL L t) w) := by
  obtain ⟨i0, hi, hz0, hz1, hz2⟩ := info_parts infoE
  have hL : L.length = n := h.1
  have HE := Lib.hid h
  clear h
  have HB0 := Lib.hid (Ent.below_box w (.cells #[.int .i64 t.cl, .int .i64 t.ep, .int .i64 t.n] 24))
  have HT0 := Lib.hid (Blk.new w 24 #[.int .i64 t.cl, .int .i64 t.ep, .int .i64 t.n])
  have hl0 := Ent.alloc_lt w (.cells #[.int .i64 t.cl, .int .i64 t.ep, .int .i64 t.n] 24)
  have HL := Lib.hid hL
  go_enter Try.func10, Try.ntmps10
  go_upto_region 1 with (fail)
  generalize hGen : w.alloc (.cells #[.int .i64 t.cl, .int .i64 t.ep, .int .i64 t.n] 24) = W at HB0 HT0 hl0 ⊢
  clear hGen
  clear hL
  go_wp2
  go_loopw [5, 10] (fun v i wr => ∃ k : Nat, k ≤ n ∧ i = .int .i64 (k : Int) ∧ Hid (wr.ownsRow W.heap.size 31 13 v (ofL (L.take k) t).length (cellsE (ofL (L.take k) t)) ∧ Below w.heap.size w wr ∧ Blk wr w.heap.size 24 #[.int .i64 t.cl, .int .i64 t.ep, .int .i64 t.n] ∧ W.heap.size ≤ wr.heap.size)) (fun _ i _ => n - intV i)
  case atStart => exact ⟨0, Nat.zero_le _, rfl, Lib.hid ⟨by rw [List.take_zero]; exact own_nil _ _ _ _, HB0.out, HT0.out, Nat.le_refl _⟩⟩
  case round =>
    obtain ⟨k, hk, rfl, HR⟩ := hrel
    obtain ⟨va, vc, rfl⟩ := own_shape HR.out.1
    by_cases hlt : k < n
    · have hx : L[k]? = some (L[k]'(by have := HL.out; omega)) := List.getElem?_eq_getElem _
      generalize L[k]'(by have := HL.out; omega) = x at hx
      obtain ⟨b, off, rfl, hbw, hat, hsm, -⟩ := ents_mem HE.out hx
      have HSM := Lib.hid (show Ent.Small x from hsm)
      have HN := Lib.hid (of_next t hx)
      have hd1 : decide ((k : Int) < (n : Int)) = true := decide_eq_true (by omega)
      obtain ⟨c0, c1, c2, c3, c4, c5, c6, c7, c8, c9, c10, c11, c12⟩ := (hat.next HR.out.2.1 hbw).cells
      have hbb := Ent.below_box wr (.cells #[.int .i64 x.kind, .int .i64 x.cl, .int .i64 x.ep, .int .i64 x.n, .int .i64 x.lsn, .int .i64 x.prev, .int .i64 x.page, .int .i64 x.slot, .bool x.wu, .string x.wd, .bool x.iu, .string x.id, .int .i64 x.next] 31)
      have H1 := Lib.hid (show (wr.alloc (.cells #[.int .i64 x.kind, .int .i64 x.cl, .int .i64 x.ep, .int .i64 x.n, .int .i64 x.lsn, .int .i64 x.prev, .int .i64 x.page, .int .i64 x.slot, .bool x.wu, .string x.wd, .bool x.iu, .string x.id, .int .i64 x.next] 31)).ownsRow W.heap.size 31 13 (.slice va (ofL (L.take k) t).length vc) (ofL (L.take k) t).length (cellsE (ofL (L.take k) t)) ∧ Below w.heap.size w (wr.alloc (.cells #[.int .i64 x.kind, .int .i64 x.cl, .int .i64 x.ep, .int .i64 x.n, .int .i64 x.lsn, .int .i64 x.prev, .int .i64 x.page, .int .i64 x.slot, .bool x.wu, .string x.wd, .bool x.iu, .string x.id, .int .i64 x.next] 31)) ∧ Blk (wr.alloc (.cells #[.int .i64 x.kind, .int .i64 x.cl, .int .i64 x.ep, .int .i64 x.n, .int .i64 x.lsn, .int .i64 x.prev, .int .i64 x.page, .int .i64 x.slot, .bool x.wu, .string x.wd, .bool x.iu, .string x.id, .int .i64 x.next] 31)) w.heap.size 24 #[.int .i64 t.cl, .int .i64 t.ep, .int .i64 t.n] ∧ W.heap.size ≤ (wr.alloc (.cells #[.int .i64 x.kind, .int .i64 x.cl, .int .i64 x.ep, .int .i64 x.n, .int .i64 x.lsn, .int .i64 x.prev, .int .i64 x.page, .int .i64 x.slot, .bool x.wu, .string x.wd, .bool x.iu, .string x.id, .int .i64 x.next] 31)).heap.size from
        ⟨own_below HR.out.1 hbb, HR.out.2.1.trans (hbb.mono HR.out.2.1.size), HR.out.2.2.1.below hbb HR.out.2.2.1.lt, Nat.le_trans HR.out.2.2.2 hbb.size⟩)
      have HX1 := Lib.hid (Blk.new wr 31 #[.int .i64 x.kind, .int .i64 x.cl, .int .i64 x.ep, .int .i64 x.n, .int .i64 x.lsn, .int .i64 x.prev, .int .i64 x.page, .int .i64 x.slot, .bool x.wu, .string x.wd, .bool x.iu, .string x.id, .int .i64 x.next])
      have hOL := Nat.le_trans (of_len (L.take k) t) (List.length_take_le k L)
      clear hx hat hsm hbb HR
      generalize ofL (L.take k) t = O at H1 HN hOL
      go_upto_region 5 with (fail)
      generalize wr.alloc (.cells #[.int .i64 x.kind, .int .i64 x.cl, .int .i64 x.ep, .int .i64 x.n, .int .i64 x.lsn, .int .i64 x.prev, .int .i64 x.page, .int .i64 x.slot, .bool x.wu, .string x.wd, .bool x.iu, .string x.id, .int .i64 x.next] 31) = W1 at H1 HX1 ⊢
      generalize wr.heap.size = gx at HX1 ⊢
      clear c0 c1 c2 c3 c4 c5 c6 c7 c8 c9 c10 c11 c12
      obtain ⟨c0, c1, c2, c3, c4, c5, c6, c7, c8, c9, c10, c11, c12⟩ := Ent.ent_cells HX1.out
      obtain ⟨d0, d1, d2⟩ := tx_cells H1.out.2.2.1
      have hq := fun W => run_eq_txn (txE x) t W
      have hgd := fun (A B : Operand) xs ys w => run_guard_txn .eql A B xs ys w
      have HST := Lib.hid (show isT t x = (goodB x && sameT (txE x) t) by rw [sameT_eq]; rfl)
      have CG := Lib.hid (Ent.good_any x W1 HSM.out)
      generalize hsb : sameT (txE x) t = sb at hq HST
      generalize goodB x = gb at CG HST
      unfold txE at hq
      dsimp only at hq
      clear hsb
      cases sb with
      | false =>
        have HN2 := Lib.hid (show ofL (L.take (k + 1)) t = O by rw [HN.out, HST.out, Bool.and_false]; rfl)
        clear CG HST HN
        go_wp2
        go_roundw
        case rel => exact ⟨k + 1, by omega, by go_num, Lib.hid (by rw [HN2.out]; exact H1.out)⟩
        case measure => simp [intV]; omega
      | true =>
        go_wp2_with fail
        refine CG.out.mono ?_
        rintro e w2 ⟨rfl, b2⟩
        have H2 := Lib.hid (show w2.ownsRow W.heap.size 31 13 (.slice va O.length vc) O.length (cellsE O) ∧ Below w.heap.size w w2 ∧ Blk w2 w.heap.size 24 #[.int .i64 t.cl, .int .i64 t.ep, .int .i64 t.n] ∧ W.heap.size ≤ w2.heap.size from
          ⟨own_below H1.out.1 b2, H1.out.2.1.trans (b2.mono H1.out.2.1.size), H1.out.2.2.1.below b2 H1.out.2.2.1.lt, Nat.le_trans H1.out.2.2.2 b2.size⟩)
        have HX2 := Lib.hid (HX1.out.below b2 HX1.out.lt)
        clear c0 c1 c2 c3 c4 c5 c6 c7 c8 c9 c10 c11 c12 d0 d1 d2 b2 hq hgd H1 HX1 CG
        cases gb with
        | false =>
          have HN2 := Lib.hid (show ofL (L.take (k + 1)) t = O by rw [HN.out, HST.out]; rfl)
          clear HST HN
          go_wp2
          go_roundw
          case rel => exact ⟨k + 1, by omega, by go_num, Lib.hid (by rw [HN2.out]; exact H2.out)⟩
          case measure => simp [intV]; omega
        | true =>
          have HN2 := Lib.hid (show ofL (L.take (k + 1)) t = O ++ [x] by rw [HN.out, HST.out]; rfl)
          clear HST HN
          obtain ⟨c0, c1, c2, c3, c4, c5, c6, c7, c8, c9, c10, c11, c12⟩ := Ent.ent_cells HX2.out
          have hsW := H2.out.2.2.2
          have hLn := HL.out
          go_wp2_with (at_builtin; refine wpList_append_own _ rfl _ _ 22 rfl W.heap.size 31 i0 (.agg #[.int .i64 0, .int .i64 0, .int .i64 0, .int .i64 0, .int .i64 0, .int .i64 0, .int .i64 0, .int .i64 0, .bool false, .string ⟨#[]⟩, .bool false, .string ⟨#[]⟩, .int .i64 0]) 13 120 Try.underlying22 hi hz0 hz1 hz2 rfl (by decide) _ O.length (cellsE O) rfl (own_below H2.out.1 (Ent.below_box _ _)) ⟨w2.heap.size, 0, none⟩ 1 1 (entA x).toList rfl rfl ?c1 ?c2 ?c3 ?c4 ?c5 ?_)
          case c1 =>
            intro j u hj
            rw [add_at, Nat.zero_add, (Blk.new w2 31 #[.int .i64 x.kind, .int .i64 x.cl, .int .i64 x.ep, .int .i64 x.n, .int .i64 x.lsn, .int .i64 x.prev, .int .i64 x.page, .int .i64 x.slot, .bool x.wu, .string x.wd, .bool x.iu, .string x.id, .int .i64 x.next]).cell j]
            simpa [entA] using hj
          case c2 => intro u hu; simp [entA] at hu; rcases hu with rfl | rfl | rfl | rfl | rfl | rfl | rfl | rfl | rfl | rfl | rfl | rfl | rfl <;> rfl
          case c3 => unfold maxLen; omega
          case c4 => omega
          case c5 => simp; omega
          intro v' w6 hown6 hgrow6 _
          rw [cellsE_snoc] at hown6
          have H6 := Lib.hid (show w6.ownsRow W.heap.size 31 13 v' (O ++ [x]).length (cellsE (O ++ [x])) ∧ Below w.heap.size w w6 ∧ Blk w6 w.heap.size 24 #[.int .i64 t.cl, .int .i64 t.ep, .int .i64 t.n] ∧ W.heap.size ≤ w6.heap.size from by
            have hbo : ∀ j, Value.ownBlock (.slice va O.length vc) = some j → W.heap.size ≤ j := fun j hj => own_ge H2.out.1 hj
            have hbb := Ent.below_box w2 (.cells (entA x) 31)
            have hs1 := H2.out.2.1.size
            refine ⟨by rw [List.length_append]; exact hown6, below_grown (H2.out.2.1.trans (hbb.mono hs1)) (Nat.le_trans hs1 hbb.size) hgrow6 (fun j hj => by have := hbo j hj; omega), (H2.out.2.2.1.alloc _).grown hgrow6 (fun e => by have := hbo _ e.symm; omega), Nat.le_trans H2.out.2.2.2 (Nat.le_trans hbb.size hgrow6.size)⟩)
          clear hown6 hgrow6 c0 c1 c2 c3 c4 c5 c6 c7 c8 c9 c10 c11 c12 H2 HX2
          go_wp2
          go_roundw
          case rel => exact ⟨k + 1, by omega, by go_num, Lib.hid (by rw [HN2.out]; exact H6.out)⟩
          case measure => simp [intV]; omega
    · obtain rfl : k = n := by omega
      have hd1 : decide ((k : Int) < (k : Int)) = false := decide_eq_false (by omega)
      have hF : L.take k = L := List.take_of_length_le (by have := HL.out; omega)
      rw [hF] at HR ⊢
      go_wp2
      go_ret
      exact ⟨_, rfl, own_base HR.out.1 (by omega), HR.out.2.1⟩
end Go.Proofs.Ytcpkngkeechjeaa.Past
