/- The document's own Of. -/
import Derived.Test.YtcpkngkeechjeaaPastOwn
namespace Go.Proofs.Ytcpkngkeechjeaa.Past
set_option maxRecDepth 100000
open Go.RowKit Go.Sort
open Go.Proofs.Ytcpkngkeechjeaa.Mem
open Go.Proofs.Ytcpkngkeechjeaa.Ent (Ent goodB Ents EntAt SmallE noE entA cellsE cellsE_snoc cellsE_length cellsE_get)
theorem info_parts {P : Program} {t : TypeId} {z : Value} {s b : Nat} (h : (P.info? t).map (fun i => (i.zero, i.size, i.bytes)) = some (some z, s, b)) : ∃ i, P.info? t = some i ∧ i.zero = some z ∧ i.size = s ∧ i.bytes = b := by
  cases e : P.info? t with
  | none => rw [e] at h; cases h
  | some i => rw [e] at h; simp at h; exact ⟨i, rfl, h.1, h.2.1, h.2.2⟩
def lenV : Value → Nat
  | .slice _ n _ => n
  | _ => 0
def intV : Value → Nat
  | .int _ i => i.toNat
  | _ => 0
theorem add_at (b o j : Nat) : (Addr.mk b o none).add j = ⟨b, o + j, none⟩ := by unfold Addr.add; split <;> simp_all
/-- a row of entries handed back -/
def OfRes (L : List Ent) (w : World) (e : Ending) (w' : World) : Prop :=
  ∃ v, e = .returned v ∧ w'.ownsRow w.heap.size 31 13 v L.length (cellsE L) ∧ Below w.heap.size w w'
set_option maxRecDepth 100000 in
set_option maxHeartbeats 4000000 in
theorem uof_any (a : Option Addr) (n c : Nat) (L : List Ent) (t : T3) (w : World) (h : Ents w a n L) (hn : n ≤ 1000000) :
    Calls Try.prog 11 #[.slice a n c, .agg #[.int .i64 t.cl, .int .i64 t.ep, .int .i64 t.n]] w (OfRes (ofL L t) w) := by
  obtain ⟨i0, hi, hz0, hz1, hz2⟩ := info_parts infoE
  have hL : L.length = n := h.1
  have HE := Lib.hid h
  clear h
  have HB0 := Lib.hid (Ent.below_box w (.cells #[.int .i64 t.cl, .int .i64 t.ep, .int .i64 t.n] 24))
  have HT0 := Lib.hid (Blk.new w 24 #[.int .i64 t.cl, .int .i64 t.ep, .int .i64 t.n])
  have hl0 := Ent.alloc_lt w (.cells #[.int .i64 t.cl, .int .i64 t.ep, .int .i64 t.n] 24)
  go_enter Try.func11, Try.ntmps11
  go_upto_region 1 with (fail)
  generalize hGen : w.alloc (.cells #[.int .i64 t.cl, .int .i64 t.ep, .int .i64 t.n] 24) = W at HB0 HT0 hl0 ⊢
  clear hGen
  have HB1 := Lib.hid (HB0.out.alloc (Nat.le_of_lt hl0) (.cells #[] 31))
  have HO1 := Lib.hid (own_new W 31 13)
  have HT1 := Lib.hid (HT0.out.alloc (.cells #[] 31))
  have hgd := fun (op : BinOp) (A B : Operand) xs ys w => run_guard_txn op A B xs ys w
  go_wp2
  go_loopw [5, 6] (fun v i wr => ∃ k : Nat, k ≤ n ∧ i = .int .i64 (k : Int) ∧ Hid (wr.ownsRow W.heap.size 31 13 v (ofL (L.take k) t).length (cellsE (ofL (L.take k) t)) ∧ Below w.heap.size w wr ∧ Blk wr w.heap.size 24 #[.int .i64 t.cl, .int .i64 t.ep, .int .i64 t.n] ∧ W.heap.size ≤ wr.heap.size)) (fun _ i _ => n - intV i)
  case atStart => exact ⟨0, Nat.zero_le _, rfl, Lib.hid ⟨by rw [List.take_zero]; exact HO1.out, HB1.out, HT1.out, by simp⟩⟩
  case round =>
    obtain ⟨k, hk, rfl, HR⟩ := hrel
    obtain ⟨va, vc, rfl⟩ := own_shape HR.out.1
    by_cases hlt : k < n
    · have hx : L[k]? = some (L[k]'(by omega)) := List.getElem?_eq_getElem _
      generalize L[k]'(by omega) = x at hx
      obtain ⟨b, off, rfl, hbw, hat, hsm, -⟩ := ents_mem HE.out hx
      have HAT := Lib.hid hat
      have HSM := Lib.hid (show Ent.Small x from hsm)
      have HN := Lib.hid (of_next t hx)
      clear hat hsm hx
      obtain ⟨c0, c1, c2, c3, c4, c5, c6, c7, c8, c9, c10, c11, c12⟩ := (HAT.out.next HR.out.2.1 hbw).cells
      obtain ⟨d0, d1, d2⟩ := tx_cells HR.out.2.2.1
      have q0 := cell_regrown c0
      have q1 := cell_regrown c1
      have q2 := cell_regrown c2
      have q3 := cell_regrown c3
      have q4 := cell_regrown c4
      have q5 := cell_regrown c5
      have q6 := cell_regrown c6
      have q7 := cell_regrown c7
      have q8 := cell_regrown c8
      have q9 := cell_regrown c9
      have q10 := cell_regrown c10
      have q11 := cell_regrown c11
      have q12 := cell_regrown c12
      have q13 := cell_regrown d0
      have q14 := cell_regrown d1
      have q15 := cell_regrown d2
      have cG : ∀ dd os, Calls Try.prog 20 #[.agg #[.int .i64 x.kind, .int .i64 x.cl, .int .i64 x.ep, .int .i64 x.n, .int .i64 x.lsn, .int .i64 x.prev, .int .i64 x.page, .int .i64 x.slot, .bool x.wu, .string x.wd, .bool x.iu, .string x.id, .int .i64 x.next]] (grow (redrawn wr dd) os) fun e w'' => e = .returned (.bool (goodB x)) ∧ ∃ p : Regrown, w'' = grow (redrawn wr p.d) p.os := fun dd os => Calls.regrown_of (Ent.rgood_any x _ HSM.out)
      have hq := fun W => run_eq_txn (txE x) t W
      have HST := Lib.hid (show isT t x = (goodB x && sameT (txE x) t) by rw [sameT_eq]; rfl)
      have HR0 := HR
      clear hgd
      have hgd := fun (A B : Operand) xs ys w => run_guard_txn .eql A B xs ys w
      generalize hsb : sameT (txE x) t = sb at hq HST
      unfold txE at hq
      dsimp only at hq
      generalize hgb : goodB x = gb at cG HST
      clear hsb hgb
      have HR1 := Lib.hid (show ∀ W1, Below wr.heap.size wr W1 → W1.ownsRow W.heap.size 31 13 (.slice va (ofL (L.take k) t).length vc) (ofL (L.take k) t).length (cellsE (ofL (L.take k) t)) ∧ Below w.heap.size w W1 ∧ Blk W1 w.heap.size 24 #[.int .i64 t.cl, .int .i64 t.ep, .int .i64 t.n] ∧ W.heap.size ≤ W1.heap.size from fun W1 b1 =>
        ⟨own_below HR.out.1 b1, HR.out.2.1.trans (b1.mono HR.out.2.1.size), HR.out.2.2.1.below b1 HR.out.2.2.1.lt, Nat.le_trans HR.out.2.2.2 b1.size⟩)
      cases gb with
      | false =>
        go_upto_region 5 with (fail)
        refine wp_region_quiet_below (by kernel_rfl) (by kernel_rfl) ?_
        repeat (go_big_quiet_step ((with_reducible exact cG _ _)))
        refine wpQuiet_nil ?_
        intro _ hw'
        obtain ⟨⟨dq, osq⟩, hw''⟩ := hw'
        subst hw''
        have b1 := below_regrown wr dq osq
        generalize grow (redrawn wr dq) osq = W1 at b1 ⊢
        have HN2 := Lib.hid (show ofL (L.take (k + 1)) t = ofL (L.take k) t by rw [HN.out, HST.out]; rfl)
        have H2 := Lib.hid (HR1.out W1 b1)
        clear cG q0 q1 q2 q3 q4 q5 q6 q7 q8 q9 q10 q11 q12 q13 q14 q15 c0 c1 c2 c3 c4 c5 c6 c7 c8 c9 c10 c11 c12 d0 d1 d2 b1
        go_wp2
        go_roundw
        case rel => exact ⟨k + 1, by omega, by go_num, Lib.hid (by rw [HN2.out]; exact H2.out)⟩
        case measure => simp [intV]; omega
      | true =>
        cases sb with
        | false =>
          go_upto_region 5 with (fail)
          refine wp_region_quiet_below (by kernel_rfl) (by kernel_rfl) ?_
          repeat (go_big_quiet_step ((with_reducible exact cG _ _)))
          refine wpQuiet_nil ?_
          intro _ hw'
          obtain ⟨⟨dq, osq⟩, hw''⟩ := hw'
          subst hw''
          have b1 := below_regrown wr dq osq
          generalize grow (redrawn wr dq) osq = W1 at b1 ⊢
          have HN2 := Lib.hid (show ofL (L.take (k + 1)) t = ofL (L.take k) t by rw [HN.out, HST.out]; rfl)
          have H2 := Lib.hid (HR1.out W1 b1)
          clear cG q0 q1 q2 q3 q4 q5 q6 q7 q8 q9 q10 q11 q12 q13 q14 q15 c0 c1 c2 c3 c4 c5 c6 c7 c8 c9 c10 c11 c12 d0 d1 d2 b1
          go_wp2
          go_roundw
          case rel => exact ⟨k + 1, by omega, by go_num, Lib.hid (by rw [HN2.out]; exact H2.out)⟩
          case measure => simp [intV]; omega
        | true =>
          go_upto_region 5 with (fail)
          refine wp_region_quiet_below (by kernel_rfl) (by kernel_rfl) ?_
          repeat (go_big_quiet_step ((with_reducible exact cG _ _)))
          refine wpQuiet_nil ?_
          intro _ hw'
          obtain ⟨⟨dq, osq⟩, hw''⟩ := hw'
          subst hw''
          have b1 := below_regrown wr dq osq
          generalize grow (redrawn wr dq) osq = W1 at b1 ⊢
          have HN2 := Lib.hid (show ofL (L.take (k + 1)) t = ofL (L.take k) t ++ [x] by rw [HN.out, HST.out]; rfl)
          have H2 := Lib.hid (HR1.out W1 b1)
          clear cG q0 q1 q2 q3 q4 q5 q6 q7 q8 q9 q10 q11 q12 q13 q14 q15 c0 c1 c2 c3 c4 c5 c6 c7 c8 c9 c10 c11 c12 d0 d1 d2 b1
          obtain ⟨c0, c1, c2, c3, c4, c5, c6, c7, c8, c9, c10, c11, c12⟩ := (HAT.out.next H2.out.2.1 hbw).cells
          have hsW := H2.out.2.2.2
          have hOL := Nat.le_trans (of_len (L.take k) t) (List.length_take_le k L)
          generalize ofL (L.take k) t = O at *
          go_wp2_with (at_builtin; refine wpList_append_own _ rfl _ _ 22 rfl W.heap.size 31 i0 (.agg #[.int .i64 0, .int .i64 0, .int .i64 0, .int .i64 0, .int .i64 0, .int .i64 0, .int .i64 0, .int .i64 0, .bool false, .string ⟨#[]⟩, .bool false, .string ⟨#[]⟩, .int .i64 0]) 13 120 Try.underlying22 hi hz0 hz1 hz2 rfl (by decide) _ O.length (cellsE O) rfl (own_below H2.out.1 (Ent.below_box _ _)) ⟨W1.heap.size, 0, none⟩ 1 1 (entA x).toList rfl rfl ?c1 ?c2 ?c3 ?c4 ?c5 ?_)
          case c1 =>
            intro j u hj
            rw [add_at, Nat.zero_add, (Blk.new W1 31 #[.int .i64 x.kind, .int .i64 x.cl, .int .i64 x.ep, .int .i64 x.n, .int .i64 x.lsn, .int .i64 x.prev, .int .i64 x.page, .int .i64 x.slot, .bool x.wu, .string x.wd, .bool x.iu, .string x.id, .int .i64 x.next]).cell j]
            simpa [entA] using hj
          case c2 => intro u hu; simp [entA] at hu; rcases hu with rfl | rfl | rfl | rfl | rfl | rfl | rfl | rfl | rfl | rfl | rfl | rfl | rfl <;> rfl
          case c3 => unfold maxLen; omega
          case c4 => omega
          case c5 => simp; omega
          intro v' w6 hown6 hgrow6 _
          rw [cellsE_snoc] at hown6
          have H6 := Lib.hid (show w6.ownsRow W.heap.size 31 13 v' (O ++ [x]).length (cellsE (O ++ [x])) ∧ Below w.heap.size w w6 ∧ Blk w6 w.heap.size 24 #[.int .i64 t.cl, .int .i64 t.ep, .int .i64 t.n] ∧ W.heap.size ≤ w6.heap.size from by
            have hbo : ∀ j, Value.ownBlock (.slice va O.length vc) = some j → W.heap.size ≤ j := fun j hj => own_ge H2.out.1 hj
            have hbb := Ent.below_box W1 (.cells (entA x) 31)
            have hs1 := H2.out.2.1.size
            refine ⟨by rw [List.length_append]; exact hown6, below_grown (H2.out.2.1.trans (hbb.mono hs1)) (Nat.le_trans hs1 hbb.size) hgrow6 (fun j hj => by have := hbo j hj; omega), (H2.out.2.2.1.alloc _).grown hgrow6 (fun e => by have := hbo _ e.symm; omega), Nat.le_trans H2.out.2.2.2 (Nat.le_trans hbb.size hgrow6.size)⟩)
          clear hown6 hgrow6 c0 c1 c2 c3 c4 c5 c6 c7 c8 c9 c10 c11 c12
          go_wp2
          go_roundw
          case rel => exact ⟨k + 1, by omega, by go_num, Lib.hid (by rw [HN2.out]; exact H6.out)⟩
          case measure => simp [intV]; omega
    · obtain rfl : k = n := by omega
      have hF : L.take k = L := List.take_of_length_le (by omega)
      rw [hF] at HR ⊢
      go_wp2
      go_ret
      exact ⟨_, rfl, own_base HR.out.1 (by omega), HR.out.2.1⟩
end Go.Proofs.Ytcpkngkeechjeaa.Past
