/- The walk of the statement LatchExact. -/
import Derived.Test.YtlalehoncclnaaaLatchExact0
namespace Go.Proofs.Ytlalehoncclnaaa.LRef
set_option maxRecDepth 100000
open Go.RowKit
open Go.Proofs.Ytlalehoncclnaaa.Mem
open Go.Proofs.Ytlalehoncclnaaa.Latch
/-- in a round: both locks and the call's box -/
structure KB (base : World) (p u b : Nat) (y : Latch.Act) (L1 L2 : LS) (W : World) : Prop where
  kx : KX base p u (fun k => k = b) L1 L2 W
  bk : Blk W b 31 #[.int .i64 y.kind, .int .i64 y.pg, .bool y.x]
/-- between two rounds -/
def RAt (base : World) (p u : Nat) (L : LS) (j : Nat) (W : World) : Prop := KX base p u (fun _ => False) L L W ∧ L.length ≤ j
section
variable {base W W' : World} {p u b : Nat} {y : Latch.Act} {L L1 L2 L1' L2' : LS} {j : Nat}
theorem KB.cells (h : KB base p u b y L1 L2 W) : W.cell? ⟨b, 1, none⟩ = some (.int .i64 y.pg) ∧ W.cell? ⟨b, 2, none⟩ = some (.bool y.x) := ⟨h.bk.cell 1, h.bk.cell 2⟩
theorem KB.below (h : KB base p u b y L1 L2 W) (hb : Below W.heap.size W W') : KB base p u b y L1 L2 W' := ⟨h.kx.below hb, h.bk.below hb h.bk.lt⟩
theorem KB.l {f : FuncId} {args : Array Value} {r : Value} (h : KB base p u b y L1 L2 W) (hc : ∀ M, TQ W p M L1 → Calls Try.prog f args W fun e w' => e = .returned r ∧ TQ w' p M L1' ∧ Keep M W w') :
    Calls Try.prog f args W fun e w' => e = .returned r ∧ KB base p u b y L1' L2 w' :=
  (h.kx.l hc).mono fun _ _ ⟨he, hk, kx⟩ => ⟨he, hk, kx.blk h.bk rfl⟩
theorem KB.r {f : FuncId} {args : Array Value} {r : Value} (h : KB base p u b y L1 L2 W) (hc : ∀ M, UQ W u M L2 → Calls Try.prog f args W fun e w' => e = .returned r ∧ UQ w' u M L2' ∧ Keep M W w') :
    Calls Try.prog f args W fun e w' => e = .returned r ∧ KB base p u b y L1 L2' w' :=
  (h.kx.r hc).mono fun _ _ ⟨he, hk, kx⟩ => ⟨he, hk, kx.blk h.bk rfl⟩
theorem KB.shut (h : KB base p u b y L L W) (hb : Below W.heap.size W W') (hn : L.length ≤ j) : RAt base p u L j W' := ⟨(h.kx.below hb).mono fun _ hk => hk.elim, hn⟩
theorem RAt.box (h : RAt base p u L j W) (y : Latch.Act) : KB base p u W.heap.size y L L (W.alloc (.cells #[.int .i64 y.kind, .int .i64 y.pg, .bool y.x] 31)) :=
  ⟨(h.1.box _).mono fun _ hk => .inr hk, Blk.new W _ _⟩
theorem below_drewN (W : World) (q : Nat) : Below W.heap.size W (W.drewN q) := ((Keep.refl (fun k => k < W.heap.size) W).drewN q).below fun _ h => h
theorem KX.lhas {X : Nat → Prop} (h : KX base p u X L1 L2 W) {pg : Int} (hs : Sm pg) (x : Bool) (q : Nat) :
    Calls Try.prog 19 #[.pointer (some ⟨p, 0, none⟩), .int .i64 pg, .bool x] (W.drewN q) fun e w' => e = .returned (.bool (hasL pg x L1)) ∧ ∃ m, w' = W.drewN m := by
  obtain ⟨A, B, h⟩ := h
  obtain ⟨hb, ub, ht⟩ := h.tq
  refine (Latch.has_any p hb ub _ L1 pg x (W.drewN q) (ht.drewN q) hs).mono ?_
  rintro e w' ⟨he, q2, rfl⟩
  exact ⟨he, drewN_drewN W q q2⟩
theorem KX.lused {X : Nat → Prop} (h : KX base p u X L1 L2 W) {pg : Int} (hs : Sm pg) (q : Nat) :
    Calls Try.prog 21 #[.pointer (some ⟨p, 0, none⟩), .int .i64 pg] (W.drewN q) fun e w' => e = .returned (.int .i64 (usedL pg L1 : Int)) ∧ ∃ m, w' = W.drewN m := by
  obtain ⟨A, B, h⟩ := h
  obtain ⟨hb, ub, ht⟩ := h.tq
  exact (Latch.used_any p hb ub _ L1 pg (W.drewN q) (ht.drewN q) hs).mono fun _ _ ⟨he, hw⟩ => ⟨he, q, hw.symm⟩
theorem KX.rhas {X : Nat → Prop} (h : KX base p u X L1 L2 W) (hn : L2.length ≤ 1000000) (hU : Up L2) (pg : Int) (x : Bool) (q : Nat) :
    Calls Try.prog 20 #[.pointer (some ⟨u, 0, none⟩), .int .i64 pg, .bool x] (W.drewN q) fun e w' => e = .returned (.bool (hasL pg x L2)) ∧ ∃ m, w' = W.drewN m := by
  obtain ⟨A, B, h⟩ := h
  obtain ⟨v, hu⟩ := h.uq
  exact (LRef.has_any u v _ L2 pg x (W.drewN q) (hu.step (Nat.le_refl _) (fun _ _ _ => rfl) (fun _ hk => .inl hk)) hn hU).mono fun _ _ ⟨he, hw⟩ => ⟨he, q, hw.symm⟩
theorem KX.rused {X : Nat → Prop} (h : KX base p u X L1 L2 W) (hn : L2.length ≤ 1000000) (hU : Up L2) (pg : Int) (q : Nat) :
    Calls Try.prog 22 #[.pointer (some ⟨u, 0, none⟩), .int .i64 pg] (W.drewN q) fun e w' => e = .returned (.int .i64 (usedL pg L2 : Int)) ∧ ∃ m, w' = W.drewN m := by
  obtain ⟨A, B, h⟩ := h
  obtain ⟨v, hu⟩ := h.uq
  exact (LRef.used_any u v _ L2 pg (W.drewN q) (hu.step (Nat.le_refl _) (fun _ _ _ => rfl) (fun _ hk => .inl hk)) hn hU).mono fun _ _ ⟨he, hw⟩ => ⟨he, q, hw.symm⟩
theorem KX.rows {X : Nat → Prop} (h : KX base p u X L1 L2 W) : ∃ v M, UV W u v M L2 := by
  obtain ⟨A, B, h⟩ := h
  obtain ⟨v, hu⟩ := h.uq
  exact ⟨v, _, hu⟩
end
set_option maxRecDepth 100000 in
set_option maxHeartbeats 64000000 in
theorem exact_walk (a : Option Addr) (n c : Nat) (xs : List Latch.Act) (w : World) (hA : Acts w a n xs) :
    Calls Try.prog 3 #[.slice a n c] w fun e w' => e = .returned (.bool true) ∧ Below w.heap.size w w' := by
  have HA := Lib.hid hA
  clear hA
  go_enter Try.func3, Try.ntmps3
  go_wp2_with fail
  refine (awake_any w).mono ?_
  rintro e w0 ⟨rfl, b0⟩
  have HB0 := Lib.hid b0
  clear b0
  go_wp2_with fail
  refine (new_any w0).mono ?_
  rintro e w1 ⟨p, rfl, hp0, h1, b1⟩
  have HI0 : Hid (RAt w p w1.heap.size [] 0 (w1.alloc (.cells #[.slice none 0 0] 29))) := Lib.hid (by
    have hs : (w1.alloc (.cells #[.slice none 0 0] 29)).heap.size = w1.heap.size + 1 := by simp
    have hs1 := b1.size
    have hs0 := HB0.out.size
    refine ⟨⟨fun k => k < w0.heap.size ∨ w1.heap.size ≤ k, fun k => k < w1.heap.size ∨ w1.heap.size + 1 ≤ k, fun k => by omega, fun k hk => by omega, ?_, ⟨.slice none 0 0, ?_⟩, (HB0.out.trans (b1.mono HB0.out.size)).alloc (by omega) _, fun k hk => hk.elim⟩, Nat.le_refl _⟩
    · exact (h1.alloc _).mono fun k hk => by
        rcases hk.2 with h | h
        · exact .inl h
        · exact .inr (by have := hk.1; omega)
    · exact ⟨Blk.new w1 _ _, own_nil _ _ _ _, by simp [Value.ownBlock], fun hk => by omega, fun g hg => by simp [Value.ownBlock] at hg, fun k hk => hk.1⟩)
  clear h1 b1 HB0 hp0
  go_wp2_with fail
  obtain ⟨u, hu⟩ : ∃ u, u = w1.heap.size := ⟨_, rfl⟩
  rw [← hu] at HI0 ⊢
  clear hu
  generalize w1.alloc (.cells #[.slice none 0 0] 29) = w2 at HI0 ⊢
  go_loopw [5] (fun i wr => ∃ (j : Nat) (L : LS), j ≤ n ∧ j ≤ 200 ∧ i = .int .i64 (j : Int) ∧ Hid (RAt w p u L j wr)) (fun i _ => 200 - (intOf i).toNat)
  case atStart => exact ⟨0, [], Nat.zero_le _, by omega, rfl, HI0⟩
  case round =>
    obtain ⟨j, L, hj, hj2, rfl, HI⟩ := hrel
    clear HI0
    have HLN := Lib.hid HI.out.2
    by_cases hlt : j < n
    rotate_left
    · obtain rfl : j = n := by omega
      have hn1 : L.length ≤ 1000000 := by have := HLN.out; omega
      have HP : Hid (Calls Try.prog 23 #[.pointer (some ⟨p, 0, none⟩)] wr (PagesRes L wr)) := Lib.hid (by
        obtain ⟨A, B, h⟩ := HI.out.1
        exact pages_any p _ L wr h.tq hn1)
      go_wp2_with fail
      refine HP.out.mono ?_
      rintro e w3 ⟨v7, rfl, ho7, hb7⟩
      have HK3 := Lib.hid (HI.out.1.below hb7)
      have HO7 := Lib.hid (own_low ho7 (Nat.zero_le _))
      obtain ⟨v8, M8, huv⟩ := HK3.out.rows
      have HU8 := Lib.hid huv
      have c8 := huv.blk.cell 0
      obtain ⟨a7, c7, rfl⟩ := own_shape ho7
      obtain ⟨a9, c9, rfl⟩ := own_shape huv.own
      have HF := Lib.hid HK3.out.bel
      clear ho7 hb7 huv HP HI HK3
      go_wp2_with fail
      go_loopw [8] (fun i wr2 => ∃ j2 : Nat, j2 ≤ L.length ∧ i = .int .i64 (j2 : Int) ∧ Hid (∃ q, wr2 = w3.drewN q)) (fun i _ => L.length - (intOf i).toNat)
      case atStart => exact ⟨0, Nat.zero_le _, rfl, Lib.hid ⟨0, rfl⟩⟩
      case round =>
        obtain ⟨j2, hj2', rfl, HW⟩ := hrel
        have HQ : Hid (wr.ownsRow 0 3 1 (.slice a7 L.length c7) L.length ((pagesL L).map (Value.int .i64)) ∧ UV wr u (.slice a9 L.length c9) M8 L ∧ Below w.heap.size w wr) := Lib.hid (by
          obtain ⟨q, rfl⟩ := HW.out
          exact ⟨own_same HO7.out fun g _ => rfl, HU8.out.step (Nat.le_refl _) (fun _ _ _ => rfl) (fun _ hk => .inl hk), HF.out.trans ((below_drewN w3 q).mono HF.out.size)⟩)
        clear c8
        have c8 := HQ.out.2.1.blk.cell 0
        by_cases hlt2 : j2 < L.length
        · have hx : L[j2]? = some L[j2] := List.getElem?_eq_getElem hlt2
          generalize L[j2] = k at hx
          obtain ⟨g, c, e, -, -, -, d0, -⟩ := HQ.out.2.1.row hx
          injection e with e1 e2 e3
          subst e1; subst e3
          obtain ⟨g7, c77, e7, -, -, d7⟩ := own_pos HQ.out.1 (by omega)
          have d8 := d7 j2 (by omega)
          unfold pagesL at d8
          rw [List.getElem?_map, List.getElem?_map, hx] at d8
          injection e7 with e4 e5 e6
          subst e4
          have d9 : wr.cell? ⟨g7, j2, none⟩ = some (.int .i64 k.pg) := d8
          obtain ⟨pg, kx, us, wt⟩ := k
          dsimp only at d0 d9
          clear hx d7 d8 e2 e5 e6 HQ
          go_wp2_with fail
          go_quiet (fail)
          have HW2 : Hid (∃ q, wr.drewN nq = w3.drewN q) := Lib.hid (by
            obtain ⟨q, rfl⟩ := HW.out
            exact drewN_drewN w3 q nq)
          obtain ⟨W2, hW2⟩ : ∃ W2, wr.drewN nq = W2 := ⟨_, rfl⟩
          rw [hW2] at HW2 ⊢
          clear hW2 d0 d9 c8 HW
          go_wp2
          go_roundw
          case rel => exact ⟨j2 + 1, by omega, by go_num, HW2⟩
          case measure => simp [intOf]; omega
        · obtain rfl : j2 = L.length := by omega
          go_wp2
          go_ret
          exact ⟨rfl, HQ.out.2.2⟩
    by_cases hlt2 : j < 200
    rotate_left
    · obtain rfl : j = 200 := by omega
      have hn1 : L.length ≤ 1000000 := by have := HLN.out; omega
      have HP : Hid (Calls Try.prog 23 #[.pointer (some ⟨p, 0, none⟩)] wr (PagesRes L wr)) := Lib.hid (by
        obtain ⟨A, B, h⟩ := HI.out.1
        exact pages_any p _ L wr h.tq hn1)
      go_wp2_with fail
      refine HP.out.mono ?_
      rintro e w3 ⟨v7, rfl, ho7, hb7⟩
      have HK3 := Lib.hid (HI.out.1.below hb7)
      have HO7 := Lib.hid (own_low ho7 (Nat.zero_le _))
      obtain ⟨v8, M8, huv⟩ := HK3.out.rows
      have HU8 := Lib.hid huv
      have c8 := huv.blk.cell 0
      obtain ⟨a7, c7, rfl⟩ := own_shape ho7
      obtain ⟨a9, c9, rfl⟩ := own_shape huv.own
      have HF := Lib.hid HK3.out.bel
      clear ho7 hb7 huv HP HI HK3
      go_wp2_with fail
      go_loopw [8] (fun i wr2 => ∃ j2 : Nat, j2 ≤ L.length ∧ i = .int .i64 (j2 : Int) ∧ Hid (∃ q, wr2 = w3.drewN q)) (fun i _ => L.length - (intOf i).toNat)
      case atStart => exact ⟨0, Nat.zero_le _, rfl, Lib.hid ⟨0, rfl⟩⟩
      case round =>
        obtain ⟨j2, hj2', rfl, HW⟩ := hrel
        have HQ : Hid (wr.ownsRow 0 3 1 (.slice a7 L.length c7) L.length ((pagesL L).map (Value.int .i64)) ∧ UV wr u (.slice a9 L.length c9) M8 L ∧ Below w.heap.size w wr) := Lib.hid (by
          obtain ⟨q, rfl⟩ := HW.out
          exact ⟨own_same HO7.out fun g _ => rfl, HU8.out.step (Nat.le_refl _) (fun _ _ _ => rfl) (fun _ hk => .inl hk), HF.out.trans ((below_drewN w3 q).mono HF.out.size)⟩)
        clear c8
        have c8 := HQ.out.2.1.blk.cell 0
        by_cases hlt2 : j2 < L.length
        · have hx : L[j2]? = some L[j2] := List.getElem?_eq_getElem hlt2
          generalize L[j2] = k at hx
          obtain ⟨g, c, e, -, -, -, d0, -⟩ := HQ.out.2.1.row hx
          injection e with e1 e2 e3
          subst e1; subst e3
          obtain ⟨g7, c77, e7, -, -, d7⟩ := own_pos HQ.out.1 (by omega)
          have d8 := d7 j2 (by omega)
          unfold pagesL at d8
          rw [List.getElem?_map, List.getElem?_map, hx] at d8
          injection e7 with e4 e5 e6
          subst e4
          have d9 : wr.cell? ⟨g7, j2, none⟩ = some (.int .i64 k.pg) := d8
          obtain ⟨pg, kx, us, wt⟩ := k
          dsimp only at d0 d9
          clear hx d7 d8 e2 e5 e6 HQ
          go_wp2_with fail
          go_quiet (fail)
          have HW2 : Hid (∃ q, wr.drewN nq = w3.drewN q) := Lib.hid (by
            obtain ⟨q, rfl⟩ := HW.out
            exact drewN_drewN w3 q nq)
          obtain ⟨W2, hW2⟩ : ∃ W2, wr.drewN nq = W2 := ⟨_, rfl⟩
          rw [hW2] at HW2 ⊢
          clear hW2 d0 d9 c8 HW
          go_wp2
          go_roundw
          case rel => exact ⟨j2 + 1, by omega, by go_num, HW2⟩
          case measure => simp [intOf]; omega
        · obtain rfl : j2 = L.length := by omega
          go_wp2
          go_ret
          exact ⟨rfl, HQ.out.2.2⟩
    obtain ⟨b0, off, x, rfl, hb, -, ⟨c0, c1, c2⟩, hg⟩ := (HA.out.below HI.out.1.bel).at_ hlt
    have hsm := Lib.hid (sm_of ⟨hg.2.2.1, hg.2.2.2⟩)
    have HS := Lib.hid (HI.out.box x)
    have HOK := Lib.hid HI.out.1.ok
    have hn1 : L.length ≤ 1000000 := by have := HLN.out; omega
    clear HI hg hb
    go_upto_region 10 with (fail)
    obtain ⟨b, hB⟩ : ∃ b, b = wr.heap.size := ⟨_, rfl⟩
    rw [← hB] at HS ⊢
    clear c0 c1 c2 hB
    generalize wr.alloc (.cells #[.int .i64 x.kind, .int .i64 x.pg, .bool x.x] 31) = W1 at HS ⊢
    obtain ⟨x1, x2⟩ := HS.out.cells
    obtain ⟨kind, pg, x⟩ := x
    dsimp only at hsm x1 x2 ⊢
    by_cases hk1 : kind = 1
    · subst hk1
      have HP1 := Lib.hid (HS.out.l fun M ht => Latch.grant_any p M L pg x W1 ht hsm.out hn1)
      go_wp2_with fail
      refine HP1.out.mono ?_
      rintro e W2 ⟨rfl, h2⟩
      have HP2 := Lib.hid (h2.r fun M ht => LRef.grant_any u M L pg x W2 ht hn1 HOK.out.1)
      obtain ⟨y1, y2⟩ := h2.cells
      dsimp only at y1 y2
      clear h2 HP1 HS x1 x2
      go_wp2_with fail
      refine HP2.out.mono ?_
      rintro e W5 ⟨rfl, h5⟩
      have HK5 := Lib.hid h5
      have HL5 := Lib.hid (show (grantL pg x L).length ≤ j + 1 by have := grant_len pg x L; have := HLN.out; omega)
      clear h5 HP2 y1 y2
      obtain ⟨x1, x2⟩ := HK5.out.cells
      dsimp only at x1 x2
      have hn5 : (grantL pg x L).length ≤ 1000000 := by have := HL5.out; omega
      have cH := fun q => HK5.out.kx.lhas hsm.out x q
      have cH' := fun q => HK5.out.kx.rhas hn5 HK5.out.kx.ok.1 pg x q
      have cU := fun q => HK5.out.kx.lused hsm.out q
      have cU' := fun q => HK5.out.kx.rused hn5 HK5.out.kx.ok.1 pg q
      generalize hasL pg x (grantL pg x L) = hv at cH cH'
      generalize (usedL pg (grantL pg x L) : Int) = uv at cU cU'
      go_upto_region 25 with (fail)
      go_quiet (first | (go_at_call 19; exact cH _) | (go_at_call 20; exact cH' _) | (go_at_call 21; exact cU _) | (go_at_call 22; exact cU' _))
      have HN : Hid (RAt w p u (grantL pg x L) (j + 1) (W5.drewN nq)) := Lib.hid (HK5.out.shut (below_drewN _ _) HL5.out)
      obtain ⟨W6, hW6⟩ : ∃ W6, W5.drewN nq = W6 := ⟨_, rfl⟩
      rw [hW6] at HN ⊢
      clear hW6 x1 x2 cH cH' cU cU' HK5
      go_wp2
      go_roundw
      case rel => exact ⟨j + 1, _, by omega, by omega, by go_num, HN⟩
      case measure => simp [intOf]; omega
    have hq1 : (kind == 1) = false := by simpa using hk1
    clear hk1
    by_cases hk2 : kind = 2
    · subst hk2
      have HP1 : Hid (∀ W', Below W1.heap.size W1 W' → Calls Try.prog 11 #[.pointer (some ⟨p, 0, none⟩), .int .i64 pg, .bool x] W' fun e w' => e = .returned (.int .i64 (useE pg x L)) ∧ KB w p u b ⟨2, pg, x⟩ (useL pg x L) L w') := Lib.hid fun W' hb => (HS.out.below hb).l fun M ht => Latch.use_any p M L pg x W' ht hsm.out hn1
      have HP2 : Hid (∀ W', KB w p u b ⟨2, pg, x⟩ (useL pg x L) L W' → Calls Try.prog 12 #[.pointer (some ⟨u, 0, none⟩), .int .i64 pg, .bool x] W' fun e w' => e = .returned (.int .i64 (useE pg x L)) ∧ KB w p u b ⟨2, pg, x⟩ (useL pg x L) (useL pg x L) w') := Lib.hid fun W' h => h.r fun M ht => LRef.use_any u M L pg x W' ht hn1 HOK.out.1
      have HL5 := Lib.hid (show (useL pg x L).length ≤ j + 1 by have := use_len pg x L; have := HLN.out; omega)
      have HZ := Lib.hid HS.out.cells
      generalize useE pg x L = er at HP1 HP2
      generalize useL pg x L = L5 at HP1 HP2 HL5
      clear HS
      go_upto_region 14 with (fail)
      go_region_held3 (fun w' => w'.cell? ⟨b, 1, none⟩ = some (.int .i64 pg) ∧ w'.cell? ⟨b, 2, none⟩ = some (.bool x)) (first | assumption | exact HZ.out) (first
        | (go_at_call 11; (with_reducible refine (HP1.out _ ?_).mono ?_); (first | assumption | exact (Below.refl _ _).drew | exact Below.refl _ _); rintro e wW ⟨rfl, hkW⟩; have hz4 := hkW.cells)
        | (go_at_call 12; (with_reducible refine (HP2.out _ ?_).mono ?_); (first | assumption); rintro e wV ⟨rfl, hkV⟩; have hz5 := hkV.cells))
      all_goals
        have HK5 := Lib.hid hkV
        clear hkW hz4 hz5 hkV HP1 HP2 HZ x1 x2
        generalize wV = W5 at *
        obtain ⟨x1, x2⟩ := HK5.out.cells
        dsimp only at x1 x2
        have hn5 : (L5).length ≤ 1000000 := by have := HL5.out; omega
        have cH := fun q => HK5.out.kx.lhas hsm.out x q
        have cH' := fun q => HK5.out.kx.rhas hn5 HK5.out.kx.ok.1 pg x q
        have cU := fun q => HK5.out.kx.lused hsm.out q
        have cU' := fun q => HK5.out.kx.rused hn5 HK5.out.kx.ok.1 pg q
        generalize hasL pg x (L5) = hv at cH cH'
        generalize (usedL pg (L5) : Int) = uv at cU cU'
        go_upto_region 25 with (fail)
        go_quiet (first | (go_at_call 19; exact cH _) | (go_at_call 20; exact cH' _) | (go_at_call 21; exact cU _) | (go_at_call 22; exact cU' _))
        have HN : Hid (RAt w p u (L5) (j + 1) (W5.drewN nq)) := Lib.hid (HK5.out.shut (below_drewN _ _) HL5.out)
        obtain ⟨W6, hW6⟩ : ∃ W6, W5.drewN nq = W6 := ⟨_, rfl⟩
        rw [hW6] at HN ⊢
        clear hW6 x1 x2 cH cH' cU cU' HK5
        go_wp2
        go_roundw
        case rel => exact ⟨j + 1, _, by omega, by omega, by go_num, HN⟩
        case measure => simp [intOf]; omega
    have hq2 : (kind == 2) = false := by simpa using hk2
    clear hk2
    by_cases hk3 : kind = 3
    · subst hk3
      have HP1 : Hid (∀ W', Below W1.heap.size W1 W' → Calls Try.prog 13 #[.pointer (some ⟨p, 0, none⟩), .int .i64 pg, .bool x] W' fun e w' => e = .returned (.int .i64 (callE pg x L)) ∧ KB w p u b ⟨3, pg, x⟩ (callL pg x L) L w') := Lib.hid fun W' hb => (HS.out.below hb).l fun M ht => Latch.call_any p M L pg x W' ht hsm.out hn1
      have HP2 : Hid (∀ W', KB w p u b ⟨3, pg, x⟩ (callL pg x L) L W' → Calls Try.prog 14 #[.pointer (some ⟨u, 0, none⟩), .int .i64 pg, .bool x] W' fun e w' => e = .returned (.int .i64 (callE pg x L)) ∧ KB w p u b ⟨3, pg, x⟩ (callL pg x L) (callL pg x L) w') := Lib.hid fun W' h => h.r fun M ht => LRef.call_any u M L pg x W' ht hn1 HOK.out.1
      have HL5 := Lib.hid (show (callL pg x L).length ≤ j + 1 by have := call_len pg x L; have := HLN.out; omega)
      have HZ := Lib.hid HS.out.cells
      generalize callE pg x L = er at HP1 HP2
      generalize callL pg x L = L5 at HP1 HP2 HL5
      clear HS
      go_upto_region 17 with (fail)
      go_region_held3 (fun w' => w'.cell? ⟨b, 1, none⟩ = some (.int .i64 pg) ∧ w'.cell? ⟨b, 2, none⟩ = some (.bool x)) (first | assumption | exact HZ.out) (first
        | (go_at_call 13; (with_reducible refine (HP1.out _ ?_).mono ?_); (first | assumption | exact (Below.refl _ _).drew | exact Below.refl _ _); rintro e wW ⟨rfl, hkW⟩; have hz4 := hkW.cells)
        | (go_at_call 14; (with_reducible refine (HP2.out _ ?_).mono ?_); (first | assumption); rintro e wV ⟨rfl, hkV⟩; have hz5 := hkV.cells))
      all_goals
        have HK5 := Lib.hid hkV
        clear hkW hz4 hz5 hkV HP1 HP2 HZ x1 x2
        generalize wV = W5 at *
        obtain ⟨x1, x2⟩ := HK5.out.cells
        dsimp only at x1 x2
        have hn5 : (L5).length ≤ 1000000 := by have := HL5.out; omega
        have cH := fun q => HK5.out.kx.lhas hsm.out x q
        have cH' := fun q => HK5.out.kx.rhas hn5 HK5.out.kx.ok.1 pg x q
        have cU := fun q => HK5.out.kx.lused hsm.out q
        have cU' := fun q => HK5.out.kx.rused hn5 HK5.out.kx.ok.1 pg q
        generalize hasL pg x (L5) = hv at cH cH'
        generalize (usedL pg (L5) : Int) = uv at cU cU'
        go_upto_region 25 with (fail)
        go_quiet (first | (go_at_call 19; exact cH _) | (go_at_call 20; exact cH' _) | (go_at_call 21; exact cU _) | (go_at_call 22; exact cU' _))
        have HN : Hid (RAt w p u (L5) (j + 1) (W5.drewN nq)) := Lib.hid (HK5.out.shut (below_drewN _ _) HL5.out)
        obtain ⟨W6, hW6⟩ : ∃ W6, W5.drewN nq = W6 := ⟨_, rfl⟩
        rw [hW6] at HN ⊢
        clear hW6 x1 x2 cH cH' cU cU' HK5
        go_wp2
        go_roundw
        case rel => exact ⟨j + 1, _, by omega, by omega, by go_num, HN⟩
        case measure => simp [intOf]; omega
    have hq3 : (kind == 3) = false := by simpa using hk3
    clear hk3
    by_cases hk4 : kind = 4
    · subst hk4
      have HP1 := Lib.hid (HS.out.kx.lend hn1)
      have HBK := Lib.hid HS.out.bk
      clear HS x1 x2
      go_wp2_with fail
      refine HP1.out.mono ?_
      rintro e W2 ⟨v7, rfl, ho7, hk2, kx2⟩
      have HP2 := Lib.hid (hk2.rend hn1 HOK.out)
      have HO7 := Lib.hid ho7
      have HB2 := Lib.hid (kx2.blk HBK.out rfl)
      obtain ⟨a7, c7, rfl⟩ := own_shape ho7
      clear ho7 hk2 kx2 HP1 HBK
      go_wp2_with fail
      refine HP2.out.mono ?_
      rintro e W3 ⟨v8, rfl, ho8, hk3, kx3⟩
      have HLT := Lib.hid (LRef.lets_any (.slice a7 (endO L).length c7) v8 (endO L) W3 (own_same HO7.out fun g hg => kx3.block g (.inr hg)) ho8 (Nat.le_trans (List.length_filterMap_le _ _) hn1))
      have HB3 := Lib.hid (kx3.blk HB2.out (.inl rfl))
      have HK3 := Lib.hid (hk3.mono (X' := fun k => k = b) fun k hk => .inl hk)
      obtain ⟨a8, c8, rfl⟩ := own_shape ho8
      clear ho8 hk3 kx3 HP2 HB2 HO7
      go_wp2_with fail
      refine HLT.out.mono ?_
      rintro e W5 ⟨rfl, q5, hq5⟩
      have HK5 : Hid (KB w p u b ⟨4, pg, x⟩ (endL L) (endL L) W5) := Lib.hid (by
        rw [hq5]
        exact (KB.mk HK3.out HB3.out).below (below_drewN _ _))
      have HL5 := Lib.hid (show (endL L).length ≤ j + 1 by have := end_len L; have := HLN.out; omega)
      clear HLT HB3 HK3 hq5
      obtain ⟨x1, x2⟩ := HK5.out.cells
      dsimp only at x1 x2
      have hn5 : (endL L).length ≤ 1000000 := by have := HL5.out; omega
      have cH := fun q => HK5.out.kx.lhas hsm.out x q
      have cH' := fun q => HK5.out.kx.rhas hn5 HK5.out.kx.ok.1 pg x q
      have cU := fun q => HK5.out.kx.lused hsm.out q
      have cU' := fun q => HK5.out.kx.rused hn5 HK5.out.kx.ok.1 pg q
      generalize hasL pg x (endL L) = hv at cH cH'
      generalize (usedL pg (endL L) : Int) = uv at cU cU'
      go_upto_region 25 with (fail)
      go_quiet (first | (go_at_call 19; exact cH _) | (go_at_call 20; exact cH' _) | (go_at_call 21; exact cU _) | (go_at_call 22; exact cU' _))
      have HN : Hid (RAt w p u (endL L) (j + 1) (W5.drewN nq)) := Lib.hid (HK5.out.shut (below_drewN _ _) HL5.out)
      obtain ⟨W6, hW6⟩ : ∃ W6, W5.drewN nq = W6 := ⟨_, rfl⟩
      rw [hW6] at HN ⊢
      clear hW6 x1 x2 cH cH' cU cU' HK5
      go_wp2
      go_roundw
      case rel => exact ⟨j + 1, _, by omega, by omega, by go_num, HN⟩
      case measure => simp [intOf]; omega
    have hq4 : (kind == 4) = false := by simpa using hk4
    clear hk4
    by_cases hk5 : kind = 5
    · subst hk5
      have HP1 := Lib.hid (HS.out.l fun M ht => Latch.clear_any p M L W1 ht)
      go_wp2_with fail
      refine HP1.out.mono ?_
      rintro e W2 ⟨rfl, h2⟩
      obtain ⟨_, f0, ⟨an, nn, cn, z0⟩, hk3, kx3⟩ := h2.kx.rnil
      have HK5 : Hid (KB w p u b ⟨5, pg, x⟩ [] [] (W2.setCell ⟨u, 0, none⟩ (.slice none 0 0))) := Lib.hid ⟨hk3, kx3.blk h2.bk rfl⟩
      have HL5 := Lib.hid (show ([] : LS).length ≤ j + 1 by simp)
      clear h2 hk3 kx3 HP1 HS x1 x2
      go_upto_region 25 with (fail)
      generalize W2.setCell ⟨u, 0, none⟩ (.slice none 0 0) = W5 at HK5 ⊢
      clear f0 z0
      obtain ⟨x1, x2⟩ := HK5.out.cells
      dsimp only at x1 x2
      have hn5 : (([] : LS)).length ≤ 1000000 := by have := HL5.out; omega
      have cH := fun q => HK5.out.kx.lhas hsm.out x q
      have cH' := fun q => HK5.out.kx.rhas hn5 HK5.out.kx.ok.1 pg x q
      have cU := fun q => HK5.out.kx.lused hsm.out q
      have cU' := fun q => HK5.out.kx.rused hn5 HK5.out.kx.ok.1 pg q
      generalize hasL pg x (([] : LS)) = hv at cH cH'
      generalize (usedL pg (([] : LS)) : Int) = uv at cU cU'
      go_quiet (first | (go_at_call 19; exact cH _) | (go_at_call 20; exact cH' _) | (go_at_call 21; exact cU _) | (go_at_call 22; exact cU' _))
      have HN : Hid (RAt w p u (([] : LS)) (j + 1) (W5.drewN nq)) := Lib.hid (HK5.out.shut (below_drewN _ _) HL5.out)
      obtain ⟨W6, hW6⟩ : ∃ W6, W5.drewN nq = W6 := ⟨_, rfl⟩
      rw [hW6] at HN ⊢
      clear hW6 x1 x2 cH cH' cU cU' HK5
      go_wp2
      go_roundw
      case rel => exact ⟨j + 1, _, by omega, by omega, by go_num, HN⟩
      case measure => simp [intOf]; omega
    have hq5 : (kind == 5) = false := by simpa using hk5
    clear hk5
    have HK5 := HS
    have HL5 := Lib.hid (show L.length ≤ j + 1 by have := HLN.out; omega)
    clear HS x1 x2
    obtain ⟨x1, x2⟩ := HK5.out.cells
    dsimp only at x1 x2
    have hn5 : (L).length ≤ 1000000 := by have := HL5.out; omega
    have cH := fun q => HK5.out.kx.lhas hsm.out x q
    have cH' := fun q => HK5.out.kx.rhas hn5 HK5.out.kx.ok.1 pg x q
    have cU := fun q => HK5.out.kx.lused hsm.out q
    have cU' := fun q => HK5.out.kx.rused hn5 HK5.out.kx.ok.1 pg q
    generalize hasL pg x (L) = hv at cH cH'
    generalize (usedL pg (L) : Int) = uv at cU cU'
    go_upto_region 25 with (fail)
    go_quiet (first | (go_at_call 19; exact cH _) | (go_at_call 20; exact cH' _) | (go_at_call 21; exact cU _) | (go_at_call 22; exact cU' _))
    have HN : Hid (RAt w p u (L) (j + 1) (W1.drewN nq)) := Lib.hid (HK5.out.shut (below_drewN _ _) HL5.out)
    obtain ⟨W6, hW6⟩ : ∃ W6, W1.drewN nq = W6 := ⟨_, rfl⟩
    rw [hW6] at HN ⊢
    clear hW6 x1 x2 cH cH' cU cU' HK5
    go_wp2
    go_roundw
    case rel => exact ⟨j + 1, _, by omega, by omega, by go_num, HN⟩
    case measure => simp [intOf]; omega
end Go.Proofs.Ytlalehoncclnaaa.LRef
