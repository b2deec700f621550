/- The walk of the statement SlabKeeps. -/
import Derived.Test.YtnhdeebhkiemgaaSlabLaws
import Derived.Test.YtnhdeebhkiemgaaHold
import Derived.RegionCalls
import Derived.Deep.RegionWith
import Derived.Deep.RegionHeld3
namespace Go.Proofs.Ytnhdeebhkiemgaa.Slab
open Go.RowKit Go.Sort

theorem held4 {w0 w w' : World} {p0 p1 p2 p3 : Addr} {v0 v1 v2 v3 : Value} (h : w.cell? p0 = some v0 ∧ w.cell? p1 = some v1 ∧ w.cell? p2 = some v2 ∧ w.cell? p3 = some v3 ∧ Below w0.heap.size w0 w) (hb : Below w.heap.size w w') :
    w'.cell? p0 = some v0 ∧ w'.cell? p1 = some v1 ∧ w'.cell? p2 = some v2 ∧ w'.cell? p3 = some v3 ∧ Below w0.heap.size w0 w' :=
  ⟨(hb.cell (World.block_lt_of_cell? _ _ h.1)).trans h.1, (hb.cell (World.block_lt_of_cell? _ _ h.2.1)).trans h.2.1, (hb.cell (World.block_lt_of_cell? _ _ h.2.2.1)).trans h.2.2.1, (hb.cell (World.block_lt_of_cell? _ _ h.2.2.2.1)).trans h.2.2.2.1, h.2.2.2.2.trans (hb.mono h.2.2.2.2.size)⟩
theorem held4_set {w0 w : World} {p0 p1 p2 p3 : Addr} {v0 v1 v2 v3 : Value} (h : w.cell? p0 = some v0 ∧ w.cell? p1 = some v1 ∧ w.cell? p2 = some v2 ∧ w.cell? p3 = some v3 ∧ Below w0.heap.size w0 w)
    (h0 : p0.block < w0.heap.size) (h1 : p1.block < w0.heap.size) (h2 : p2.block < w0.heap.size) (h3 : p3.block < w0.heap.size) {g : Nat} (hg : w0.heap.size ≤ g) (i : Nat) (x : Value) :
    (w.setCell ⟨g, i, none⟩ x).cell? p0 = some v0 ∧ (w.setCell ⟨g, i, none⟩ x).cell? p1 = some v1 ∧ (w.setCell ⟨g, i, none⟩ x).cell? p2 = some v2 ∧ (w.setCell ⟨g, i, none⟩ x).cell? p3 = some v3 ∧ Below w0.heap.size w0 (w.setCell ⟨g, i, none⟩ x) := by
  have ne : ∀ p : Addr, p.block < w0.heap.size → (⟨g, i, none⟩ : Addr) ≠ p := fun p hp e => by rw [← e] at hp; simp at hp; omega
  exact ⟨by rw [World.cell?_setCell_other _ _ _ _ (ne _ h0)]; exact h.1, by rw [World.cell?_setCell_other _ _ _ _ (ne _ h1)]; exact h.2.1, by rw [World.cell?_setCell_other _ _ _ _ (ne _ h2)]; exact h.2.2.1, by rw [World.cell?_setCell_other _ _ _ _ (ne _ h3)]; exact h.2.2.2.1, h.2.2.2.2.setCell (p := ⟨g, i, none⟩) hg x⟩
/-- a new box over a call -/
theorem box_kept {X w' : World} {x y : Value} {T : TypeId} (hb : Below (X.alloc (.cells #[x, y] T)).heap.size (X.alloc (.cells #[x, y] T)) w') :
    w'.cell? ⟨X.heap.size, 0, none⟩ = some x ∧ w'.cell? ⟨X.heap.size, 1, none⟩ = some y ∧ w'.frozen? ⟨X.heap.size, 0, none⟩ = false ∧ w'.frozen? ⟨X.heap.size, 1, none⟩ = false := by
  have hB := (Blk.new X T #[x, y]).below hb (by simp)
  exact ⟨hB.cell 0, hB.cell 1, hB.frozen 0, hB.frozen 1⟩
theorem box_elim {Gl : Prop} {X w' : World} {x y : Value} {T : TypeId} (hb : Below (X.alloc (.cells #[x, y] T)).heap.size (X.alloc (.cells #[x, y] T)) w')
    (k : (w'.cell? ⟨X.heap.size, 0, none⟩ = some x ∧ w'.cell? ⟨X.heap.size, 1, none⟩ = some y ∧ w'.frozen? ⟨X.heap.size, 0, none⟩ = false ∧ w'.frozen? ⟨X.heap.size, 1, none⟩ = false) → Gl) : Gl := k (box_kept hb)
theorem box_elim_d {Gl : Prop} {X w' : World} {x y : Value} {T : TypeId} (hb : Below (X.alloc (.cells #[x, y] T)).drew.heap.size (X.alloc (.cells #[x, y] T)).drew w')
    (k : (w'.cell? ⟨X.heap.size, 0, none⟩ = some x ∧ w'.cell? ⟨X.heap.size, 1, none⟩ = some y ∧ w'.frozen? ⟨X.heap.size, 0, none⟩ = false ∧ w'.frozen? ⟨X.heap.size, 1, none⟩ = false) → Gl) : Gl := k (box_kept (⟨hb.os, hb.tape, hb.output, hb.size, hb.block⟩ : Below (X.alloc (.cells #[x, y] T)).heap.size (X.alloc (.cells #[x, y] T)) w'))
theorem box_next {w w' : World} {g : Nat} {x y : Value} (h : w.cell? ⟨g, 0, none⟩ = some x ∧ w.cell? ⟨g, 1, none⟩ = some y ∧ w.frozen? ⟨g, 0, none⟩ = false ∧ w.frozen? ⟨g, 1, none⟩ = false) (hb : Below w.heap.size w w') :
    w'.cell? ⟨g, 0, none⟩ = some x ∧ w'.cell? ⟨g, 1, none⟩ = some y ∧ w'.frozen? ⟨g, 0, none⟩ = false ∧ w'.frozen? ⟨g, 1, none⟩ = false := by
  have hg := World.block_lt_of_cell? _ _ h.1
  exact ⟨(hb.cell hg).trans h.1, (hb.cell (p := ⟨g, 1, none⟩) hg).trans h.2.1, (hb.frozen (p := ⟨g, 0, none⟩) hg).trans h.2.2.1, (hb.frozen (p := ⟨g, 1, none⟩) hg).trans h.2.2.2⟩
theorem next_elim {Gl : Prop} {w w' : World} {g : Nat} {x y : Value} (h : w.cell? ⟨g, 0, none⟩ = some x ∧ w.cell? ⟨g, 1, none⟩ = some y ∧ w.frozen? ⟨g, 0, none⟩ = false ∧ w.frozen? ⟨g, 1, none⟩ = false) (hb : Below w.heap.size w w')
    (k : (w'.cell? ⟨g, 0, none⟩ = some x ∧ w'.cell? ⟨g, 1, none⟩ = some y ∧ w'.frozen? ⟨g, 0, none⟩ = false ∧ w'.frozen? ⟨g, 1, none⟩ = false) → Gl) : Gl := k (box_next h hb)
theorem held4_b {w0 w : World} {p0 p1 p2 p3 : Addr} {v0 v1 v2 v3 : Value} (h : w.cell? p0 = some v0 ∧ w.cell? p1 = some v1 ∧ w.cell? p2 = some v2 ∧ w.cell? p3 = some v3 ∧ Below w0.heap.size w0 w) : Below w0.heap.size w0 w := h.2.2.2.2

theorem box_written {w : World} {g : Nat} {u v x y : Value} (e0 : w.cell? ⟨g, 0, none⟩ = some u) (e1 : w.cell? ⟨g, 1, none⟩ = some v) :
    ((w.setCell ⟨g, 0, none⟩ x).setCell ⟨g, 1, none⟩ y).cell? ⟨g, 0, none⟩ = some x ∧ ((w.setCell ⟨g, 0, none⟩ x).setCell ⟨g, 1, none⟩ y).cell? ⟨g, 1, none⟩ = some y := by
  have h1 : (w.setCell ⟨g, 0, none⟩ x).cell? ⟨g, 1, none⟩ = some v := by rw [World.cell?_setCell_other _ _ _ _ (by simp)]; exact e1
  refine ⟨?_, World.cell?_setCell_same _ _ _ h1⟩
  rw [World.cell?_setCell_other _ _ _ _ (by simp)]
  exact World.cell?_setCell_same _ _ _ e0
theorem box_fresh {w : World} {x y : Value} {T : TypeId} : (w.alloc (.cells #[x, y] T)).cell? ⟨w.heap.size, 0, none⟩ = some x ∧ (w.alloc (.cells #[x, y] T)).cell? ⟨w.heap.size, 1, none⟩ = some y :=
  ⟨by rw [World.cell?_alloc_new]; rfl, by rw [World.cell?_alloc_new]; rfl⟩

set_option maxRecDepth 100000 in
set_option maxHeartbeats 8000000 in
theorem keeps_walk (lsn : Int) (a : Option Addr) (n c : Nat) (zs : List Slot) (slot : Int) (u : Bool) (d : ByteArray) (w : World) (hl : -9223372036854775808 ≤ lsn ∧ lsn ≤ 9223372036854775807) (h : Slots w a n zs) (_hs : -9223372036854775808 ≤ slot ∧ slot ≤ 9223372036854775807) (hd : d.size ≤ 140737488351232) :
    Calls Try.prog 7 #[.agg #[.int .i64 lsn, .slice a n c], .int .i64 slot, .agg #[.bool u, .string d]] w fun e w' => e = .returned (.bool true) ∧ Below w.heap.size w w' := by
  have H0 := (Hold.nil (Below.refl w.heap.size w)).box2 (.int .i64 lsn) (.slice a n c) 24
  replace H0 := H0.box2 (.bool u) (.string d) 36
  rw [World.size_alloc] at H0
  have HO := Lib.hid h
  have HL := Lib.hid hl
  clear h hl
  go_enter Try.func7, Try.ntmps7
  go_wp2_with fail
  generalize hGen : (w.alloc (.cells #[.int .i64 lsn, .slice a n c] 24)).alloc (.cells #[.bool u, .string d] 36) = W at H0 ⊢
  clear hGen
  refine (awake_any _).mono ?_
  rintro e w1 ⟨rfl, b1⟩
  have H1 := H0.next b1
  obtain ⟨Q0, Q1, P0, P1⟩ := H1.get4
  clear H0 b1
  cases hgr : greatB zs with
  | true =>
    have HGR := Lib.hid hgr
    clear hgr
    go_wp2_with fail
    refine (great_any lsn a n c zs _ (HO.out.below H1.b)).mono ?_
    rw [HGR.out]
    rintro e w2 ⟨rfl, b2⟩
    go_wp2
    go_ret
    exact ⟨rfl, (H1.next b2).b⟩
  | false =>
    have hn : n ≤ 1000000 := by have := HO.out.len; simp [greatB] at hgr; omega
    have HGR := Lib.hid hgr
    clear hgr
    cases hg : goodB lsn zs with
    | false =>
      have HG := Lib.hid hg
      clear hg
      go_wp2_with fail
      refine (great_any lsn a n c zs _ (HO.out.below H1.b)).mono ?_
      rw [HGR.out]
      rintro e w2 ⟨rfl, b2⟩
      have H2 := H1.next b2
      obtain ⟨Q0b, Q1b, P0b, P1b⟩ := H2.get4
      clear Q0 Q1 P0 P1 b2 H1
      go_wp2_with fail
      refine (good_any lsn a n c zs _ (HO.out.below H2.b) (by omega)).mono ?_
      rw [HG.out]
      rintro e w3 ⟨rfl, b3⟩
      go_wp2
      go_ret
      exact ⟨rfl, (H2.next b3).b⟩
    | true =>
      have HG := Lib.hid hg
      clear hg
      go_wp2_with fail
      refine (great_any lsn a n c zs _ (HO.out.below H1.b)).mono ?_
      rw [HGR.out]
      rintro e w2 ⟨rfl, b2⟩
      have H2 := H1.next b2
      obtain ⟨Q0b, Q1b, P0b, P1b⟩ := H2.get4
      clear Q0 Q1 P0 P1 b2 H1
      go_wp2_with fail
      refine (good_any lsn a n c zs _ (HO.out.below H2.b) (by omega)).mono ?_
      rw [HG.out]
      rintro e w3 ⟨rfl, b3⟩
      have H3 := H2.next b3
      obtain ⟨Q0c, Q1c, P0c, P1c⟩ := H3.get4
      clear Q0b Q1b P0b P1b b3 H2
      go_wp2_with fail
      refine (put_any lsn a n c zs slot u d _ (HO.out.below H3.b) hn hd).mono ?_
      by_cases hc : putCode lsn zs slot ⟨u, d⟩ = 0
      · have hN : putN lsn zs slot ⟨u, d⟩ = lsn := by unfold putN; rw [if_pos hc]
        have hZ : putZ lsn zs slot ⟨u, d⟩ = putL zs slot.toNat ⟨u, d⟩ := by unfold putZ; rw [if_pos hc]
        rw [hN, hZ, hc]
        obtain ⟨Q, hQ⟩ : ∃ Q, Q = putL zs slot.toNat ⟨u, d⟩ := ⟨_, rfl⟩
        rw [← hQ]
        have hat : ∀ i : Nat, atL lsn Q (i : Int) = if (i : Int) = slot then ⟨u, d⟩ else atL lsn zs (i : Int) := fun i => by rw [hQ]; exact at_put hc i
        have hQg : goodB lsn Q = true := by rw [hQ]; exact put_good hc
        have hback := put_back_is hc
        rw [← hQ] at hback
        have HAT := Lib.hid hat
        have HQG := Lib.hid hQg
        have HBK := Lib.hid hback
        clear hN hZ hc hQ hat hQg hback
        rintro e w4 ⟨a4, n4, c4, rfl, s4, b4, f4⟩
        have hn4 : n4 ≤ 32 := by have := s4.len; have h2 := (good_parts HQG.out).2.2.1; omega
        have S4 := Lib.hid (s4.below ((Below.refl _ _).alloc (Nat.le_refl _) (.cells #[.int .i64 lsn, .slice a4 n4 c4] 24)))
        have H4 := (H3.next b4).box2 (.int .i64 lsn) (.slice a4 n4 c4) 24
        clear s4 b4 Q0c Q1c P0c P1c H3
        go_wp2
        generalize hGen : w4.alloc (.cells #[.int .i64 lsn, .slice a4 n4 c4] 24) = W4 at S4 H4 ⊢
        clear hGen
        go_loopw [9] (fun i wr => ∃ k : Nat, k ≤ 32 ∧ i = .int .i64 (k : Int) ∧ Below W4.heap.size W4 wr) (fun i _ => 32 - (intOf i).toNat)
        case atStart => exact ⟨0, by omega, rfl, Below.refl _ _⟩
        case round =>
          obtain ⟨k, hk, rfl, hbel⟩ := hrel
          have H5 := H4.next hbel
          obtain ⟨R0, R1, Q0, Q1, P0, P1⟩ := H5.get6
          by_cases hlt : k < 32
          · obtain ⟨xu, xd, hx⟩ : ∃ xu xd, atL lsn zs (k : Int) = ⟨xu, xd⟩ := ⟨_, _, rfl⟩
            have hp := at_any lsn a n c zs (k : Int) wr (HO.out.below H5.b) (by omega)
            rw [hx] at hp
            simp only [slotV] at hp
            have HP := Lib.hid hp
            have HX := Lib.hid hx
            clear hp hx
            by_cases hks : (k : Int) = slot
            · have hne : ((k : Int) == slot) = true := by simp [hks]
              have hqx := HAT.out k
              rw [if_pos hks] at hqx
              have HQX := Lib.hid hqx
              clear hqx hks
              go_wp2_with fail
              refine HP.out.mono ?_
              rintro e w6 ⟨rfl, b6⟩
              have H6x := (H5.next b6).box2 (.bool xu) (.string xd) 36
              obtain ⟨Y0, Y1, R0y, R1y, Q0y, Q1y, P0y, P1y⟩ := H6x.get8
              clear R0 R1 Q0 Q1 P0 P1
              go_wp2
              clear H6x Y0 Y1 R0y R1y Q0y Q1y P0y P1y
              have H6 := (H5.next b6).box2 (.bool u) (.string d) 36
              have b6' := Below.alloc b6 b6.size (.cells #[.bool u, .string d] 36)
              obtain ⟨X0, X1, R0b, R1b, Q0b, Q1b, P0b, P1b⟩ := H6.get8
              generalize hGen : w6.alloc (.cells #[.bool u, .string d] 36) = W6 at H6 b6' X0 X1 R0b R1b Q0b Q1b P0b P1b ⊢
              clear hGen
              have kR0 := cell_regrown R0b
              have kR1 := cell_regrown R1b
              have kX0 := cell_regrown X0
              have kX1 := cell_regrown X1
              have hcq : ∀ W, Below W6.heap.size W6 W → Calls Try.prog 23 #[.agg #[.int .i64 lsn, .slice a4 n4 c4], .int .i64 (k : Int)] W fun e w' => e = .returned (.agg #[.bool u, .string d]) ∧ Below W.heap.size W w' := fun W hW => by
                have := at_any lsn a4 n4 c4 Q (k : Int) W ((S4.out.below (hbel.trans (b6'.mono hbel.size))).below hW) (by omega)
                rw [HQX.out] at this
                exact this
              have cQ : ∀ dd os, Calls Try.prog 23 #[.agg #[.int .i64 lsn, .slice a4 n4 c4], .int .i64 (k : Int)] (grow (redrawn W6 dd) os) fun e w'' => e = .returned (.agg #[.bool u, .string d]) ∧ ∃ p : Regrown, w'' = grow (redrawn W6 p.d) p.os := fun dd os => Calls.regrown_of (hcq _ (below_regrown W6 dd os))
              have he := run_ne_slot u u d d
              rw [sameB_refl] at he
              have hgd := run_guard_slot
              refine wp_region_quiet_below (by kernel_rfl) (by kernel_rfl) ?_
              repeat (go_big_quiet_step (exact cQ _ _))
              refine wpQuiet_nil ?_
              intro _ hw'
              obtain ⟨⟨dq, osq⟩, hw''⟩ := hw'
              subst hw''
              have b7 := below_regrown W6 dq osq
              generalize grow (redrawn W6 dq) osq = W7 at b7 ⊢
              clear cQ hcq he hgd kR0 kR1 kX0 kX1
              go_wp2
              go_roundw
              case rel => exact ⟨k + 1, by omega, by go_num, (hbel.trans (b6'.mono hbel.size)).trans (b7.mono (Nat.le_trans hbel.size b6'.size))⟩
              case measure => simp [intOf]; omega
            · have hne : ((k : Int) == slot) = false := beq_eq_false_iff_ne.2 hks
              have hqx := HAT.out k
              rw [if_neg hks, HX.out] at hqx
              have HQX := Lib.hid hqx
              clear hqx hks
              go_wp2_with fail
              refine HP.out.mono ?_
              rintro e w6 ⟨rfl, b6⟩
              have H6 := (H5.next b6).box2 (.bool xu) (.string xd) 36
              have b6' := Below.alloc b6 b6.size (.cells #[.bool xu, .string xd] 36)
              obtain ⟨X0, X1, R0b, R1b, Q0b, Q1b, P0b, P1b⟩ := H6.get8
              clear R0 R1 Q0 Q1 P0 P1
              go_wp2
              generalize hGen : w6.alloc (.cells #[.bool xu, .string xd] 36) = W6 at H6 b6' X0 X1 R0b R1b Q0b Q1b P0b P1b ⊢
              clear hGen
              have kR0 := cell_regrown R0b
              have kR1 := cell_regrown R1b
              have kX0 := cell_regrown X0
              have kX1 := cell_regrown X1
              have hcq : ∀ W, Below W6.heap.size W6 W → Calls Try.prog 23 #[.agg #[.int .i64 lsn, .slice a4 n4 c4], .int .i64 (k : Int)] W fun e w' => e = .returned (.agg #[.bool xu, .string xd]) ∧ Below W.heap.size W w' := fun W hW => by
                have := at_any lsn a4 n4 c4 Q (k : Int) W ((S4.out.below (hbel.trans (b6'.mono hbel.size))).below hW) (by omega)
                rw [HQX.out] at this
                exact this
              have cQ : ∀ dd os, Calls Try.prog 23 #[.agg #[.int .i64 lsn, .slice a4 n4 c4], .int .i64 (k : Int)] (grow (redrawn W6 dd) os) fun e w'' => e = .returned (.agg #[.bool xu, .string xd]) ∧ ∃ p : Regrown, w'' = grow (redrawn W6 p.d) p.os := fun dd os => Calls.regrown_of (hcq _ (below_regrown W6 dd os))
              have he := run_ne_slot xu xu xd xd
              rw [sameB_refl] at he
              have hgd := run_guard_slot
              refine wp_region_quiet_below (by kernel_rfl) (by kernel_rfl) ?_
              repeat (go_big_quiet_step (exact cQ _ _))
              refine wpQuiet_nil ?_
              intro _ hw'
              obtain ⟨⟨dq, osq⟩, hw''⟩ := hw'
              subst hw''
              have b7 := below_regrown W6 dq osq
              generalize grow (redrawn W6 dq) osq = W7 at b7 ⊢
              clear cQ hcq he hgd kR0 kR1 kX0 kX1
              go_wp2
              go_roundw
              case rel => exact ⟨k + 1, by omega, by go_num, (hbel.trans (b6'.mono hbel.size)).trans (b7.mono (Nat.le_trans hbel.size b6'.size))⟩
              case measure => simp [intOf]; omega
          · obtain rfl : k = 32 := by omega
            go_wp2
            have hpx := at_any lsn a n c zs slot
            obtain ⟨yu, yd, hy⟩ : ∃ yu yd, atL lsn zs slot = ⟨yu, yd⟩ := ⟨_, _, rfl⟩
            have HY := Lib.hid hy
            clear hy hpx
            have hyd : yd.size ≤ 140737488351232 := by
              have : (atL lsn zs slot).d.size ≤ 200 := by
                unfold atL
                split
                · split
                  · exact good_sizes HG.out _
                  · exact Nat.zero_le _
                · exact Nat.zero_le _
              rw [HY.out] at this
              simp only at this
              omega
            have hpa : ∀ W, Below W4.heap.size W4 W → Calls Try.prog 23 #[.agg #[.int .i64 lsn, .slice a n c], .int .i64 slot] W fun e w' => e = .returned (.agg #[.bool yu, .string yd]) ∧ Below W.heap.size W w' := fun W hW => by
              have := at_any lsn a n c zs slot W (HO.out.below (H4.next hW).b) (by omega)
              rw [HY.out] at this
              exact this
            have HPA := Lib.hid hpa
            have hpb : ∀ W, Below W4.heap.size W4 W → Calls Try.prog 25 #[.agg #[.int .i64 lsn, .slice a4 n4 c4], .int .i64 slot, .agg #[.bool yu, .string yd]] W (PageRes lsn zs 0 W) := fun W hW => by
              have := put_any lsn a4 n4 c4 Q slot yu yd W (S4.out.below hW) (by omega) hyd
              have h1 := HBK.out.2
              rw [HY.out] at h1
              have h2 : putN lsn Q slot ⟨yu, yd⟩ = lsn := by unfold putN; rw [if_pos h1]
              have h3 : putZ lsn Q slot ⟨yu, yd⟩ = zs := by unfold putZ; rw [if_pos h1, ← HY.out]; exact HBK.out.1
              rw [h1, h2, h3] at this
              exact this
            have HPB := Lib.hid hpb
            clear hpa hpb hyd
            have hRb : w4.heap.size < W4.heap.size := World.block_lt_of_cell? _ ⟨w4.heap.size, 0, none⟩ H4.head
            have hPb : w.heap.size < W4.heap.size := World.block_lt_of_cell? _ ⟨w.heap.size, 0, none⟩ H4.tail.tail.tail.tail.head
            clear Q0 Q1
            go_region_held3 (fun w' => w'.cell? ⟨w4.heap.size, 0, none⟩ = some (.int .i64 lsn) ∧ w'.cell? ⟨w4.heap.size, 1, none⟩ = some (.slice a4 n4 c4) ∧ w'.cell? ⟨w.heap.size, 0, none⟩ = some (.int .i64 lsn) ∧ w'.cell? ⟨w.heap.size, 1, none⟩ = some (.slice a n c) ∧ Below W4.heap.size W4 w') (first | assumption | exact held4 hz4 ((Below.refl _ _).alloc (Nat.le_refl _) _) | exact held4 ⟨R0, R1, P0, P1, hbel⟩ ((Below.refl _ _).drew) | exact held4 (by assumption) bq | exact held4 (by assumption) ((Below.refl _ _).alloc (Nat.le_refl _) _) | exact held4_set (held4_set hz4 hRb hRb hPb hPb (held4_b hz3).size _ _) hRb hRb hPb hPb (held4_b hz3).size _ _ | exact held4_set (held4_set hz4 hRb hRb hPb hPb hbel.size _ _) hRb hRb hPb hPb hbel.size _ _) (first
              | (go_at_call 23; (with_reducible refine (HPA.out _ ?_).mono ?_); (exact held4_b (by assumption)); rintro e wA ⟨rfl, bq⟩; have hz3 := held4 (by assumption) bq; (first | (refine box_elim bq ?_; rintro ⟨e0, e1, g0, g1⟩; have hwA := World.block_lt_of_cell? _ _ e0) | (refine box_elim_d bq ?_; rintro ⟨e0, e1, g0, g1⟩; have hwA := World.block_lt_of_cell? _ _ e0) | skip))
              | (go_at_call 25; (with_reducible refine (HPB.out _ ?_).mono ?_); (exact held4_b (by assumption)); rintro e wP ⟨a7, n7, c7, rfl, s7, bq, f7⟩; have hz4 := held4 (by assumption) bq; (first | (refine box_elim bq ?_; rintro ⟨e0, e1, g0, g1⟩) | (refine box_elim_d bq ?_; rintro ⟨e0, e1, g0, g1⟩) | (refine next_elim ⟨e0, e1, g0, g1⟩ bq ?_; clear e0 e1 g0 g1; rintro ⟨e0, e1, g0, g1⟩) | skip)))
            · go_goals
              rename_i hH
              obtain ⟨E0, E1⟩ : (wP.alloc (.cells #[.int .i64 lsn, .slice a7 n7 c7] 24)).cell? ⟨wP.heap.size, 0, none⟩ = some (.int .i64 lsn) ∧ (wP.alloc (.cells #[.int .i64 lsn, .slice a7 n7 c7] 24)).cell? ⟨wP.heap.size, 1, none⟩ = some (.slice a7 n7 c7) := box_fresh
              have S7 := Lib.hid (show Slots (wP.alloc (.cells #[.int .i64 lsn, .slice a7 n7 c7] 24)) a7 n7 zs from s7.below ((Below.refl _ _).alloc (Nat.le_refl _) _))
              clear bq s7 f7 hz3 hz4 R0 R1 P0 P1
              generalize hGen : wP.alloc (.cells #[.int .i64 lsn, .slice a7 n7 c7] 24) = X at hH E0 E1 S7 ⊢
              clear hGen
              obtain ⟨R0, R1, P0, P1, BZ⟩ := hH
              have H8 := ((H4.next BZ).cons E1).cons E0
              go_wp2_with fail
              refine (good_any lsn a4 n4 c4 Q _ (S4.out.below BZ) (by omega)).mono ?_
              rw [HQG.out]
              rintro e w8 ⟨rfl, b8⟩
              have H9 := H8.next b8
              obtain ⟨F0, F1, T0, T1, V0, V1, U0, U1⟩ := H9.get8
              clear R0 R1 P0 P1 E0 E1
              go_wp2_with fail
              refine (same_any lsn lsn a7 a n7 n c7 c zs zs true _ (S7.out.below b8) (HO.out.below H9.b) (by have h1 := S7.out.len; have h2 := HO.out.len; omega) (by simp)).mono ?_
              rintro e w9 ⟨rfl, b9⟩
              go_wp2
              go_ret
              exact ⟨rfl, (H9.next b9).b⟩
            · go_goals
              rename_i hH
              obtain ⟨E0, E1⟩ : ((wP.setCell ⟨wA.heap.size, 0, none⟩ (.int .i64 lsn)).setCell ⟨wA.heap.size, 1, none⟩ (.slice a7 n7 c7)).cell? ⟨wA.heap.size, 0, none⟩ = some (.int .i64 lsn) ∧ ((wP.setCell ⟨wA.heap.size, 0, none⟩ (.int .i64 lsn)).setCell ⟨wA.heap.size, 1, none⟩ (.slice a7 n7 c7)).cell? ⟨wA.heap.size, 1, none⟩ = some (.slice a7 n7 c7) := box_written e0 e1
              have S7 := Lib.hid (show Slots ((wP.setCell ⟨wA.heap.size, 0, none⟩ (.int .i64 lsn)).setCell ⟨wA.heap.size, 1, none⟩ (.slice a7 n7 c7)) a7 n7 zs from (s7.setCell _ (fun b off e _ => by have h1 := f7 _ _ _ e; simp at h1; omega)).setCell _ (fun b off e _ => by have h1 := f7 _ _ _ e; simp at h1; omega))
              clear bq s7 f7 hz3 hz4 e0 e1 g0 g1 R0 R1 P0 P1
              generalize hGen : (wP.setCell ⟨wA.heap.size, 0, none⟩ (.int .i64 lsn)).setCell ⟨wA.heap.size, 1, none⟩ (.slice a7 n7 c7) = X at hH E0 E1 S7 ⊢
              clear hGen
              obtain ⟨R0, R1, P0, P1, BZ⟩ := hH
              have H8 := ((H4.next BZ).cons E1).cons E0
              go_wp2_with fail
              refine (good_any lsn a4 n4 c4 Q _ (S4.out.below BZ) (by omega)).mono ?_
              rw [HQG.out]
              rintro e w8 ⟨rfl, b8⟩
              have H9 := H8.next b8
              obtain ⟨F0, F1, T0, T1, V0, V1, U0, U1⟩ := H9.get8
              clear R0 R1 P0 P1 E0 E1
              go_wp2_with fail
              refine (same_any lsn lsn a7 a n7 n c7 c zs zs true _ (S7.out.below b8) (HO.out.below H9.b) (by have h1 := S7.out.len; have h2 := HO.out.len; omega) (by simp)).mono ?_
              rintro e w9 ⟨rfl, b9⟩
              go_wp2
              go_ret
              exact ⟨rfl, (H9.next b9).b⟩
            · go_goals
              rename_i hH
              replace hwA : wr.heap.size < wA.heap.size := hwA
              obtain ⟨E0, E1⟩ : ((wP.setCell ⟨wr.heap.size, 0, none⟩ (.int .i64 lsn)).setCell ⟨wr.heap.size, 1, none⟩ (.slice a7 n7 c7)).cell? ⟨wr.heap.size, 0, none⟩ = some (.int .i64 lsn) ∧ ((wP.setCell ⟨wr.heap.size, 0, none⟩ (.int .i64 lsn)).setCell ⟨wr.heap.size, 1, none⟩ (.slice a7 n7 c7)).cell? ⟨wr.heap.size, 1, none⟩ = some (.slice a7 n7 c7) := box_written e0 e1
              have S7 := Lib.hid (show Slots ((wP.setCell ⟨wr.heap.size, 0, none⟩ (.int .i64 lsn)).setCell ⟨wr.heap.size, 1, none⟩ (.slice a7 n7 c7)) a7 n7 zs from (s7.setCell _ (fun b off e _ => by have h1 := f7 _ _ _ e; have h2 := hwA; omega)).setCell _ (fun b off e _ => by have h1 := f7 _ _ _ e; have h2 := hwA; omega))
              clear bq s7 f7 hz3 hz4 e0 e1 g0 g1 R0 R1 P0 P1
              generalize hGen : (wP.setCell ⟨wr.heap.size, 0, none⟩ (.int .i64 lsn)).setCell ⟨wr.heap.size, 1, none⟩ (.slice a7 n7 c7) = X at hH E0 E1 S7 ⊢
              clear hGen
              obtain ⟨R0, R1, P0, P1, BZ⟩ := hH
              have H8 := ((H4.next BZ).cons E1).cons E0
              go_wp2_with fail
              refine (good_any lsn a4 n4 c4 Q _ (S4.out.below BZ) (by omega)).mono ?_
              rw [HQG.out]
              rintro e w8 ⟨rfl, b8⟩
              have H9 := H8.next b8
              obtain ⟨F0, F1, T0, T1, V0, V1, U0, U1⟩ := H9.get8
              clear R0 R1 P0 P1 E0 E1
              go_wp2_with fail
              refine (same_any lsn lsn a7 a n7 n c7 c zs zs true _ (S7.out.below b8) (HO.out.below H9.b) (by have h1 := S7.out.len; have h2 := HO.out.len; omega) (by simp)).mono ?_
              rintro e w9 ⟨rfl, b9⟩
              go_wp2
              go_ret
              exact ⟨rfl, (H9.next b9).b⟩
      · have hN : putN lsn zs slot ⟨u, d⟩ = 0 := by unfold putN; rw [if_neg hc]
        have hZ : putZ lsn zs slot ⟨u, d⟩ = [] := by unfold putZ; rw [if_neg hc]
        rw [hN, hZ]
        obtain ⟨code, hcode⟩ : ∃ code, code = putCode lsn zs slot ⟨u, d⟩ := ⟨_, rfl⟩
        rw [← hcode] at hc ⊢
        have hne : (code != 0) = true := by rw [bne_iff_ne]; exact hc
        clear hc hcode hN hZ
        rintro e w4 ⟨a4, n4, c4, rfl, s4, b4, f4⟩
        have hn4 := s4.len
        simp at hn4
        subst hn4
        have S4 := Lib.hid s4
        clear s4
        go_wp2_with fail
        refine (same_any 0 0 a4 none 0 0 c4 0 [] [] true _ (S4.out.below ((Below.refl _ _).alloc (Nat.le_refl _) _)) (Slots.nil _ _) (by omega) (by simp)).mono ?_
        rintro e w5 ⟨rfl, b5⟩
        go_wp2
        go_ret
        exact ⟨rfl, (((H3.next b4).alloc _).next b5).b⟩
end Go.Proofs.Ytnhdeebhkiemgaa.Slab
