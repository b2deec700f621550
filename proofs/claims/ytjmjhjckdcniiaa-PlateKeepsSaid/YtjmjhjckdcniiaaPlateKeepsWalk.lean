/- The walk of the statement PlateKeeps. -/
import Derived.Test.YtjmjhjckdcniiaaPlateKeepsKin
namespace Go.Proofs.Ytjmjhjckdcniiaa.Plate
open Go.RowKit
open Go.Proofs.Ytjmjhjckdcniiaa.Mem

def saveF (f : Nat → UInt8) (L : Nat → List UInt8) (k : Nat) : Nat → UInt8 := fun i => if i < k then lastB (f i) (L i) else f i
theorem save_zero (f : Nat → UInt8) (L : Nat → List UInt8) : saveF f L 0 = f := by funext i; simp [saveF]
theorem save_none {f : Nat → UInt8} {L : Nat → List UInt8} {k : Nat} (h : (L k).length = 0) : saveF f L (k + 1) = saveF f L k := by
  funext i
  unfold saveF
  by_cases h1 : i < k
  · rw [if_pos h1, if_pos (by omega)]
  · rw [if_neg h1]
    by_cases h2 : i = k
    · subst h2; rw [if_pos (by omega)]; unfold lastB; rw [if_pos h]
    · rw [if_neg (by omega)]
theorem save_some {f : Nat → UInt8} {L : Nat → List UInt8} {k m : Nat} (h : (L k).length = m + 1) : setF (saveF f L k) k ((L k).getD m 0) = saveF f L (k + 1) := by
  funext i
  unfold saveF setF
  by_cases h2 : i = k
  · subst h2; rw [if_pos rfl, if_pos (by omega)]; unfold lastB; rw [if_neg (by omega), h]; rfl
  · rw [if_neg h2]
    dsimp only
    by_cases h1 : i < k
    · rw [if_pos h1, if_pos (by omega)]
    · rw [if_neg h1, if_neg (by omega)]
theorem save_all {f : Nat → UInt8} {L : Nat → List UInt8} : ∀ k, k < 40 → saveF f L 40 k = lastB (f k) (L k) := by
  intro k hk; unfold saveF; rw [if_pos hk]
theorem Rel.congr {S : PS} {f f' : Nat → UInt8} {L : Nat → List UInt8} {a : Nat} (h : Rel S f L a) (hf : ∀ k, k < 40 → f' k = f k) : Rel S f' L a :=
  ⟨h.N, fun k hk => by rw [hf k hk]; exact h.sec k hk, h.q, h.on, h.acts, h.life, h.lon, h.arm, h.ql⟩
theorem rel_start {N : Nat} {z : Nat} (hz : z < 80) (hN : N = 40) : Rel (armS (newS N) (z : Int)) (fun _ => 0) (fun _ => []) 0 :=
  ⟨hN, fun k _ => rfl, by simp [armS, newS], fun _ k => by simp [armS, newS], by simp [armS, newS], by simp [armS, newS], by simp [armS, newS], by simp [armS, newS]; omega, by simp [armS, newS]⟩
theorem set_len {L : Nat → List UInt8} {j k : Nat} (h : ∀ i, (L i).length ≤ j) (b : UInt8) : ∀ i, (setF L k (L k ++ [b]) i).length ≤ j + 1 := by
  intro i
  unfold setF
  split
  · have := h k; simp; omega
  · have := h i; omega

theorem str_inj {a b : ByteArray} (h : a.data.toList = b.data.toList) : a = b := by
  cases a; cases b; simp at h; congr
theorem str_ne {a b : ByteArray} (h : ¬ a = b) : (a.toList == b.toList) = false := by
  rw [ByteArray.toList_eq, ByteArray.toList_eq]
  exact beq_eq_false_iff_ne.2 fun e => h (str_inj e)
theorem str_same {a b : ByteArray} (h : a = b) : (a.toList == b.toList) = true := by subst h; exact beq_self_eq_true _
theorem str_no {a b : ByteArray} (h : (a.toList == b.toList) = false) : ¬ a = b := fun e => by rw [str_same e] at h; cases h
/-- what is read of a sector in the end -/
theorem ends_read {S : PS} {f : Nat → UInt8} {L : Nat → List UInt8} {k : Nat} (h : Ends S.sec f L k) (hN : S.N = 40) (hk : k < 40) (ho : S.off = false) (hq : S.q = []) :
    ∃ d, (readD S (k : Int) = d ∧ readE S (k : Int) = 0 ∧ (d = fstr 256 (f k) ∨ ∃ i, i < (L k).length ∧ d = fstr 256 ((L k).getD i 0))) ∨ (readD S (k : Int) = d ∧ readE S (k : Int) = 20 ∧ 0 < (L k).length) := by
  have hi : inS S (k : Int) = true := by unfold inS; simp [hN]; omega
  have hl : lastOf k S.q = none := by rw [hq]; rfl
  rcases h with e | ⟨i, hil, e⟩ | ⟨hl0, e⟩
  · obtain ⟨e1, e2⟩ := read_sec ho hi hl (by rw [e])
    exact ⟨_, .inl ⟨e2, e1, .inl (by rw [e])⟩⟩
  · obtain ⟨e1, e2⟩ := read_sec ho hi hl (by rw [e])
    exact ⟨_, .inl ⟨e2, e1, .inr ⟨i, hil, by rw [e]⟩⟩⟩
  · obtain ⟨e1, e2⟩ := read_torn ho hi hl (by rw [e])
    exact ⟨_, .inr ⟨e2, e1, hl0⟩⟩
set_option maxRecDepth 100000 in
set_option maxHeartbeats 8000000 in
theorem keeps_walk (a : Option Addr) (ln c : Nat) (xs : List In) (x0 x1 : Int) (fa : Option Addr) (fn fc : Nat) (fs : List Int) (w : World) (hI : Ins w a ln xs) (hF : Ints w fa fn fs) (hfn : fn ≤ maxLen) :
    Calls Try.prog 3 #[.slice a ln c, .agg #[.int .i64 x0, .int .i64 x1], .slice fa fn fc] w fun e w' => e = .returned (.bool true) ∧ Below w.heap.size w w' := by
  have HI := Lib.hid hI
  have HF := Lib.hid hF
  have HFN := Lib.hid hfn
  obtain ⟨Sy, hsy, hsy1⟩ := cut_of x0 61 (by decide) (by decide)
  obtain ⟨z, hz, hz1⟩ := cut_of x1 80 (by decide) (by decide)
  have HSY := Lib.hid hsy
  have HZ := Lib.hid hz
  have HZ1 : Hid (z < 80) := Lib.hid (by omega)
  have hW := Blk.new w 23 #[.int .i64 x0, .int .i64 x1]
  have hB0 : Below w.heap.size w (w.alloc (.cells #[.int .i64 x0, .int .i64 x1] 23)) := (Below.refl _ _).alloc (Nat.le_refl _) _
  clear hI hF hfn hsy hz hz1
  go_enter Try.func3, Try.ntmps3
  go_wp2_with fail
  generalize hGen : w.alloc (.cells #[.int .i64 x0, .int .i64 x1] 23) = W at hW hB0 ⊢
  clear hGen
  refine (awake_any _).mono ?_
  rintro e w0 ⟨rfl, b0⟩
  have hW0 := hW.below b0 hW.lt
  have hB1 := hB0.trans (b0.mono hB0.size)
  clear hB0 b0 hW
  go_wp2_with fail
  refine (pq_new _ 40 (by decide) (by decide)).mono ?_
  rintro e w1 ⟨p, rfl, hp, hb⟩
  have hW1 := hW0.below hb hW0.lt
  have H1 := At.new hB1 hp hb
  have p0 := hW1.cell 0
  have p1 := hW1.cell 1
  clear hp hb hB1 hW0
  go_wp2_with fail
  rw [HSY.out, HZ.out]
  refine (pq_arm _ p _ _ (z : Int) H1.pq).mono ?_
  rintro e w2 ⟨rfl, hp, hk⟩
  have H2 := H1.next hp hk
  have HREL := Lib.hid (rel_start HZ1.out rfl)
  generalize armS (newS 40) (z : Int) = S0 at H2 HREL
  have hsB := Blk.new w2 5 (madeCells #[.int .u8 0] 40)
  have h3 := H2.pq.alloc (.cells (madeCells #[.int .u8 0] 40) 5)
  have h4 := h3.alloc (.cells (madeCells #[.slice none 0 0] 40) 30)
  have hl4 := Blk.new (w2.alloc (.cells (madeCells #[.int .u8 0] 40) 5)) 30 (madeCells #[.slice none 0 0] 40)
  have hs4 := hsB.alloc (.cells (madeCells #[.slice none 0 0] 40) 30)
  have hwz := H2.bel.size
  rw [World.size_alloc] at hl4 h4
  have HK := Lib.hid (show Kin w ((w2.alloc (.cells (madeCells #[.int .u8 0] 40) 5)).alloc (.cells (madeCells #[.slice none 0 0] 40) 30)) p (w2.heap.size + 1) w2.heap.size nilV (fun _ => []) (fun _ => 0) (fun k => (k < w.heap.size ∨ k = w2.heap.size) ∨ k = w2.heap.size + 1) S0 from
    ⟨h4, Lt.fresh ⟨_, hs4, by simp [madeCells], fun k hk => by simp [madeCells, hk, Nat.mod_one]⟩ hl4 (by omega) (by omega) hwz (.inr rfl) (.inl (.inr rfl)), fun k hk => .inl (.inl hk), (H2.bel.alloc hwz _).alloc (by simp; omega) _⟩)
  have hmk1 := run_bytes40
  have hmk2 := run_rows
  clear hp hk H1 H2 hsB h3 h4 hl4 hs4 hwz hW1 p0 p1
  go_upto_block 0 with fail
  generalize hGen : (w2.alloc (.cells (madeCells #[.int .u8 0] 40) 5)).alloc (.cells (madeCells #[.slice none 0 0] 40) 30) = W3 at HK ⊢
  clear hGen
  generalize w2.heap.size = sB at *
  go_cut [10] from 40 (fun lv wx => ∃ S f L V lB M, lv = .slice (some ⟨lB, 0, none⟩) 40 40 ∧ Kin w wx p lB sB V L f M S ∧ Rel S f L 400 ∧ ∀ i, (L i).length ≤ 100)
  case first =>
    go_wp2_with fail
    go_loopw [10, 11, 12, 13, 14] (fun lv i y1 y2 y3 wr => ∃ (j : Nat) (S : PS) (f : Nat → UInt8) (L : Nat → List UInt8) (V : Nat → Value) (lB : Nat) (M : Nat → Prop), j ≤ 60 ∧ i = .int .i64 (j : Int) ∧ lv = .slice (some ⟨lB, 0, none⟩) 40 40 ∧ Hid (Kin w wr p lB sB V L f M S) ∧ Hid (Rel S f L (3 * j)) ∧ Hid (∀ i, (L i).length ≤ j)) (fun _ i _ _ _ _ => 60 - (intOf i).toNat)
    case atStart => exact ⟨0, S0, _, _, _, _, _, by decide, rfl, rfl, HK, HREL, Lib.hid fun _ => by simp⟩
    case round =>
      obtain ⟨j, S, f, L, V, lB, M, hj, rfl, rfl, HK, HREL, HLL⟩ := hrel
      by_cases hin : j < ln ∧ j < 60
      · obtain ⟨hjl, hj60⟩ := hin
        obtain ⟨b, off, zz, d, rfl, hlt, hz, C0, C1⟩ := HI.out.at_ hjl
        have hd := d.toNat_lt
        obtain ⟨k, hk1, hk2⟩ := cut_of zz 40 (by decide) (by decide)
        have HKK := Lib.hid hk1
        have hk40 : k < 40 := by omega
        have HFD := Lib.hid (fun W => filled_any d W)
        have HC1 := Lib.hid C1
        have c0 := (HK.out.bel.cell (p := ⟨b, off + j * 2, none⟩) hlt).trans C0
        have c1 := (HK.out.bel.cell (p := ⟨b, off + j * 2 + 1, none⟩) hlt).trans C1
        clear hk1 hk2 hz C0 C1
        go_wp2_with fail
        refine (HFD.out _).mono ?_
        rw [HKK.out]
        rintro e w3 ⟨rfl, b3⟩
        have K3 := HK.out.below b3
        clear c0 c1 b3
        go_wp2_with fail
        refine (pq_write _ p _ _ (k : Int) (fstr 256 d) K3.pq (HREL.out.tame (by omega))).mono ?_
        rintro e w4 ⟨rfl, hp, hk⟩
        have K4 := K3.next hp hk
        have HR4 := Lib.hid (HREL.out.write hk40 d)
        generalize writeE S (k : Int) (fstr 256 d) = ev
        generalize writeS S (k : Int) (fstr 256 d) = S4 at K4 HR4
        have HK4 := Lib.hid K4
        have HK5 := Lib.hid (K4.below ((Below.refl _ _).alloc (Nat.le_refl _) (.cells #[.int .u8 (d.toNat : Int)] 5)))
        clear hp hk K3 K4
        go_upto_region 13 with (fail)
        go_cut [] from 50 to 116 (fun wx => ∃ V' M', Kin w wx p lB sB V' (setF L k (L k ++ [d])) f M' S4)
        case first =>
          have hk40i : (k : Int) < 40 := by omega
          have c1 := (HK4.out.bel.cell (p := ⟨b, off + j * 2 + 1, none⟩) hlt).trans HC1.out
          have c1' := (HK5.out.bel.cell (p := ⟨b, off + j * 2 + 1, none⟩) hlt).trans HC1.out
          have l0 := (HK4.out.lt.get hk40).2.2.1
          have l1 := (HK5.out.lt.get hk40).2.2.1
          have HN5 := Lib.hid (Blk.new w4 5 #[.int .u8 (d.toNat : Int)])
          obtain ⟨ds, hds, -, hdk⟩ := HK5.out.lt.row
          have HDS := Lib.hid hds
          have HDK := Lib.hid (hdk k hk40)
          have hlen : (L k).length ≤ 1000 := by have := HLL.out k; omega
          have HLN := Lib.hid hlen
          obtain ⟨Vk, hVk⟩ : ∃ Vk, Vk = V k := ⟨_, rfl⟩
          have HVK := Lib.hid hVk
          rw [← hVk] at l0 l1
          have HBS := Lib.hid (show w.heap.size ≤ (w4.alloc (.cells #[.int .u8 (d.toNat : Int)] 5)).drew.heap.size from HK5.out.bel.size)
          have HOW := Lib.hid (show (w4.alloc (.cells #[.int .u8 (d.toNat : Int)] 5)).drew.ownsRow w.heap.size 5 1 Vk (L k).length (bcells (L k)) by rw [hVk]; exact HK5.out.lt.own k hk40)
          clear hds hlen hVk hdk
          go_region_law (focus (refine step_app_byte ?_ (.tmp 72) (.tmp 78) ?_ Vk (L k) d w4.heap.size w.heap.size ?_ ?_ HLN.out HBS.out HOW.out ?_ ?_; (focus (rfl)); (focus (rfl)); (focus (with_unfolding_all rfl)); (focus (with_unfolding_all rfl)); (focus (exact HN5.out)); intro g cap w9 hown9 hgrow9 hat9 hgl9; have hr9 := (show Blk (w4.alloc (.cells #[.int .u8 (d.toNat : Int)] 5)).drew lB 30 ds from HDS.out).grown hgrow9 (fun e => HK5.out.lt.nl k hk40 (by rw [← HVK.out]; exact e.symm)); have rc9 := (hr9.cell k).trans HDK.out; have fr9 := hr9.frozen k))
          all_goals
            have HP9 := Lib.hid (show ∃ V' M', Kin w (w9.setCell ⟨lB, k, none⟩ (.slice (some ⟨g, 0, none⟩) ((L k).length + 1) cap)) p lB sB V' (setF L k (L k ++ [d])) f M' S4 from
              (show Kin w (w4.alloc (.cells #[.int .u8 (d.toNat : Int)] 5)).drew p lB sB V L f M S4 from HK5.out.below (Below.refl _ _).drew).push hk40 hown9 (by rw [← HVK.out]; exact hgrow9) (by rw [← HVK.out]; exact hat9) hgl9)
            clear hown9 hgrow9 hat9 hgl9 hr9 rc9 fr9 c1 c1' l0 l1
            go_wp2_with fail
            go_meet
            exact HP9.out
        case rest =>
        obtain ⟨V5, M5, K5⟩ := hcut
        have HL5 := Lib.hid (set_len (k := k) HLL.out d)
        generalize setF L k (L k ++ [d]) = L5 at *
        have HK5' := Lib.hid K5
        clear HK4 HK5 K5 HLL HK HREL
        by_cases hev : ev = 0
        · subst hev
          by_cases hjs : j = Sy
          · have hjs' : ((j : Int) == (Sy : Int)) = true := by rw [beq_iff_eq]; omega
            clear hjs
            go_wp2_with fail
            refine (pq_sync _ p _ _ HK5'.out.pq (HR4.out.tame (by omega))).mono ?_
            rintro e w6 ⟨rfl, hp, hk⟩
            have HK6 := Lib.hid (HK5'.out.next hp hk)
            by_cases hsy : syncE S4 = 0
            · have HR6 := Lib.hid (HR4.out.syncOk hsy)
              rw [hsy]
              generalize syncS S4 = S6 at HK6 HR6
              clear hp hk hsy
              have HK6' := Lib.hid (show Kin w w6 p lB sB V5 L5 (saveF f L5 0) M5 S6 by rw [save_zero]; exact HK6.out)
              go_wp2_with fail
              go_loopw [14] (fun i wr2 => ∃ k2 : Nat, k2 ≤ 40 ∧ i = .int .i64 (k2 : Int) ∧ Hid (Kin w wr2 p lB sB V5 L5 (saveF f L5 k2) M5 S6)) (fun i _ => 40 - (intOf i).toNat)
              case atStart => exact ⟨0, Nat.zero_le _, rfl, HK6'⟩
              case round =>
                obtain ⟨k2, hk2, rfl, HKX⟩ := hrel
                by_cases hlt2 : k2 < 40
                · have hlt2i : (k2 : Int) < 40 := by omega
                  obtain ⟨s0, sf, l0, -⟩ := HKX.out.lt.get hlt2
                  obtain ⟨a2, c2, e2⟩ := own_shape (HKX.out.lt.own k2 hlt2)
                  rw [e2] at l0
                  have HE2 := Lib.hid e2
                  by_cases hz2 : (L5 k2).length = 0
                  · have HZ2 := Lib.hid hz2
                    rw [hz2] at l0
                    clear e2 hz2
                    go_wp2
                    go_roundw
                    case rel => exact ⟨k2 + 1, by omega, by go_num, by rw [save_none HZ2.out]; exact HKX⟩
                    case measure => simp [intOf]; omega
                  · obtain ⟨m, hm⟩ : ∃ m, (L5 k2).length = m + 1 := ⟨(L5 k2).length - 1, by omega⟩
                    obtain ⟨g2, cap2, e3, q0⟩ := HKX.out.lt.byte hlt2 (i := m) (by omega)
                    rw [HE2.out] at e3
                    simp only [Value.slice.injEq] at e3
                    obtain ⟨rfl, -, rfl⟩ := e3
                    have HZ2 := Lib.hid hm
                    have HM2 := Lib.hid (HL5.out k2)
                    have hm60 : m ≤ 1000 := by have := HM2.out; omega
                    rw [hm] at l0
                    obtain ⟨bb, hbb⟩ : ∃ bb, bb = (L5 k2).getD m 0 := ⟨_, rfl⟩
                    rw [← hbb] at q0
                    have HBB := Lib.hid hbb
                    have hbl := bb.toNat_lt
                    clear e2 hz2 hm hbb
                    go_wp2_with fail
                    go_region
                    go_wp2
                    go_roundw
                    case rel => exact ⟨k2 + 1, by omega, by go_num, Lib.hid (by rw [← save_some HZ2.out, ← HBB.out]; exact (HKX.out.below (Below.refl _ _).drew).save bb)⟩
                    case measure => simp [intOf]; omega
                · have hk40' : k2 = 40 := by omega
                  subst hk40'
                  have HN6 := Lib.hid (HKX.out.congr save_all).fresh
                  go_wp2
                  go_roundw
                  case rel =>
                    obtain ⟨M7, K7⟩ := HN6.out
                    exact ⟨j + 1, S6, _, _, nilV, _, M7, by omega, by go_num, rfl, Lib.hid K7, Lib.hid (HR6.out.mono (by omega)), Lib.hid fun _ => by simp⟩
                  case measure => simp [intOf]; omega
            · have hsy' : (syncE S4 == 0) = false := by rw [beq_eq_false_iff_ne]; exact hsy
              have HR6 := Lib.hid (HR4.out.syncNo hsy)
              generalize syncE S4 = e4 at hsy'
              generalize syncS S4 = S6 at HK6 HR6
              clear hp hk hsy
              go_wp2
              go_roundw
              case rel => exact ⟨j + 1, S6, f, L5, V5, lB, M5, by omega, by go_num, rfl, HK6, Lib.hid (HR6.out.mono (by omega)), HL5⟩
              case measure => simp [intOf]; omega
          · have hjs' : ((j : Int) == (Sy : Int)) = false := by rw [beq_eq_false_iff_ne]; omega
            clear hjs
            go_wp2
            go_roundw
            case rel => exact ⟨j + 1, S4, f, L5, V5, lB, M5, by omega, by go_num, rfl, HK5', Lib.hid (HR4.out.mono (by omega)), HL5⟩
            case measure => simp [intOf]; omega
        · have hev' : (ev != 0) = true := by rw [bne_iff_ne]; exact hev
          clear hev
          go_wp2
          go_meet
          exact ⟨S4, f, L5, V5, lB, M5, rfl, HK5'.out, HR4.out.mono (by omega), fun i => by have := HL5.out i; omega⟩
      · by_cases hjl : j < ln
        · have hj60 : ¬ ((j : Int) < 60) := by omega
          clear hin
          go_wp2
          go_meet
          exact ⟨S, f, L, V, lB, M, rfl, HK.out, HREL.out.mono (by omega), fun i => by have := HLL.out i; omega⟩
        · clear hin
          go_wp2
          go_meet
          exact ⟨S, f, L, V, lB, M, rfl, HK.out, HREL.out.mono (by omega), fun i => by have := HLL.out i; omega⟩
  case rest =>
  obtain ⟨S, f, L, V, lB, M, rfl, K, R, hll⟩ := hcut
  have HLL := Lib.hid hll
  have HK := Lib.hid K
  have HR := Lib.hid R
  have hF1 := fun W => filled_any 1 W
  have HF1 := Lib.hid hF1
  clear K R hll hF1 hmk1 hmk2 HREL
  go_wp2_with fail
  refine (pq_off _ p _ S HK.out.pq (by have := HR.out.life; omega)).mono ?_
  rintro e w4 ⟨rfl, hp, hk⟩
  have K4 := HK.out.next hp hk
  have HT : Hid (Tame (offS S)) := Lib.hid (by
    have h1 := HR.out.acts; have h2 := HR.out.life; have h3 := HR.out.ql; have h4 := HR.out.lon
    refine ⟨?_, by show S.acts ≤ _; omega, Nat.zero_le _, by show S.q.length ≤ _; omega⟩
    show (if S.off then S.life else S.life + 1) ≤ _
    split <;> omega)
  clear hp hk
  go_wp2_with fail
  refine (HF1.out _).mono ?_
  rintro e w5 ⟨rfl, b5⟩
  have K5 := K4.below b5
  have hwr := pq_write w5 p _ (offS S) 0 (fstr 256 1) K5.pq HT.out
  rw [(write_off (S := offS S) rfl).1, (write_off (S := offS S) rfl).2] at hwr
  clear b5 K4
  go_wp2_with fail
  refine hwr.mono ?_
  rintro e w6 ⟨rfl, hp, hk⟩
  have K6 := K5.next hp hk
  have hsy := pq_sync w6 p _ (offS S) K6.pq HT.out
  rw [(sync_off (S := offS S) rfl).1, (sync_off (S := offS S) rfl).2] at hsy
  clear hp hk K5 hwr
  go_wp2_with fail
  refine hsy.mono ?_
  rintro e w7 ⟨rfl, hp, hk⟩
  have K7 := K6.next hp hk
  clear hp hk K6 hsy
  have hon := pq_on w7 p _ (offS S) fa fn fc fs K7.pq HT.out.q (HF.out.below K7.bel) (by have := HFN.out; unfold maxLen at this; omega) (fun b off e h0 => K7.mb b (by
    obtain ⟨b', off', e', hlt', _⟩ := HF.out.2.2 h0
    rw [e] at e'; cases e'; exact hlt'))
  rw [on_off (S := offS S) rfl] at hon
  have hend : ∀ k, k < 40 → Ends (doneS { offS S with off := false } (fateZ fs)).sec f L k := fun k hk => HR.out.ends (fateZ fs) hk
  have hN2 : (doneS { offS S with off := false } (fateZ fs)).N = 40 := HR.out.N
  have hq2 : (doneS { offS S with off := false } (fateZ fs)).q = [] := rfl
  have ho2 : (doneS { offS S with off := false } (fateZ fs)).off = false := rfl
  generalize doneS { offS S with off := false } (fateZ fs) = S2 at hon hend hN2 hq2 ho2
  have HEND := Lib.hid hend
  have HN2 := Lib.hid hN2
  have HQ2 := Lib.hid hq2
  have HO2 := Lib.hid ho2
  clear hend hN2 hq2 ho2
  go_wp2_with fail
  refine hon.mono ?_
  rintro e w8 ⟨rfl, hp, hk⟩
  have HK8 := Lib.hid (K7.next hp hk)
  clear hp hk K7 hon
  go_wp2_with fail
  go_loopw [15, 16, 17, 18, 19] (fun i y1 y2 y3 y4 wr => ∃ k : Nat, k ≤ 40 ∧ i = .int .i64 (k : Int) ∧ Hid (Kin w wr p lB sB V L f M S2)) (fun i _ _ _ _ _ => 40 - (intOf i).toNat)
  case atStart => exact ⟨0, Nat.zero_le _, rfl, HK8⟩
  case round =>
    obtain ⟨k, hk, rfl, HKR⟩ := hrel
    by_cases hlt : k < 40
    · have hlti : (k : Int) < 40 := by omega
      have hl100 := HLL.out k
      have hrd := pq_read wr p _ S2 (k : Int) HKR.out.pq (by rw [HQ2.out]; exact Nat.zero_le _)
      obtain ⟨d, hcase⟩ := ends_read (HEND.out k hlt) HN2.out hlt HO2.out HQ2.out
      rcases hcase with ⟨e1, e2, hd⟩ | ⟨e1, e2, hd⟩
      all_goals
        rw [e1, e2] at hrd
        have HRD := Lib.hid hrd
        have HD := Lib.hid hd
        clear hrd hd e1 e2
        go_wp2_with fail
        refine HRD.out.mono ?_
        rintro e w9 ⟨rfl, hp, hk9⟩
        have HK9 := Lib.hid (HKR.out.next hp hk9)
        clear hp hk9 HRD HKR
      · obtain ⟨s0, -, -, -⟩ := HK9.out.lt.get hlt
        have hfb := (f k).toNat_lt
        have HFK := Lib.hid (filled_any (f k) w9)
        go_wp2_with fail
        refine HFK.out.mono ?_
        rintro e w10 ⟨rfl, b10⟩
        have HK10 := Lib.hid (HK9.out.below b10)
        clear b10 s0 hfb HFK HK9
        go_wp2_with fail
        go_loopw [18, 19] (fun is i wr2 => ∃ (n2 : Nat) (D : Bool), n2 ≤ (L k).length ∧ is = .bool D ∧ i = .int .i64 (n2 : Int) ∧ Hid (Kin w wr2 p lB sB V L f M S2) ∧ Hid (D = true ∨ ∃ t, n2 ≤ t ∧ t < (L k).length ∧ d = fstr 256 ((L k).getD t 0))) (fun _ i _ => (L k).length - (intOf i).toNat)
        case atStart =>
          refine ⟨0, _, Nat.zero_le _, rfl, rfl, HK10, Lib.hid ?_⟩
          rcases HD.out with h1 | ⟨t, h1, h2⟩
          · exact .inl (str_same h1)
          · exact .inr ⟨t, Nat.zero_le _, h1, h2⟩
        case round =>
          obtain ⟨n2, D, hn2, rfl, rfl, HKX, HDX⟩ := hrel
          obtain ⟨-, -, l0, -⟩ := HKX.out.lt.get hlt
          obtain ⟨a2, c2, ev2⟩ := own_shape (HKX.out.lt.own k hlt)
          have HEV := Lib.hid ev2
          rw [ev2] at l0
          clear ev2
          by_cases hin : n2 < (L k).length
          · cases D with
            | true =>
              generalize (L k).length = len at *
              clear HDX
              go_wp2
              go_roundw
              case rel => exact ⟨n2 + 1, true, by omega, rfl, by go_num, HKX, Lib.hid (.inl rfl)⟩
              case measure => simp [intOf]; omega
            | false =>
              obtain ⟨g2, cap2, e3, q0⟩ := HKX.out.lt.byte hlt hin
              rw [HEV.out] at e3
              simp only [Value.slice.injEq] at e3
              obtain ⟨rfl, -, rfl⟩ := e3
              obtain ⟨bb, hbb⟩ : ∃ bb, bb = (L k).getD n2 0 := ⟨_, rfl⟩
              rw [← hbb] at q0
              have hbl := bb.toNat_lt
              have HFB := Lib.hid (filled_any bb wr)
              have HNX : Hid ((d.toList == (fstr 256 bb).toList) = true ∨ ∃ t, n2 + 1 ≤ t ∧ t < (L k).length ∧ d = fstr 256 ((L k).getD t 0)) := Lib.hid (by
                rcases HDX.out with h1 | ⟨t, h1, h2, h3⟩
                · cases h1
                · by_cases htn : t = n2
                  · subst htn; left; rw [hbb]; exact str_same h3
                  · exact .inr ⟨t, by omega, h2, h3⟩)
              clear HDX hbb
              go_wp2_with fail
              refine HFB.out.mono ?_
              rintro e w11 ⟨rfl, b11⟩
              have HK11 := Lib.hid (HKX.out.below b11)
              clear b11 q0 l0 hbl HFB
              go_wp2
              go_roundw
              case rel => exact ⟨n2 + 1, _, by omega, rfl, by go_num, HK11, HNX⟩
              case measure => simp [intOf]; omega
          · have hD : D = true := by
              rcases HDX.out with h1 | ⟨t, h1, h2, h3⟩
              · exact h1
              · omega
            subst hD
            generalize (L k).length = len at *
            clear HDX
            go_wp2
            go_roundw
            case rel => exact ⟨k + 1, by omega, by go_num, HKX⟩
            case measure => simp [intOf]; omega
      · go_wp2_with fail
        go_loopw [18, 19] (fun is i wr2 => ∃ (n2 : Nat) (D : Bool), n2 ≤ (L k).length ∧ is = .bool D ∧ i = .int .i64 (n2 : Int) ∧ Hid (Kin w wr2 p lB sB V L f M S2) ∧ Hid (D = true ∨ n2 = 0)) (fun _ i _ => (L k).length - (intOf i).toNat)
        case atStart => exact ⟨0, _, Nat.zero_le _, rfl, rfl, HK9, Lib.hid (.inr rfl)⟩
        case round =>
          obtain ⟨n2, D, hn2, rfl, rfl, HKX, HDX⟩ := hrel
          obtain ⟨-, -, l0, -⟩ := HKX.out.lt.get hlt
          obtain ⟨a2, c2, ev2⟩ := own_shape (HKX.out.lt.own k hlt)
          rw [ev2] at l0
          clear ev2
          by_cases hin : n2 < (L k).length
          · generalize (L k).length = len at *
            clear HDX
            cases D
            all_goals
              go_wp2
              go_roundw
              case rel => exact ⟨n2 + 1, true, by omega, rfl, by go_num, HKX, Lib.hid (.inl rfl)⟩
              case measure => simp [intOf]; omega
          · have hD : D = true := by
              rcases HDX.out with h1 | h1
              · exact h1
              · have := HD.out; omega
            subst hD
            generalize (L k).length = len at *
            clear HDX
            go_wp2
            go_roundw
            case rel => exact ⟨k + 1, by omega, by go_num, HKX⟩
            case measure => simp [intOf]; omega
    · have hk40 : ¬ ((k : Int) < 40) := by omega
      go_wp2_with fail
      refine (read_nil _).mono ?_
      rintro e w9 ⟨rfl, b9⟩
      have HK9 := Lib.hid (HKR.out.below b9)
      have hwt := pq_waits w9 p _ S2 HK9.out.pq
      rw [HQ2.out] at hwt
      clear b9 HKR
      go_wp2_with fail
      refine hwt.mono ?_
      rintro e w10 ⟨rfl, rfl⟩
      clear hwt
      go_wp2_with fail
      refine (down_nil _).mono ?_
      rintro e w10 ⟨rfl, rfl⟩
      go_wp2_with fail
      refine (sectors_nil _).mono ?_
      rintro e w10 ⟨rfl, rfl⟩
      go_wp2
      go_ret
      exact ⟨rfl, HK9.out.bel⟩
end Go.Proofs.Ytjmjhjckdcniiaa.Plate
