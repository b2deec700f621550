/- inner, tied. -/
import Derived.Test.YthodggkpkjfggaaKnotWeave
namespace Go.Proofs.Ythodggkpkjfggaa.Knot
set_option maxRecDepth 100000
open Go.RowKit
open Go.Proofs.Ythodggkpkjfggaa.Mem
open Go.Sort
theorem info_edge : (Try.prog.info? 52).map (fun i => (i.zero, i.size, i.bytes)) = some (some (.agg #[.int .i64 0, .int .i64 0]), 2, 16) := by kernel_rfl
theorem own_base {w : World} {B B' n size : Nat} {t : TypeId} {v : Value} {xs : List Value} (h : w.ownsRow B t size v n xs) (hB : B' ≤ B) : w.ownsRow B' t size v n xs := by
  obtain ⟨hl, h0 | ⟨g, cap, cur, rfl, hg, h1⟩⟩ := h
  · exact ⟨hl, .inl h0⟩
  · exact ⟨hl, .inr ⟨g, cap, cur, rfl, by omega, h1⟩⟩
/-- one edge is appended to an own row -/
theorem run_edge {w : World} {B : Nat} {v : Value} {A : List Ed} {vb : Nat} {e : Ed} (hown : w.ownsRow B 52 2 v A.length (ev A)) (hb : Blk w vb 52 (ec e)) (hn : A.length ≤ 2000000) (hB : B ≤ w.heap.size) :
    ∃ v' w', (Builtin.append_ #[37, 37] 37 #[v, .slice (some ⟨vb, 0, none⟩) 1 1]).run Try.prog w = .ok v' w' ∧ AppRes w w' B 52 2 v v' (A ++ [e]).length (ev (A ++ [e])) := by
  obtain ⟨v', w', hr, h⟩ := run_app (ty := 37) Try.underlying37 info_edge rfl (by decide) (by decide) hown hb (m := 1) rfl (fun u hu => by simp [ec] at hu; rcases hu with rfl | rfl <;> rfl) (by omega) hB
  refine ⟨v', w', hr, ?_⟩
  rw [List.length_append, ev_app]
  have : ev [e] = (ec e).toList := by simp [ev, ec]
  rw [this]; exact h
def InnRes (L : List Ed) (w : World) (e : Ending) (w' : World) : Prop := ∃ v h, e = .returned v ∧ Heads L h ∧ w'.ownsRow w.heap.size 52 2 v (innL L h).length (ev (innL L h)) ∧ Below w.heap.size w w'
theorem innL_snoc (L : List Ed) (e : Ed) (h : Int → Int) : innL (L ++ [e]) h = if h e.f == h e.t then innL L h ++ [e] else innL L h := by
  unfold innL
  rw [List.filter_append]
  by_cases hh : (h e.f == h e.t) = true
  · simp only [List.filter_cons, List.filter_nil, hh, if_true]
  · simp only [List.filter_cons, List.filter_nil, hh, Bool.false_eq_true, if_false, List.append_nil]
set_option maxRecDepth 100000 in
set_option maxHeartbeats 4000000 in
theorem inner_any (lv : Value) (L : List Ed) (w : World) (h : ER w lv L) (hl : L.length ≤ 1000) :
    Calls Try.prog 39 #[lv] w (InnRes L w) := by
  have HW := Lib.hid (weave_any lv L w h hl)
  have HL0 := Lib.hid h
  obtain ⟨al, cl, rfl⟩ := h.shape
  clear h
  obtain ⟨m, hm⟩ : ∃ m, L.length = m := ⟨_, rfl⟩
  have HM := Lib.hid hm
  rw [hm] at hl HW ⊢
  clear hm
  go_enter Try.func39, Try.ntmps39
  go_wp2_with fail
  refine HW.out.mono ?_
  rintro e w2 ⟨vn, vh, N, H, rfl, hWM, hHd, hb2⟩
  have hb3 := below_box w2 (.cells #[vn, vh] 98)
  have hBx := Blk.new w2 98 #[vn, vh]
  obtain ⟨W3, hW3⟩ : ∃ W3, w2.alloc (.cells #[vn, vh] 98) = W3 := ⟨_, rfl⟩
  obtain ⟨bw, hbw⟩ : ∃ bw, w2.heap.size = bw := ⟨_, rfl⟩
  rw [hW3] at hb3 hBx
  have HB3 := Lib.hid (hb2.trans (hb3.mono hb2.size))
  have HM3 := Lib.hid (hWM.below hb3)
  rw [hbw] at hBx
  have HBX := Lib.hid hBx
  have HHD := Lib.hid hHd
  have HL3 := Lib.hid (HL0.out.below HB3.out)
  have HW3 := Lib.hid hW3
  have HBW := Lib.hid hbw
  obtain ⟨an, cn, rfl⟩ := hWM.1.shape
  obtain ⟨ah, ch, rfl⟩ := hWM.2.1.shape
  obtain ⟨hf, hhf⟩ : ∃ hf, headF N H = hf := ⟨_, rfl⟩
  have HHF := Lib.hid hhf
  clear hWM hHd hb2 hb3 hBx hW3 hbw HL0 HW hhf
  have ST : Hid (W3.ownsRow W3.heap.size 52 2 (.slice none 0 0) (innL (L.take 0) hf).length (ev (innL (L.take 0) hf)) ∧ Below W3.heap.size W3 W3) := Lib.hid ⟨by simpa [innL, ev] using own_nil _ _ _ _, Below.refl _ _⟩
  go_upto_region 2 with (fail)
  rw [HW3.out, HBW.out]
  clear HW3 HBW
  go_wp2_with fail
  go_loopw [4, 11] (fun t i wr => ∃ j : Nat, j ≤ m ∧ i = .int .i64 (j : Int) ∧ (∃ a n c, t = .slice a n c) ∧ Hid (wr.ownsRow W3.heap.size 52 2 t (innL (L.take j) hf).length (ev (innL (L.take j) hf)) ∧ Below W3.heap.size W3 wr)) (fun _ i _ => m - (intOf i).toNat)
  case atStart => exact ⟨0, Nat.zero_le _, rfl, ⟨_, _, _, rfl⟩, ST⟩
  case round =>
    obtain ⟨j, hj, rfl, ⟨a3, n3, k3, rfl⟩, HK⟩ := hrel
    clear ST
    by_cases hjm : j < m
    · obtain ⟨e, he⟩ : ∃ e, L[j]? = some e := ⟨_, List.getElem?_eq_getElem (by rw [HM.out]; exact hjm)⟩
      obtain ⟨b, c9, g1, -, -, c0, c1⟩ := (HL3.out.below HK.out.2).at_ he
      injection g1 with g1 g2 g3
      clear g2
      subst g1; subst g3
      have hTS := innL_snoc (L.take j) e hf
      rw [← take_snoc he] at hTS
      have HTS := Lib.hid hTS
      have hb1 := below_box wr (.cells (ec e) 52)
      have hBe := Blk.new wr 52 (ec e)
      obtain ⟨Wb, hWb⟩ : ∃ Wb, wr.alloc (.cells (ec e) 52) = Wb := ⟨_, rfl⟩
      rw [hWb] at hb1 hBe
      have hbB := HK.out.2.trans (hb1.mono HK.out.2.size)
      have HWb := Lib.hid hWb
      have HBE := Lib.hid hBe
      have HOB : Hid (Wb.ownsRow W3.heap.size 52 2 (.slice a3 n3 k3) (innL (L.take j) hf).length (ev (innL (L.take j) hf)) ∧ Below W3.heap.size W3 Wb) := Lib.hid ⟨own_below HK.out.1 hb1, hbB⟩
      have HMb := Lib.hid (HM3.out.below hbB)
      have hBw := HBX.out.below hbB HBX.out.lt
      obtain ⟨ef, et⟩ := e
      dsimp only [ec] at c0 c1 hBe HWb HBE HTS
      obtain ⟨bx, hbx⟩ : ∃ bx, wr.heap.size = bx := ⟨_, rfl⟩
      have d0 : Wb.cell? ⟨bx, 0, none⟩ = some (.int .i64 ef) := by rw [← hbx]; exact hBe.cell 0
      have d1 : Wb.cell? ⟨bx, 1, none⟩ = some (.int .i64 et) := by rw [← hbx]; exact hBe.cell 1
      have e0 : Wb.cell? ⟨bw, 0, none⟩ = some (.slice an N.length cn) := hBw.cell 0
      have e1 : Wb.cell? ⟨bw, 1, none⟩ = some (.slice ah (nv H).length ch) := hBw.cell 1
      have q0 := cell_regrown d0
      have q1 := cell_regrown d1
      have q2 := cell_regrown e0
      have q3 := cell_regrown e1
      have k0 : ∀ dd os, Calls Try.prog 53 #[.agg #[.slice an N.length cn, .slice ah (nv H).length ch], .int .i64 ef] (grow (redrawn Wb dd) os) fun e w'' => e = .returned (.int .i64 (hf ef)) ∧ ∃ p : Regrown, w'' = grow (redrawn Wb p.d) p.os := fun dd os => Calls.regrown_of (by rw [← HHF.out]; exact head_any _ _ N H ef _ (HMb.out.below (below_regrown Wb dd os)))
      have k1 : ∀ dd os, Calls Try.prog 53 #[.agg #[.slice an N.length cn, .slice ah (nv H).length ch], .int .i64 et] (grow (redrawn Wb dd) os) fun e w'' => e = .returned (.int .i64 (hf et)) ∧ ∃ p : Regrown, w'' = grow (redrawn Wb p.d) p.os := fun dd os => Calls.regrown_of (by rw [← HHF.out]; exact head_any _ _ N H et _ (HMb.out.below (below_regrown Wb dd os)))
      obtain ⟨zf, hzf⟩ : ∃ z, hf ef = z := ⟨_, rfl⟩
      obtain ⟨zt, hzt⟩ : ∃ z, hf et = z := ⟨_, rfl⟩
      rw [hzf] at k0
      rw [hzt] at k1
      rw [hzf, hzt] at HTS
      have hBed := HBE.out
      clear hTS hb1 hBe hWb hbB hBw HK HMb hzf hzt he hBed
      go_upto_region 6 with (fail)
      rw [HWb.out]
      clear c0 c1 HWb
      obtain ⟨bb, hbb⟩ : ∃ bb, (zf == zt) = bb := ⟨_, rfl⟩
      rw [hbb] at HTS
      refine wp_region_quiet_below (by kernel_rfl) (by kernel_rfl) ?_
      repeat (go_big_quiet_step (first | (with_reducible exact k0 _ _) | (with_reducible exact k1 _ _)))
      refine wpQuiet_nil ?_
      intro _ hw'
      obtain ⟨⟨dq, osq⟩, hw''⟩ := hw'
      subst hw''
      have b5 := below_regrown Wb dq osq
      generalize grow (redrawn Wb dq) osq = W5 at b5 ⊢
      clear q0 q1 q2 q3 k0 k1 e0 e1
      have hlB := HBE.out.lt
      have d0 : W5.cell? ⟨bx, 0, none⟩ = some (.int .i64 ef) := (b5.cell (p := ⟨bx, 0, none⟩) (by rw [← hbx]; exact hlB)).trans d0
      have d1 : W5.cell? ⟨bx, 1, none⟩ = some (.int .i64 et) := (b5.cell (p := ⟨bx, 1, none⟩) (by rw [← hbx]; exact hlB)).trans d1
      have HO5 : Hid (W5.ownsRow W3.heap.size 52 2 (.slice a3 n3 k3) (innL (L.take j) hf).length (ev (innL (L.take j) hf)) ∧ Below W3.heap.size W3 W5) := Lib.hid ⟨own_below HOB.out.1 b5, HOB.out.2.trans (b5.mono HOB.out.2.size)⟩
      have hle : (innL (L.take j) hf).length ≤ 1000 := by
        have h1 : (innL (L.take j) hf).length ≤ (L.take j).length := List.length_filter_le _ _
        rw [List.length_take] at h1; omega
      cases bb with
      | false =>
        have HN : Hid (W5.ownsRow W3.heap.size 52 2 (.slice a3 n3 k3) (innL (L.take (j + 1)) hf).length (ev (innL (L.take (j + 1)) hf)) ∧ Below W3.heap.size W3 W5) := Lib.hid (by rw [HTS.out, if_neg (by simp)]; exact HO5.out)
        clear HO5 HOB HTS b5 d0 d1 hle HBE hlB
        go_wp2
        go_roundw
        case rel => exact ⟨j + 1, by omega, by go_num, ⟨_, _, _, rfl⟩, HN⟩
        case measure => simp [intOf]; omega
      | true =>
        have hb9 := below_box W5 (.cells #[.int .i64 ef, .int .i64 et] 52)
        obtain ⟨v9, w9, hr9, ha9⟩ := run_edge (w := W5.alloc (.cells #[.int .i64 ef, .int .i64 et] 52)) (own_below HO5.out.1 hb9) (Blk.new W5 52 (ec ⟨ef, et⟩)) (by omega) (Nat.le_trans HO5.out.2.size hb9.size)
        have HN : Hid (w9.ownsRow W3.heap.size 52 2 v9 (innL (L.take (j + 1)) hf).length (ev (innL (L.take (j + 1)) hf)) ∧ Below W3.heap.size W3 w9) := Lib.hid (by
          rw [HTS.out, if_pos rfl]
          exact ⟨ha9.1, (HO5.out.2.trans (hb9.mono HO5.out.2.size)).grown ha9.2.1 (Nat.le_trans HO5.out.2.size hb9.size) (fun k hk => own_ge HO5.out.1 k hk)⟩)
        obtain ⟨a9, c9, e9⟩ := own_shape ha9.1
        have HR := Lib.hid hr9
        rw [e9] at HN HR
        generalize (innL (L.take j) hf ++ [(⟨ef, et⟩ : Ed)]).length = lq at HN HR
        clear HO5 HOB HTS b5 hb9 hr9 ha9 e9 hle HBE hlB
        go_wp2_with (at_builtin; refine wpList_run rfl _ _ rfl rfl rfl HR.out ?_)
        go_roundw
        case rel => exact ⟨j + 1, by omega, by go_num, ⟨_, _, _, rfl⟩, HN⟩
        case measure => simp [intOf]; omega
    · obtain rfl : j = m := by omega
      have FIN : Hid (InnRes L w (.returned (.slice a3 n3 k3)) wr) := Lib.hid (by
        have h1 := HK.out.1
        rw [List.take_of_length_le (by rw [HM.out]; exact Nat.le_refl _)] at h1
        refine ⟨_, hf, rfl, by rw [← HHF.out]; exact HHD.out, own_base h1 HB3.out.size, HB3.out.trans (HK.out.2.mono HB3.out.size)⟩)
      clear HK
      go_wp2
      go_ret
      exact FIN.out
def TiedRes (L : List Ed) (w : World) (e : Ending) (w' : World) : Prop := ∃ v, e = .returned v ∧ w'.ownsRow w.heap.size 3 1 v (onceL (L.map Ed.f)).length (iv (onceL (L.map Ed.f))) ∧ Below w.heap.size w w'
set_option maxRecDepth 100000 in
set_option maxHeartbeats 4000000 in
theorem tied_any (lv : Value) (L : List Ed) (w : World) (h : ER w lv L) (hl : L.length ≤ 1000) :
    Calls Try.prog 38 #[lv] w (TiedRes L w) := by
  have HL1 := Lib.hid h
  obtain ⟨al, cl, rfl⟩ := h.shape
  clear h
  obtain ⟨m, hm⟩ : ∃ m, L.length = m := ⟨_, rfl⟩
  have HM := Lib.hid hm
  rw [hm] at hl ⊢
  clear hm
  have ST : Hid (w.ownsRow w.heap.size 3 1 (.slice none 0 0) ((L.take 0).map Ed.f).length (iv ((L.take 0).map Ed.f)) ∧ Below w.heap.size w w) := Lib.hid ⟨by simpa [iv] using own_nil _ _ _ _, Below.refl _ _⟩
  go_enter Try.func38, Try.ntmps38
  go_wp2_with fail
  go_loopw [3, 8] (fun t i wr => ∃ j : Nat, j ≤ m ∧ i = .int .i64 (j : Int) ∧ (∃ a n c, t = .slice a n c) ∧ Hid (wr.ownsRow w.heap.size 3 1 t ((L.take j).map Ed.f).length (iv ((L.take j).map Ed.f)) ∧ Below w.heap.size w wr)) (fun _ i _ => m - (intOf i).toNat)
  case atStart => exact ⟨0, Nat.zero_le _, rfl, ⟨_, _, _, rfl⟩, ST⟩
  case round =>
    obtain ⟨j, hj, rfl, ⟨a3, n3, k3, rfl⟩, HK⟩ := hrel
    clear ST
    by_cases hjm : j < m
    · obtain ⟨e, he⟩ : ∃ e, L[j]? = some e := ⟨_, List.getElem?_eq_getElem (by rw [HM.out]; exact hjm)⟩
      obtain ⟨b, c9, g1, -, -, c0, c1⟩ := (HL1.out.below HK.out.2).at_ he
      injection g1 with g1 g2 g3
      clear g2
      subst g1; subst g3
      have hb1 := below_box wr (.cells (ec e) 52)
      have hb2 := below_box (wr.alloc (.cells (ec e) 52)) (.cells #[.int .i64 e.f] 3)
      have hb3 := hb1.trans (hb2.mono hb1.size)
      obtain ⟨v5, w5, hr5, ha5⟩ := run_app (ty := 26) (w := (wr.alloc (.cells (ec e) 52)).alloc (.cells #[.int .i64 e.f] 3)) Try.underlying26 info_int rfl (by decide) (by decide) (own_below HK.out.1 hb3) (Blk.new _ 3 #[.int .i64 e.f]) (m := 1) rfl (fun u hu => by simp at hu; subst hu; rfl) (by rw [List.length_map, List.length_take]; omega) (Nat.le_trans HK.out.2.size hb3.size)
      have HN : Hid (w5.ownsRow w.heap.size 3 1 v5 ((L.take (j + 1)).map Ed.f).length (iv ((L.take (j + 1)).map Ed.f)) ∧ Below w.heap.size w w5) := Lib.hid (by
        have h1 := ha5.1
        rw [take_snoc he, List.map_append, List.length_append, iv_app]
        exact ⟨h1, (HK.out.2.trans (hb3.mono HK.out.2.size)).grown ha5.2.1 (Nat.le_trans HK.out.2.size hb3.size) (fun k hk => own_ge HK.out.1 k hk)⟩)
      obtain ⟨a5, c5, e5⟩ := own_shape ha5.1
      have HR := Lib.hid hr5
      rw [e5] at HN HR
      obtain ⟨ef, et⟩ := e
      dsimp only [ec] at c0 c1 HR
      have hsz : (wr.alloc (.cells #[.int .i64 ef, .int .i64 et] 52)).heap.size = wr.heap.size + 1 := by simp
      rw [hsz] at HR
      generalize ((L.take j).map Ed.f).length = lj at HN HR
      clear hb1 hb2 hb3 hr5 ha5 e5 HK he
      go_wp2_with (at_builtin; refine wpList_run rfl _ _ rfl rfl rfl HR.out ?_)
      go_roundw
      case rel => exact ⟨j + 1, by omega, by go_num, ⟨_, _, _, rfl⟩, HN⟩
      case measure => simp [intOf]; omega
    · obtain rfl : j = m := by omega
      have HO : Hid (Calls Try.prog 51 #[.slice a3 n3 k3] wr (OnceRes w.heap.size (L.map Ed.f) wr)) := Lib.hid (once_any _ _ (by
        have h1 := HK.out.1
        rw [List.take_of_length_le (by rw [HM.out]; exact Nat.le_refl _)] at h1; exact h1) HK.out.2.size (by rw [List.length_map, HM.out]; omega))
      have HB2 := Lib.hid HK.out.2
      clear HK
      go_wp2_with fail
      refine HO.out.mono ?_
      rintro e w2 ⟨vn, rfl, ho2, hb2⟩
      have FIN : Hid (TiedRes L w (.returned vn) w2) := Lib.hid ⟨vn, rfl, ho2, HB2.out.trans hb2⟩
      obtain ⟨an, cn, rfl⟩ := own_shape ho2
      clear ho2 hb2 HB2 HO
      go_wp2
      go_ret
      exact FIN.out
end Go.Proofs.Ythodggkpkjfggaa.Knot
