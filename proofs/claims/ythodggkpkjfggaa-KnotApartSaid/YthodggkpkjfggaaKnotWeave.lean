/- weave. -/
import Derived.Test.YthodggkpkjfggaaKnotWeaveMath
namespace Go.Proofs.Ythodggkpkjfggaa.Knot
set_option maxRecDepth 100000
open Go.RowKit
open Go.Proofs.Ythodggkpkjfggaa.Mem
def WeaveRes (L : List Ed) (w : World) (e : Ending) (w' : World) : Prop := ∃ vn vh N H, e = .returned (.agg #[vn, vh]) ∧ WebM w' vn vh N H ∧ Heads L (headF N H) ∧ Below w.heap.size w w'
theorem ends_snoc (L : List Ed) (e : Ed) : ends (L ++ [e]) = ends L ++ [e.f, e.t] := by simp [ends]
theorem take_snoc {α : Type} {L : List α} {j : Nat} {e : α} (h : L[j]? = some e) : L.take (j + 1) = L.take j ++ [e] := by rw [List.take_add_one, h]; rfl
theorem grown_set {w w' : World} {g : Nat} (h : w.grownBy w' (some g)) (i : Nat) (u : Value) : w.grownBy (w'.setCell ⟨g, i, none⟩ u) (some g) :=
  ⟨h.os, h.tape, h.output, by simp; exact h.size, fun k hk hne => (Below.heap_setCell w' ⟨g, i, none⟩ u k (fun e => hne (congrArg some e))).trans (h.block k hk hne)⟩
theorem flat_apart {D : List (List Nat)} {q : Nat} {X Y : List Nat} {x : Nat} (hn : D.flatten.Nodup) (hX : D[q]? = some X) (hY : Y ∈ D.take q) (hx : x ∈ X) : x ∉ Y := by
  intro hy
  have e : D = D.take q ++ X :: D.drop (q + 1) := by
    obtain ⟨h1, h2⟩ := List.getElem?_eq_some_iff.1 hX
    have := List.take_append_drop q D
    rw [List.drop_eq_getElem_cons h1, h2] at this
    exact this.symm
  rw [e, List.flatten_append, List.nodup_append] at hn
  exact hn.2.2 x (List.mem_flatten.2 ⟨Y, hY, hy⟩) x (by simp [hx]) rfl
theorem ir_arr {w : World} {g k : Nat} {hd : Nat → Nat} (h : Arr w g 3 k (fun x => .int .i64 (hd x : Int))) : IR w (.slice (some ⟨g, 0, none⟩) k k) (nv ((List.range k).map hd)) := by
  have hl : (nv ((List.range k).map hd)).length = k := by simp [nv]
  refine ⟨_, k, by rw [hl], by omega, fun _ => ⟨g, 0, rfl, h.lt, fun i z hz => ?_⟩⟩
  have hlt := (List.getElem?_eq_some_iff.1 hz).1
  rw [hl] at hlt
  have : (nv ((List.range k).map hd))[i]? = some (hd i : Int) := by simp [nv, hlt]
  rw [this] at hz
  injection hz with hz
  rw [Nat.zero_add, ← hz]; exact (h.at_ hlt).1
/-- what is kept while the paths are made -/
def YY (bw gh : Nat) (vn : Value) (b : Nat) : Prop := b = bw ∨ b = gh ∨ vn.ownBlock = some b
set_option maxRecDepth 100000 in
set_option maxHeartbeats 8000000 in
theorem weave_any (lv : Value) (L : List Ed) (w : World) (h : ER w lv L) (hl : L.length ≤ 1000) :
    Calls Try.prog 52 #[lv] w (WeaveRes L w) := by
  have HL0 := Lib.hid h
  obtain ⟨al, cl, rfl⟩ := h.shape
  clear h
  obtain ⟨m, hm⟩ : ∃ m, L.length = m := ⟨_, rfl⟩
  have HM := Lib.hid hm
  rw [hm] at hl ⊢
  clear hm
  obtain ⟨W1, hW1⟩ : ∃ W1, w.alloc (.cells #[.slice none 0 0, .slice none 0 0] 98) = W1 := ⟨_, rfl⟩
  have HWB : Hid (Below w.heap.size w W1 ∧ W1.heap.size = w.heap.size + 1 ∧ Blk W1 w.heap.size 98 #[.slice none 0 0, .slice none 0 0]) := Lib.hid (by
    rw [← hW1]; exact ⟨below_box _ _, by simp, Blk.new _ _ _⟩)
  have HW1 := Lib.hid hW1
  have HL1 := Lib.hid (HL0.out.below HWB.out.1)
  clear hW1 HL0
  go_enter Try.func52, Try.ntmps52
  go_upto_region 1 with (fail)
  rw [HW1.out]
  obtain ⟨r, hr⟩ : ∃ r, w.heap.size = r := ⟨_, rfl⟩
  have HRr := Lib.hid hr
  rw [hr] at HWB ⊢
  clear HW1 hr
  have ST : Hid (W1.ownsRow W1.heap.size 3 1 (.slice none 0 0) (ends (L.take 0)).length (iv (ends (L.take 0))) ∧ Below W1.heap.size W1 W1) := Lib.hid ⟨by simpa [ends, iv] using own_nil _ _ _ _, Below.refl _ _⟩
  go_wp2_with fail
  go_loopw [3, 25] (fun t i wr => ∃ j : Nat, j ≤ m ∧ i = .int .i64 (j : Int) ∧ (∃ a n c, t = .slice a n c) ∧ Hid (wr.ownsRow W1.heap.size 3 1 t (ends (L.take j)).length (iv (ends (L.take j))) ∧ Below W1.heap.size W1 wr)) (fun _ i _ => m - (intOf i).toNat)
  case atStart => exact ⟨0, Nat.zero_le _, rfl, ⟨_, _, _, rfl⟩, ST⟩
  case round =>
    obtain ⟨j, hj, rfl, ⟨a3, n3, k3, rfl⟩, HK⟩ := hrel
    clear ST
    by_cases hjm : j < m
    · obtain ⟨e, he⟩ : ∃ e, L[j]? = some e := ⟨_, List.getElem?_eq_getElem (by rw [HM.out]; exact hjm)⟩
      obtain ⟨b, c9, g1, -, -, c0, c1⟩ := (HL1.out.below HK.out.2).at_ he
      injection g1 with g1 g2 g3
      clear g2
      subst g1; subst g3
      have hb1 := below_box wr (.cells (ec e) 52)
      have hb2 := below_box (wr.alloc (.cells (ec e) 52)) (.cells #[.int .i64 e.f, .int .i64 e.t] 3)
      have hb3 := hb1.trans (hb2.mono hb1.size)
      obtain ⟨v5, w5, hr5, ha5⟩ := run_app (ty := 26) (w := (wr.alloc (.cells (ec e) 52)).alloc (.cells #[.int .i64 e.f, .int .i64 e.t] 3)) Try.underlying26 info_int rfl (by decide) (by decide) (own_below HK.out.1 hb3) (Blk.new _ 3 #[.int .i64 e.f, .int .i64 e.t]) (m := 2) rfl (fun u hu => by simp at hu; rcases hu with rfl | rfl <;> rfl) (by rw [ends_len, List.length_take]; omega) (Nat.le_trans HK.out.2.size hb3.size)
      have HN : Hid (w5.ownsRow W1.heap.size 3 1 v5 (ends (L.take (j + 1))).length (iv (ends (L.take (j + 1)))) ∧ Below W1.heap.size W1 w5) := Lib.hid (by
        have h1 := ha5.1
        rw [take_snoc he, ends_snoc, List.length_append, iv_app]
        exact ⟨h1, (HK.out.2.trans (hb3.mono HK.out.2.size)).grown ha5.2.1 (Nat.le_trans HK.out.2.size hb3.size) (fun k hk => own_ge HK.out.1 k hk)⟩)
      obtain ⟨a5, c5, e5⟩ := own_shape ha5.1
      have HR := Lib.hid hr5
      rw [e5] at HN HR
      obtain ⟨ef, et⟩ := e
      dsimp only [ec] at c0 c1 HR
      have hsz : (wr.alloc (.cells #[.int .i64 ef, .int .i64 et] 52)).heap.size = wr.heap.size + 1 := by simp
      rw [hsz] at HR
      clear hb1 hb2 hb3 hr5 ha5 e5 HK he
      go_wp2_with (at_builtin; refine wpList_run rfl _ _ rfl rfl rfl HR.out ?_)
      go_roundw
      case rel => exact ⟨j + 1, by omega, by go_num, ⟨_, _, _, rfl⟩, HN⟩
      case measure => simp [intOf]; omega
    · obtain rfl : j = m := by omega
      have HO : Hid (Calls Try.prog 51 #[.slice a3 n3 k3] wr (OnceRes W1.heap.size (ends L) wr)) := Lib.hid (once_any _ (ends L) (by
        have h1 := HK.out.1
        rw [List.take_of_length_le (by rw [HM.out]; exact Nat.le_refl _)] at h1; exact h1) HK.out.2.size (by rw [ends_len, HM.out]; omega))
      have HB2 := Lib.hid HK.out.2
      clear HK
      go_wp2_with fail
      refine HO.out.mono ?_
      rintro e w2 ⟨vn, rfl, ho2, hb2⟩
      have HB3 := Lib.hid (HB2.out.trans hb2)
      obtain ⟨N, hN⟩ : ∃ N, onceL (ends L) = N := ⟨_, rfl⟩
      have HNM := Lib.hid hN
      rw [hN] at ho2
      have hNl : N.length ≤ 2000 := by
        have := (once_is (ends L)).2.2
        rw [hN, ends_len, HM.out] at this; omega
      have HO2 := Lib.hid ho2
      obtain ⟨an, cn, rfl⟩ := own_shape ho2
      obtain ⟨n, hn⟩ : ∃ n, N.length = n := ⟨_, rfl⟩
      have HNL := Lib.hid hn
      rw [hn] at HO2 hNl ⊢
      clear ho2 hb2 HB2 HO hN hn
      have mk2 := fun W : World => run_makeN W Try.underlying26 info_int rfl (by decide) n (by omega)
      go_upto_region 9 with (fail)
      clear mk2
      obtain ⟨bw, hbw⟩ : ∃ bw, w2.heap.size = bw := ⟨_, rfl⟩
      obtain ⟨Wk, hWk⟩ : ∃ Wk, ((w2.alloc (.cells #[.slice an n cn, .slice (some ⟨w2.heap.size + 1, 0, none⟩) n n] 98)).alloc (.cells (madeCells #[.int .i64 0] n) 3)) = Wk := ⟨_, rfl⟩
      have HKF : Hid (Below W1.heap.size W1 Wk ∧ Blk Wk bw 98 #[.slice an n cn, .slice (some ⟨bw + 1, 0, none⟩) n n] ∧ Arr Wk (bw + 1) 3 n (fun _ => .int .i64 0) ∧ Wk.ownsRow W1.heap.size 3 1 (.slice an n cn) n (iv N) ∧ Wk.heap.size = bw + 2 ∧ W1.heap.size ≤ bw ∧ ∀ b, (Value.slice an n cn).ownBlock = some b → b < bw) := Lib.hid (by
        have h1 := below_box w2 (.cells #[.slice an n cn, .slice (some ⟨w2.heap.size + 1, 0, none⟩) n n] 98)
        have h2 := below_box (w2.alloc (.cells #[.slice an n cn, .slice (some ⟨w2.heap.size + 1, 0, none⟩) n n] 98)) (.cells (madeCells #[.int .i64 0] n) 3)
        have h3 := h1.trans (h2.mono h1.size)
        have e1 : (w2.alloc (.cells #[.slice an n cn, .slice (some ⟨w2.heap.size + 1, 0, none⟩) n n] 98)).heap.size = w2.heap.size + 1 := by simp
        have h4 := (Blk.new w2 98 #[.slice an n cn, .slice (some ⟨w2.heap.size + 1, 0, none⟩) n n]).below h2 (by omega)
        have h5 := Arr.made (w2.alloc (.cells #[.slice an n cn, .slice (some ⟨w2.heap.size + 1, 0, none⟩) n n] 98)) 3 n (.int .i64 0)
        rw [e1] at h5
        rw [← hWk, ← hbw]
        exact ⟨HB3.out.trans (h3.mono HB3.out.size), h4, h5, own_below HO2.out h3, by simp, HB3.out.size, fun b hb => own_lt HO2.out hb⟩)
      rw [hWk, hbw]
      clear hWk hbw HO2 HB3
      have c0 : Wk.cell? ⟨bw, 0, none⟩ = some (.slice an n cn) := HKF.out.2.1.cell 0
      have hbl : bw < Wk.heap.size := by rw [HKF.out.2.2.2.2.1]; omega
      have mk3 := fun W : World => run_makeN W Try.underlying115 info_rows rfl (by decide) n (by omega)
      go_cut [7, 8] (fun t7 t8 wx => ∃ gt gb, t7 = .slice (some ⟨gt, 0, none⟩) n n ∧ t8 = .slice (some ⟨gb, 0, none⟩) n n ∧ Hid (∃ v xs, (∀ k, k < n → xs k = nv (pOf N (L.take 0) k)) ∧ (∀ k, k < n → xs (n + k) = nv (qOf N (L.take 0) k)) ∧ EW W1 Wk n gt gb (YY bw (bw + 1) (.slice an n cn)) wx v xs))
      case first =>
        have FIN : Hid (∀ gt gb W, ((gt = Wk.heap.size ∧ gb = Wk.heap.size + 1) ∨ (gb = Wk.heap.size ∧ gt = Wk.heap.size + 1)) → W = ((Wk.alloc (.cells (madeCells #[.slice none 0 0] n) 26)).alloc (.cells (madeCells #[.slice none 0 0] n) 26)).drew → ∃ v xs, (∀ k, k < n → xs k = nv (pOf N (L.take 0) k)) ∧ (∀ k, k < n → xs (n + k) = nv (qOf N (L.take 0) k)) ∧ EW W1 Wk n gt gb (YY bw (bw + 1) (.slice an n cn)) W v xs) := Lib.hid fun gt gb W hg hW => by
          obtain ⟨k1, k2, k3, k4, k5, k6, k7⟩ := HKF.out
          have h1 := below_box Wk (.cells (madeCells #[.slice none 0 0] n) 26)
          have h2 := below_box (Wk.alloc (.cells (madeCells #[.slice none 0 0] n) 26)) (.cells (madeCells #[.slice none 0 0] n) 26)
          have h3 := (h1.trans (h2.mono h1.size)).drew
          have e1 : (Wk.alloc (.cells (madeCells #[.slice none 0 0] n) 26)).heap.size = Wk.heap.size + 1 := by simp
          have a1 := ((Arr.made Wk 26 n (.slice none 0 0)).alloc (.cells (madeCells #[.slice none 0 0] n) 26))
          have a2 := Arr.made (Wk.alloc (.cells (madeCells #[.slice none 0 0] n) 26)) 26 n (.slice none 0 0)
          rw [e1] at a2
          have hy : ∀ b, YY bw (bw + 1) (.slice an n cn) b → b < Wk.heap.size := by
            rintro b (rfl | rfl | e)
            · omega
            · omega
            · have := k7 b e; omega
          have hgl : Wk.heap.size ≤ gt ∧ Wk.heap.size ≤ gb ∧ gt ≠ gb := by omega
          refine ⟨_, _, fun k _ => by simp [pOf, nv], fun k _ => by simp [qOf, nv], EW.start ?_ ?_ ?_ ⟨hgl.2.2, by omega, by omega, fun e => by have := hy _ e; omega, fun e => by have := hy _ e; omega⟩ ?_ fun b hb => ?_⟩
          · rw [hW]; exact k1.trans (h3.mono k1.size)
          · rw [hW]; rcases hg with ⟨e, _⟩ | ⟨_, e⟩ <;> rw [e] <;> first | exact a1 | exact a2
          · rw [hW]; rcases hg with ⟨_, e⟩ | ⟨e, _⟩ <;> rw [e] <;> first | exact a1 | exact a2
          · rw [hW]; exact Keep.of_below h3 hy
          · rw [hW]; exact Nat.lt_of_lt_of_le (hy b hb) h3.size
        clear HKF
        go_region
        · have F1 := Lib.hid (FIN.out Wk.heap.size (Wk.heap.size + 1) _ (.inl ⟨rfl, rfl⟩) rfl)
          clear FIN mk3 c0 hbl
          go_wp2
          go_meet
          exact ⟨_, _, rfl, rfl, F1⟩
        · have F1 := Lib.hid (FIN.out (Wk.heap.size + 1) Wk.heap.size _ (.inr ⟨rfl, rfl⟩) rfl)
          clear FIN mk3 c0 hbl
          go_wp2
          go_meet
          exact ⟨_, _, rfl, rfl, F1⟩
      case rest =>
        obtain ⟨gt, gb, rfl, rfl, HS0⟩ := hcut
        clear mk3 c0 hbl
        obtain ⟨k1, k2, k3, k4, k5, k6, k7⟩ := HKF.out
        have HNW : Hid (∀ W, Keep (YY bw (bw + 1) (.slice an n cn)) Wk W → W.ownsRow W1.heap.size 3 1 (.slice an n cn) n (iv N) ∧ Blk W bw 98 #[.slice an n cn, .slice (some ⟨bw + 1, 0, none⟩) n n] ∧ Arr W (bw + 1) 3 n (fun _ => .int .i64 0)) := Lib.hid fun W hk =>
          ⟨own_same k4 fun b hb => hk.block b (.inr (.inr hb)), hk.blk k2 (.inl rfl), k3.keep hk (.inr (.inl rfl))⟩
        have HIR : Hid (∀ W, Keep (YY bw (bw + 1) (.slice an n cn)) Wk W → IR W (.slice an n cn) N) := Lib.hid fun W hk => IR.of_own (B := W1.heap.size) (by rw [HNL.out]; exact (HNW.out W hk).1)
        have HSN : Hid (N.Pairwise (· < ·)) := Lib.hid (by rw [← HNM.out]; exact (once_is _).1)
        have HIN : Hid (∀ e ∈ L, e.f ∈ N ∧ e.t ∈ N) := Lib.hid fun e he => by
          rw [← HNM.out]
          exact ⟨((once_is _).2.1 _).2 (mem_ends.2 ⟨e, he, .inl rfl⟩), ((once_is _).2.1 _).2 (mem_ends.2 ⟨e, he, .inr rfl⟩)⟩
        have HBL := Lib.hid (And.intro k6 k7)
        clear k1 k2 k3 k4 k5 k6 k7 HKF HNM
        go_wp2_with fail
        go_loopw [55] (fun i wr => ∃ l : Nat, l ≤ j ∧ i = .int .i64 (l : Int) ∧ Hid (∃ v xs, (∀ k, k < n → xs k = nv (pOf N (L.take l) k)) ∧ (∀ k, k < n → xs (n + k) = nv (qOf N (L.take l) k)) ∧ EW W1 Wk n gt gb (YY bw (bw + 1) (.slice an n cn)) wr v xs)) (fun i _ => j - (intOf i).toNat)
        case atStart => exact ⟨0, Nat.zero_le _, rfl, HS0⟩
        case round =>
          obtain ⟨l, hlj, rfl, HK⟩ := hrel
          clear HS0
          by_cases hl2 : l < j
          · obtain ⟨v, xs, hx1, hx2, hE⟩ := HK.out
            obtain ⟨e, he⟩ : ∃ e, L[l]? = some e := ⟨_, List.getElem?_eq_getElem (by rw [HM.out]; exact hl2)⟩
            obtain ⟨b, c9, g1, -, -, c0, c1⟩ := (HL1.out.below hE.b).at_ he
            injection g1 with g1 g2 g3
            clear g2
            subst g1; subst g3
            have hb1 := below_box wr (.cells (ec e) 52)
            have hEb := hE.below hb1
            have hBx := Blk.new wr 52 (ec e)
            have heN := HIN.out e (List.mem_of_getElem? he)
            have HTS := Lib.hid (take_snoc he)
            have hp1 := HIR.out _ hEb.k
            have hc1 : (wr.alloc (.cells (ec e) 52)).cell? ⟨bw, 0, none⟩ = some (.slice an n cn) := (HNW.out _ hEb.k).2.1.cell 0
            obtain ⟨ef, et⟩ := e
            dsimp only [ec] at c0 c1 hb1 hEb hBx hp1 hc1 heN HTS
            obtain ⟨bx, hbx⟩ : ∃ bx, wr.heap.size = bx := ⟨_, rfl⟩
            obtain ⟨Wb, hWb⟩ : ∃ Wb, wr.alloc (.cells #[.int .i64 ef, .int .i64 et] 52) = Wb := ⟨_, rfl⟩
            rw [hWb] at hEb hBx hp1 hc1
            rw [hbx] at hBx
            have HWb := Lib.hid hWb
            have HEb := Lib.hid hEb
            have HBX := Lib.hid hBx
            have HX1 := Lib.hid hx1
            have HX2 := Lib.hid hx2
            have HP1 := Lib.hid (place_any _ N ef hp1 HSN.out (by rw [HNL.out]; omega))
            have HP2 := Lib.hid (fun q => place_any _ N et (hp1.drewN q) HSN.out (by rw [HNL.out]; omega))
            have HEN := Lib.hid heN
            have d0 : Wb.cell? ⟨bx, 0, none⟩ = some (.int .i64 ef) := hBx.cell 0
            have d1 : Wb.cell? ⟨bx, 1, none⟩ = some (.int .i64 et) := hBx.cell 1
            clear hx1 hx2 hE hb1 hEb hBx hp1 hWb HK he heN
            go_upto_region 13 with (fail)
            rw [HWb.out]
            clear hbx c0 c1 HWb
            go_wp2_with fail
            refine HP1.out.mono ?_
            rintro e w5 ⟨⟨i, rfl, hi⟩, q, rfl⟩
            have hdec : decide (ef ∈ N) = true := by simpa using HEN.out.1
            rw [hdec]
            have hii := idx_of HSN.out (hi HEN.out.1)
            have HI : Hid (ix N ef = i) := Lib.hid hii
            have hin : i < n := by have := ix_lt HEN.out.1; rw [HI.out, HNL.out] at this; exact this
            clear hi hii hdec HP1
            obtain ⟨Wc, hWc⟩ : ∃ Wc, Wb.drewN q = Wc := ⟨_, rfl⟩
            have hc1 : Wc.cell? ⟨bw, 0, none⟩ = some (.slice an n cn) := by rw [← hWc]; exact hc1
            have d1 : Wc.cell? ⟨bx, 1, none⟩ = some (.int .i64 et) := by rw [← hWc]; exact d1
            have HEc : Hid (EW W1 Wk n gt gb (YY bw (bw + 1) (.slice an n cn)) Wc v xs) := Lib.hid (by rw [← hWc]; exact HEb.out.below (drew_below _ _))
            have HP3 : Hid (Calls Try.prog 68 #[.slice an n cn, .int .i64 et] Wc (PlaceRes N et Wc)) := Lib.hid (by rw [← hWc]; exact HP2.out q)
            rw [hWc]
            clear hWc HP2 HEb HBX
            go_wp2_with fail
            refine HP3.out.mono ?_
            rintro e w5 ⟨⟨i2, rfl, hi⟩, q2, rfl⟩
            have hdec : decide (et ∈ N) = true := by simpa using HEN.out.2
            rw [hdec]
            have hii := idx_of HSN.out (hi HEN.out.2)
            have HI2 : Hid (ix N et = i2) := Lib.hid hii
            have hin2 : i2 < n := by have := ix_lt HEN.out.2; rw [HI2.out, HNL.out] at this; exact this
            clear hi hii hdec HP3
            obtain ⟨Wd, hWd⟩ : ∃ Wd, Wc.drewN q2 = Wd := ⟨_, rfl⟩
            have hEd : EW W1 Wk n gt gb (YY bw (bw + 1) (.slice an n cn)) Wd v xs := by rw [← hWd]; exact HEc.out.below (drew_below _ _)
            rw [hWd]
            clear hWd HEc d0 d1 hc1
            -- the first row
            have t0 := (hEd.tA.at_ hin).1
            have ho := hEd.rows.own i (by omega)
            rw [HX1.out i hin] at ho
            have hpl := pOf_len (N := N) (L := L.take l) i
            have hql := qOf_len (N := N) (L := L.take l) i2
            have hll : (L.take l).length ≤ 1000 := by rw [List.length_take]; omega
            have hb9 := below_box Wd (.cells #[.int .i64 (i2 : Int)] 3)
            obtain ⟨u9, w9, hr9, ha9⟩ := run_app (ty := 26) (w := Wd.alloc (.cells #[.int .i64 (i2 : Int)] 3)) Try.underlying26 info_int rfl (by decide) (by decide) (own_below ho hb9) (Blk.new Wd 3 #[.int .i64 (i2 : Int)]) (m := 1) rfl (fun u hu => by simp at hu; subst hu; rfl) (by rw [nv_len]; omega) (Nat.le_trans hEd.b.size hb9.size)
            have ea : AppRes (Wd.alloc (.cells #[.int .i64 (i2 : Int)] 3)) w9 W1.heap.size 3 1 (v i) u9 (nv (pOf N (L.take l) i ++ [i2])).length (iv (nv (pOf N (L.take l) i ++ [i2]))) := by
              rw [nv_app, List.length_append, iv_app]; exact ha9
            obtain ⟨⟨s1, s2⟩, hE9⟩ := hEd.app (k := i) (by omega) hb9 ea (g := gt) (i := i) (.inl ⟨rfl, rfl, hin⟩)
            obtain ⟨a1, k1, e1⟩ := own_shape ho
            obtain ⟨a9, k9, e9⟩ := own_shape ha9.1
            have HR9 := Lib.hid hr9
            obtain ⟨We, hWe⟩ : ∃ We, w9.setCell ⟨gt, i, none⟩ u9 = We := ⟨_, rfl⟩
            rw [hWe] at hE9
            have HWe := Lib.hid hWe
            have HE9 := Lib.hid hE9
            rw [e1] at t0 s1 HR9
            rw [e9] at HWe HR9
            have HLN := Lib.hid (show (nv (pOf N (L.take l) i)).length ≤ 1000 ∧ (L.take l).length ≤ 1000 from ⟨by rw [nv_len]; omega, hll⟩)
            clear ho hb9 hr9 ha9 ea hE9 e1 e9 hWe hEd hpl hql hll
            go_upto_region 16 with (at_builtin; refine wpList_run rfl _ _ rfl rfl rfl HR9.out ?_)
            rw [HWe.out]
            clear t0 s1 s2 HR9 HWe
            -- the second row
            have hE9 := HE9.out
            have hne : n + i2 ≠ i := by omega
            have t0 := (hE9.bA.at_ hin2).1
            have ho := hE9.rows.own (n + i2) (by omega)
            have ev0 : put1 v i u9 (n + i2) = v (n + i2) := if_neg hne
            have ex0 : put1 xs i (nv (pOf N (L.take l) i ++ [i2])) (n + i2) = nv (qOf N (L.take l) i2) := (if_neg hne).trans (HX2.out i2 hin2)
            rw [ev0] at t0 ho
            rw [ex0] at ho
            have hll := HLN.out.2
            have hql := qOf_len (N := N) (L := L.take l) i2
            have hb9 := below_box We (.cells #[.int .i64 (i : Int)] 3)
            obtain ⟨u8, w8, hr8, ha8⟩ := run_app (ty := 26) (w := We.alloc (.cells #[.int .i64 (i : Int)] 3)) Try.underlying26 info_int rfl (by decide) (by decide) (own_below ho hb9) (Blk.new We 3 #[.int .i64 (i : Int)]) (m := 1) rfl (fun u hu => by simp at hu; subst hu; rfl) (by rw [nv_len]; omega) (Nat.le_trans hE9.b.size hb9.size)
            have ea : AppRes (We.alloc (.cells #[.int .i64 (i : Int)] 3)) w8 W1.heap.size 3 1 (put1 v i u9 (n + i2)) u8 (nv (qOf N (L.take l) i2 ++ [i])).length (iv (nv (qOf N (L.take l) i2 ++ [i]))) := by
              rw [nv_app, List.length_append, iv_app, ev0]; exact ha8
            obtain ⟨⟨s1, s2⟩, hE8⟩ := hE9.app (k := n + i2) (by omega) hb9 ea (g := gb) (i := i2) (.inr ⟨rfl, rfl⟩)
            rw [ev0] at s1
            obtain ⟨a1', k1', e1⟩ := own_shape ho
            obtain ⟨a8, k8, e8⟩ := own_shape ha8.1
            have FIN : Hid (∃ v xs, (∀ k, k < n → xs k = nv (pOf N (L.take (l + 1)) k)) ∧ (∀ k, k < n → xs (n + k) = nv (qOf N (L.take (l + 1)) k)) ∧ EW W1 Wk n gt gb (YY bw (bw + 1) (.slice an n cn)) (w8.setCell ⟨gb, i2, none⟩ u8) v xs) := Lib.hid (by
              refine ⟨_, _, fun k hk => ?_, fun k hk => ?_, hE8⟩
              · rw [HTS.out, pOf_snoc, HI.out, HI2.out]
                unfold put1
                rw [if_neg (by omega)]
                split
                · rfl
                · exact HX1.out k hk
              · rw [HTS.out, qOf_snoc, HI.out, HI2.out]
                unfold put1
                by_cases e : k = i2
                · subst e; rw [if_pos rfl, if_pos rfl]
                · rw [if_neg (by omega), if_neg (by omega), if_neg e]; exact HX2.out k hk)
            have HR8 := Lib.hid hr8
            rw [e1] at t0 s1 HR8
            rw [e8] at FIN HR8
            have hql2 : (nv (qOf N (L.take l) i2)).length ≤ 1000 := by rw [nv_len]; omega
            clear ho hb9 hr8 ha8 ea hE9 hE8 HE9 e1 e8 ev0 ex0 hne hql hll HX1 HX2 HTS HI HI2 HEN HLN
            go_wp2_with (at_builtin; refine wpList_run rfl _ _ rfl rfl rfl HR8.out ?_)
            go_roundw
            case rel => exact ⟨l + 1, by omega, by go_num, FIN⟩
            case measure => simp [intOf]; omega
          · obtain rfl : l = j := by omega
            obtain ⟨Wz, hWz⟩ : ∃ Wz, Wz = wr := ⟨_, rfl⟩
            subst hWz
            obtain ⟨v, xs, hx1, hx2, hE⟩ := HK.out
            have htk : L.take l = L := List.take_of_length_le (by rw [HM.out]; exact Nat.le_refl _)
            rw [htk] at hx1 hx2
            have HPT := Lib.hid (hE.readT hx1)
            have HPB := Lib.hid (hE.readB hx2)
            have HEK := Lib.hid hE.k
            have HEB := Lib.hid hE.b
            have HYL := Lib.hid hE.yl
            have c0 : Wz.cell? ⟨bw, 0, none⟩ = some (.slice an n cn) := (HNW.out _ hE.k).2.1.cell 0
            have ST : Hid (Wz.ownsRow Wz.heap.size 3 1 (.slice none 0 0) (nv (List.range 0)).length (iv (nv (List.range 0))) ∧ Below Wz.heap.size Wz Wz) := Lib.hid ⟨own_nil _ _ _ _, Below.refl _ _⟩
            clear HK hx1 hx2 hE htk
            go_wp2_with fail
            clear c0
            go_loopw [15, 99] (fun t i wq => ∃ k : Nat, k ≤ n ∧ i = .int .i64 (k : Int) ∧ (∃ a n c, t = .slice a n c) ∧ Hid (wq.ownsRow Wz.heap.size 3 1 t (nv (List.range k)).length (iv (nv (List.range k))) ∧ Below Wz.heap.size Wz wq)) (fun _ i _ => n - (intOf i).toNat)
            case atStart => exact ⟨0, Nat.zero_le _, rfl, ⟨_, _, _, rfl⟩, ST⟩
            case round =>
              obtain ⟨k, hkn, rfl, ⟨a4, n4, k4, rfl⟩, HK⟩ := hrel
              clear ST
              by_cases hk2 : k < n
              · have hb9 := below_box wr (.cells #[.int .i64 (k : Int)] 3)
                obtain ⟨u9, w9, hr9, ha9⟩ := run_app (ty := 26) (w := wr.alloc (.cells #[.int .i64 (k : Int)] 3)) Try.underlying26 info_int rfl (by decide) (by decide) (own_below HK.out.1 hb9) (Blk.new wr 3 #[.int .i64 (k : Int)]) (m := 1) rfl (fun u hu => by simp at hu; subst hu; rfl) (by simp [nv]; omega) (Nat.le_trans HK.out.2.size hb9.size)
                have HN : Hid (w9.ownsRow Wz.heap.size 3 1 u9 (nv (List.range (k + 1))).length (iv (nv (List.range (k + 1)))) ∧ Below Wz.heap.size Wz w9) := Lib.hid ⟨by
                  rw [List.range_succ, nv_app, List.length_append, iv_app]; exact ha9.1, (HK.out.2.trans (hb9.mono HK.out.2.size)).grown ha9.2.1 (Nat.le_trans HK.out.2.size hb9.size) (fun j hj => own_ge HK.out.1 j hj)⟩
                obtain ⟨a9, k9, e9⟩ := own_shape ha9.1
                have HR9 := Lib.hid hr9
                rw [e9] at HR9 HN
                clear hb9 hr9 ha9 e9 HK
                go_wp2_with (at_builtin; refine wpList_run rfl _ _ rfl rfl rfl HR9.out ?_)
                go_roundw
                case rel => exact ⟨k + 1, by omega, by go_num, ⟨_, _, _, rfl⟩, HN⟩
                case measure => simp [intOf]; omega
              · obtain rfl : k = n := by omega
                have hplt : ∀ x, x < k → ∀ y ∈ pOf N L x, y < k := fun x _ y hy => by have := p_lt HIN.out x y hy; rw [HNL.out] at this; exact this
                have hqlt : ∀ x, x < k → ∀ y ∈ qOf N L x, y < k := fun x _ y hy => by have := q_lt HIN.out x y hy; rw [HNL.out] at this; exact this
                have HQLT := Lib.hid hqlt
                have HB6 := Lib.hid HK.out.2
                have HW := Lib.hid (walk_any (pOf N L) k (List.range k) _ _ wr (HPT.out.below HK.out.2) (IR.of_own HK.out.1) hplt (fun x hx => List.mem_range.1 hx) (by omega) (by simp; omega) (fun x _ => Nat.le_trans (pOf_len x) (by rw [HM.out]; omega)))
                clear hplt hqlt HPT HK
                go_wp2_with fail
                refine HW.out.mono ?_
                rintro e w6 ⟨u1, D1, been1, gone1, rfl, hR1, hI1, hK1, hall1, hb6⟩
                have hnl1 : D1.flatten.length ≤ k := nodup_lt hI1.nodup hI1.lt
                have hdl1 : D1.length ≤ k := Nat.le_trans (Walks.len (beg := List.range k) hK1.ne) hnl1
                have HC := Lib.hid (concat_any u1 D1 _ w6 hR1 (by omega) (by omega))
                have HI1 := Lib.hid hI1
                have HALL1 := Lib.hid hall1
                have HB7 := Lib.hid (HB6.out.trans (hb6.mono HB6.out.size))
                obtain ⟨F, hF⟩ : ∃ F, D1.flatten = F := ⟨_, rfl⟩
                have HF1 := Lib.hid hF
                have hnl1 : F.length ≤ k := by rw [← hF]; exact hnl1
                obtain ⟨au1, cu1, e1, _⟩ := hR1
                subst e1
                clear hI1 hK1 hall1 hb6 HW HB6 hF
                go_wp2_with fail
                refine HC.out.mono ?_
                rintro e w7 ⟨vl, rfl, ho7, hb7⟩
                rw [HF1.out] at ho7
                have HRV := Lib.hid (reverse_any vl (nv F) ho7 hb7.size)
                have HB8 := Lib.hid (HB7.out.trans (hb7.mono HB7.out.size))
                have HZ7 : Hid (Wz.heap.size ≤ w6.heap.size) := Lib.hid HB7.out.size
                obtain ⟨al7, cl7, rfl⟩ := own_shape ho7
                clear ho7 hb7 HC
                go_wp2_with fail
                refine HRV.out.mono ?_
                rintro e w8 ⟨rfl, ho8, hb8⟩
                have HB9 := Lib.hid (HB8.out.trans (hb8.mono HZ7.out))
                have e8 : (nv F).reverse = nv F.reverse := by simp [nv]
                rw [e8] at ho8
                have HW2 := Lib.hid (walk_any (qOf N L) k F.reverse _ _ w8 (HPB.out.below HB9.out) (IR.of_own ho8) HQLT.out (fun x hx => by
                  rw [List.mem_reverse, ← HF1.out] at hx
                  exact HI1.out.lt x hx) (by omega) (by simp; omega) (fun x _ => Nat.le_trans (qOf_len x) (by rw [HM.out]; omega)))
                clear ho8 hb8 e8 HRV HPB HB7 HB8 HZ7 HQLT
                go_wp2_with fail
                refine HW2.out.mono ?_
                rintro e w9 ⟨u2, D2, been2, gone2, rfl, hR2, hI2, hK2, hall2, hb9⟩
                have HB5 := Lib.hid (HB9.out.trans (hb9.mono HB9.out.size))
                have hnl2 : D2.flatten.length ≤ k := nodup_lt hI2.nodup hI2.lt
                have hdl2 : D2.length ≤ k := Nat.le_trans (Walks.len (beg := F.reverse) hK2.ne) hnl2
                have HKN : Hid (∀ X ∈ D2, ∀ x ∈ X, ∀ y, y ∈ X ↔ (Way (pOf N L) Any x y ∧ Way (pOf N L) Any y x)) := Lib.hid fun X hX x hx y => by
                  refine knots (fun x y => pq x y) (L := F) (by rw [← HF1.out]; exact HI1.out.k3) hK2 hI2.nodup (fun z hz => ?_) hX hx y
                  rw [← HF1.out]
                  exact HALL1.out z (List.mem_range.2 (hI2.lt z hz))
                have HALL2 : Hid (∀ x, x < k → x ∈ D2.flatten) := Lib.hid fun x hx => hall2 x (by rw [List.mem_reverse, ← HF1.out]; exact HALL1.out x (List.mem_range.2 hx))
                have HND := Lib.hid hI2.nodup
                have HLT2 := Lib.hid hI2.lt
                have HNE := Lib.hid hK2.ne
                have HXL : Hid (∀ X ∈ D2, X.length ≤ k) := Lib.hid fun X hX => by
                  obtain ⟨A, B, e⟩ := List.append_of_mem hX
                  rw [e] at hnl2; simp at hnl2; omega
                have HR2 := Lib.hid hR2
                obtain ⟨au2, cu2, rfl, _⟩ := hR2
                obtain ⟨dn, hdn⟩ : ∃ dn, D2.length = dn := ⟨_, rfl⟩
                have HDN := Lib.hid hdn
                rw [hdn] at hdl2
                rw [hdn]
                have HGH : Hid (bw + 1 < w8.heap.size) := Lib.hid (Nat.lt_of_lt_of_le (HYL.out _ (.inr (.inl rfl))) HB9.out.size)
                -- what stays from here on
                have HKP : Hid (Keep (YY bw (bw + 1) (.slice an k cn)) Wk w9) := Lib.hid (HEK.out.trans ⟨HB5.out.os, HB5.out.tape, HB5.out.output, HB5.out.size, fun b hb => HB5.out.block b (HYL.out b hb)⟩)
                have HBW : Hid (Below W1.heap.size W1 w9) := Lib.hid (HEB.out.trans (HB5.out.mono HEB.out.size))
                have ST : Hid (∃ hd : Nat → Nat, Arr w9 (bw + 1) 3 k (fun x => .int .i64 (hd x : Int)) ∧ w9.grownBy w9 (some (bw + 1)) ∧ ∀ X ∈ D2.take 0, ∃ h, h ∈ X ∧ ∀ x ∈ X, hd x = h) := Lib.hid ⟨fun _ => 0, (HNW.out _ HKP.out).2.2, World.grownBy.refl _ _, by simp⟩
                clear hI2 hK2 hall2 hb9 HW2 hnl2 hdn HB9 HI1 HALL1 HF1 HEB HEK hnl1 hdl1
                go_wp2_with fail
                go_loopw [117] (fun i wr => ∃ q : Nat, q ≤ dn ∧ i = .int .i64 (q : Int) ∧ Hid (∃ hd : Nat → Nat, Arr wr (bw + 1) 3 k (fun x => .int .i64 (hd x : Int)) ∧ w9.grownBy wr (some (bw + 1)) ∧ ∀ X ∈ D2.take q, ∃ h, h ∈ X ∧ ∀ x ∈ X, hd x = h)) (fun i _ => dn - (intOf i).toNat)
                case atStart => exact ⟨0, Nat.zero_le _, rfl, ST⟩
                case round =>
                  obtain ⟨q, hq, rfl, HQ⟩ := hrel
                  clear ST
                  by_cases hqd : q < dn
                  · obtain ⟨X, hX⟩ : ∃ X, D2[q]? = some X := ⟨_, List.getElem?_eq_getElem (by rw [HDN.out]; exact hqd)⟩
                    have hXm := List.mem_of_getElem? hX
                    obtain ⟨a', c', e1, h2⟩ := HR2.out
                    obtain ⟨g, e2, hg8, hgl, h4⟩ := h2 (by rw [HDN.out]; omega)
                    injection e1 with e1 _ e3
                    subst e1; subst e3; subst e2
                    obtain ⟨xv, d0, hIb⟩ := h4 q X hX
                    have hgr : ∀ wq, w9.grownBy wq (some (bw + 1)) → ∀ b, w8.heap.size ≤ b → b < w9.heap.size → wq.heap[b]? = w9.heap[b]? := fun wq hG b h1 h3 => hG.block b h3 (fun e => by injection e with e; have := HGH.out; omega)
                    have HKQ : Hid (∀ wq, w9.grownBy wq (some (bw + 1)) → IRb wq w8.heap.size xv (nv X) ∧ wq.cell? ⟨bw, 1, none⟩ = some (.slice (some ⟨bw + 1, 0, none⟩) k k)) := Lib.hid fun wq hG => by
                      refine ⟨hIb.kept (hgr wq hG) hG.size, ?_⟩
                      have h5 := (HNW.out _ HKP.out).2.1
                      exact (h5.grown hG (fun e => by injection e with e; omega)).cell 1
                    obtain ⟨hd, hA, hG, hdone⟩ := HQ.out
                    have d0 : wr.cell? ⟨g, q, none⟩ = some xv := (World.cell?_of_block (w := w9) (a := ⟨g, q, none⟩) (hgr wr hG g hg8 hgl)).trans d0
                    have hXne := HNE.out X hXm
                    have HMX := Lib.hid (max_any xv (nv X) (w := wr) (HKQ.out wr hG).1.ir (fun e => hXne (by simpa [nv] using e)) (by rw [nv_len]; have := HXL.out X hXm; omega))
                    obtain ⟨ax, cx, rfl⟩ := hIb.ir.shape
                    obtain ⟨lx, hlx⟩ : ∃ lx, (nv X).length = lx := ⟨_, rfl⟩
                    have HLX : Hid (X.length = lx) := Lib.hid (by rw [← hlx, nv_len])
                    rw [hlx] at d0 HMX
                    have hlx5 : lx ≤ 2000 := by rw [← HLX.out]; have := HXL.out X hXm; omega
                    have HX := Lib.hid hX
                    have HQ2 : Hid (∃ hd : Nat → Nat, Arr wr (bw + 1) 3 k (fun x => .int .i64 (hd x : Int)) ∧ w9.grownBy wr (some (bw + 1)) ∧ ∀ X ∈ D2.take q, ∃ h, h ∈ X ∧ ∀ x ∈ X, hd x = h) := HQ
                    clear hX hXm h2 h4 hIb hgr hA hG hdone hXne hlx HQ
                    go_wp2_with fail
                    refine HMX.out.mono ?_
                    rintro e w10 ⟨⟨z, rfl, hz⟩, rfl⟩
                    obtain ⟨h, hh, rfl⟩ : ∃ h, h ∈ X ∧ z = (h : Int) := by
                      obtain ⟨h, h1, h2⟩ := List.mem_map.1 hz
                      exact ⟨h, h1, h2.symm⟩
                    have HHX := Lib.hid hh
                    clear hz hh HMX d0
                    have ST5 : Hid (∃ hd : Nat → Nat, Arr wr (bw + 1) 3 k (fun x => .int .i64 (hd x : Int)) ∧ w9.grownBy wr (some (bw + 1)) ∧ (∀ X ∈ D2.take q, ∃ h, h ∈ X ∧ ∀ x ∈ X, hd x = h) ∧ ∀ x ∈ X.take 0, hd x = h) := Lib.hid (by
                      obtain ⟨hd, h1, h2, h3⟩ := HQ2.out
                      exact ⟨hd, h1, h2, h3, by simp⟩)
                    clear HQ2
                    go_wp2_with fail
                    go_loopw [125] (fun i wq => ∃ t : Nat, t ≤ lx ∧ i = .int .i64 (t : Int) ∧ Hid (∃ hd : Nat → Nat, Arr wq (bw + 1) 3 k (fun x => .int .i64 (hd x : Int)) ∧ w9.grownBy wq (some (bw + 1)) ∧ (∀ X ∈ D2.take q, ∃ h, h ∈ X ∧ ∀ x ∈ X, hd x = h) ∧ ∀ x ∈ X.take t, hd x = h)) (fun i _ => lx - (intOf i).toNat)
                    case atStart => exact ⟨0, Nat.zero_le _, rfl, ST5⟩
                    case round =>
                      obtain ⟨t, ht, rfl, HT⟩ := hrel
                      clear ST5
                      by_cases htl : t < lx
                      · obtain ⟨hd, hA, hG, hdone, hpart⟩ := HT.out
                        obtain ⟨x, hx⟩ : ∃ x, X[t]? = some x := ⟨_, List.getElem?_eq_getElem (by rw [HLX.out]; exact htl)⟩
                        obtain ⟨hI, d2⟩ := HKQ.out wr hG
                        obtain ⟨bx, ox, c9, e1, -, -, d1⟩ := hI.ir.at_ (nv_at hx)
                        injection e1 with e1 _ e3
                        subst e1; subst e3
                        have hxk : x < k := HLT2.out x (List.mem_flatten.2 ⟨X, List.mem_of_getElem? HX.out, List.mem_of_getElem? hx⟩)
                        obtain ⟨d3, d4⟩ := hA.at_ hxk
                        have HN : Hid (∃ hd : Nat → Nat, Arr (wr.setCell ⟨bw + 1, x, none⟩ (.int .i64 (h : Int))) (bw + 1) 3 k (fun x => .int .i64 (hd x : Int)) ∧ w9.grownBy (wr.setCell ⟨bw + 1, x, none⟩ (.int .i64 (h : Int))) (some (bw + 1)) ∧ (∀ X ∈ D2.take q, ∃ h, h ∈ X ∧ ∀ x ∈ X, hd x = h) ∧ ∀ x ∈ X.take (t + 1), hd x = h) := Lib.hid (by
                          refine ⟨put1 hd x h, ?_, grown_set hG _ _, fun Y hY => ?_, fun y hy => ?_⟩
                          · have := hA.set_ hxk (fun j => .int .i64 ((put1 hd x h j : Nat) : Int)) (fun j => by unfold put1; by_cases e : j = x <;> simp [e])
                            simpa [put1] using this
                          · obtain ⟨h', h1, h2⟩ := hdone Y hY
                            refine ⟨h', h1, fun y hy => ?_⟩
                            unfold put1
                            rw [if_neg (fun e : y = x => flat_apart HND.out HX.out hY (List.mem_of_getElem? hx) (by rw [← e]; exact hy))]
                            exact h2 y hy
                          · rw [take_snoc hx] at hy
                            unfold put1
                            split
                            · rfl
                            · rename_i hne
                              rcases List.mem_append.1 hy with hy | hy
                              · exact hpart y hy
                              · exact absurd (List.mem_singleton.1 hy) hne)
                        clear hA hG hdone hpart hI HT hx
                        go_wp2
                        go_roundw
                        case rel => exact ⟨t + 1, by omega, by go_num, HN⟩
                        case measure => simp [intOf]; omega
                      · obtain rfl : t = lx := by omega
                        have HN : Hid (∃ hd : Nat → Nat, Arr wr (bw + 1) 3 k (fun x => .int .i64 (hd x : Int)) ∧ w9.grownBy wr (some (bw + 1)) ∧ ∀ X ∈ D2.take (q + 1), ∃ h, h ∈ X ∧ ∀ x ∈ X, hd x = h) := Lib.hid (by
                          obtain ⟨hd, h1, h2, h3, h4⟩ := HT.out
                          refine ⟨hd, h1, h2, fun Y hY => ?_⟩
                          rw [take_snoc HX.out] at hY
                          rcases List.mem_append.1 hY with hY | hY
                          · exact h3 Y hY
                          · obtain rfl := List.mem_singleton.1 hY
                            exact ⟨h, HHX.out, fun x hx => h4 x (by rw [List.take_of_length_le (by rw [HLX.out]; exact Nat.le_refl _)]; exact hx)⟩)
                        clear HT
                        go_wp2
                        go_roundw
                        case rel => exact ⟨q + 1, by omega, by go_num, HN⟩
                        case measure => simp [intOf]; omega
                  · obtain rfl : q = dn := by omega
                    obtain ⟨hd, hA, hG, hdone⟩ := HQ.out
                    have hr1 : r + 1 ≤ bw := by rw [← HWB.out.2.1]; exact HBL.out.1
                    have hBr : Blk wr r 98 #[.slice none 0 0, .slice none 0 0] := ((HWB.out.2.2.below HBW.out HWB.out.2.2.lt).grown hG (fun e => by injection e with e; omega))
                    have hBb : Blk wr bw 98 #[.slice an k cn, .slice (some ⟨bw + 1, 0, none⟩) k k] := (HNW.out _ HKP.out).2.1.grown hG (fun e => by injection e with e; omega)
                    have hNo : wr.ownsRow W1.heap.size 3 1 (.slice an k cn) k (iv N) := own_same (HNW.out _ HKP.out).1 fun b hb => hG.block b (own_lt (HNW.out _ HKP.out).1 hb) (fun e => by injection e with e; have := HBL.out.2 b hb; omega)
                    have c0 : wr.cell? ⟨bw, 0, none⟩ = some (.slice an k cn) := hBb.cell 0
                    have c1 : wr.cell? ⟨bw, 1, none⟩ = some (.slice (some ⟨bw + 1, 0, none⟩) k k) := hBb.cell 1
                    have z0 : wr.cell? ⟨r, 0, none⟩ = some (.slice none 0 0) := hBr.cell 0
                    have z1 : wr.cell? ⟨r, 1, none⟩ = some (.slice none 0 0) := hBr.cell 1
                    have f0 := hBr.frozen 0
                    have f1 := hBr.frozen 1
                    have HF : Hid (WeaveRes L w (.returned (.agg #[.slice an k cn, .slice (some ⟨bw + 1, 0, none⟩) k k])) ((wr.setCell ⟨r, 0, none⟩ (.slice an k cn)).setCell ⟨r, 1, none⟩ (.slice (some ⟨bw + 1, 0, none⟩) k k))) := Lib.hid (by
                      have hown := own_set (own_set hNo (b := r) (fun e => by have := own_ge hNo r e; have := HWB.out.2.1; omega) 0 (.slice an k cn)) (b := r) (fun e => by have := own_ge hNo r e; have := HWB.out.2.1; omega) 1 (.slice (some ⟨bw + 1, 0, none⟩) k k)
                      have hArr := (hA.far (p := ⟨r, 0, none⟩) (by show bw + 1 ≠ r; omega) (.slice an k cn)).far (p := ⟨r, 1, none⟩) (by show bw + 1 ≠ r; omega) (.slice (some ⟨bw + 1, 0, none⟩) k k)
                      refine ⟨_, _, N, (List.range k).map hd, rfl, ⟨IR.of_own (B := W1.heap.size) (by rw [HNL.out]; exact hown), ir_arr hArr, HSN.out, by simp [HNL.out], fun x hx => ?_, by rw [HNL.out]; omega⟩, ?_, ?_⟩
                      · obtain ⟨y, hy, rfl⟩ := List.mem_map.1 hx
                        obtain ⟨X, hX, hyX⟩ := List.mem_flatten.1 (HALL2.out y (List.mem_range.1 hy))
                        obtain ⟨h, h1, h2⟩ := hdone X (by rw [List.take_of_length_le (by rw [HDN.out]; exact Nat.le_refl _)]; exact hX)
                        rw [h2 y hyX, HNL.out]
                        exact HLT2.out h (List.mem_flatten.2 ⟨X, hX, h1⟩)
                      · have := heads_web (N := N) (L := L) HIN.out (W := D2) (hd := hd) HKN.out (fun x hx => HALL2.out x (by rw [HNL.out] at hx; exact hx)) (fun X hX => hdone X (by rw [List.take_of_length_le (by rw [HDN.out]; exact Nat.le_refl _)]; exact hX))
                        rw [HNL.out] at this
                        exact this
                      · have hb1 : Below w.heap.size w wr := by
                          rw [HRr.out]
                          refine (HWB.out.1.trans (HBW.out.mono (by have := HWB.out.2.1; omega))).grown hG ?_ (fun j e => by injection e with e; omega)
                          have := HBW.out.size; have := HWB.out.2.1; omega
                        rw [HRr.out] at hb1 ⊢
                        exact Below.setCell (Below.setCell hb1 (p := ⟨r, 0, none⟩) (Nat.le_refl _) _) (p := ⟨r, 1, none⟩) (Nat.le_refl _) _)
                    have hBf := (hBr.set_ 0 (.slice an k cn)).set_ 1 (.slice (some ⟨bw + 1, 0, none⟩) k k)
                    obtain ⟨Wf, hWf⟩ : ∃ Wf, (wr.setCell ⟨r, 0, none⟩ (.slice an k cn)).setCell ⟨r, 1, none⟩ (.slice (some ⟨bw + 1, 0, none⟩) k k) = Wf := ⟨_, rfl⟩
                    rw [hWf] at HF hBf
                    have y0 : Wf.cell? ⟨r, 0, none⟩ = some (.slice an k cn) := hBf.cell 0
                    have y1 : Wf.cell? ⟨r, 1, none⟩ = some (.slice (some ⟨bw + 1, 0, none⟩) k k) := hBf.cell 1
                    have HWf := Lib.hid hWf
                    clear hA hG hdone hBr hBb hNo HQ hBf hWf
                    go_wp2
                    rw [HWf.out]
                    refine bodyPost_ret (v := .agg #[.slice an k cn, .slice (some ⟨bw + 1, 0, none⟩) k k]) (by simp [results, Try.results52, go_sem, y0, y1]) rfl ?_
                    exact HF.out
end Go.Proofs.Ythodggkpkjfggaa.Knot
