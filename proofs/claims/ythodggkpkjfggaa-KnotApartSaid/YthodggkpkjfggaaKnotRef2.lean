/- The document's own: Stuck, Without, Victims, Same. -/
import Derived.Test.YthodggkpkjfggaaKnotRef1
namespace Go.Proofs.Ythodggkpkjfggaa.Knot
set_option maxRecDepth 100000
open Go.RowKit
open Go.Proofs.Ythodggkpkjfggaa.Mem
/-- k is laid among those of a rising row -/
def insF (k : Int) : List Int → Bool → List Int
  | [], d => if d then [] else [k]
  | x :: l, d => if (!d && decide (k < x)) then k :: x :: insF k l true else x :: insF k l d
theorem insF_cons (k x : Int) (l : List Int) (d : Bool) : insF k (x :: l) d = if (!d && decide (k < x)) then k :: x :: insF k l true else x :: insF k l d := rfl
theorem insF_true (k : Int) : ∀ l, insF k l true = l
  | [] => rfl
  | x :: l => by unfold insF; simp [insF_true k l]
theorem insF_mem (k : Int) : ∀ l v, v ∈ insF k l false ↔ v = k ∨ v ∈ l
  | [], v => by simp [insF]
  | x :: l, v => by
    unfold insF
    by_cases h : k < x
    · simp [h, insF_true]
    · simp [h, insF_mem k l]
      constructor
      · rintro (h | h | h) <;> simp [h]
      · rintro (h | h | h) <;> simp [h]
theorem insF_rise (k : Int) : ∀ l, l.Pairwise (· < ·) → k ∉ l → (insF k l false).Pairwise (· < ·)
  | [], _, _ => by simp [insF]
  | x :: l, hp, hk => by
    obtain ⟨p1, p2⟩ := List.pairwise_cons.1 hp
    unfold insF
    have hne : k ≠ x := fun e => hk (by rw [e]; exact List.mem_cons_self)
    by_cases h : k < x
    · rw [if_pos (by simp [h]), insF_true]
      refine List.pairwise_cons.2 ⟨fun y hy => ?_, hp⟩
      rcases List.mem_cons.1 hy with rfl | hy
      · exact h
      · have := p1 y hy; omega
    · rw [if_neg (by simp [h])]
      refine List.pairwise_cons.2 ⟨fun y hy => ?_, insF_rise k l p2 (fun h => hk (List.mem_cons_of_mem _ h))⟩
      rcases (insF_mem k l y).1 hy with rfl | hy
      · omega
      · exact p1 y hy
theorem insF_len (k : Int) : ∀ l d, (insF k l d).length ≤ l.length + 1
  | [], d => by cases d <;> simp [insF]
  | x :: l, d => by
    unfold insF
    split
    · rw [insF_true]; simp
    · have := insF_len k l d; simp; omega
/-- the first i edges were looked at -/
def PS (L : List Ed) (i : Nat) (R : List Int) : Prop := R.Pairwise (· < ·) ∧ (∀ v, v ∈ R ↔ (Cyc L v ∧ ∃ e ∈ L.take i, e.f = v)) ∧ R.length ≤ i
section
variable {L : List Ed} {i : Nat} {R : List Int} {e : Ed}
theorem PS.skip (h : PS L i R) (he : L[i]? = some e) (hs : e.f ∈ R ∨ ¬ Cyc L e.f) : PS L (i + 1) R := by
  refine ⟨h.1, fun v => ?_, by have := h.2.2; omega⟩
  rw [h.2.1, take_snoc he]
  constructor
  · rintro ⟨h1, e', h2, h3⟩; exact ⟨h1, e', List.mem_append_left _ h2, h3⟩
  · rintro ⟨h1, e', h2, rfl⟩
    rcases List.mem_append.1 h2 with h2 | h2
    · exact ⟨h1, e', h2, rfl⟩
    · obtain rfl := List.mem_singleton.1 h2
      rcases hs with hs | hs
      · exact (h.2.1 _).1 hs
      · exact absurd h1 hs
theorem PS.lay (h : PS L i R) (he : L[i]? = some e) (hn : e.f ∉ R) (hc : Cyc L e.f) : PS L (i + 1) (insF e.f R false) := by
  refine ⟨insF_rise _ _ h.1 hn, fun v => ?_, by have := insF_len e.f R false; have := h.2.2; omega⟩
  rw [insF_mem, h.2.1, take_snoc he]
  constructor
  · rintro (rfl | ⟨h1, e', h2, h3⟩)
    · exact ⟨hc, e, by simp, rfl⟩
    · exact ⟨h1, e', List.mem_append_left _ h2, h3⟩
  · rintro ⟨h1, e', h2, rfl⟩
    rcases List.mem_append.1 h2 with h2 | h2
    · exact .inr ⟨h1, e', h2, rfl⟩
    · exact .inl (by rw [List.mem_singleton.1 h2])
theorem PS.done (h : PS L L.length R) : IsStuck L R := ⟨h.1, fun v => by
  rw [h.2.1, List.take_length]
  exact ⟨fun h => h.1, fun h => ⟨h, by obtain ⟨t, h1, _⟩ := h; exact ⟨_, h1, rfl⟩⟩⟩⟩
end
def SRefRes (L : List Ed) (w : World) (e : Ending) (w' : World) : Prop := ∃ v R, e = .returned v ∧ IsStuck L R ∧ R.length ≤ L.length ∧ w'.ownsRow w.heap.size 3 1 v R.length (iv R) ∧ Below w.heap.size w w'
theorem own_newI (W : World) (B : Nat) (hB : B ≤ W.heap.size) : (W.alloc (.cells #[] 3)).ownsRow B 3 1 (.slice (some ⟨W.heap.size, 0, none⟩) 0 0) ([] : List Int).length (iv []) :=
  ⟨rfl, .inr ⟨W.heap.size, 0, _, rfl, hB, Blk.new W _ _, Nat.le_refl _, by decide, rfl, rfl⟩⟩
/-- what is laid so far, and what will be -/
def LY (k : Int) (R : List Int) (w0 : World) (q : Nat) (d : Bool) (t : Value) (wq : World) : Prop := ∃ nx : List Int, nx ++ insF k (R.drop q) d = insF k R false ∧ nx.length ≤ 2 * q ∧ wq.ownsRow w0.heap.size 3 1 t nx.length (iv nx) ∧ Below w0.heap.size w0 wq
set_option maxRecDepth 100000 in
set_option maxHeartbeats 8000000 in
theorem sref_any (lv : Value) (L : List Ed) (w : World) (h : ER w lv L) (hl : L.length ≤ 1000) :
    Calls Try.prog 17 #[lv] w (SRefRes L w) := by
  have HL := Lib.hid h
  obtain ⟨al, cl, rfl⟩ := h.shape
  obtain ⟨m, hm⟩ : ∃ m, L.length = m := ⟨_, rfl⟩
  have HM := Lib.hid hm
  rw [hm] at hl ⊢
  clear h hm
  have ST : Hid (∃ R, PS L 0 R ∧ (w.alloc (.cells #[] 3)).ownsRow w.heap.size 3 1 (.slice (some ⟨w.heap.size, 0, none⟩) 0 0) R.length (iv R) ∧ Below w.heap.size w (w.alloc (.cells #[] 3))) := Lib.hid ⟨[], ⟨by simp, fun v => by simp, by simp⟩, own_newI w _ (Nat.le_refl _), below_box _ _⟩
  go_enter Try.func17, Try.ntmps17
  go_wp2_with fail
  go_loopw [3, 4] (fun t i wr => ∃ j : Nat, j ≤ m ∧ i = .int .i64 (j : Int) ∧ (∃ a n c, t = .slice a n c) ∧ Hid (∃ R, PS L j R ∧ wr.ownsRow w.heap.size 3 1 t R.length (iv R) ∧ Below w.heap.size w wr)) (fun _ i _ => m - (intOf i).toNat)
  case atStart => exact ⟨0, Nat.zero_le _, rfl, ⟨_, _, _, rfl⟩, ST⟩
  case round =>
    obtain ⟨j, hj, rfl, ⟨a3, n3, k3, rfl⟩, HK⟩ := hrel
    clear ST
    by_cases hjm : j < m
    · obtain ⟨R, hP, hO, hb⟩ := HK.out
      obtain ⟨e, he⟩ : ∃ e, L[j]? = some e := ⟨_, List.getElem?_eq_getElem (by rw [HM.out]; exact hjm)⟩
      obtain ⟨bl, c9, g1, -, -, d0, -⟩ := (HL.out.below hb).at_ he
      injection g1 with g1 g2 g3
      clear g2
      subst g1; subst g3
      have hRl : R.length ≤ 1000 := by have := hP.2.2; omega
      have HIN := Lib.hid (in_any _ R e.f wr (IR.of_own hO) (by omega))
      have HBK := Lib.hid (back_any _ L e.f wr (HL.out.below hb) (by rw [HM.out]; exact hl))
      rw [HM.out] at HBK
      obtain rfl : n3 = R.length := own_len hO
      have HP := Lib.hid hP
      have HO := Lib.hid hO
      have HB := Lib.hid hb
      have HE := Lib.hid he
      obtain ⟨D, hD⟩ : ∃ D, decide (e.f ∈ R) = D := ⟨_, rfl⟩
      rw [hD] at HIN
      have HD := Lib.hid hD
      obtain ⟨nr, hnr⟩ : ∃ nr, R.length = nr := ⟨_, rfl⟩
      have HNR := Lib.hid hnr
      rw [hnr] at HIN hRl ⊢
      obtain ⟨ef, et⟩ := e
      dsimp only at d0 HIN HBK HD
      clear hP hO hb he hD hnr HK
      go_wp2_with fail
      refine HIN.out.mono ?_
      rintro e w2 ⟨rfl, rfl⟩
      cases D with
      | true =>
        have HN : Hid (∃ R, PS L (j + 1) R ∧ wr.ownsRow w.heap.size 3 1 (.slice a3 nr k3) R.length (iv R) ∧ Below w.heap.size w wr) := Lib.hid ⟨R, HP.out.skip HE.out (.inl (by simpa using HD.out)), by have := HO.out; rw [HNR.out] at this ⊢; exact this, HB.out⟩
        clear HIN HBK HP HO HB HE HD HNR d0
        go_wp2_with fail
        go_roundw
        case rel => exact ⟨j + 1, by omega, by go_num, ⟨_, _, _, rfl⟩, HN⟩
        case measure => simp [intOf]; omega
      | false =>
        have hnin : ef ∉ R := by simpa using HD.out
        clear HIN HD
        go_wp2_with fail
        refine HBK.out.mono ?_
        rintro e w2 ⟨b, rfl, hbb, hb2⟩
        have HBB := Lib.hid hbb
        have HB2 := Lib.hid hb2
        clear hbb hb2 HBK d0
        cases b with
        | false =>
          have HN : Hid (∃ R, PS L (j + 1) R ∧ w2.ownsRow w.heap.size 3 1 (.slice a3 nr k3) R.length (iv R) ∧ Below w.heap.size w w2) := Lib.hid ⟨R, HP.out.skip HE.out (.inr (fun h => by have := HBB.out.2 h; cases this)), by have := own_below HO.out HB2.out; rw [HNR.out] at this ⊢; exact this, HB.out.trans (HB2.out.mono HB.out.size)⟩
          clear HP HO HB HE HBB HB2 HNR hnin
          go_wp2_with fail
          go_roundw
          case rel => exact ⟨j + 1, by omega, by go_num, ⟨_, _, _, rfl⟩, HN⟩
          case measure => simp [intOf]; omega
        | true =>
          have hcyc : Cyc L ef := HBB.out.1 rfl
          have HPN := Lib.hid (HP.out.lay HE.out hnin hcyc)
          have HOR : Hid (IR w2 (.slice a3 nr k3) R) := Lib.hid (by have := IR.of_own (own_below HO.out HB2.out); rw [HNR.out] at this; exact this)
          have HBW := Lib.hid (HB.out.trans (HB2.out.mono HB.out.size))
          have ST : Hid (LY ef R w2 0 false (.slice (some ⟨w2.heap.size, 0, none⟩) 0 0) (w2.alloc (.cells #[] 3))) := Lib.hid ⟨[], rfl, by simp, own_newI w2 _ (Nat.le_refl _), below_box _ _⟩
          dsimp only at HPN
          clear HP HO HB HE HBB HB2 hnin hcyc
          go_wp2_with fail
          go_loopw [6, 7, 8] (fun t d i wq => ∃ (q : Nat) (db : Bool), q ≤ nr ∧ i = .int .i64 (q : Int) ∧ d = .bool db ∧ (∃ a n c, t = .slice a n c) ∧ Hid (LY ef R w2 q db t wq)) (fun _ _ i _ => nr - (intOf i).toNat)
          case atStart => exact ⟨0, false, Nat.zero_le _, rfl, rfl, ⟨_, _, _, rfl⟩, ST⟩
          case round =>
            obtain ⟨q, db, hq, rfl, rfl, ⟨a6, n6, k6, rfl⟩, HQ⟩ := hrel
            clear ST
            by_cases hqn : q < nr
            · obtain ⟨nx, h1, h2, h3, h4⟩ := HQ.out
              obtain ⟨x, hx⟩ : ∃ x, R[q]? = some x := ⟨_, List.getElem?_eq_getElem (by rw [HNR.out]; exact hqn)⟩
              have hdr : R.drop q = x :: R.drop (q + 1) := by
                obtain ⟨l1, l2⟩ := List.getElem?_eq_some_iff.1 hx
                rw [List.drop_eq_getElem_cons l1, l2]
              rw [hdr] at h1
              rw [insF_cons] at h1
              obtain ⟨bo, oo, c8, g1, -, -, d1⟩ := (HOR.out.below h4).at_ hx
              injection g1 with g1 g2 g3
              clear g2
              subst g1; subst g3
              obtain ⟨lt, hlt⟩ : ∃ lt, decide (ef < x) = lt := ⟨_, rfl⟩
              rw [hlt] at h1
              have H1 := Lib.hid h1
              have H2 := Lib.hid h2
              have H3 := Lib.hid h3
              have H4 := Lib.hid h4
              -- one is laid
              have HGO : Hid (∀ (y : Int) (nx : List Int) (W : World) (v : Value), W.ownsRow w2.heap.size 3 1 v nx.length (iv nx) → Below w2.heap.size w2 W → nx.length ≤ 100000 → ∃ v9 w9, (Builtin.append_ #[26, 26] 26 #[v, .slice (some ⟨W.heap.size, 0, none⟩) 1 1]).run Try.prog (W.alloc (.cells #[.int .i64 y] 3)) = .ok v9 w9 ∧ (∃ a n c, v9 = .slice a n c) ∧ w9.ownsRow w2.heap.size 3 1 v9 (nx ++ [y]).length (iv (nx ++ [y])) ∧ Below w2.heap.size w2 w9) := Lib.hid fun y nx W v ho hb hn => by
                have hb9 := below_box W (.cells #[.int .i64 y] 3)
                obtain ⟨u9, w9, hr9, ha9⟩ := run_app (ty := 26) (w := W.alloc (.cells #[.int .i64 y] 3)) Try.underlying26 info_int rfl (by decide) (by decide) (own_below ho hb9) (Blk.new W 3 #[.int .i64 y]) (m := 1) rfl (fun u hu => by simp at hu; subst hu; rfl) (by omega) (Nat.le_trans hb.size hb9.size)
                obtain ⟨a9, c9, e9⟩ := own_shape ha9.1
                refine ⟨u9, w9, hr9, ⟨_, _, _, e9⟩, ?_, (hb.trans (hb9.mono hb.size)).grown ha9.2.1 (Nat.le_trans hb.size hb9.size) (fun q hq => own_ge ho q hq)⟩
                rw [List.length_append, iv_app]; exact ha9.1
              have hnxl : nx.length ≤ 2000 := by omega
              cases hgo : (!db && lt) with
              | true =>
                obtain ⟨rfl, rfl⟩ : db = false ∧ lt = true := by simpa using hgo
                obtain ⟨v9, w9, hr9, ⟨a9, m9, c9, rfl⟩, ho9, hb9⟩ := HGO.out ef nx wr _ H3.out H4.out (by omega)
                have d9 : w9.cell? ⟨bo, oo + q, none⟩ = some (.int .i64 x) := by
                  obtain ⟨b', o', c9', g1, -, hb', d9⟩ := (HOR.out.below hb9).at_ hx
                  injection g1 with g1 _ _
                  injection g1 with g1
                  injection g1 with g1 g2 _
                  subst g1; subst g2
                  exact d9
                obtain ⟨v8, w8, hr8, ⟨a8, m8, c8', rfl⟩, ho8, hb8⟩ := HGO.out x (nx ++ [ef]) w9 _ ho9 hb9 (by rw [List.length_append]; simp; omega)
                have HN : Hid (LY ef R w2 (q + 1) true (.slice a8 m8 c8') w8) := Lib.hid ⟨nx ++ [ef] ++ [x], by
                  have := H1.out
                  rw [if_pos (by rfl)] at this
                  rw [← this]; simp, by simp; omega, ho8, hb8⟩
                have HR9 := Lib.hid hr9
                have HR8 := Lib.hid hr8
                have g7 : decide (ef < x) = true := hlt
                clear hr9 ho9 hb9 hr8 ho8 hb8 HGO H1 H2 H3 H4 h1 h2 h3 h4 hdr hx hnxl hgo hlt
                go_wp2_with (at_builtin; first | (refine wpList_run rfl _ _ rfl rfl rfl HR9.out ?_) | (refine wpList_run rfl _ _ rfl rfl rfl HR8.out ?_))
                go_roundw
                case rel => exact ⟨q + 1, true, by omega, by go_num, rfl, ⟨_, _, _, rfl⟩, HN⟩
                case measure => simp [intOf]; omega
              | false =>
                obtain ⟨v9, w9, hr9, ⟨a9, m9, c9, rfl⟩, ho9, hb9⟩ := HGO.out x nx wr _ H3.out H4.out (by omega)
                have HN : Hid (LY ef R w2 (q + 1) db (.slice a9 m9 c9) w9) := Lib.hid ⟨nx ++ [x], by
                  have := H1.out
                  rw [hgo, if_neg (by simp)] at this
                  rw [← this]; simp, by simp; omega, ho9, hb9⟩
                have HR9 := Lib.hid hr9
                cases db with
                | true =>
                  clear hr9 ho9 hb9 HGO H1 H2 H3 H4 h1 h2 h3 h4 hdr hx hnxl hgo hlt
                  go_wp2_with (at_builtin; refine wpList_run rfl _ _ rfl rfl rfl HR9.out ?_)
                  go_roundw
                  case rel => exact ⟨q + 1, true, by omega, by go_num, rfl, ⟨_, _, _, rfl⟩, HN⟩
                  case measure => simp [intOf]; omega
                | false =>
                  obtain rfl : lt = false := by simpa using hgo
                  have g7 : decide (ef < x) = false := hlt
                  clear hr9 ho9 hb9 HGO H1 H2 H3 H4 h1 h2 h3 h4 hdr hx hnxl hgo hlt
                  go_wp2_with (at_builtin; refine wpList_run rfl _ _ rfl rfl rfl HR9.out ?_)
                  go_roundw
                  case rel => exact ⟨q + 1, false, by omega, by go_num, rfl, ⟨_, _, _, rfl⟩, HN⟩
                  case measure => simp [intOf]; omega
            · obtain rfl : q = nr := by omega
              obtain ⟨nx, h1, h2, h3, h4⟩ := HQ.out
              rw [List.drop_of_length_le (by rw [HNR.out]; exact Nat.le_refl _)] at h1
              cases db with
              | true =>
                have HN : Hid (∃ R, PS L (j + 1) R ∧ wr.ownsRow w.heap.size 3 1 (.slice a6 n6 k6) R.length (iv R) ∧ Below w.heap.size w wr) := Lib.hid (by
                  have e : nx = insF ef R false := by rw [← h1]; simp [insF]
                  rw [e] at h3
                  exact ⟨_, HPN.out, own_base h3 HBW.out.size, HBW.out.trans (h4.mono HBW.out.size)⟩)
                clear h1 h2 h3 h4 HQ HPN HOR HBW
                go_wp2_with fail
                go_roundw
                case rel => exact ⟨j + 1, by omega, by go_num, ⟨_, _, _, rfl⟩, HN⟩
                case measure => simp [intOf]; omega
              | false =>
                have hb9 := below_box wr (.cells #[.int .i64 ef] 3)
                obtain ⟨u9, w9, hr9, ha9⟩ := run_app (ty := 26) (w := wr.alloc (.cells #[.int .i64 ef] 3)) Try.underlying26 info_int rfl (by decide) (by decide) (own_below h3 hb9) (Blk.new wr 3 #[.int .i64 ef]) (m := 1) rfl (fun u hu => by simp at hu; subst hu; rfl) (by omega) (Nat.le_trans h4.size hb9.size)
                obtain ⟨a9, c9, e9⟩ := own_shape ha9.1
                have HN : Hid (∃ R, PS L (j + 1) R ∧ w9.ownsRow w.heap.size 3 1 u9 R.length (iv R) ∧ Below w.heap.size w w9) := Lib.hid (by
                  have e : nx ++ [ef] = insF ef R false := by rw [← h1]; simp [insF]
                  have h5 : w9.ownsRow w2.heap.size 3 1 u9 (nx ++ [ef]).length (iv (nx ++ [ef])) := by rw [List.length_append, iv_app]; exact ha9.1
                  rw [e] at h5
                  have h6 : Below w2.heap.size w2 w9 := (h4.trans (hb9.mono h4.size)).grown ha9.2.1 (Nat.le_trans h4.size hb9.size) (fun q hq => own_ge h3 q hq)
                  exact ⟨_, HPN.out, own_base h5 HBW.out.size, HBW.out.trans (h6.mono HBW.out.size)⟩)
                have HR9 := Lib.hid hr9
                rw [e9] at HN HR9
                clear h1 h2 h3 h4 HQ HPN HOR HBW hb9 hr9 ha9 e9
                go_wp2_with (at_builtin; refine wpList_run rfl _ _ rfl rfl rfl HR9.out ?_)
                go_roundw
                case rel => exact ⟨j + 1, by omega, by go_num, ⟨_, _, _, rfl⟩, HN⟩
                case measure => simp [intOf]; omega
    · obtain rfl : j = m := by omega
      have FIN : Hid (SRefRes L w (.returned (.slice a3 n3 k3)) wr) := Lib.hid (by
        obtain ⟨R, hP, hO, hb⟩ := HK.out
        rw [← HM.out] at hP
        exact ⟨_, R, rfl, hP.done, hP.2.2, hO, hb⟩)
      clear HK
      go_wp2
      go_ret
      exact FIN.out
end Go.Proofs.Ythodggkpkjfggaa.Knot
