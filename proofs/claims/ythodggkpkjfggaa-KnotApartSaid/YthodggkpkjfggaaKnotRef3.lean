/- The document's own: Without, Victims, Same. -/
import Derived.Test.YthodggkpkjfggaaKnotRef2
namespace Go.Proofs.Ythodggkpkjfggaa.Knot
set_option maxRecDepth 100000
open Go.RowKit
open Go.Proofs.Ythodggkpkjfggaa.Mem
theorem info_edge2 : (Try.prog.info? 80).map (fun i => (i.zero, i.size, i.bytes)) = some (some (.agg #[.int .i64 0, .int .i64 0]), 2, 16) := by kernel_rfl
theorem run_edge2 {w : World} {B : Nat} {v : Value} {A : List Ed} {vb : Nat} {e : Ed} (hown : w.ownsRow B 80 2 v A.length (ev A)) (hb : Blk w vb 80 (ec e)) (hn : A.length ≤ 2000000) (hB : B ≤ w.heap.size) :
    ∃ v' w', (Builtin.append_ #[41, 41] 41 #[v, .slice (some ⟨vb, 0, none⟩) 1 1]).run Try.prog w = .ok v' w' ∧ AppRes w w' B 80 2 v v' (A ++ [e]).length (ev (A ++ [e])) := by
  obtain ⟨v', w', hr, h⟩ := run_app (ty := 41) Try.underlying41 info_edge2 rfl (by decide) (by decide) hown hb (m := 1) rfl (fun u hu => by simp [ec] at hu; rcases hu with rfl | rfl <;> rfl) (by omega) hB
  refine ⟨v', w', hr, ?_⟩
  rw [List.length_append, ev_app]
  have : ev [e] = (ec e).toList := by simp [ev, ec]
  rw [this]; exact h
theorem own_newE (W : World) (B : Nat) (T : TypeId) (hB : B ≤ W.heap.size) : (W.alloc (.cells #[] T)).ownsRow B T 2 (.slice (some ⟨W.heap.size, 0, none⟩) 0 0) ([] : List Ed).length (ev []) :=
  ⟨rfl, .inr ⟨W.heap.size, 0, _, rfl, hB, Blk.new W _ _, Nat.le_refl _, by decide, rfl, rfl⟩⟩
theorem without_snoc (L : List Ed) (e : Ed) (k : Int) : without (L ++ [e]) k = if (e.f != k && e.t != k) then without L k ++ [e] else without L k := by
  unfold without
  rw [List.filter_append]
  by_cases hh : (e.f != k && e.t != k) = true
  · simp only [List.filter_cons, List.filter_nil, hh, if_true]
  · simp only [List.filter_cons, List.filter_nil, hh, Bool.false_eq_true, if_false, List.append_nil]
theorem without_len (L : List Ed) (k : Int) : (without L k).length ≤ L.length := List.length_filter_le _ _
def WoRes (L : List Ed) (k : Int) (w : World) (e : Ending) (w' : World) : Prop := ∃ v, e = .returned v ∧ w'.ownsRow w.heap.size 80 2 v (without L k).length (ev (without L k)) ∧ Below w.heap.size w w'
set_option maxRecDepth 100000 in
set_option maxHeartbeats 4000000 in
theorem without_any (lv : Value) (L : List Ed) (k : Int) (w : World) (h : ER w lv L) (hl : L.length ≤ 1000) :
    Calls Try.prog 41 #[lv, .int .i64 k] w (WoRes L k w) := by
  have HL := Lib.hid h
  obtain ⟨al, cl, rfl⟩ := h.shape
  obtain ⟨m, hm⟩ : ∃ m, L.length = m := ⟨_, rfl⟩
  have HM := Lib.hid hm
  rw [hm] at hl ⊢
  clear h hm
  have ST : Hid ((w.alloc (.cells #[] 80)).ownsRow w.heap.size 80 2 (.slice (some ⟨w.heap.size, 0, none⟩) 0 0) (without (L.take 0) k).length (ev (without (L.take 0) k)) ∧ Below w.heap.size w (w.alloc (.cells #[] 80))) := Lib.hid ⟨by simpa [without] using own_newE w _ _ (Nat.le_refl _), below_box _ _⟩
  go_enter Try.func41, Try.ntmps41
  go_wp2_with fail
  go_loopw [5, 6] (fun t i wr => ∃ j : Nat, j ≤ m ∧ i = .int .i64 (j : Int) ∧ (∃ a n c, t = .slice a n c) ∧ Hid (wr.ownsRow w.heap.size 80 2 t (without (L.take j) k).length (ev (without (L.take j) k)) ∧ Below w.heap.size w wr)) (fun _ i _ => m - (intOf i).toNat)
  case atStart => exact ⟨0, Nat.zero_le _, rfl, ⟨_, _, _, rfl⟩, ST⟩
  case round =>
    obtain ⟨j, hj, rfl, ⟨a3, n3, k3, rfl⟩, HK⟩ := hrel
    clear ST
    by_cases hjm : j < m
    · obtain ⟨e, he⟩ : ∃ e, L[j]? = some e := ⟨_, List.getElem?_eq_getElem (by rw [HM.out]; exact hjm)⟩
      obtain ⟨bb, c9, g1, -, -, c0, c1⟩ := (HL.out.below HK.out.2).at_ he
      injection g1 with g1 g2 g3
      clear g2
      subst g1; subst g3
      have hTS := without_snoc (L.take j) e k
      rw [← take_snoc he] at hTS
      have hle : (without (L.take j) k).length ≤ 1000 := by
        have h1 := without_len (L.take j) k
        rw [List.length_take] at h1; omega
      obtain ⟨b1, hb1⟩ : ∃ b1, (e.f != k) = b1 := ⟨_, rfl⟩
      obtain ⟨b2, hb2⟩ : ∃ b2, (e.t != k) = b2 := ⟨_, rfl⟩
      rw [hb1, hb2] at hTS
      have HTS := Lib.hid hTS
      have hb9 := below_box wr (.cells (ec e) 80)
      obtain ⟨v9, w9, hr9, ha9⟩ := run_edge2 (w := wr.alloc (.cells (ec e) 80)) (own_below HK.out.1 hb9) (Blk.new _ 80 (ec e)) (by omega) (Nat.le_trans HK.out.2.size hb9.size)
      have HN : Hid ((b1 && b2) = true → w9.ownsRow w.heap.size 80 2 v9 (without (L.take (j + 1)) k).length (ev (without (L.take (j + 1)) k)) ∧ Below w.heap.size w w9) := Lib.hid (fun e => by
        rw [HTS.out, if_pos e]
        exact ⟨ha9.1, (HK.out.2.trans (hb9.mono HK.out.2.size)).grown ha9.2.1 (Nat.le_trans HK.out.2.size hb9.size) (fun k hk => own_ge HK.out.1 k hk)⟩)
      have HN0 : Hid ((b1 && b2) = false → wr.ownsRow w.heap.size 80 2 (.slice a3 n3 k3) (without (L.take (j + 1)) k).length (ev (without (L.take (j + 1)) k)) ∧ Below w.heap.size w wr) := Lib.hid (fun e => by
        rw [HTS.out, if_neg (by simp [e])]
        exact HK.out)
      obtain ⟨a9, c9, e9⟩ := own_shape ha9.1
      have HR := Lib.hid hr9
      rw [e9] at HN HR
      generalize (without (L.take j) k ++ [e]).length = lq at HN HR
      obtain ⟨ef, et⟩ := e
      dsimp only [ec] at c0 c1 HR hb1 hb2
      clear hTS HK hle hb9 hr9 ha9 e9 he HTS
      cases b1 with
      | false =>
        clear HN HR
        go_wp2_with fail
        go_roundw
        case rel => exact ⟨j + 1, by omega, by go_num, ⟨_, _, _, rfl⟩, Lib.hid (HN0.out rfl)⟩
        case measure => simp [intOf]; omega
      | true =>
        cases b2 with
        | false =>
          clear HN HR
          go_wp2_with fail
          go_roundw
          case rel => exact ⟨j + 1, by omega, by go_num, ⟨_, _, _, rfl⟩, Lib.hid (HN0.out rfl)⟩
          case measure => simp [intOf]; omega
        | true =>
          clear HN0
          go_wp2_with (at_builtin; refine wpList_run rfl _ _ rfl rfl rfl HR.out ?_)
          go_roundw
          case rel => exact ⟨j + 1, by omega, by go_num, ⟨_, _, _, rfl⟩, Lib.hid (HN.out rfl)⟩
          case measure => simp [intOf]; omega
    · obtain rfl : j = m := by omega
      have FIN : Hid (WoRes L k w (.returned (.slice a3 n3 k3)) wr) := Lib.hid (by
        have h1 := HK.out.1
        rw [List.take_of_length_le (by rw [HM.out]; exact Nat.le_refl _)] at h1
        exact ⟨_, rfl, h1, HK.out.2⟩)
      clear HK
      go_wp2
      go_ret
      exact FIN.out
/-! Victims -/
/-- V are out; L' is left -/
def VS (L L' : List Ed) (V : List Int) : Prop := V.Pairwise (· > ·) ∧ (∀ v, Vic L v ↔ (v ∈ V ∨ Vic L' v)) ∧ (∀ v ∈ V, ∀ x, Cyc L' x → x < v) ∧ V.length + L'.length ≤ L.length
theorem VS.start (L : List Ed) : VS L L [] := ⟨by simp, by simp, by simp, by simp⟩
theorem VS.next {L L' : List Ed} {V : List Int} {k : Int} (h : VS L L' V) (hk : Cyc L' k) (hall : ∀ v, Cyc L' v → v ≤ k) : VS L (without L' k) (V ++ [k]) := by
  obtain ⟨h1, h2, h3, h4⟩ := h
  refine ⟨List.pairwise_append.2 ⟨h1, by simp, fun a ha b hb => by rw [List.mem_singleton.1 hb]; exact h3 a ha k hk⟩, fun v => ?_, fun v hv x hx => ?_, ?_⟩
  · rw [h2, vic_without hk hall, List.mem_append, List.mem_singleton, or_assoc]
  · have hx' : Cyc L' x := hx.mono fun e he => (mem_without.1 he).1
    rcases List.mem_append.1 hv with hv | hv
    · exact h3 v hv x hx'
    · rw [List.mem_singleton.1 hv]
      have := hall x hx'
      have := cyc_less hx
      omega
  · have := without_less hk
    simp; omega
theorem VS.done {L L' : List Ed} {V : List Int} (h : VS L L' V) (h0 : IsStuck L' []) : IsVics L V :=
  ⟨h.1, fun v => (by
    rw [h.2.1]
    exact ⟨.inl, fun h' => h'.elim id fun h' => absurd ((h0.2 v).2 h'.cyc) (by simp)⟩)⟩
theorem rise_last {R : List Int} (hp : R.Pairwise (· < ·)) {k : Nat} {x : Int} (hl : R.length = k + 1) (hx : R[k]? = some x) : ∀ v ∈ R, v ≤ x := fun v hv => by
  obtain ⟨i, hi⟩ := List.getElem?_of_mem hv
  obtain ⟨h1, h2⟩ := List.getElem?_eq_some_iff.1 hi
  obtain ⟨h3, h4⟩ := List.getElem?_eq_some_iff.1 hx
  by_cases e : i = k
  · subst e; rw [hi] at hx; injection hx with hx; omega
  · have := List.pairwise_iff_getElem.1 hp i k h1 h3 (by omega)
    omega
theorem own_types {w : World} {B B' s s' n n' : Nat} {T T' : TypeId} {v v' : Value} {xs ys : List Value} (h : w.ownsRow B T s v n xs) (h' : w.ownsRow B' T' s' v' n' ys) (hT : T ≠ T') (b : Nat) (hb : v.ownBlock = some b) : v'.ownBlock ≠ some b := by
  intro hb'
  obtain ⟨_, ⟨rfl, _⟩ | ⟨g, cap, cur, rfl, _, hc, _⟩⟩ := h
  · simp [Value.ownBlock] at hb
  · obtain ⟨_, ⟨rfl, _⟩ | ⟨g', cap', cur', rfl, _, hc', _⟩⟩ := h'
    · simp [Value.ownBlock] at hb'
    · simp [Value.ownBlock] at hb hb'
      subst hb; subst hb'
      rw [hc] at hc'
      injection hc' with hc'
      injection hc' with _ hc'
      exact hT hc'
def VRefRes (L : List Ed) (w : World) (e : Ending) (w' : World) : Prop := ∃ v R, e = .returned v ∧ IsVics L R ∧ R.length ≤ L.length ∧ w'.ownsRow w.heap.size 3 1 v R.length (iv R) ∧ Below w.heap.size w w'
set_option maxRecDepth 100000 in
set_option maxHeartbeats 4000000 in
theorem vref_any (lv : Value) (L : List Ed) (w : World) (h : w.ownsRow 0 80 2 lv L.length (ev L)) (hl : L.length ≤ 1000) :
    Calls Try.prog 22 #[lv] w (VRefRes L w) := by
  have h1 := below_box w (.cells #[] 3)
  have HST := Lib.hid (sref_any lv L (w.alloc (.cells #[] 3)) (ER.of_own (own_below h h1)) hl)
  have HO := Lib.hid (own_below h h1)
  have HB := Lib.hid h1
  have HV := Lib.hid (own_newI w w.heap.size (Nat.le_refl _))
  obtain ⟨al, cl, rfl⟩ := own_shape h
  obtain ⟨m, hm⟩ : ∃ m, L.length = m := ⟨_, rfl⟩
  have HM := Lib.hid hm
  rw [hm] at hl HST ⊢
  clear h hm h1
  go_enter Try.func22, Try.ntmps22
  go_wp2_with fail
  refine HST.out.mono ?_
  rintro e w1 ⟨v1, R, rfl, hS, hRl, ho1, hb1⟩
  obtain ⟨a1, c1, rfl⟩ := own_shape ho1
  obtain ⟨n1, hn1⟩ : ∃ n1, R.length = n1 := ⟨_, rfl⟩
  have ST : Hid (∃ L' V R, VS L L' V ∧ IsStuck L' R ∧ R.length = n1 ∧ L'.length = m ∧ w1.ownsRow 0 80 2 (.slice al m cl) L'.length (ev L') ∧ w1.ownsRow w.heap.size 3 1 (.slice (some ⟨w.heap.size, 0, none⟩) 0 0) V.length (iv V) ∧ IR w1 (.slice a1 n1 c1) R ∧ Below w.heap.size w w1) := Lib.hid ⟨L, [], R, VS.start L, hS, hn1, HM.out, by have := own_below HO.out hb1; rw [HM.out] at this ⊢; exact this, own_below HV.out hb1, by rw [← hn1]; exact IR.of_own ho1, HB.out.trans (hb1.mono HB.out.size)⟩
  rw [hn1]
  clear hS hRl ho1 hb1 HST HO HB HV hn1
  go_wp2_with fail
  go_loopw [0, 3, 4] (fun t0 t3 t4 wr => ∃ (a0 a3 a4 : Option Addr) (n0 n3 n4 c0 c3 c4 : Nat), t0 = .slice a0 n0 c0 ∧ t3 = .slice a3 n3 c3 ∧ t4 = .slice a4 n4 c4 ∧ Hid (∃ L' V R, VS L L' V ∧ IsStuck L' R ∧ R.length = n4 ∧ L'.length = n0 ∧ wr.ownsRow 0 80 2 (.slice a0 n0 c0) L'.length (ev L') ∧ wr.ownsRow w.heap.size 3 1 (.slice a3 n3 c3) V.length (iv V) ∧ IR wr (.slice a4 n4 c4) R ∧ Below w.heap.size w wr)) (fun t0 _ _ _ => lenIn t0)
  case atStart => exact ⟨_, _, _, _, _, _, _, _, _, rfl, rfl, rfl, ST⟩
  case round =>
    obtain ⟨a0, a3, a4, n0, n3, n4, c0, c3, c4, rfl, rfl, rfl, HK⟩ := hrel
    clear ST
    obtain ⟨L', V, R, hVS, hS, hR, hL, hOL, hOV, hIR, hb⟩ := HK.out
    by_cases h0 : n4 = 0
    · subst h0
      have hR0 : R = [] := List.length_eq_zero_iff.1 hR
      subst hR0
      have FIN : Hid (VRefRes L w (.returned (.slice a3 n3 c3)) wr) := Lib.hid ⟨_, V, rfl, hVS.done hS, by have := hVS.2.2.2; omega, hOV, hb⟩
      clear HK hVS hS hR hL hOL hOV hIR hb
      go_wp2
      go_ret
      exact FIN.out
    · obtain ⟨k, rfl⟩ : ∃ k, n4 = k + 1 := ⟨n4 - 1, by omega⟩
      obtain ⟨x, hx⟩ : ∃ x, R[k]? = some x := ⟨_, List.getElem?_eq_getElem (by omega)⟩
      have hcyc : Cyc L' x := (hS.2 x).1 (List.mem_of_getElem? hx)
      have hall : ∀ v, Cyc L' v → v ≤ x := fun v hv => rise_last hS.1 hR hx v ((hS.2 v).2 hv)
      obtain ⟨b4, o4, c4', g1, -, -, d0⟩ := hIR.at_ hx
      injection g1 with g1 g2 g3
      clear g2
      subst g1; subst g3
      have hlen := hVS.2.2.2
      rw [HM.out] at hlen
      have hk2 : k < 100000 := by
        have h1 : R.length ≤ L'.length := by
          have h2 := nodup_len R (L'.map Ed.f) (hS.1.imp fun h => by omega) fun v hv => by
            obtain ⟨t, h3, _⟩ := (hS.2 v).1 hv
            exact List.mem_map.2 ⟨_, h3, rfl⟩
          simpa using h2
        omega
      have hws : IntKind.i64.wrap (((k + 1 : Nat) : Int) - 1) = (k : Int) := by rw [IntKind.wrap_i64]; omega
      have hb9 := below_box wr (.cells #[.int .i64 x] 3)
      obtain ⟨u9, w9, hr9, ha9⟩ := run_app (ty := 26) (w := wr.alloc (.cells #[.int .i64 x] 3)) Try.underlying26 info_int rfl (by decide) (by decide) (own_below hOV hb9) (Blk.new wr 3 #[.int .i64 x]) (m := 1) rfl (fun u hu => by simp at hu; subst hu; rfl) (by omega) (Nat.le_trans hb.size hb9.size)
      have hb99 : Below w.heap.size w w9 := (hb.trans (hb9.mono hb.size)).grown ha9.2.1 (Nat.le_trans hb.size hb9.size) (fun q hq => own_ge hOV q hq)
      have hOL9 : w9.ownsRow 0 80 2 (.slice a0 n0 c0) L'.length (ev L') := own_same (own_below hOL hb9) fun b hbb => ha9.2.1.block b (own_lt (own_below hOL hb9) hbb) (fun e => own_types (own_below hOL hb9) (own_below hOV hb9) (by decide) b hbb e.symm)
      have hOV9 : w9.ownsRow w.heap.size 3 1 u9 (V ++ [x]).length (iv (V ++ [x])) := by rw [List.length_append, iv_app]; exact ha9.1
      have HWO := Lib.hid (without_any _ L' x w9 (ER.of_own hOL9) (by omega))
      obtain ⟨a9, k9, e9⟩ := own_shape ha9.1
      have HR9 := Lib.hid hr9
      have HOV9 := Lib.hid hOV9
      rw [e9] at HR9 HOV9
      have HVN := Lib.hid (hVS.next hcyc hall)
      have HLS : Hid ((without L' x).length < n0) := Lib.hid (by rw [← hL]; exact without_less hcyc)
      have HB9 := Lib.hid hb99
      have HLL : Hid (L'.length ≤ 1000) := Lib.hid (by omega)
      clear HK hVS hS hR hL hOL hOV hIR hb hcyc hall hlen hb9 hr9 ha9 e9 hb99 hOL9 hOV9 hx h0
      generalize V.length = lv9 at *
      go_wp2_with (at_builtin; refine wpList_run rfl _ _ rfl rfl rfl HR9.out ?_)
      refine HWO.out.mono ?_
      rintro e w10 ⟨v10, rfl, ho10, hb10⟩
      have HSR := Lib.hid (sref_any v10 (without L' x) w10 (ER.of_own ho10) (Nat.le_trans (without_len L' x) HLL.out))
      have HO10 := Lib.hid ho10
      have HB10 := Lib.hid hb10
      obtain ⟨a10, c10, rfl⟩ := own_shape ho10
      clear ho10 hb10 HWO d0 hws
      go_wp2_with fail
      refine HSR.out.mono ?_
      rintro e w11 ⟨v11, R2, rfl, hS2, hRl2, ho11, hb11⟩
      obtain ⟨a11, c11, rfl⟩ := own_shape ho11
      obtain ⟨nn, hnn⟩ : ∃ nn, (without L' x).length = nn := ⟨_, rfl⟩
      obtain ⟨nr, hnr⟩ : ∃ nr, R2.length = nr := ⟨_, rfl⟩
      have HLS2 : Hid (nn < n0) := Lib.hid (by rw [← hnn]; exact HLS.out)
      have HN : Hid (∃ L' V R, VS L L' V ∧ IsStuck L' R ∧ R.length = nr ∧ L'.length = nn ∧ w11.ownsRow 0 80 2 (.slice a10 nn c10) L'.length (ev L') ∧ w11.ownsRow w.heap.size 3 1 (.slice a9 (lv9 + 1) k9) V.length (iv V) ∧ IR w11 (.slice a11 nr c11) R ∧ Below w.heap.size w w11) := Lib.hid ⟨without L' x, V ++ [x], R2, HVN.out, hS2, hnr, hnn, by have := own_base (own_below HO10.out hb11) (Nat.zero_le _); rw [hnn] at this ⊢; exact this, own_below (own_below HOV9.out HB10.out) hb11, by have := IR.of_own ho11; rw [hnr] at this; exact this, HB9.out.trans ((HB10.out.trans (hb11.mono HB10.out.size)).mono HB9.out.size)⟩
      rw [hnn, hnr]
      clear hS2 hRl2 ho11 hb11 HSR HO10 HB10 HVN HOV9 HB9 HLS HLL hnn hnr HR9
      go_wp2
      go_roundw
      case rel => exact ⟨_, _, _, _, _, _, _, _, _, rfl, rfl, rfl, HN⟩
      case measure => have := HLS2.out; simp only [lenIn]; omega
def SameRes (A B : List Int) (w : World) (e : Ending) (w' : World) : Prop := e = .returned (.bool (decide (A = B))) ∧ Below w.heap.size w w'
set_option maxRecDepth 100000 in
set_option maxHeartbeats 1000000 in
theorem same_any (va vb : Value) (A B : List Int) (w : World) (ha : IR w va A) (hb : IR w vb B) (hA : A.length ≤ 1000000) :
    Calls Try.prog 19 #[va, vb] w (SameRes A B w) := by
  have HA := Lib.hid ha
  have HB := Lib.hid hb
  obtain ⟨aa, ca, rfl⟩ := ha.shape
  obtain ⟨ab, cb, rfl⟩ := hb.shape
  by_cases hl : A.length = B.length
  · obtain ⟨m, hm⟩ : ∃ m, A.length = m := ⟨_, rfl⟩
    have HM := Lib.hid hm
    have HMB : Hid (B.length = m) := Lib.hid (by rw [← hl]; exact hm)
    rw [hm] at hA ⊢
    rw [HMB.out]
    have g0 : ((m : Int) != (m : Int)) = false := by simp
    clear ha hb hl hm
    go_enter Try.func19, Try.ntmps19
    go_wp2_with fail
    go_loopw [5] (fun i wr => ∃ j : Nat, j ≤ m ∧ i = .int .i64 (j : Int) ∧ Hid (A.take j = B.take j) ∧ (∃ q, wr = w.drewN q)) (fun i _ => m - (intOf i).toNat)
    case atStart => exact ⟨0, Nat.zero_le _, rfl, Lib.hid (by simp), 0, rfl⟩
    case round =>
      obtain ⟨j, hj, rfl, HK, q, rfl⟩ := hrel
      by_cases hjm : j < m
      · obtain ⟨x, hx⟩ : ∃ x, A[j]? = some x := ⟨_, List.getElem?_eq_getElem (by rw [HM.out]; exact hjm)⟩
        obtain ⟨y, hy⟩ : ∃ y, B[j]? = some y := ⟨_, List.getElem?_eq_getElem (by rw [HMB.out]; exact hjm)⟩
        obtain ⟨b1, o1, c1, e1, -, -, d1⟩ := HA.out.at_ hx
        injection e1 with e1 _ e3
        subst e1; subst e3
        obtain ⟨b2, o2, c2, e1, -, -, d2⟩ := HB.out.at_ hy
        injection e1 with e1 _ e3
        subst e1; subst e3
        obtain ⟨W1, hW1⟩ : ∃ W1, w.drewN q = W1 := ⟨_, rfl⟩
        have d1 : W1.cell? ⟨b1, o1 + j, none⟩ = some (.int .i64 x) := by rw [← hW1]; exact d1
        have d2 : W1.cell? ⟨b2, o2 + j, none⟩ = some (.int .i64 y) := by rw [← hW1]; exact d2
        have HW1 := Lib.hid hW1
        rw [hW1]
        clear hW1
        by_cases e : x = y
        · subst e
          have g1 : (x != x) = false := by simp
          have HN : Hid (A.take (j + 1) = B.take (j + 1)) := Lib.hid (by rw [take_snoc hx, take_snoc hy, HK.out])
          clear HK hx hy
          go_upto_region 6 with (fail)
          go_quiet (fail)
          go_wp2
          go_roundw
          case rel => exact ⟨j + 1, by omega, by go_num, HN, q + nq, by rw [← HW1.out]; exact World.drewN_drewN _ _ _⟩
          case measure => simp [intOf]; omega
        · have g1 : (x != y) = true := by simpa using e
          have g2 : (x == y) = false := by simpa using e
          have g3 : decide (x = y) = false := by simpa using e
          have hne : decide (A = B) = false := by
            simp
            intro h
            rw [h, hy] at hx
            injection hx with hx
            exact e hx.symm
          have FIN : Hid (∀ nq, SameRes A B w (.returned (.bool false)) (W1.drewN nq)) := Lib.hid fun nq => ⟨by rw [hne], by rw [← HW1.out]; exact (drew_below w q).trans ((drew_below _ nq).mono (drew_below w q).size)⟩
          clear HK hx hy hne e HW1 HA HB
          go_upto_region 6 with (fail)
          go_quiet (fail)
          go_wp2
          go_ret
          exact FIN.out nq
      · obtain rfl : j = m := by omega
        have he : A = B := by
          have := HK.out
          rw [List.take_of_length_le (by rw [HM.out]; exact Nat.le_refl _), List.take_of_length_le (by rw [HMB.out]; exact Nat.le_refl _)] at this
          exact this
        have FIN : Hid (SameRes A B w (.returned (.bool true)) (w.drewN q)) := Lib.hid ⟨by simp [he], drew_below _ _⟩
        clear HK he HA HB
        go_wp2
        go_ret
        exact FIN.out
  · have hne : decide (A = B) = false := by simp; intro h; exact hl (by rw [h])
    have FIN : Hid (SameRes A B w (.returned (.bool false)) w) := Lib.hid ⟨by rw [hne], Below.refl _ _⟩
    obtain ⟨m, hm⟩ : ∃ m, A.length = m := ⟨_, rfl⟩
    obtain ⟨n, hn⟩ : ∃ n, B.length = n := ⟨_, rfl⟩
    rw [hm, hn] at hl
    rw [hm, hn]
    have g1 : ((m : Int) != (n : Int)) = true := by simp; omega
    have g2 : ((m : Int) == (n : Int)) = false := by simp; omega
    have g3 : (m == n) = false := by simpa using hl
    have g4 : (m != n) = true := by simpa using hl
    clear ha hb hne HA HB hm hn hl hA
    go_enter Try.func19, Try.ntmps19
    go_wp2
    go_ret
    exact FIN.out
end Go.Proofs.Ythodggkpkjfggaa.Knot
