/- The walks of twin's small functions. -/
import Derived.Test.YtnnppdjgmjgjhaaDoorTwinTrim
import Derived.Deep.RegionHeld3
namespace Go.Proofs.YtnnppdjgmjgjhaaDoor.Twin
set_option maxRecDepth 100000
open Go.RowKit Go.Sort
open Go.Proofs.YtnnppdjgmjgjhaaDoor.Mem
open Go.Proofs.YtnnppdjgmjgjhaaDoor.Plate

section
variable {M : Nat → Prop} {p s lf : Nat} {C : Cfg}
set_option maxHeartbeats 400000 in
theorem twin_any (w : World) (i : Nat) (h : Sto M w s p C lf) (hc : C.small) (hi : i ≤ 1000000) :
    Calls Tryd.prog 28 #[.pointer (some ⟨s, 0, none⟩), .int .i64 (i : Int)] w fun e w' => e = .returned (.int .i64 (C.twin i : Int)) ∧ Below w.heap.size w w' := by
  obtain ⟨c0, c1, c2, c3, c4⟩ := h.get
  have h1 := hc.fr
  clear h
  unfold Cfg.twin
  generalize C.fr = fr at *
  go_enter Tryd.func28, Tryd.ntmps28
  go_wp2
  go_ret
  exact ⟨Slab.ret_int' (by omega), Below.refl _ _⟩
set_option maxHeartbeats 400000 in
theorem home_any (w : World) (n : Nat) (h : Sto M w s p C lf) (hc : C.small) (hi : n ≤ 1000000) :
    Calls Tryd.prog 53 #[.pointer (some ⟨s, 0, none⟩), .int .i64 (n : Int)] w fun e w' => e = .returned (.int .i64 (C.home n : Int)) ∧ Below w.heap.size w w' := by
  obtain ⟨c0, c1, c2, c3, c4⟩ := h.get
  have h1 := hc.fr
  have h2 := hc.tw
  clear h
  unfold Cfg.home
  generalize C.fr = fr at *
  generalize C.tw = tw at *
  go_enter Tryd.func53, Tryd.ntmps53
  go_wp2_with fail
  go_region
  all_goals
    go_wp2
    go_ret
    exact ⟨Slab.ret_int' (by omega), (Below.refl _ _).drew⟩
set_option maxHeartbeats 400000 in
theorem has_any (w : World) (n : Int) (h : Sto M w s p C lf) (_hc : C.small) :
    Calls Tryd.prog 32 #[.pointer (some ⟨s, 0, none⟩), .int .i64 n] w fun e w' => e = .returned (.bool (hasR C n)) ∧ Below w.heap.size w w' := by
  obtain ⟨c0, c1, c2, c3, c4⟩ := h.get
  clear h
  unfold hasR
  generalize C.pg = pg at *
  by_cases h0 : 0 ≤ n
  · by_cases h1 : n < (pg : Int)
    · rw [decide_eq_true h0, decide_eq_true h1]
      go_enter Tryd.func32, Tryd.ntmps32
      go_wp2
      go_ret
      exact ⟨by simp_all, Below.refl _ _⟩
    · rw [decide_eq_true h0, decide_eq_false h1]
      go_enter Tryd.func32, Tryd.ntmps32
      go_wp2
      go_ret
      exact ⟨by simp_all, Below.refl _ _⟩
  · rw [decide_eq_false h0]
    go_enter Tryd.func32, Tryd.ntmps32
    go_wp2
    go_ret
    exact ⟨by simp_all, Below.refl _ _⟩
theorem ready_nil (w : World) :
    Calls Tryd.prog 25 #[.pointer none] w fun e w' => e = .returned (.int .i64 2) ∧ Below w.heap.size w w' := by
  go_enter Tryd.func25, Tryd.ntmps25
  go_wp2
  go_ret
  exact ⟨rfl, Below.refl _ _⟩
set_option maxHeartbeats 400000 in
theorem ready_any (w : World) (S : PS) (h : Sto M w s p C lf) (hp : PQ w p M S) :
    Calls Tryd.prog 25 #[.pointer (some ⟨s, 0, none⟩)] w fun e w' => e = .returned (.int .i64 (if S.life = lf then 0 else 10)) ∧ Below w.heap.size w w' := by
  obtain ⟨c0, c1, c2, c3, c4⟩ := h.get
  have cL : ∀ d os, Calls Tryd.prog 22 #[.pointer (some ⟨p, 0, none⟩)] (grow (redrawn w d) os) fun e w'' => e = .returned (.int .i64 (S.life : Int)) ∧ ∃ q : Regrown, w'' = grow (redrawn w q.d) q.os := fun d os =>
    (pq_life (grow (redrawn w d) os) p M S (hp.below (below_regrown w d os))).mono fun e w' ⟨h1, h2⟩ => ⟨h1, ⟨d, os⟩, h2 ▸ rfl⟩
  have k0 := cell_regrown c0
  have k4 := cell_regrown c4
  clear h hp
  by_cases hl : S.life = lf
  · rw [if_pos hl]
    rw [hl] at cL
    clear hl
    go_enter Tryd.func25, Tryd.ntmps25
    go_wp2_with fail
    refine wp_region_quiet_below (by kernel_rfl) (by kernel_rfl) ?_
    repeat (go_big_quiet_step ((exact cL _ _)))
    refine wpQuiet_nil ?_
    intro _ hw'
    obtain ⟨⟨dq, osq⟩, hw''⟩ := hw'
    subst hw''
    have b1 := below_regrown w dq osq
    generalize grow (redrawn w dq) osq = W1 at b1 ⊢
    go_wp2
    go_ret
    exact ⟨rfl, b1⟩
  · rw [if_neg hl]
    have hl' : ((S.life : Int) != (lf : Int)) = true := by rw [bne_iff_ne]; omega
    generalize S.life = sl at *
    clear hl
    go_enter Tryd.func25, Tryd.ntmps25
    go_wp2_with fail
    refine wp_region_quiet_below (by kernel_rfl) (by kernel_rfl) ?_
    repeat (go_big_quiet_step ((exact cL _ _)))
    refine wpQuiet_nil ?_
    intro _ hw'
    obtain ⟨⟨dq, osq⟩, hw''⟩ := hw'
    subst hw''
    have b1 := below_regrown w dq osq
    generalize grow (redrawn w dq) osq = W1 at b1 ⊢
    go_wp2
    go_ret
    exact ⟨rfl, b1⟩
end
def roomR (N : Nat) (fr tw pg : Int) : Bool := decide (0 ≤ fr) && decide (1 ≤ tw) && decide (tw ≤ 64) && decide (1 ≤ pg) && decide (pg ≤ 1024) && decide (fr ≤ (N : Int) - tw - pg)
set_option maxHeartbeats 1000000 in
/-- there is room -/
theorem room_yes (w : World) (p : Nat) (M : Nat → Prop) (S : PS) (C : Cfg) (hp : PQ w p M S) (hc : C.small) (h1 : 1 ≤ C.tw) (h2 : 1 ≤ C.pg) (h3 : C.fr + C.tw + C.pg ≤ S.N) (hN : S.N ≤ 16384) :
    Calls Tryd.prog 20 #[.pointer (some ⟨p, 0, none⟩), .int .i64 (C.fr : Int), .int .i64 (C.tw : Int), .int .i64 (C.pg : Int)] w fun e w' => e = .returned (.bool true) ∧ Below w.heap.size w w' := by
  have hs := pq_sectors w p M S hp
  have h4 := hc.fr
  have h5 := hc.tw
  have h6 := hc.pg
  have HS := Lib.hid hs
  clear hs hp
  generalize C.fr = fr at *
  generalize C.tw = tw at *
  generalize C.pg = pg at *
  generalize S.N = N at *
  go_enter Tryd.func20, Tryd.ntmps20
  go_wp2_with (go_at_call 43; refine HS.out.mono ?_; rintro e w1 ⟨rfl, rfl⟩)
  go_ret
  exact ⟨Slab.ret_bool' (decide_eq_true (by omega)), Below.refl _ _⟩
theorem rep8 : Lib.repeatL ((⟨#[0]⟩ : ByteArray)).data.toList 8 = [0, 0, 0, 0, 0, 0, 0, 0] := by rw [rep_zero]; rfl
theorem tail_eq (n : Nat) : (⟨#[80, 65, 71, 69]⟩ : ByteArray) ++ ⟨#[0, 0, UInt8.ofNat (n / 256), UInt8.ofNat (n % 256)]⟩ ++ ⟨#[0, 0, 0, 0, 0, 0, 0, 0]⟩ = tailB n := by
  apply bytes_ext
  unfold tailB tailL
  simp
def four (n : Nat) : Array Value := #[.int .u8 (IntKind.u8.wrap ((n : Int) / 16777216)), .int .u8 (IntKind.u8.wrap ((n : Int) / 65536)), .int .u8 (IntKind.u8.wrap ((n : Int) / 256)), .int .u8 (IntKind.u8.wrap (n : Int))]
theorem conv_at (W : World) (g : Nat) (n : Nat) (hn : n ≤ 65535) (h : ∀ i, i < 4 → W.cell? ⟨g, i, none⟩ = (four n)[i]?) :
    (convert 70 9 (.slice (some ⟨g, 0, none⟩) 4 4)).run Tryd.prog W = .ok (.string ⟨#[0, 0, UInt8.ofNat (n / 256), UInt8.ofNat (n % 256)]⟩) W := by
  have h1 : (n : Int) / 16777216 = 0 := by omega
  have h2 : (n : Int) / 65536 = 0 := by omega
  have h3 : IntKind.u8.wrap ((n : Int) / 256) = ((UInt8.ofNat (n / 256)).toNat : Int) := by rw [UInt8.toNat_ofNat', IntKind.wrap_u8]; omega
  have h4 : IntKind.u8.wrap (n : Int) = ((UInt8.ofNat (n % 256)).toNat : Int) := by rw [UInt8.toNat_ofNat', IntKind.wrap_u8]; omega
  have h5 : IntKind.u8.wrap 0 = ((0 : UInt8).toNat : Int) := rfl
  have := run_convert_bytes_back (P := Tryd.prog) W 70 9 5 ⟨g, 0, none⟩ 4 [0, 0, UInt8.ofNat (n / 256), UInt8.ofNat (n % 256)] Tryd.underlying70 Tryd.underlying5 Tryd.underlying9 (fun j hj => by
    simp only [List.length_cons, List.length_nil] at hj
    have := h j (by omega)
    unfold four at this
    rw [h1, h2, h3, h4, h5] at this
    rcases j with _ | _ | _ | _ | j
    · exact this
    · exact this
    · exact this
    · exact this
    · omega)
  exact this
theorem conv_old {w w' : World} {g n : Nat} (hn : n ≤ 65535) (h : ∀ i, i < 4 → w.cell? ⟨g, i, none⟩ = (four n)[i]?) (hg : g < w.heap.size) (hb : Below w.heap.size w w') :
    (convert 70 9 (.slice (some ⟨g, 0, none⟩) 4 4)).run Tryd.prog w' = .ok (.string ⟨#[0, 0, UInt8.ofNat (n / 256), UInt8.ofNat (n % 256)]⟩) w' :=
  conv_at w' g n hn fun i hi => (hb.cell (p := ⟨g, i, none⟩) hg).trans (h i hi)
theorem four_new (W : World) (n i : Nat) (_h : i < 4) : (W.alloc (.cells (four n) 5)).cell? ⟨W.heap.size, i, none⟩ = (four n)[i]? := by rw [World.cell?_alloc_new]
set_option maxHeartbeats 1000000 in
theorem tail_any (n : Nat) (w : World) (hn : n ≤ 65535) :
    Calls Tryd.prog 50 #[.int .i64 (n : Int)] w fun e w' => e = .returned (.string (tailB n)) ∧ Below w.heap.size w w' := by
  have hrr : ∀ w : World, Calls Tryd.prog 19 #[.string ⟨#[0]⟩, .int .i64 8] w fun e w' => e = .returned (.string ⟨#[0, 0, 0, 0, 0, 0, 0, 0]⟩) ∧ Below w.heap.size w w' := fun w => by
    have := Tryd.strings_Repeat ⟨#[0]⟩ 8 w (by decide) (by decide)
    rw [rep8] at this
    exact this
  have h1 : ∀ W : World, (convert 70 9 (.slice (some ⟨W.heap.size, 0, none⟩) 4 4)).run Tryd.prog (W.alloc (.cells (four n) 5)) = .ok (.string ⟨#[0, 0, UInt8.ofNat (n / 256), UInt8.ofNat (n % 256)]⟩) (W.alloc (.cells (four n) 5)) := fun W => conv_at _ _ n hn (four_new W n)
  have h2 : ∀ W : World, (convert 70 9 (.slice (some ⟨W.heap.size, 0, none⟩) 4 4)).run Tryd.prog (W.alloc (.cells (four n) 5)).drew = .ok (.string ⟨#[0, 0, UInt8.ofNat (n / 256), UInt8.ofNat (n % 256)]⟩) (W.alloc (.cells (four n) 5)).drew := fun W => conv_at _ _ n hn (four_new W n)
  have h3 := fun (W W' : World) (h : Below (W.alloc (.cells (four n) 5)).heap.size (W.alloc (.cells (four n) 5)).drew W') => conv_old (w := (W.alloc (.cells (four n) 5)).drew) hn (four_new W n) (by simp) h
  have h4 := fun (W W' : World) (h : Below (W.alloc (.cells (four n) 5)).heap.size (W.alloc (.cells (four n) 5)) W') => conv_old (w := W.alloc (.cells (four n) 5)) hn (four_new W n) (by simp) h
  have HT := Lib.hid (tail_eq n)
  have HR := Lib.hid hrr
  have H3 := Lib.hid h3
  have H4 := Lib.hid h4
  clear hrr h3 h4
  unfold four at h1 h2
  generalize tailB n = T at HT ⊢
  go_enter Tryd.func50, Tryd.ntmps50
  go_wp2_with fail
  go_region_with (first
    | (go_at_call 19; (with_reducible refine (HR.out _).mono ?_); rintro e w' ⟨rfl, bq⟩; (first | (have hcc := H3.out _ _ bq) | (have hcc := H4.out _ _ bq) | skip)))
  all_goals
    go_wp2
    go_ret
    refine ⟨ret_str' HT.out, ?_⟩
    clear HT HR H3 H4 h1 h2
    first
    | exact (((Below.refl _ w).alloc (Nat.le_refl _) _).drew).trans (bq.mono (by simp))
    | exact (((Below.refl _ w).drew).alloc (Nat.le_refl _) _).trans (bq.mono (by simp))
    | exact ((Below.refl _ w).drew.trans (bq.mono (Nat.le_refl _))).alloc bq.size _
end Go.Proofs.YtnnppdjgmjgjhaaDoor.Twin
