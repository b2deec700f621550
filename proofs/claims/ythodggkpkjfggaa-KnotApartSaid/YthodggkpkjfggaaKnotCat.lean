/- slices.Concat of rows of numbers. -/
import Derived.Test.YthodggkpkjfggaaKnotWalk
import Derived.Lib.AppendZeros
namespace Go.Proofs.Ythodggkpkjfggaa.Knot
set_option maxRecDepth 100000
open Go.RowKit
open Go.Proofs.Ythodggkpkjfggaa.Mem
theorem run_append_zero {P : Program} {w : World} (base : Nat) (t ty e : TypeId) (i : TypeInfo) (size : Nat) (ht : P.underlying t = some (.slice e)) (hi : P.info? e = some i)
    (v : Value) (n : Nat) (xs : List Value) (hown : w.ownsRow base e size v n xs) (a : Option Addr) (c : Nat) :
    (Builtin.append_ #[t, t] ty #[v, .slice a 0 c]).run P w = .ok v w := by
  rcases hown.2 with ⟨rfl, rfl⟩ | ⟨g, cap, cur, rfl, _, _, hnc, _⟩
  · cases a <;> simp [Builtin.append_, run_underlying ht, sizeOf, typeInfo, hi, Builtin.lenOf, Builtin.firstCells, loadCells, loadCellsFrom]
  · cases a <;> simp [Builtin.append_, run_underlying ht, sizeOf, typeInfo, hi, Builtin.lenOf, Builtin.firstCells, hnc, storeCells, loadCells, loadCellsFrom]
/-- append of a row that can be read -/
theorem run_appI {w : World} {B : Nat} {v u : Value} {xs zs : List Int} (ty : TypeId) (hown : w.ownsRow B 3 1 v xs.length (iv xs)) (hu : IR w u zs) (hn : xs.length + zs.length ≤ 3000000) (hB : B ≤ w.heap.size) :
    ∃ v' w', (Builtin.append_ #[26, 26] ty #[v, u]).run Try.prog w = .ok v' w' ∧ AppRes w w' B 3 1 v v' (xs ++ zs).length (iv (xs ++ zs)) := by
  obtain ⟨i0, hi, hz0, hz1, hz2⟩ := info_parts info_int
  obtain ⟨a, c, rfl, h1, h2⟩ := hu
  by_cases h0 : zs = []
  · subst h0
    refine ⟨v, w, run_append_zero B 26 ty 3 i0 1 Try.underlying26 hi v _ _ hown a c, ?_, World.grownBy.refl _ _, .inl rfl⟩
    simpa using hown
  · obtain ⟨b, off, rfl, h3, h4⟩ := h2 (List.length_pos_iff.2 h0)
    obtain ⟨v', w', hr, h5, h6, _, h7⟩ := run_append_own_at (P := Try.prog) w B 26 ty 3 i0 (.int .i64 0) 1 8 Try.underlying26 hi hz0 hz1 hz2 rfl (by decide) v xs.length (iv xs) hown ⟨b, off, none⟩ zs.length c (iv zs) (by simp [iv])
      (fun j z hj => by
        rw [Addr.add_lit]
        have hlt := (List.getElem?_eq_some_iff.1 hj).1
        rw [iv_len] at hlt
        have h8 : zs[j]? = some zs[j] := List.getElem?_eq_getElem hlt
        have h9 := iv_at h8
        rw [hj] at h9
        injection h9 with h9
        rw [h9]; exact h4 j _ h8) (fun z hz => by obtain ⟨y, _, rfl⟩ := List.mem_map.1 hz; rfl) (by unfold maxLen; omega) (by omega) hB
    refine ⟨v', w', hr, ?_, h6, h7⟩
    rw [List.length_append, iv_app]; exact h5
def GrowRes (w : World) (e : Ending) (w' : World) : Prop := ∃ v, e = .returned v ∧ w'.ownsRow w.heap.size 3 1 v 0 [] ∧ Below w.heap.size w w'
set_option maxRecDepth 100000 in
set_option maxHeartbeats 1000000 in
theorem grow_any (n : Nat) (w : World) (hn : n ≤ 1000000) : Calls Try.prog 81 #[.slice none 0 0, .int .i64 (n : Int)] w (GrowRes w) := by
  by_cases h0 : n = 0
  · subst h0
    have FIN : Hid (GrowRes w (.returned (.slice none 0 0)) w) := Lib.hid ⟨_, rfl, own_nil _ _ _ _, Below.refl _ _⟩
    go_enter Try.func81, Try.ntmps81
    go_wp2
    go_ret
    exact FIN.out
  · have hpos : 0 < n := by omega
    have hposi : (0 : Int) < (n : Int) := by omega
    obtain ⟨i0, hi, hz0, hz1, hz2⟩ := info_parts info_int
    have HRUN := Lib.hid (fun ty => Lib.run_append_nil_zeros (P := Try.prog) w 26 3 ty 3 i0 (.int .i64 0) .i64 .i64 Try.underlying26 Try.underlying3 hi hz0 n hpos (by omega) (by omega) (by rw [hz2]; omega))
    have hcap := grownCap_ge w n 0 3
    have hcm := grownCap_le_maxLen w n 0 3 (by unfold maxLen; omega)
    generalize grownCap w n 0 3 = c at hcap hcm HRUN
    have FIN : Hid (GrowRes w (.returned (.slice (some ⟨w.heap.size, 0, none⟩) 0 c)) (w.drew.alloc (.cells (Builtin.zeroCells (Value.int IntKind.i64 0).cells n ++ Builtin.zeroCells (Value.int IntKind.i64 0).cells (c - n)) 3))) := Lib.hid ⟨_, rfl, ⟨rfl, .inr ⟨w.heap.size, c, _, rfl, Nat.le_refl _, World.alloc_heap_new w.drew _, Nat.zero_le _, hcm, by simp [Builtin.zeroCells, Value.cells]; omega, by simp⟩⟩, (Below.refl _ _).drew.alloc (Nat.le_refl _) _⟩
    clear hcm
    clear h0
    go_enter Try.func81, Try.ntmps81
    go_wp2_with (at_builtin; refine Lib.wpList_append_run _ rfl _ _ _ _ rfl _ _ rfl rfl _ _ (HRUN.out _) ?_)
    go_ret
    exact FIN.out
def CatRes (D : List (List Nat)) (w : World) (e : Ending) (w' : World) : Prop := ∃ v, e = .returned v ∧ w'.ownsRow w.heap.size 3 1 v (nv D.flatten).length (iv (nv D.flatten)) ∧ Below w.heap.size w w'
theorem flat_take {D : List (List Nat)} {j : Nat} {X : List Nat} (h : D[j]? = some X) : (D.take (j + 1)).flatten = (D.take j).flatten ++ X := by
  rw [List.take_add_one, h]; simp
theorem flat_le (D : List (List Nat)) (j : Nat) : (D.take j).flatten.length ≤ D.flatten.length := by
  have : D.flatten = (D.take j).flatten ++ (D.drop j).flatten := by rw [← List.flatten_append, List.take_append_drop]
  rw [this, List.length_append]; omega
set_option maxRecDepth 100000 in
set_option maxHeartbeats 4000000 in
theorem concat_any (u : Value) (D : List (List Nat)) (B : Nat) (w : World) (h : WR w B u D) (hD : D.length ≤ 100000) (hF : D.flatten.length ≤ 1000000) :
    Calls Try.prog 69 #[u] w (CatRes D w) := by
  have H := Lib.hid h
  obtain ⟨a, c, rfl, _⟩ := h
  have HF := Lib.hid hF
  obtain ⟨m, hm⟩ : ∃ m, D.length = m := ⟨_, rfl⟩
  have HM := Lib.hid hm
  rw [hm] at hD ⊢
  clear hF hm
  go_enter Try.func69, Try.ntmps69
  go_wp2_with fail
  go_loopw [3, 11] (fun t i wr => ∃ (j s : Nat), j ≤ m ∧ t = .int .i64 (s : Int) ∧ i = .int .i64 (j : Int) ∧ Hid (s = (D.take j).flatten.length) ∧ w = wr) (fun _ i _ => m - (intOf i).toNat)
  case atStart => exact ⟨0, 0, Nat.zero_le _, rfl, rfl, Lib.hid (by simp), rfl⟩
  case round =>
    obtain ⟨j, s, hj, rfl, rfl, HS, rfl⟩ := hrel
    by_cases hjm : j < m
    · obtain ⟨X, hX⟩ : ∃ X, D[j]? = some X := ⟨_, List.getElem?_eq_getElem (by rw [HM.out]; exact hjm)⟩
      obtain ⟨a', c', e1, h2⟩ := H.out
      obtain ⟨g, rfl, -, h3, h4⟩ := h2 (by rw [HM.out]; omega)
      injection e1 with e1 _ e3
      subst e1; subst e3
      obtain ⟨x, c0, hIRb⟩ := h4 j X hX
      have hIR := hIRb.ir
      clear hIRb
      obtain ⟨ax, cx, rfl⟩ := hIR.shape
      have hfl := flat_take hX
      have hle := flat_le D (j + 1)
      rw [hfl, List.length_append] at hle
      have HFL : Hid (s + (nv X).length = (D.take (j + 1)).flatten.length) := Lib.hid (by rw [hfl, List.length_append, HS.out, nv_len])
      have hsb : s + (nv X).length ≤ 1000000 := by rw [nv_len, HS.out]; have := HF.out; omega
      generalize (nv X).length = l at *
      have hwr : IntKind.i64.wrap ((s : Int) + (l : Int)) = (s : Int) + (l : Int) := by rw [IntKind.wrap_i64]; omega
      have hneg : decide ((s : Int) + (l : Int) < 0) = false := by simp; omega
      clear hIR hfl hle h4 h2 HS hX
      go_wp2
      go_roundw
      case rel => exact ⟨j + 1, s + l, by omega, by go_num, by go_num, HFL, by first | rfl | trivial⟩
      case measure => simp [intOf]; omega
    · obtain rfl : j = m := by omega
      have hs : s = (nv D.flatten).length := by rw [HS.out, nv_len, List.take_of_length_le (by rw [HM.out]; exact Nat.le_refl _)]
      have HG := Lib.hid (grow_any s w (by rw [hs, nv_len]; exact HF.out))
      clear hs HS
      go_wp2_with fail
      refine HG.out.mono ?_
      rintro e w2 ⟨v, rfl, ho, hb2⟩
      have HS2 : Hid (w2.ownsRow w.heap.size 3 1 v (nv (D.take 0).flatten).length (iv (nv (D.take 0).flatten)) ∧ Below w.heap.size w w2) := Lib.hid ⟨by simpa [nv, iv] using ho, hb2⟩
      obtain ⟨av, cv, rfl⟩ := own_shape ho
      clear ho hb2 HG
      go_wp2_with fail
      go_loopw [6, 27] (fun t i w3 => ∃ l : Nat, l ≤ j ∧ (∃ a n c, t = .slice a n c) ∧ i = .int .i64 (l : Int) ∧ Hid (w3.ownsRow w.heap.size 3 1 t (nv (D.take l).flatten).length (iv (nv (D.take l).flatten)) ∧ Below w.heap.size w w3)) (fun _ i _ => j - (intOf i).toNat)
      case atStart => exact ⟨0, by omega, ⟨_, _, _, rfl⟩, rfl, HS2⟩
      case round =>
        obtain ⟨l, hl, ⟨a3, n3, k3, rfl⟩, rfl, HK⟩ := hrel
        clear HS2
        by_cases hlj : l < j
        · obtain ⟨X, hX⟩ : ∃ X, D[l]? = some X := ⟨_, List.getElem?_eq_getElem (by rw [HM.out]; exact hlj)⟩
          obtain ⟨a', c', e1, h2⟩ := H.out
          obtain ⟨g, rfl, -, h3, h4⟩ := h2 (by rw [HM.out]; omega)
          injection e1 with e1 _ e3
          subst e1; subst e3
          obtain ⟨x, c0, hIRb⟩ := h4 l X hX
          have hIR := hIRb.ir
          clear hIRb
          obtain ⟨ax, cx, rfl⟩ := hIR.shape
          have c0 : wr.cell? ⟨g, l, none⟩ = some (.slice ax (nv X).length cx) := (HK.out.2.cell (p := ⟨g, l, none⟩) h3).trans c0
          have hfl := flat_take hX
          have hle := flat_le D (l + 1)
          have hF := HF.out
          obtain ⟨v5, w5, hr5, ha5⟩ := run_appI 26 HK.out.1 (hIR.below HK.out.2) (by rw [nv_len, nv_len]; rw [hfl, List.length_append] at hle; omega) HK.out.2.size
          rw [← nv_app, ← hfl] at ha5
          have HN : Hid (w5.ownsRow w.heap.size 3 1 v5 (nv (D.take (l + 1)).flatten).length (iv (nv (D.take (l + 1)).flatten)) ∧ Below w.heap.size w w5) := Lib.hid ⟨ha5.1, HK.out.2.grown ha5.2.1 HK.out.2.size (fun k hk => own_ge HK.out.1 k hk)⟩
          obtain ⟨a5, c5, e5⟩ := own_shape ha5.1
          have HR := Lib.hid hr5
          rw [e5] at HN HR
          generalize (nv X).length = lx at *
          clear hIR hfl hle h4 h2 hX hr5 ha5 e5 HK hF
          go_wp2_with (at_builtin; refine wpList_run rfl _ _ rfl rfl rfl HR.out ?_)
          go_roundw
          case rel => exact ⟨l + 1, by omega, ⟨_, _, _, rfl⟩, by go_num, HN⟩
          case measure => simp [intOf]; omega
        · obtain rfl : l = j := by omega
          have FIN : Hid (CatRes D w (.returned (.slice a3 n3 k3)) wr) := Lib.hid ⟨_, rfl, by
            have h := HK.out.1
            rw [List.take_of_length_le (by rw [HM.out]; exact Nat.le_refl _)] at h
            exact h, HK.out.2⟩
          clear HK
          go_wp2
          go_ret
          exact FIN.out
end Go.Proofs.Ythodggkpkjfggaa.Knot
