/- The document's own: in, back. -/
import Derived.Test.YthodggkpkjfggaaKnotInner
namespace Go.Proofs.Ythodggkpkjfggaa.Knot
set_option maxRecDepth 100000
open Go.RowKit
open Go.Proofs.Ythodggkpkjfggaa.Mem
set_option maxRecDepth 100000 in
set_option maxHeartbeats 1000000 in
theorem in_any (v : Value) (zs : List Int) (x : Int) (w : World) (h : IR w v zs) (hn : zs.length ≤ 1000000) :
    Calls Try.prog 36 #[v, .int .i64 x] w fun e w' => e = .returned (.bool (decide (x ∈ zs))) ∧ w = w' := by
  have H := Lib.hid h
  obtain ⟨a, c, rfl⟩ := h.shape
  obtain ⟨m, hm⟩ : ∃ m, zs.length = m := ⟨_, rfl⟩
  have HM := Lib.hid hm
  rw [hm] at hn
  obtain ⟨D, hD⟩ : ∃ D, decide (x ∈ zs) = D := ⟨_, rfl⟩
  rw [hD, hm]
  have HD := Lib.hid hD
  clear h hm hD
  go_enter Try.func36, Try.ntmps36
  go_wp2_with fail
  go_loopw [5] (fun i wr => ∃ j : Nat, j ≤ m ∧ i = .int .i64 (j : Int) ∧ Hid (x ∉ zs.take j) ∧ w = wr) (fun i _ => m - (intOf i).toNat)
  case atStart => exact ⟨0, Nat.zero_le _, rfl, Lib.hid (by simp), rfl⟩
  case round =>
    obtain ⟨j, hj, rfl, HK, rfl⟩ := hrel
    by_cases hjm : j < m
    · obtain ⟨y, hy⟩ : ∃ y, zs[j]? = some y := ⟨_, List.getElem?_eq_getElem (by rw [HM.out]; exact hjm)⟩
      obtain ⟨b, off, c', e1, -, -, c0⟩ := H.out.at_ hy
      injection e1 with e1 _ e3
      subst e1; subst e3
      by_cases e : y = x
      · subst e
        obtain rfl : D = true := by rw [← HD.out]; simpa using List.mem_of_getElem? hy
        clear HK H hy
        go_wp2
        go_ret
        exact ⟨rfl, rfl⟩
      · have g1 : (y == x) = false := by simpa using e
        have HN : Hid (x ∉ zs.take (j + 1)) := Lib.hid (by
          rw [take_snoc hy]
          intro h
          rcases List.mem_append.1 h with h | h
          · exact HK.out h
          · exact e (List.mem_singleton.1 h).symm)
        clear HK hy e
        go_wp2
        go_roundw
        case rel => exact ⟨j + 1, by omega, by go_num, HN, by first | rfl | trivial⟩
        case measure => simp [intOf]; omega
    · obtain rfl : j = m := by omega
      obtain rfl : D = false := by
        rw [← HD.out]
        have := HK.out
        rw [List.take_of_length_le (by rw [HM.out]; exact Nat.le_refl _)] at this
        simpa using this
      clear HK H
      go_wp2
      go_ret
      exact ⟨rfl, rfl⟩
/-! back -/
/-- what is kept: S was seen; of the i-th that was come by the first j edges were looked at -/
structure BK (L : List Ed) (k : Int) (S : List Int) (i j : Nat) : Prop where
  nd : S.Nodup
  nk : k ∉ S
  rc : ∀ x ∈ S, ∃ t, (⟨k, t⟩ : Ed) ∈ L ∧ Rch L t x
  sub : ∀ x ∈ S, x ∈ L.map Ed.t
  done : ∀ q, q < i → ∀ e ∈ L, (k :: S)[q]? = some e.f → e.t ∈ S
  part : ∀ e ∈ L.take j, (k :: S)[i]? = some e.f → e.t ∈ S
section
variable {L : List Ed} {k : Int} {S : List Int} {i j : Nat}
theorem BK.start (L : List Ed) (k : Int) : BK L k [] 0 0 := ⟨by simp, by simp, by simp, by simp, fun q hq => by omega, by simp⟩
theorem BK.len (h : BK L k S i j) : S.length ≤ L.length := by
  have := nodup_len S (L.map Ed.t) h.nd h.sub
  simpa using this
theorem cons_app {S : List Int} {k y : Int} {q : Nat} (hq : q ≤ S.length) : (k :: (S ++ [y]))[q]? = (k :: S)[q]? := by
  have e : k :: (S ++ [y]) = (k :: S) ++ [y] := rfl
  rw [e, List.getElem?_append_left (by simp; omega)]
/-- the next edge is from elsewhere, or leads to where it was -/
theorem BK.next (h : BK L k S i j) {e : Ed} (he : L[j]? = some e) (hp : (k :: S)[i]? = some e.f → e.t ∈ S) : BK L k S i (j + 1) := by
  refine ⟨h.nd, h.nk, h.rc, h.sub, h.done, fun e' he' hi => ?_⟩
  rw [take_snoc he] at he'
  rcases List.mem_append.1 he' with h1 | h1
  · exact h.part e' h1 hi
  · obtain rfl := List.mem_singleton.1 h1
    exact hp hi
theorem BK.from (h : BK L k S i j) {x : Int} (hx : (k :: S)[i]? = some x) {y : Int} (he : (⟨x, y⟩ : Ed) ∈ L) : ∃ t, (⟨k, t⟩ : Ed) ∈ L ∧ Rch L t y := by
  rcases List.mem_cons.1 (List.mem_of_getElem? hx) with rfl | hS
  · exact ⟨y, he, .refl _⟩
  · obtain ⟨t, h1, h2⟩ := h.rc x hS
    exact ⟨t, h1, h2.trans (.one he)⟩
/-- it leads to a new one -/
theorem BK.more (h : BK L k S i j) (hi : i ≤ S.length) {e : Ed} (he : L[j]? = some e) (hx : (k :: S)[i]? = some e.f) (hk : e.t ≠ k) (hn : e.t ∉ S) : BK L k (S ++ [e.t]) i (j + 1) := by
  have hmem := List.mem_of_getElem? he
  refine ⟨?_, ?_, ?_, ?_, fun q hq e' he' hf => ?_, fun e' he' hf => ?_⟩
  · rw [List.nodup_append]
    exact ⟨h.nd, by simp, fun x hx y hy => by simp at hy; subst hy; exact fun e => hn (e ▸ hx)⟩
  · intro hm
    rcases List.mem_append.1 hm with h1 | h1
    · exact h.nk h1
    · exact hk (List.mem_singleton.1 h1).symm
  · intro x hx'
    rcases List.mem_append.1 hx' with h1 | h1
    · exact h.rc x h1
    · obtain rfl := List.mem_singleton.1 h1
      exact h.from hx hmem
  · intro x hx'
    rcases List.mem_append.1 hx' with h1 | h1
    · exact h.sub x h1
    · obtain rfl := List.mem_singleton.1 h1
      exact List.mem_map.2 ⟨e, hmem, rfl⟩
  · rw [cons_app (by omega)] at hf
    exact List.mem_append_left _ (h.done q hq e' he' hf)
  · rw [cons_app hi] at hf
    rw [take_snoc he] at he'
    rcases List.mem_append.1 he' with h1 | h1
    · exact List.mem_append_left _ (h.part e' h1 hf)
    · obtain rfl := List.mem_singleton.1 h1
      simp
/-- all edges were looked at -/
theorem BK.up (h : BK L k S i L.length) : BK L k S (i + 1) 0 := by
  refine ⟨h.nd, h.nk, h.rc, h.sub, fun q hq e he hf => ?_, by simp⟩
  by_cases e1 : q = i
  · subst e1; exact h.part e (by rw [List.take_length]; exact he) hf
  · exact h.done q (by omega) e he hf
theorem BK.found (h : BK L k S i j) {x : Int} (hx : (k :: S)[i]? = some x) (he : (⟨x, k⟩ : Ed) ∈ L) : Cyc L k := by
  obtain ⟨t, h1, h2⟩ := h.from hx he
  exact ⟨t, h1, h2⟩
theorem BK.not_found (h : BK L k S (S.length + 1) 0) : ¬ Cyc L k := by
  rintro ⟨t, h1, h2⟩
  have ht : t ∈ S := h.done 0 (by omega) _ h1 rfl
  have hc := h2.closed (C := fun x => x ∈ S) (fun e he hf => by
    obtain ⟨q, hq⟩ := List.getElem?_of_mem hf
    have hl := (List.getElem?_eq_some_iff.1 hq).1
    exact h.done (q + 1) (by omega) e he (by rw [List.getElem?_cons_succ]; exact hq)) ht
  exact h.nk hc
end
def BackRes (L : List Ed) (k : Int) (w : World) (e : Ending) (w' : World) : Prop := ∃ b : Bool, e = .returned (.bool b) ∧ (b = true ↔ Cyc L k) ∧ Below w.heap.size w w'
def two {α : Type} (a b : α) : Nat → α
  | 0 => a
  | _ => b
theorem two_put0 {α : Type} (a b c : α) : put1 (two a b) 0 c = two c b := by
  funext j
  unfold put1
  cases j <;> rfl
theorem two_put1 {α : Type} (a b c : α) : ∀ j, j < 2 → put1 (two a b) 1 c j = two a c j := by
  intro j hj
  rcases (show j = 0 ∨ j = 1 by omega) with rfl | rfl <;> rfl
set_option maxRecDepth 100000 in
set_option maxHeartbeats 4000000 in
theorem back_any (lv : Value) (L : List Ed) (k : Int) (w : World) (h : ER w lv L) (hl : L.length ≤ 1000) :
    Calls Try.prog 37 #[lv, .int .i64 k] w (BackRes L k w) := by
  have HL := Lib.hid h
  obtain ⟨al, cl, rfl⟩ := h.shape
  obtain ⟨m, hm⟩ : ∃ m, L.length = m := ⟨_, rfl⟩
  have HM := Lib.hid hm
  rw [hm] at hl ⊢
  clear h hm
  have ST : Hid (RF ((w.alloc (.cells #[] 3)).alloc (.cells #[.int .i64 k] 3)) w.heap.size (fun _ => False) 2 (two (.slice (some ⟨w.heap.size, 0, none⟩) 0 0) (.slice (some ⟨w.heap.size + 1, 0, none⟩) 1 1)) (two [] (k :: [])) ∧ Below w.heap.size w ((w.alloc (.cells #[] 3)).alloc (.cells #[.int .i64 k] 3))) := Lib.hid (by
    have h1 := below_box w (.cells #[] 3)
    have h2 := below_box (w.alloc (.cells #[] 3)) (.cells #[.int .i64 k] 3)
    have e1 : (w.alloc (.cells #[] 3)).heap.size = w.heap.size + 1 := by simp
    have b1 := (Blk.new w 3 #[]).below h2 (by omega)
    have b2 := Blk.new (w.alloc (.cells #[] 3)) 3 #[.int .i64 k]
    rw [e1] at b2
    refine ⟨⟨fun q hq => ?_, fun j q hj hq hjq b hb hb' => ?_, fun _ _ _ _ h => h⟩, h1.trans (h2.mono h1.size)⟩
    · rcases (show q = 0 ∨ q = 1 by omega) with rfl | rfl
      · exact ⟨rfl, .inr ⟨w.heap.size, 0, _, rfl, Nat.le_refl _, b1, Nat.le_refl _, by decide, rfl, rfl⟩⟩
      · exact ⟨rfl, .inr ⟨w.heap.size + 1, 1, _, rfl, by omega, b2, Nat.le_refl _, by decide, rfl, rfl⟩⟩
    · rcases (show (j = 0 ∧ q = 1) ∨ (j = 1 ∧ q = 0) by omega) with ⟨rfl, rfl⟩ | ⟨rfl, rfl⟩
      · simp [two, Value.ownBlock] at hb hb'; omega
      · simp [two, Value.ownBlock] at hb hb'; omega)
  go_enter Try.func37, Try.ntmps37
  go_wp2_with fail
  go_loopw [5, 6, 7] (fun t1 t2 ti wr => ∃ (i s c1 c2 : Nat) (a1 a2 : Option Addr), t1 = .slice a1 s c1 ∧ t2 = .slice a2 (s + 1) c2 ∧ ti = .int .i64 (i : Int) ∧ i ≤ s + 1 ∧ s ≤ m ∧ Hid (∃ S : List Int, S.length = s ∧ BK L k S i 0 ∧ RF wr w.heap.size (fun _ => False) 2 (two (.slice a1 s c1) (.slice a2 (s + 1) c2)) (two S (k :: S)) ∧ Below w.heap.size w wr)) (fun _ _ ti _ => m + 2 - (intOf ti).toNat)
  case atStart => exact ⟨0, 0, _, _, _, _, rfl, rfl, rfl, by omega, by omega, Lib.hid ⟨[], rfl, BK.start L k, ST.out⟩⟩
  case round =>
    obtain ⟨i, s, c1, c2, a1, a2, rfl, rfl, rfl, hi, hs, HK⟩ := hrel
    clear ST
    by_cases his : i < s + 1
    · have HK0 : Hid (∃ S : List Int, S.length = s ∧ BK L k S i 0 ∧ RF wr w.heap.size (fun _ => False) 2 (two (.slice a1 s c1) (.slice a2 (s + 1) c2)) (two S (k :: S)) ∧ Below w.heap.size w wr) := HK
      have hdec : decide ((i : Int) < (s : Int) + 1) = true := by simp; omega
      clear HK hi
      go_wp2_with fail
      clear hdec
      go_loopw [5, 6, 8] (fun t1 t2 tj wq => ∃ (j s c1 c2 : Nat) (a1 a2 : Option Addr), t1 = .slice a1 s c1 ∧ t2 = .slice a2 (s + 1) c2 ∧ tj = .int .i64 (j : Int) ∧ j ≤ m ∧ i ≤ s ∧ s ≤ m ∧ Hid (∃ S : List Int, S.length = s ∧ BK L k S i j ∧ RF wq w.heap.size (fun _ => False) 2 (two (.slice a1 s c1) (.slice a2 (s + 1) c2)) (two S (k :: S)) ∧ Below w.heap.size w wq)) (fun _ _ tj _ => m - (intOf tj).toNat)
      case atStart => exact ⟨0, s, _, _, _, _, rfl, rfl, rfl, by omega, by omega, hs, HK0⟩
      case round =>
        clear HK0 hs his
        obtain ⟨j, s, c1, c2, a1, a2, rfl, rfl, rfl, hj, his, hs, HK⟩ := hrel
        by_cases hjm : j < m
        · obtain ⟨S, hSl, hB, hR, hb⟩ := HK.out
          obtain ⟨e, he⟩ : ∃ e, L[j]? = some e := ⟨_, List.getElem?_eq_getElem (by rw [HM.out]; exact hjm)⟩
          obtain ⟨x, hx⟩ : ∃ x, (k :: S)[i]? = some x := ⟨_, List.getElem?_eq_getElem (by simp; omega)⟩
          obtain ⟨bl, c9, g1, -, -, d0, d1⟩ := (HL.out.below hb).at_ he
          injection g1 with g1 g2 g3
          clear g2
          subst g1; subst g3
          have ho1 : wr.ownsRow w.heap.size 3 1 (.slice a2 (s + 1) c2) (k :: S).length (iv (k :: S)) := hR.own 1 (by omega)
          have ho0 : wr.ownsRow w.heap.size 3 1 (.slice a1 s c1) S.length (iv S) := hR.own 0 (by omega)
          obtain ⟨bt, ot, c8, g1, -, -, d2⟩ := (IR.of_own ho1).at_ hx
          injection g1 with g1 g2 g3
          clear g2
          subst g1; subst g3
          have HB := Lib.hid hB
          have HR := Lib.hid hR
          have HBe := Lib.hid hb
          have HSL := Lib.hid hSl
          have HE := Lib.hid he
          have HX := Lib.hid hx
          have HIN := Lib.hid (fun q : Nat => in_any _ S e.t (wr.drewN q) ((IR.of_own ho0).drewN q) (by rw [hSl]; omega))
          rw [hSl] at ho0
          obtain ⟨ef, et⟩ := e
          dsimp only at d0 d1 HIN
          clear hB hR hb hSl he hx ho1 ho0 HK
          by_cases hne : ef = x
          · subst hne
            have g1 : (ef != ef) = false := by simp
            have g2 : (ef == ef) = true := by simp
            go_upto_region 9 with (fail)
            go_quiet (fail)
            obtain ⟨W1, hW1⟩ : ∃ W1, wr.drewN nq = W1 := ⟨_, rfl⟩
            have hR1 : RF W1 w.heap.size (fun _ => False) 2 (two (.slice a1 s c1) (.slice (some ⟨bt, ot, none⟩) (s + 1) c2)) (two S (k :: S)) := by rw [← hW1]; exact HR.out.below (drew_below _ _)
            have hb1 : Below w.heap.size w W1 := by rw [← hW1]; exact HBe.out.trans ((drew_below wr nq).mono HBe.out.size)
            have hI1 : Calls Try.prog 36 #[.slice a1 s c1, .int .i64 et] W1 fun e w' => e = .returned (.bool (decide (et ∈ S))) ∧ W1 = w' := by
              have := HIN.out nq
              rw [hW1] at this
              exact this
            have d1 : W1.cell? ⟨bl, j * 2 + 1, none⟩ = some (.int .i64 et) := by rw [← hW1]; exact d1
            have HR1 := Lib.hid hR1
            have HB1 := Lib.hid hb1
            have HI1 := Lib.hid hI1
            rw [hW1]
            clear hW1 hR1 hb1 hI1 HR HBe HIN d0 d2 g1 g2
            by_cases hk : et = k
            · subst hk
              have FIN : Hid (BackRes L et w (.returned (.bool true)) W1) := Lib.hid ⟨true, rfl, ⟨fun _ => HB.out.found HX.out (List.mem_of_getElem? HE.out), fun _ => rfl⟩, HB1.out⟩
              clear HB HSL HE HX HR1 HB1 HI1
              go_wp2_with fail
              go_ret
              exact FIN.out
            · have g3 : (et == k) = false := by simpa using hk
              obtain ⟨D, hD⟩ : ∃ D, decide (et ∈ S) = D := ⟨_, rfl⟩
              rw [hD] at HI1
              have HD := Lib.hid hD
              clear hD
              go_wp2_with fail
              refine HI1.out.mono ?_
              rintro e w2 ⟨rfl, rfl⟩
              clear HI1
              cases D with
              | true =>
                have hin : et ∈ S := by simpa using HD.out
                have HN : Hid (∃ S : List Int, S.length = s ∧ BK L k S i (j + 1) ∧ RF W1 w.heap.size (fun _ => False) 2 (two (.slice a1 s c1) (.slice (some ⟨bt, ot, none⟩) (s + 1) c2)) (two S (k :: S)) ∧ Below w.heap.size w W1) := Lib.hid ⟨S, HSL.out, HB.out.next HE.out (fun _ => hin), HR1.out, HB1.out⟩
                clear HB HSL HE HX HR1 HB1 d1 g3 hk hin HD
                go_wp2
                go_roundw
                case rel => exact ⟨j + 1, s, _, _, _, _, rfl, rfl, by go_num, by omega, his, hs, HN⟩
                case measure => simp [intOf]; omega
              | false =>
                have hin : et ∉ S := by simpa using HD.out
                have hBN := HB.out.more (by rw [HSL.out]; exact his) HE.out HX.out hk hin
                have hlen := hBN.len
                rw [HM.out] at hlen
                -- seen
                have ho0 : W1.ownsRow w.heap.size 3 1 (.slice a1 s c1) S.length (iv S) := HR1.out.own 0 (by omega)
                have hb9 := below_box W1 (.cells #[.int .i64 et] 3)
                obtain ⟨u9, w9, hr9, ha9⟩ := run_app (ty := 26) (w := W1.alloc (.cells #[.int .i64 et] 3)) Try.underlying26 info_int rfl (by decide) (by decide) (own_below ho0 hb9) (Blk.new W1 3 #[.int .i64 et]) (m := 1) rfl (fun u hu => by simp at hu; subst hu; rfl) (by rw [HSL.out]; omega) (Nat.le_trans HB1.out.size hb9.size)
                have ea : AppRes (W1.alloc (.cells #[.int .i64 et] 3)) w9 w.heap.size 3 1 (two (.slice a1 s c1) (.slice (some ⟨bt, ot, none⟩) (s + 1) c2) 0) u9 (S ++ [et]).length (iv (S ++ [et])) := by rw [List.length_append, iv_app]; exact ha9
                obtain ⟨hR9, hs9⟩ := HR1.out.app (k := 0) (fun _ h => h.elim) (by omega) hb9 ea
                have hbl : bl < W1.heap.size := World.block_lt_of_cell? W1 _ d1
                have hb99 : Below w.heap.size w w9 := (HB1.out.trans (hb9.mono HB1.out.size)).grown ha9.2.1 (Nat.le_trans HB1.out.size hb9.size) (fun q hq => own_ge ho0 q hq)
                have d9 : w9.cell? ⟨bl, j * 2 + 1, none⟩ = some (.int .i64 et) := by
                  obtain ⟨b', c9', g1, -, hb', -, d9⟩ := (HL.out.below hb99).at_ HE.out
                  injection g1 with g1 _ _
                  injection g1 with g1
                  injection g1 with g1 _ _
                  subst g1
                  exact d9
                obtain ⟨a9, k9, e9⟩ := own_shape ha9.1
                rw [HSL.out] at e9
                subst e9
                rw [two_put0, two_put0] at hR9
                -- todo
                have ho1 : w9.ownsRow w.heap.size 3 1 (.slice (some ⟨bt, ot, none⟩) (s + 1) c2) (k :: S).length (iv (k :: S)) := hR9.own 1 (by omega)
                have hb8 := below_box w9 (.cells #[.int .i64 et] 3)
                obtain ⟨u8, w8, hr8, ha8⟩ := run_app (ty := 26) (w := w9.alloc (.cells #[.int .i64 et] 3)) Try.underlying26 info_int rfl (by decide) (by decide) (own_below ho1 hb8) (Blk.new w9 3 #[.int .i64 et]) (m := 1) rfl (fun u hu => by simp at hu; subst hu; rfl) (by rw [List.length_cons, HSL.out]; omega) (Nat.le_trans hb99.size hb8.size)
                have ea8 : AppRes (w9.alloc (.cells #[.int .i64 et] 3)) w8 w.heap.size 3 1 (two (.slice a9 (s + 1) k9) (.slice (some ⟨bt, ot, none⟩) (s + 1) c2) 1) u8 (k :: (S ++ [et])).length (iv (k :: (S ++ [et]))) := by
                  have e : k :: (S ++ [et]) = (k :: S) ++ [et] := rfl
                  rw [e, List.length_append, iv_app]; exact ha8
                obtain ⟨hR8, hs8⟩ := hR9.app (k := 1) (fun _ h => h.elim) (by omega) hb8 ea8
                obtain ⟨a8, k8, e8⟩ := own_shape ha8.1
                rw [List.length_cons, HSL.out] at e8
                subst e8
                have HN : Hid (∃ S : List Int, S.length = s + 1 ∧ BK L k S i (j + 1) ∧ RF w8 w.heap.size (fun _ => False) 2 (two (.slice a9 (s + 1) k9) (.slice a8 (s + 1 + 1) k8)) (two S (k :: S)) ∧ Below w.heap.size w w8) := Lib.hid ⟨S ++ [et], by simp [HSL.out], hBN, hR8.ext (fun q hq => (two_put1 _ _ _ q hq).symm) (fun q hq => (two_put1 _ _ _ q hq).symm), (hb99.trans (hb8.mono hb99.size)).grown ha8.2.1 (Nat.le_trans hb99.size hb8.size) (fun q hq => own_ge ho1 q hq)⟩
                have HR9 := Lib.hid hr9
                have HR8 := Lib.hid hr8
                have hs1 : s + 1 ≤ m := by simp [HSL.out] at hlen; omega
                clear HB HSL HE HX HR1 HB1 g3 hk hin HD hBN hlen ho0 hb9 hr9 ha9 ea hR9 hs9 hbl hb99 ho1 hb8 hr8 ha8 ea8 hR8 hs8
                go_wp2_with (at_builtin; first | (refine wpList_run rfl _ _ rfl rfl rfl HR9.out ?_) | (refine wpList_run rfl _ _ rfl rfl rfl HR8.out ?_))
                go_roundw
                case rel => exact ⟨j + 1, s + 1, _, _, _, _, rfl, rfl, by go_num, by omega, by omega, hs1, HN⟩
                case measure => simp [intOf]; omega
          · have g1 : (ef != x) = true := by simpa using hne
            have g2 : (ef == x) = false := by simpa using hne
            have g3 : decide (ef = x) = false := by simpa using hne
            go_upto_region 9 with (fail)
            go_quiet (fail)
            have HN : Hid (∃ S : List Int, S.length = s ∧ BK L k S i (j + 1) ∧ RF (wr.drewN nq) w.heap.size (fun _ => False) 2 (two (.slice a1 s c1) (.slice (some ⟨bt, ot, none⟩) (s + 1) c2)) (two S (k :: S)) ∧ Below w.heap.size w (wr.drewN nq)) := Lib.hid ⟨S, HSL.out, HB.out.next HE.out (fun h => by rw [HX.out] at h; injection h with h; exact absurd h.symm hne), HR.out.below (drew_below _ _), HBe.out.trans ((drew_below wr nq).mono HBe.out.size)⟩
            clear HB HR HBe HSL HE HX HIN d0 d1 d2 g1 g2 g3 hne
            go_wp2
            go_roundw
            case rel => exact ⟨j + 1, s, _, _, _, _, rfl, rfl, by go_num, by omega, his, hs, HN⟩
            case measure => simp [intOf]; omega
        · obtain rfl : j = m := by omega
          have HN : Hid (∃ S : List Int, S.length = s ∧ BK L k S (i + 1) 0 ∧ RF wr w.heap.size (fun _ => False) 2 (two (.slice a1 s c1) (.slice a2 (s + 1) c2)) (two S (k :: S)) ∧ Below w.heap.size w wr) := Lib.hid (by
            obtain ⟨S, h1, h2, h3⟩ := HK.out
            rw [← HM.out] at h2
            exact ⟨S, h1, h2.up, h3⟩)
          clear HK
          go_wp2
          go_roundw
          case rel => exact ⟨i + 1, s, _, _, _, _, rfl, rfl, by go_num, by omega, hs, HN⟩
          case measure => simp [intOf]; omega
    · obtain rfl : i = s + 1 := by omega
      have FIN : Hid (BackRes L k w (.returned (.bool false)) wr) := Lib.hid (by
        obtain ⟨S, h1, h2, h3, h4⟩ := HK.out
        subst h1
        exact ⟨false, rfl, ⟨fun h => absurd h (by simp), fun h => absurd h h2.not_found⟩, h4⟩)
      clear HK
      go_wp2
      go_ret
      exact FIN.out
end Go.Proofs.Ythodggkpkjfggaa.Knot
