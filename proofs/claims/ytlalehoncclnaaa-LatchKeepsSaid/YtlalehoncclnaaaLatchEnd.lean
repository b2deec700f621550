/- A client's locks: End. -/
import Derived.Test.YtlalehoncclnaaaLatchEnd0
namespace Go.Proofs.Ytlalehoncclnaaa.Latch
set_option maxRecDepth 100000
open Go.RowKit
open Go.Proofs.Ytlalehoncclnaaa.Mem
open Go.Maps
def EndRes (p : Nat) (M : Nat → Prop) (L : LS) (w : World) (e : Ending) (w' : World) : Prop :=
  ∃ v, e = .returned v ∧ w'.ownsRow w.heap.size 50 2 v (endO L).length (letsV (endO L)) ∧ TQ w' p (fun k => M k ∨ v.ownBlock = some k) (endL L) ∧ Keep M w w'
structure EndAt (p hb ub : Nat) (L : LS) (w : World) (v0 v : Value) (j : Nat) (wr : World) : Prop where
  rv : RW wr p hb ub (L.length + j) L.length (fE L j) (useF L)
  ks : wr.ownsRow w.heap.size 3 1 v0 ((uL L).map (·.pg)).length (((uL L).map (·.pg)).map (Value.int .i64))
  os : wr.ownsRow w.heap.size 50 2 v (outE L j).length (letsV (outE L j))
  ne : ∀ g, v0.ownBlock = some g → v.ownBlock ≠ some g
  kp : Keep (fun k => k < w.heap.size ∧ k ≠ hb) w wr
  lo : p < w.heap.size ∧ hb < w.heap.size ∧ ub < w.heap.size
theorem own_ge {w : World} {base n size : Nat} {t : TypeId} {v : Value} {xs : List Value} (h : w.ownsRow base t size v n xs) : ∀ g, v.ownBlock = some g → base ≤ g := fun g hg => by
  obtain ⟨_, ⟨rfl, _⟩ | ⟨g', cap, cur, rfl, hb, hc, h1⟩⟩ := h
  · cases hg
  · cases hg; exact hb
section
variable {p hb ub : Nat} {L : LS} {w wr w2 : World} {v0 v : Value} {j : Nat} {k : Lk}
/-- a lock is let go -/
theorem EndAt.gone (h : EndAt p hb ub L w v0 v j wr) {n : Nat} {f : Int → Option Value} (hr : RW w2 p hb ub n L.length f (useF L)) (hn : n ≤ L.length + (j + 1)) (hf : ∀ q, f q = fE L (j + 1) q) (kp : Keep (Ex hb) wr w2) :
    RW w2 p hb ub (L.length + (j + 1)) L.length (fE L (j + 1)) (useF L) ∧ w2.ownsRow w.heap.size 3 1 v0 ((uL L).map (·.pg)).length (((uL L).map (·.pg)).map (Value.int .i64)) ∧
      w2.ownsRow w.heap.size 50 2 v (outE L j).length (letsV (outE L j)) ∧ Keep (fun k => k < w.heap.size ∧ k ≠ hb) w w2 := by
  have hl := h.lo
  refine ⟨(hr.mono hn).ext hf, own_same h.ks fun g hg => kp.block g fun e => ?_, own_same h.os fun g hg => kp.block g fun e => ?_, h.kp.trans (kp.mono fun k hk => hk.2)⟩
  · have := own_ge h.ks g hg; omega
  · have := own_ge h.os g hg; omega
theorem EndAt.skip (h : EndAt p hb ub L w v0 v j wr) (hO : Ok L) (hk : (uL L)[j]? = some k) (hw : k.wt = 0) : EndAt p hb ub L w v0 v (j + 1) wr := by
  have hm := (uL_mem (List.mem_of_getElem? hk)).1
  have hl : letF k = none := by unfold letF; rw [if_pos hw]
  have e : outE L (j + 1) = outE L j := by rw [outE_step hk, hl]; simp
  refine ⟨(h.rv.ext fun q => ?_).mono (by omega), h.ks, by rw [e]; exact h.os, h.ne, h.kp, h.lo⟩
  rw [fE_step hk]
  by_cases e : q = k.pg
  · rw [if_pos e, e, hasF_end hO hm, if_neg (by omega)]
    unfold fE
    split
    · rw [hasF_end hO hm, if_neg (by omega)]
    · unfold hasF
      rw [at_of_mem hO.1 hm]
      simp [lvlK, hw]
  · rw [if_neg e]
/-- .. and told -/
theorem EndAt.told (h : EndAt p hb ub L w v0 v j wr) (hk : (uL L)[j]? = some k) {kp : Bool} (hl : letF k = some (k.pg, kp))
    (h2 : RW w2 p hb ub (L.length + (j + 1)) L.length (fE L (j + 1)) (useF L) ∧ w2.ownsRow w.heap.size 3 1 v0 ((uL L).map (·.pg)).length (((uL L).map (·.pg)).map (Value.int .i64)) ∧
      w2.ownsRow w.heap.size 50 2 v (outE L j).length (letsV (outE L j)) ∧ Keep (fun k => k < w.heap.size ∧ k ≠ hb) w w2)
    {W3 w4 : World} (b3 : Below w2.heap.size w2 W3) {v' : Value} (ho : w4.ownsRow w.heap.size 50 2 v' ((outE L j).length + 1) (letsV (outE L j ++ [(k.pg, kp)]))) (hg : W3.grownBy w4 v.ownBlock) (hv : v'.ownBlock = v.ownBlock ∨ v'.ownBlock = some W3.heap.size) :
    EndAt p hb ub L w v0 v' (j + 1) w4 := by
  obtain ⟨r2, k2, o2, kk2⟩ := h2
  have hlo := h.lo
  have e : outE L (j + 1) = outE L j ++ [(k.pg, kp)] := by rw [outE_step hk, hl]; rfl
  have r3 := r2.below b3
  have k3 := own_below k2 b3
  have hge := own_ge o2
  have hs := kk2.size
  have kk3 : Keep (fun k => k < w.heap.size ∧ k ≠ hb) w W3 := kk2.trans (Keep.of_below b3 fun k hk => Nat.lt_of_lt_of_le hk.1 hs)
  refine ⟨r3.grown hg fun g hg => ?_, own_same k3 fun g hg' => ?_, by rw [e, List.length_append]; exact ho, fun g hg' e2 => ?_, kk3.grown hg (fun k hk => Nat.lt_of_lt_of_le hk.1 (Nat.le_trans hs b3.size)) (fun k hk hc => by have := hge k hk; omega), hlo⟩
  · have := hge g hg; omega
  · exact hg.block g (own_lt k3 hg') fun e2 => h.ne g hg' e2.symm
  · rcases hv with hv | hv
    · exact h.ne g hg' (hv ▸ e2)
    · have := own_lt k3 hg'
      rw [hv] at e2
      injection e2 with e2
      omega
/-- at the end -/
theorem EndAt.done (h : EndAt p hb ub L w v0 v j wr) (hO : Ok L) (hj : j = (uL L).length) {M : Nat → Prop} (o0 : ¬ M p) (o1 : ¬ M hb) (ml : ∀ k, M k → k < w.heap.size) :
    EndRes p M L w (.returned v) ((wr.alloc (.map #[] 0)).setCell ⟨p, 1, none⟩ (.map (some wr.heap.size))) := by
  have hlo := h.lo
  have hs := h.kp.size
  have hpl := h.rv.top.lt
  have hO2 := ok_end hO
  have ho := h.os
  rw [hj, outE_end hO] at ho
  have hvp : v.ownBlock ≠ some p := fun e => by have := own_ge ho p e; omega
  have hna : ∀ (k : Nat), k < wr.heap.size → k ≠ p → ((wr.alloc (.map #[] 0)).setCell ⟨p, 1, none⟩ (.map (some wr.heap.size))).heap[k]? = wr.heap[k]? := fun k hk hp => (Below.heap_setCell _ ⟨p, 1, none⟩ _ k hp).trans (Below.heap_alloc _ _ k hk)
  refine ⟨v, rfl, own_set (own_below ho ((Below.refl _ wr).alloc (Nat.le_refl _) _)) hvp 1 _, ⟨hb, wr.heap.size, {
    ok := hO2
    top := by simpa using (h.rv.top.alloc (.map #[] 0)).set_ 1 (.map (some wr.heap.size))
    hm := by
      have h1 := (h.rv.hm.same (hna hb h.rv.hm.lt h.rv.np.1)).ext (g := hasF (endL L)) fun q => by rw [hj]; exact fE_end hO q
      have := h1.fit (ks := pagesL (endL L)) (fun q hq => has_mem hq)
      rwa [pages_length] at this
    um := by
      have h1 := (map_made wr).same (w' := (wr.alloc (.map #[] 0)).setCell ⟨p, 1, none⟩ (.map (some wr.heap.size))) (Below.heap_setCell _ ⟨p, 1, none⟩ _ _ (fun e => by have e2 : wr.heap.size = p := e; omega))
      exact (h1.ext fun q => (useF_end hO q).symm).mono (Nat.zero_le _)
    nu := by omega
    o0 := fun e => e.elim o0 hvp
    o1 := fun e => e.elim o1 fun e => by have := own_ge ho hb e; omega
    o2 := fun e => e.elim (fun e => by have := ml _ e; omega) fun e => by have := own_lt ho e; omega
    ml := fun k hk => by
      simp
      rcases hk with hk | hk
      · have := ml k hk; omega
      · have := own_lt ho hk; omega }⟩, ?_⟩
  refine (((h.kp.mono (M' := M) fun k hk => ⟨ml k hk, fun e => o1 (e ▸ hk)⟩).alloc (fun k hk => ?_) _).set_ o0 1 _)
  have := ml k hk; omega
end
set_option maxRecDepth 100000 in
set_option maxHeartbeats 8000000 in
theorem end_any (p : Nat) (M : Nat → Prop) (L : LS) (w : World) (h : TQ w p M L) (hn : L.length ≤ 1000000) :
    Calls Try.prog 16 #[.pointer (some ⟨p, 0, none⟩)] w (EndRes p M L w) := by
  obtain ⟨hb, ub, h⟩ := h
  have c1 := h.topc.2.1
  have hO := Lib.hid h.ok
  have HK := Lib.hid (keysU_any (some ub) w)
  have HS := Lib.hid (sortedU_any h.um hn (uL_up h.ok.1) (uL_keys h.ok.1))
  have hbx : Below w.heap.size w (w.alloc (.cells #[.map (some ub)] 54)) := (Below.refl w.heap.size w).alloc (Nat.le_refl _) _
  have HZ := Lib.hid (show (w.alloc (.cells #[.map (some ub)] 54)).heap.size = w.heap.size + 1 by simp)
  have HB := Lib.hid hbx
  have HT := Lib.hid h
  have qn := run_eql' p
  have hul : (uL L).length ≤ 1000000 := Nat.le_trans (List.length_filter_le _ _) hn
  have hnl : ((uL L).map (·.pg)).length = (uL L).length := by simp
  have HNL := Lib.hid hnl
  have HSM := Lib.hid h.sm
  clear h hbx hnl
  go_enter Try.func16, Try.ntmps16
  go_wp2_with fail
  refine HK.out.mono ?_
  rintro e w1 ⟨rfl, rfl⟩
  go_wp2_with fail
  refine HS.out.mono ?_
  rintro e w1 ⟨v0, rfl, hr, hb1⟩
  have hr0 := own_low (B := w.heap.size) hr (by rw [HZ.out]; omega)
  have HB1 := Lib.hid (HB.out.trans (hb1.mono (by rw [HZ.out]; omega)))
  have HE0 : Hid (EndAt p hb ub L w v0 (.slice none 0 0) 0 w1) := Lib.hid {
    rv := by
      have h1 := HT.out.below HB1.out
      exact ⟨h1.top, (h1.hm.ext fun q => (fE_zero q).symm).mono (by omega), h1.um, h1.nu⟩
    ks := hr0
    os := own_nil _ _ _ _
    ne := fun g _ e => by cases e
    kp := Keep.of_below HB1.out fun k hk => hk.1
    lo := ⟨HT.out.top.lt, HT.out.hm.lt, HT.out.um.lt⟩ }
  obtain ⟨a0, cc, rfl⟩ := own_shape hr0
  rw [HNL.out] at HE0 ⊢
  clear hr hb1 hr0 HK HS HB HZ HB1
  generalize hnn : (uL L).length = n at *
  have HN := Lib.hid hnn
  clear hnn
  have hmm := @run_makeMap Try.prog
  go_wp2_with fail
  have HLN := Lib.hid hn
  clear hn
  go_loopw [3, 16] (fun v i wr => ∃ j : Nat, j ≤ n ∧ i = .int .i64 (j : Int) ∧ Hid (EndAt p hb ub L w (.slice a0 n cc) v j wr)) (fun _ i _ => n - (intOf i).toNat)
  case atStart => exact ⟨0, Nat.zero_le _, rfl, HE0⟩
  case round =>
    obtain ⟨j, hj, rfl, HE⟩ := hrel
    clear HE0
    obtain ⟨av, cv, hv9⟩ := own_shape HE.out.os
    subst hv9
    by_cases hlt : j < n
    · have hx : (uL L)[j]? = some ((uL L)[j]'(by rw [HN.out]; exact hlt)) := List.getElem?_eq_getElem _
      generalize (uL L)[j]'(by rw [HN.out]; exact hlt) = k at hx
      obtain ⟨g, c9, e9, -, -, d0⟩ := own_pos HE.out.ks (by rw [HNL.out]; omega)
      have d1 := d0 j (by rw [HNL.out]; omega)
      rw [List.getElem?_map, List.getElem?_map, hx] at d1
      injection e9 with e9 e7 e8
      subst e9
      clear d0 e7 e8
      have hsm : Sm k.pg := HSM.out k (uL_mem (List.mem_of_getElem? hx)).1
      have hus := (uL_mem (List.mem_of_getElem? hx)).2
      have hat := at_of_mem hO.out.1 (uL_mem (List.mem_of_getElem? hx)).1
      have hw2 := (hO.out.2 k (uL_mem (List.mem_of_getElem? hx)).1).2.1
      have c1' := HE.out.rv.top.cell 1
      have hlu := HE.out.rv.um.look Try.underlying54 (zero_u wr) hsm
      rw [useF_get] at hlu
      have e1 : staysI k.pg L = 2 - (k.wt : Int) := by unfold staysI; rw [hat]; dsimp only; rw [if_neg (by omega)]
      have e2 : usedL k.pg L = k.us := by unfold usedL; rw [hat]
      rw [e1, e2] at hlu
      have HX := Lib.hid hx
      have HW := Lib.hid hw2
      clear hx hat e1 e2 hus hw2
      obtain ⟨pg, kx, us, wt⟩ := k
      dsimp only [Option.map_some] at d1 hsm hlu
      have d0 : wr.cell? ⟨g, j, none⟩ = some (.int .i64 pg) := d1
      have hf : ∀ (st : Int) (W : World), (Instr.field 59 (.agg #[.int .i64 us, .int .i64 st]) 1).run Try.prog W = .ok (.int .i64 st) W := fun st W => by kernel_rfl
      clear d1
      obtain rfl | rfl | rfl : wt = 0 ∨ wt = 1 ∨ wt = 2 := by have := HW.out; dsimp only at this; omega
      · change _ = Result.ok (Value.agg #[.int .i64 us, .int .i64 2]) wr at hlu
        have HE2 := Lib.hid (HE.out.skip hO.out HX.out rfl)
        clear HE
        go_wp2
        go_roundw
        case rel => exact ⟨j + 1, by omega, by go_num, HE2⟩
        case measure => simp [intOf]; omega
      · change _ = Result.ok (Value.agg #[.int .i64 us, .int .i64 1]) wr at hlu
        have hlf : letF ⟨pg, kx, us, 1⟩ = some (pg, true) := rfl
        have HLF := Lib.hid hlf
        have HG := Lib.hid (letGoR_x HE.out.rv hsm (by have := HLN.out; omega))
        have HFE : Hid (∀ q, (if q = pg then some (.int .i64 1) else fE L j q) = fE L (j + 1) q) := Lib.hid fun q => by
          rw [fE_step HX.out]
          have h9 := hasF_end hO.out (uL_mem (List.mem_of_getElem? HX.out)).1
          simp at h9
          rw [h9]
        clear hlf
        go_wp2_with fail
        refine HG.out.mono ?_
        rintro e w2 ⟨rfl, r2, k2⟩
        have HGO := Lib.hid (HE.out.gone r2 (by omega) HFE.out k2)
        clear r2 k2 HG HFE c1' hlu d0
        have OW := Lib.hid (own_below HGO.out.2.2.1 ((Below.refl _ w2).alloc (Nat.le_refl _) (.cells #[.int .i64 pg, .bool true] 50)))
        have BW := Lib.hid (show w.heap.size ≤ (w2.alloc (.cells #[.int .i64 pg, .bool true] 50)).heap.size by have := HGO.out.2.2.2.size; simp; omega)
        have HOL := Lib.hid (outE_len (L := L) j)
        go_wp2_with (at_builtin; refine wpList_appL rfl _ _ rfl w.heap.size _ (outE L j) rfl OW.out w2.heap.size (pg, true) rfl (Blk.new w2 _ _) (by have := HOL.out; have := HLN.out; omega) BW.out ?_)
        intro v2 w4 ho hg hv
        have HE2 := Lib.hid (HE.out.told HX.out HLF.out HGO.out ((Below.refl _ w2).alloc (Nat.le_refl _) (.cells #[.int .i64 pg, .bool true] 50)) ho hg (hv.imp_right fun e => by rw [e, World.size_alloc]))
        clear ho hg hv OW BW HOL HGO HE HLF
        go_wp2
        go_roundw
        case rel => exact ⟨j + 1, by omega, by go_num, HE2⟩
        case measure => simp [intOf]; omega
      · change _ = Result.ok (Value.agg #[.int .i64 us, .int .i64 0]) wr at hlu
        have hlf : letF ⟨pg, kx, us, 2⟩ = some (pg, false) := rfl
        have HLF := Lib.hid hlf
        have HG := Lib.hid (letGoR_all HE.out.rv hsm)
        have HFE : Hid (∀ q, (if q = pg then none else fE L j q) = fE L (j + 1) q) := Lib.hid fun q => by
          rw [fE_step HX.out]
          have h9 := hasF_end hO.out (uL_mem (List.mem_of_getElem? HX.out)).1
          simp at h9
          rw [h9]
        clear hlf
        go_wp2_with fail
        refine HG.out.mono ?_
        rintro e w2 ⟨rfl, r2, k2⟩
        have HGO := Lib.hid (HE.out.gone r2 (by omega) HFE.out k2)
        clear r2 k2 HG HFE c1' hlu d0
        have OW := Lib.hid (own_below HGO.out.2.2.1 ((Below.refl _ w2).alloc (Nat.le_refl _) (.cells #[.int .i64 pg, .bool false] 50)))
        have BW := Lib.hid (show w.heap.size ≤ (w2.alloc (.cells #[.int .i64 pg, .bool false] 50)).heap.size by have := HGO.out.2.2.2.size; simp; omega)
        have HOL := Lib.hid (outE_len (L := L) j)
        go_wp2_with (at_builtin; refine wpList_appL rfl _ _ rfl w.heap.size _ (outE L j) rfl OW.out w2.heap.size (pg, false) rfl (Blk.new w2 _ _) (by have := HOL.out; have := HLN.out; omega) BW.out ?_)
        intro v2 w4 ho hg hv
        have HE2 := Lib.hid (HE.out.told HX.out HLF.out HGO.out ((Below.refl _ w2).alloc (Nat.le_refl _) (.cells #[.int .i64 pg, .bool false] 50)) ho hg (hv.imp_right fun e => by rw [e, World.size_alloc]))
        clear ho hg hv OW BW HOL HGO HE HLF
        go_wp2
        go_roundw
        case rel => exact ⟨j + 1, by omega, by go_num, HE2⟩
        case measure => simp [intOf]; omega
    · obtain rfl : j = n := by omega
      have HD := Lib.hid (HE.out.done hO.out HN.out.symm HT.out.o0 HT.out.o1 HT.out.ml)
      have f1 := (HE.out.rv.top.alloc (.map #[] 0)).frozen 1
      have c1' := (HE.out.rv.top.alloc (.map #[] 0)).cell 1
      clear HE
      go_wp2
      go_ret
      exact HD.out
end Go.Proofs.Ytlalehoncclnaaa.Latch
