/- The document's own part, Encode, Cost of an entry. -/
import Derived.Test.YtnoplekjdbakkaaQEntRef
import Derived.Test.YtnoplekjdbakkaaQEntEnc
import Derived.Test.YtnoplekjdbakkaaQNibBook
import Derived.Lib.QuietBelow
namespace Go.Proofs.Ytnoplekjdbakkaa.Ent
set_option maxRecDepth 100000
open Go.RowKit Go.Sort
open Go.Proofs.Ytnoplekjdbakkaa.Slab (Blk page_cells ret_bool' ret_int')
open Go.Proofs.Ytnoplekjdbakkaa.Nib (below_next below_drew enc encStr Fits)

theorem arr_eq {a : ByteArray} {l : List UInt8} (h : a.data.toList = l) : a = arr l := by rw [← h]; exact (list_arr a).symm
set_option maxRecDepth 100000 in
set_option maxHeartbeats 1000000 in
theorem rpart_any (u : Bool) (d : ByteArray) (w : World) (hd : d.size ≤ 200) :
    Calls Try.prog 48 #[.agg #[.bool u, .string d]] w fun e w' => e = .returned (.string (arr (slotL u d.data.toList))) ∧ Below w.heap.size w w' := by
  have hb := below_box w (.cells #[.bool u, .string d] 47)
  obtain ⟨c0, c1⟩ := page_cells w (.bool u) (.string d) 47
  cases u with
  | false =>
    have HR := Lib.hid (fun w => Nib.refInt 0 w fits0)
    go_enter Try.func48, Try.ntmps48
    go_wp2_with fail
    refine (HR.out _).mono ?_
    rintro e w1 ⟨rfl, b1⟩
    go_wp2
    go_ret
    exact ⟨rfl, below_next hb b1⟩
  | true =>
    have ha1 : (Nib.encB 1).size ≤ 10 := Nib.encB_le fits1
    have ha2 : (⟨(encStr d.data.toList).toArray⟩ : ByteArray).size ≤ 300 := by
      have := Nib.enc_le (n := (d.data.toList.length : Int)) ⟨by omega, by simp; omega⟩
      show (encStr d.data.toList).toArray.size ≤ 300
      unfold encStr
      simp only [List.size_toArray, List.length_append]
      have h3 : d.data.toList.length = d.size := by simp
      omega
    have HF := Lib.hid (show Nib.encB 1 ++ (⟨(encStr d.data.toList).toArray⟩ : ByteArray) = arr (slotL true d.data.toList) from arr_eq (by rw [app_list, ← Nib.encB_list]; rfl))
    have hI := fun w => Nib.refInt 1 w fits1
    have hS := fun w => Nib.refStr d w (by omega)
    generalize (⟨(encStr d.data.toList).toArray⟩ : ByteArray) = E2 at ha2 HF hS
    generalize Nib.encB 1 = E1 at ha1 HF hI
    have HI := Lib.hid hI
    have HS := Lib.hid hS
    clear hI hS
    go_enter Try.func48, Try.ntmps48
    go_upto_region 3 with (fail)
    generalize hGen : w.alloc (.cells #[.bool true, .string d] 47) = W at hb c0 c1 ⊢
    clear hGen
    have k1 := cell_regrown c1
    have cI : ∀ dd os, Calls Try.prog 22 #[.int .i64 1] (grow (redrawn W dd) os) fun e w'' => e = .returned (.string E1) ∧ ∃ p : Regrown, w'' = grow (redrawn W p.d) p.os := fun dd os => Calls.regrown_of (HI.out _)
    have cS : ∀ dd os, Calls Try.prog 70 #[.string d] (grow (redrawn W dd) os) fun e w'' => e = .returned (.string E2) ∧ ∃ p : Regrown, w'' = grow (redrawn W p.d) p.os := fun dd os => Calls.regrown_of (HS.out _)
    refine wp_region_quiet_below (by kernel_rfl) (by kernel_rfl) ?_
    repeat (go_big_quiet_step (first | (with_reducible exact cI _ _) | (with_reducible exact cS _ _)))
    refine wpQuiet_nil ?_
    intro _ hw'
    obtain ⟨⟨dq, osq⟩, hw''⟩ := hw'
    subst hw''
    have b5 := below_regrown W dq osq
    generalize grow (redrawn W dq) osq = W5 at b5 ⊢
    clear cI cS k1
    go_wp2
    go_ret
    exact ⟨by rw [HF.out]; rfl, below_next hb b5⟩

def bP : Nat → Ent → List UInt8
  | 0, _ => []
  | k + 1, x => bP k x ++ enc (numE k x)
theorem bP_bN (k : Nat) (x : Ent) : bP (k + 1) x = bN k x := by
  induction k with
  | zero => rfl
  | succ k ih => show bP (k + 1) x ++ _ = bN k x ++ _; rw [ih]
theorem bP_len {x : Ent} (h : goodB x = true) (k : Nat) : (bP k x).length ≤ 10 * k := by
  cases k with
  | zero => simp [bP]
  | succ k => rw [bP_bN]; exact bN_len h k
def CRow (w : World) (b : Nat) (vs : List Value) : Prop := ∀ i v, vs[i]? = some v → w.cell? ⟨b, i, none⟩ = some v
theorem CRow.next {w w' : World} {b : Nat} {vs : List Value} (h : CRow w b vs) (hb : Below w.heap.size w w') : CRow w' b vs := fun i v hv =>
  (hb.cell (p := ⟨b, i, none⟩) (World.block_lt_of_cell? _ _ (h i v hv))).trans (h i v hv)
def numsV (m : Nat) (x : Ent) : List Value := (List.range m).map fun k => .int .i64 (numE k x)
theorem numsV_get {m k : Nat} (h : k < m) (x : Ent) : (numsV m x)[k]? = some (.int .i64 (numE k x)) := by unfold numsV; simp [h]
theorem infoI : (Try.prog.info? 3).map (fun i => (i.zero, i.size, i.bytes)) = some (some (.int .i64 0), 1, 8) := by kernel_rfl
theorem bytes_cat (l m : List UInt8) (s : ByteArray) (h : s.data.toList = m) : arr l ++ s = arr (l ++ m) := arr_eq (by rw [app_list, arr_list, h])

set_option maxRecDepth 100000 in
set_option maxHeartbeats 4000000 in
theorem renc_any (x : Ent) (w : World) (hx : Small x) :
    Calls Try.prog 26 #[.agg #[.int .i64 x.kind, .int .i64 x.cl, .int .i64 x.ep, .int .i64 x.n, .int .i64 x.lsn, .int .i64 x.prev, .int .i64 x.page, .int .i64 x.slot, .bool x.wu, .string x.wd, .bool x.iu, .string x.id, .int .i64 x.next]] w fun e w' => e = .returned (.tuple #[.string (encE x), .int .i64 (codeE x)]) ∧ Below w.heap.size w w' := by
  have hb := below_box w (.cells #[.int .i64 x.kind, .int .i64 x.cl, .int .i64 x.ep, .int .i64 x.n, .int .i64 x.lsn, .int .i64 x.prev, .int .i64 x.page, .int .i64 x.slot, .bool x.wu, .string x.wd, .bool x.iu, .string x.id, .int .i64 x.next] 49)
  have hg := alloc_lt w (.cells #[.int .i64 x.kind, .int .i64 x.cl, .int .i64 x.ep, .int .i64 x.n, .int .i64 x.lsn, .int .i64 x.prev, .int .i64 x.page, .int .i64 x.slot, .bool x.wu, .string x.wd, .bool x.iu, .string x.id, .int .i64 x.next] 49)
  have hB := Blk.new w 49 #[.int .i64 x.kind, .int .i64 x.cl, .int .i64 x.ep, .int .i64 x.n, .int .i64 x.lsn, .int .i64 x.prev, .int .i64 x.page, .int .i64 x.slot, .bool x.wu, .string x.wd, .bool x.iu, .string x.id, .int .i64 x.next]
  have HS := Lib.hid hx
  clear hx
  go_enter Try.func26, Try.ntmps26
  go_upto_region 1 with (fail)
  generalize hGen : w.alloc (.cells #[.int .i64 x.kind, .int .i64 x.cl, .int .i64 x.ep, .int .i64 x.n, .int .i64 x.lsn, .int .i64 x.prev, .int .i64 x.page, .int .i64 x.slot, .bool x.wu, .string x.wd, .bool x.iu, .string x.id, .int .i64 x.next] 49) = W at hb hg hB ⊢
  clear hGen
  obtain ⟨c0, c1, c2, c3, c4, c5, c6, c7, c8, c9, c10, c11, c12⟩ := ent_cells hB
  go_wp2_with fail
  refine (rgood_any x _ HS.out).mono ?_
  rintro e w1 ⟨rfl, b1⟩
  have hB1 := hB.below b1 hg
  have HB1 := Lib.hid (below_next hb b1)
  have hg1 : w.heap.size < w1.heap.size := Nat.lt_of_lt_of_le hg b1.size
  obtain ⟨d0, d1, d2, d3, d4, d5, d6, d7, d8, d9, d10, d11, d12⟩ := ent_cells hB1
  clear c0 c1 c2 c3 c4 c5 c6 c7 c8 c9 c10 c11 c12 hB hb hg b1
  cases hgd : goodB x with
  | false =>
    have HG := Lib.hid hgd
    clear hgd
    go_wp2
    go_ret2
    exact ⟨by unfold encE codeE; rw [HG.out]; rfl, HB1.out⟩
  | true =>
    have HG := Lib.hid hgd
    obtain ⟨k1, k4⟩ := kind_fits hgd
    clear hgd
    obtain ⟨i0, hi, hz0, hz1, hz2⟩ := info_parts infoI
    go_upto_region 5 with (fail)
    have hL := Blk.new w1 3 #[.int .i64 x.kind, .int .i64 x.cl, .int .i64 x.ep, .int .i64 x.n, .int .i64 x.lsn, .int .i64 x.prev]
    have hB2 := hB1.alloc (.cells #[.int .i64 x.kind, .int .i64 x.cl, .int .i64 x.ep, .int .i64 x.n, .int .i64 x.lsn, .int .i64 x.prev] 3)
    have HB2 := Lib.hid (below_next HB1.out (below_box w1 (.cells #[.int .i64 x.kind, .int .i64 x.cl, .int .i64 x.ep, .int .i64 x.n, .int .i64 x.lsn, .int .i64 x.prev] 3)))
    have hl := alloc_lt w1 (.cells #[.int .i64 x.kind, .int .i64 x.cl, .int .i64 x.ep, .int .i64 x.n, .int .i64 x.lsn, .int .i64 x.prev] 3)
    generalize hGen : w1.alloc (.cells #[.int .i64 x.kind, .int .i64 x.cl, .int .i64 x.ep, .int .i64 x.n, .int .i64 x.lsn, .int .i64 x.prev] 3) = W2 at hL hB2 HB2 hl ⊢
    clear hGen
    generalize hGen : w1.heap.size = b at hL hl hg1 ⊢
    clear hGen
    clear d0 d1 d2 d3 d4 d5 d6 d7 d8 d9 d10 d11 d12 hB1 HB1
    obtain ⟨d0, d1, d2, d3, d4, d5, d6, d7, d8, d9, d10, d11, d12⟩ := ent_cells hB2
    cases hlong : longB x.kind with
    | false =>
      have hk := of_decide_eq_false hlong
      have h3 : ¬ x.kind < 3 := by omega
      have HFIN := Lib.hid (show arr (bP 6 x) = encE x ∧ codeE x = 0 by
        have e : rawL x = bP 6 x := by rw [bP_bN, ← sN_all hlong]; rfl
        unfold encE codeE; rw [HG.out, e]; exact ⟨rfl, rfl⟩)
      have CR := Lib.hid (show CRow W2 b (numsV 6 x) from fun i v hv => by rw [hL.cell i]; have e : numsV 6 x = [.int .i64 x.kind, .int .i64 x.cl, .int .i64 x.ep, .int .i64 x.n, .int .i64 x.lsn, .int .i64 x.prev] := rfl; rw [e] at hv; simpa using hv)
      have HB3 := Lib.hid hB2
      clear hk hlong hL hB2
      go_wp2
      go_loopw [4, 6] (fun s i wr => ∃ k : Nat, k ≤ 6 ∧ i = .int .i64 (k : Int) ∧ s = .string (arr (bP k x)) ∧ Below W2.heap.size W2 wr) (fun _ i _ => 6 - (intOf i).toNat)
      case atStart => exact ⟨0, by omega, rfl, rfl, Below.refl _ _⟩
      case round =>
        obtain ⟨k, hk, rfl, rfl, hbel⟩ := hrel
        have HBL := Lib.hid hbel
        clear hbel
        by_cases hlt : k < 6
        · have hc : wr.cell? ⟨b, k, none⟩ = some (.int .i64 (numE k x)) := (CR.out.next HBL.out) k _ (numsV_get hlt x)
          have HC := Lib.hid (bytes_cat (bP k x) (enc (numE k x)) (Nib.encB (numE k x)) (Nib.encB_list _).symm)
          have hs1 : (arr (bP k x)).size ≤ 90 := by rw [arr_size]; have := bP_len HG.out k; omega
          have hs2 : (Nib.encB (numE k x)).size ≤ 10 := Nib.encB_le (num_fits HG.out k)
          have HI := Lib.hid (fun w => Nib.refInt (numE k x) w (num_fits HG.out k))
          go_wp2_with fail
          refine (HI.out _).mono ?_
          rintro e w4 ⟨rfl, b4⟩
          generalize Nib.encB (numE k x) = E at hs2 HC ⊢
          go_wp2
          go_roundw
          case rel => exact ⟨k + 1, by omega, by go_num, by rw [HC.out]; rfl, below_next HBL.out b4⟩
          case measure => simp [intOf]; omega
        · obtain rfl : k = 6 := by omega
          have hkc := (ent_cells (HB3.out.below HBL.out HB3.out.lt)).1
          go_wp2
          go_ret2
          exact ⟨by rw [HFIN.out.1, HFIN.out.2]; rfl, below_next HB2.out HBL.out⟩
    | true =>
      have hk := of_decide_eq_true hlong
      have h3 : x.kind < 3 := by omega
      have HLONG := Lib.hid hlong
      have CH := Lib.hid (good_long HG.out hlong).2.1
      have hown : W2.ownsRow b 3 1 (.slice (some ⟨b, 0, none⟩) 6 6) 6 [.int .i64 x.kind, .int .i64 x.cl, .int .i64 x.ep, .int .i64 x.n, .int .i64 x.lsn, .int .i64 x.prev] :=
        ⟨rfl, .inr ⟨b, 6, _, rfl, Nat.le_refl _, hL, by decide, by decide, rfl, rfl⟩⟩
      have HOWN := Lib.hid hown
      have HB3 := Lib.hid hB2
      clear hk hlong hown hB2 hL
      go_wp2_with (at_builtin; refine wpList_append_own _ rfl _ _ 89 rfl b 3 i0 (.int .i64 0) 1 8 Try.underlying89 hi hz0 hz1 hz2 rfl (by decide) _ 6 _ rfl (HOWN.out.alloc _) ⟨W2.heap.size, 0, none⟩ 3 3 [.int .i64 x.page, .int .i64 x.slot, .int .i64 x.next] rfl rfl ?c1 ?c2 ?c3 ?c4 ?c5 ?_)
      case c1 =>
        intro j u hj
        rw [add_at, (Blk.new W2 3 #[.int .i64 x.page, .int .i64 x.slot, .int .i64 x.next]).cell j]
        simpa using hj
      case c2 => intro u hu; simp at hu; rcases hu with rfl | rfl | rfl <;> rfl
      case c3 => decide
      case c4 => decide
      case c5 => simp; omega
      intro v' w3 hown3 hgrow3 _
      obtain ⟨g', cap, rfl, hge, hlt'⟩ := hown3.form (by decide)
      have CR := Lib.hid (show CRow w3 g' (numsV 9 x) from fun i v hv => by
        have h1 := hown3.cells (g := g') rfl i v hv
        rwa [add_at] at h1)
      have hbx := below_next HB2.out (below_box W2 (.cells #[.int .i64 x.page, .int .i64 x.slot, .int .i64 x.next] 3))
      have HB4 := Lib.hid (hbx.grown hgrow3 hbx.size (fun k hk => by have h5 : b = k := (by simpa [Value.ownBlock] using hk); omega))
      have HX4 := Lib.hid ((HB3.out.alloc (.cells #[.int .i64 x.page, .int .i64 x.slot, .int .i64 x.next] 3)).grown hgrow3 (by simp [Value.ownBlock]; omega))
      have hw3 : w.heap.size < w3.heap.size := HX4.out.lt
      clear hown3 hgrow3 hbx hge hlt' HOWN HB2 HB3 d0 d1 d2 d3 d4 d5 d6 d7 d8 d9 d10 d11 d12
      go_wp2
      go_loopw [4, 6] (fun s i wr => ∃ k : Nat, k ≤ 9 ∧ i = .int .i64 (k : Int) ∧ s = .string (arr (bP k x)) ∧ Below w3.heap.size w3 wr) (fun _ i _ => 9 - (intOf i).toNat)
      case atStart => exact ⟨0, by omega, rfl, rfl, Below.refl _ _⟩
      case round =>
        obtain ⟨k, hk, rfl, rfl, hbel⟩ := hrel
        have HBL := Lib.hid hbel
        clear hbel
        by_cases hlt : k < 9
        · have hc : wr.cell? ⟨g', k, none⟩ = some (.int .i64 (numE k x)) := (CR.out.next HBL.out) k _ (numsV_get hlt x)
          have HC := Lib.hid (bytes_cat (bP k x) (enc (numE k x)) (Nib.encB (numE k x)) (Nib.encB_list _).symm)
          have hs1 : (arr (bP k x)).size ≤ 90 := by rw [arr_size]; have := bP_len HG.out k; omega
          have hs2 : (Nib.encB (numE k x)).size ≤ 10 := Nib.encB_le (num_fits HG.out k)
          have HI := Lib.hid (fun w => Nib.refInt (numE k x) w (num_fits HG.out k))
          go_wp2_with fail
          refine (HI.out _).mono ?_
          rintro e w4 ⟨rfl, b4⟩
          generalize Nib.encB (numE k x) = E at hs2 HC ⊢
          go_wp2
          go_roundw
          case rel => exact ⟨k + 1, by omega, by go_num, by rw [HC.out]; rfl, below_next HBL.out b4⟩
          case measure => simp [intOf]; omega
        · obtain rfl : k = 9 := by omega
          have HX5 := Lib.hid (HX4.out.below HBL.out hw3)
          have HB5 := Lib.hid (below_next HB4.out HBL.out)
          obtain ⟨d0, d1, d2, d3, d4, d5, d6, d7, d8, d9, d10, d11, d12⟩ := ent_cells HX5.out
          obtain ⟨_, _, f1, f2⟩ := ch_parts CH.out
          have hd1 := (of_decide_eq_true f1).1
          have hd2 := (of_decide_eq_true f2).1
          have hw1 := slotL_len f1
          have hw2 := slotL_len f2
          have hp1 := fun w => rpart_any x.wu x.wd w hd1
          have hp2 := fun w => rpart_any x.iu x.id w hd2
          have HFIN := Lib.hid (show (arr (bP 9 x) ++ arr (slotL x.wu x.wd.data.toList)) ++ arr (slotL x.iu x.id.data.toList) = encE x ∧ codeE x = 0 by
            have e : rawL x = (bP 9 x ++ slotL x.wu x.wd.data.toList) ++ slotL x.iu x.id.data.toList := by rw [bP_bN, ← sN_all HLONG.out]; rfl
            unfold encE codeE; rw [HG.out, e, bytes_cat _ _ _ (arr_list _), bytes_cat _ _ _ (arr_list _)]; exact ⟨rfl, rfl⟩)
          have hs0 : (arr (bP 9 x)).size ≤ 90 := by rw [arr_size]; have := bP_len HG.out 9; omega
          have hs1 : (arr (slotL x.wu x.wd.data.toList)).size ≤ 203 := by rw [arr_size]; exact hw1
          have hs2 : (arr (slotL x.iu x.id.data.toList)).size ≤ 203 := by rw [arr_size]; exact hw2
          generalize arr (slotL x.wu x.wd.data.toList) = P1 at hp1 HFIN hs1
          generalize arr (slotL x.iu x.id.data.toList) = P2 at hp2 HFIN hs2
          generalize arr (bP 9 x) = P0 at HFIN hs0 ⊢
          have hs01 : (P0 ++ P1).size ≤ 293 := by rw [ByteArray.size_append]; omega
          have HP1 := Lib.hid hp1
          have HP2 := Lib.hid hp2
          clear f1 f2 hd1 hd2 hw1 hw2 hp1 hp2
          go_upto_region 12 with (fail)
          have q8 := cell_regrown d8
          have q9 := cell_regrown d9
          have q10 := cell_regrown d10
          have q11 := cell_regrown d11
          have cI : ∀ dd os, Calls Try.prog 48 #[.agg #[.bool x.wu, .string x.wd]] (grow (redrawn wr dd) os) fun e w'' => e = .returned (.string P1) ∧ ∃ p : Regrown, w'' = grow (redrawn wr p.d) p.os := fun dd os => Calls.regrown_of (HP1.out _)
          have cS : ∀ dd os, Calls Try.prog 48 #[.agg #[.bool x.iu, .string x.id]] (grow (redrawn wr dd) os) fun e w'' => e = .returned (.string P2) ∧ ∃ p : Regrown, w'' = grow (redrawn wr p.d) p.os := fun dd os => Calls.regrown_of (HP2.out _)
          refine wp_region_quiet_below (by kernel_rfl) (by kernel_rfl) ?_
          repeat (go_big_quiet_step (first | (with_reducible exact cI _ _) | (with_reducible exact cS _ _)))
          refine wpQuiet_nil ?_
          intro _ hw'
          obtain ⟨⟨dq, osq⟩, hw''⟩ := hw'
          subst hw''
          have b5 := below_regrown wr dq osq
          generalize grow (redrawn wr dq) osq = W5 at b5 ⊢
          clear cI cS q8 q9 q10 q11
          go_wp2
          go_ret2
          exact ⟨by rw [HFIN.out.1, HFIN.out.2]; rfl, below_next HB5.out b5⟩
end Go.Proofs.Ytnoplekjdbakkaa.Ent
