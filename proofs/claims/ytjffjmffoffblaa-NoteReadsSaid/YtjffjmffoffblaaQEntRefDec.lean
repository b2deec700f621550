/- The document's own reading of an entry: take, Decode. -/
import Derived.Test.YtjffjmffoffblaaQEntRefTake
import Derived.StillTailTactics
import Derived.Deep.RegionHeld3
namespace Go.Proofs.Ytjffjmffoffblaa.Ent
set_option maxRecDepth 100000
open Go.RowKit Go.Sort
open Go.Proofs.Ytjffjmffoffblaa.Slab (Blk page_cells ret_bool' ret_int' own_below)
open Go.Proofs.Ytjffjmffoffblaa.Nib (below_next below_drew takeInt takeStr takeVal takeStrVal)

set_option maxRecDepth 100000 in
set_option maxHeartbeats 8000000 in
theorem rdecode_any (L : List UInt8) (w : World) (hlen : L.length ≤ 140737488351232) :
    Calls Try.prog 18 #[.string (arr L)] w fun e w' => e = .returned (.tuple #[.agg (entA (decX L)), .string (arr (decT L)), .int .i64 (decC L)]) ∧ Below w.heap.size w w' := by
  have hb0 := below_box w (.cells #[.int .i64 0, .int .i64 0, .int .i64 0, .int .i64 0, .int .i64 0, .int .i64 0, .int .i64 0, .int .i64 0, .bool false, .string ⟨#[]⟩, .bool false, .string ⟨#[]⟩, .int .i64 0] 56)
  have hR0 : Blk (w.alloc (.cells #[.int .i64 0, .int .i64 0, .int .i64 0, .int .i64 0, .int .i64 0, .int .i64 0, .int .i64 0, .int .i64 0, .bool false, .string ⟨#[]⟩, .bool false, .string ⟨#[]⟩, .int .i64 0] 56)) w.heap.size 56 #[.int .i64 noE.kind, .int .i64 noE.cl, .int .i64 noE.ep, .int .i64 noE.n, .int .i64 noE.lsn, .int .i64 noE.prev, .int .i64 noE.page, .int .i64 noE.slot, .bool noE.wu, .string noE.wd, .bool noE.iu, .string noE.id, .int .i64 noE.next] := Blk.new w 56 #[.int .i64 0, .int .i64 0, .int .i64 0, .int .i64 0, .int .i64 0, .int .i64 0, .int .i64 0, .int .i64 0, .bool false, .string ⟨#[]⟩, .bool false, .string ⟨#[]⟩, .int .i64 0]
  have hw0 := alloc_lt w (.cells #[.int .i64 0, .int .i64 0, .int .i64 0, .int .i64 0, .int .i64 0, .int .i64 0, .int .i64 0, .int .i64 0, .bool false, .string ⟨#[]⟩, .bool false, .string ⟨#[]⟩, .int .i64 0] 56)
  obtain ⟨i0, hi, hz0, hz1, hz2⟩ := info_parts infoI
  generalize hlg : longB (valN 0 L) = lg
  have HLG := Lib.hid hlg
  clear hlg
  go_enter Try.func18, Try.ntmps18
  go_upto_region 1 with (fail)
  generalize hGen : w.alloc (.cells #[.int .i64 0, .int .i64 0, .int .i64 0, .int .i64 0, .int .i64 0, .int .i64 0, .int .i64 0, .int .i64 0, .bool false, .string ⟨#[]⟩, .bool false, .string ⟨#[]⟩, .int .i64 0] 56) = W at hb0 hR0 hw0 ⊢
  clear hGen
  have HB0 := Lib.hid hb0
  have HR0 := Lib.hid hR0
  clear hb0 hR0
  go_wp2
  go_loopw [0, 5, 6] (fun s v t wr => ∃ (k : Nat) (a : Option Addr) (cap : Nat), k ≤ wantN lg k ∧ s = .string (arr (restN k L)) ∧ v = .slice a k cap ∧ t = .int .i64 ((wantN lg k : Nat) : Int) ∧ Hid (wrN k L = false) ∧ wr.ownsRow W.heap.size 3 1 (.slice a k cap) k (valsV k L) ∧ Below W.heap.size W wr) (fun _ v _ _ => 9 - lenV v)
  case atStart => exact ⟨0, _, _, by omega, rfl, rfl, by simp [wantN], Lib.hid rfl, ⟨rfl, .inr ⟨W.heap.size, 0, #[], rfl, Nat.le_refl _, World.alloc_heap_new _ _, Nat.le_refl _, by decide, rfl, rfl⟩⟩, below_box _ _⟩
  case round =>
    obtain ⟨k, a, cap, hk, rfl, rfl, rfl, HWR, hown, hbel⟩ := hrel
    have HOWN := Lib.hid hown
    have HBL := Lib.hid hbel
    have hw9 := want_le lg k
    have HWN := Lib.hid (want_next lg k)
    clear hown hbel
    have HST := Lib.hid (fun (h : k < wantN lg k) => @wr_stop L k (by rw [HLG.out]; exact h))
    have HEQ := Lib.hid (show wantN lg k = if 1 ≤ k ∧ lg = true then 9 else 6 from rfl)
    generalize wantN lg k = m at hk hw9 HST HEQ ⊢
    by_cases hlt : k < m
    · have HN := Lib.hid (fun w => rnum k L w (by omega))
      have hB9 := below_next HB0.out HBL.out
      go_wp2_with fail
      refine (HN.out _).mono ?_
      rintro e w1 ⟨rfl, q, rfl⟩
      cases hok : (takeInt (restN k L)).2.2 with
      | false =>
        have HF := Lib.hid (dec_none (HST.out hlt (by simp [wrN, hok])))
        have hZ := HR0.out.below HBL.out hw0
        clear hok
        obtain ⟨z0, z1, z2, z3, z4, z5, z6, z7, z8, z9, z10, z11, z12⟩ := ent_cells hZ
        obtain ⟨q0, q1, q2, q3, q4, q5, q6, q7, q8, q9, q10, q11, q12⟩ := ent_frozen hZ
        go_wp2
        refine bodyPost_ret (v := .tuple #[.agg #[.int .i64 0, .int .i64 0, .int .i64 0, .int .i64 0, .int .i64 0, .int .i64 0, .int .i64 0, .int .i64 0, .bool false, .string ⟨#[]⟩, .bool false, .string ⟨#[]⟩, .int .i64 0], .string ⟨#[]⟩, .int .i64 4]) (by simp [results, Try.results18, go_sem, z0, z1, z2, z3, z4, z5, z6, z7, z8, z9, z10, z11, z12]) rfl ?_
        obtain ⟨f1, f2, f3⟩ := HF.out
        refine ⟨by rw [f1, f2, f3]; rfl, ?_⟩
        exact below13 (below_drew hB9 _) (Nat.le_refl _) _ _ _ _ _ _ _ _ _ _ _ _ _
      | true =>
        have HW1 := Lib.hid (show wrN (k + 1) L = false by simp [wrN, hok, HWR.out])
        clear hok
        have hOQ : (wr.drewN q).ownsRow W.heap.size 3 1 (.slice a k cap) k (valsV k L) := own_below HOWN.out (below_drew (Below.refl _ _) q)
        have hBQ := below_drew HBL.out q
        generalize hGen : wr.drewN q = wq at hOQ hBQ ⊢
        clear hGen
        have HOQ := Lib.hid hOQ
        have HBQ := Lib.hid hBQ
        clear hOQ hBQ HOWN HBL hB9
        go_wp2_with (at_builtin; refine wpList_append_own _ rfl _ _ 75 rfl W.heap.size 3 i0 (.int .i64 0) 1 8 Try.underlying75 hi hz0 hz1 hz2 rfl (by decide) _ k _ rfl (own_below HOQ.out (below_box _ _)) ⟨wq.heap.size, 0, none⟩ 1 1 [.int .i64 (valN k L)] rfl rfl ?c1 ?c2 ?c3 ?c4 ?c5 ?_)
        case c1 =>
          intro j u hj
          match j, hj with
          | 0, hj => simp at hj; subst hj; simp [Addr.add]
        case c2 => intro u hu; simp at hu; subst hu; rfl
        case c3 => unfold maxLen; omega
        case c4 => omega
        case c5 => have := HBQ.out.size; simp; omega
        intro v' w6 hown6 hgrow6 _
        rw [valsV_snoc] at hown6
        obtain ⟨g, cap', rfl, hge, hlt6⟩ := hown6.form (by omega)
        have hc0 : w6.cell? ⟨g, 0, none⟩ = some (.int .i64 (valN 0 L)) := by
          have := hown6.cells (g := g) rfl 0 _ (valsV_get (by omega) L)
          rwa [add_at] at this
        have HO6 := Lib.hid hown6
        have HB6 := Lib.hid ((HBQ.out.alloc HBQ.out.size (.cells #[.int .i64 (valN k L)] 3)).grown hgrow6 (by have := HBQ.out.size; simp; omega) (fun j hj => Slab.own_block_ge HOQ.out hj))
        have hlen0 : (0 : Int) < (k : Int) + 1 := by omega
        clear hown6 hgrow6 hge hlt6 HOQ HBQ
        cases lg with
        | false =>
          have hk := of_decide_eq_false HLG.out
          have t1 : (valN 0 L == 1) = false := not_eq_of fun e => hk (.inl e)
          have t2 : (valN 0 L == 2) = false := not_eq_of fun e => hk (.inr e)
          have hm : m = 6 := by have := HEQ.out; simpa using this
          have HM := Lib.hid hm
          clear hk hm
          go_wp2
          go_roundw
          case rel => exact ⟨k + 1, _, _, by rw [HWN.out]; have := HM.out; simp; omega, rfl, by congr 1, by rw [HWN.out, HM.out]; rfl, HW1, HO6.out, HB6.out⟩
          case measure => simp [lenV]; omega
        | true =>
          have hk := of_decide_eq_true HLG.out
          by_cases k1 : valN 0 L = 1
          · have t1 : (valN 0 L == 1) = true := by simpa using k1
            clear k1 hk
            go_wp2
            go_roundw
            case rel => exact ⟨k + 1, _, _, by rw [HWN.out]; simp; omega, rfl, by congr 1, by rw [HWN.out]; rfl, HW1, HO6.out, HB6.out⟩
            case measure => simp [lenV]; omega
          · have t1 := not_eq_of k1
            have t2 : (valN 0 L == 2) = true := by rcases hk with h | h; exact absurd h k1; simpa using h
            clear k1 hk
            go_wp2
            go_roundw
            case rel => exact ⟨k + 1, _, _, by rw [HWN.out]; simp; omega, rfl, by congr 1, by rw [HWN.out]; rfl, HW1, HO6.out, HB6.out⟩
            case measure => simp [lenV]; omega
    · obtain rfl : k = m := by omega
      have hsm := read_small hlen
      have HFAIL := Lib.hid (@dec_fail L)
      have HOK := Lib.hid (@dec_ok L)
      have HB9 := Lib.hid (below_next HB0.out HBL.out)
      have HZ9 := Lib.hid (HR0.out.below HBL.out hw0)
      have hwr : w.heap.size < wr.heap.size := HZ9.out.lt
      cases lg with
      | false =>
        have hk6 : k = 6 := by have := HEQ.out; simpa using this
        subst hk6
        obtain ⟨r1, r2, r3⟩ := read_short HLG.out
        have HW := Lib.hid (show readW L = false by rw [r3]; exact HWR.out)
        have HXE := Lib.hid r1
        have HTE := Lib.hid r2
        clear r1 r2 r3
        obtain ⟨g, cap', hv, hge, hlt6⟩ := HOWN.out.form (by decide)
        cases hv
        have hcl : ∀ i, i < 6 → wr.cell? ⟨g, i, none⟩ = some (.int .i64 (valN i L)) := fun i hi => by
          have := HOWN.out.cells (g := g) rfl i _ (valsV_get hi L)
          rwa [add_at] at this
        have d0 := hcl 0 (by decide)
        have d1 := hcl 1 (by decide)
        have d2 := hcl 2 (by decide)
        have d3 := hcl 3 (by decide)
        have d4 := hcl 4 (by decide)
        have d5 := hcl 5 (by decide)
        clear hcl hge hlt6
        go_upto_region 11 with (fail)
        go_region_held3 (fun w' => w'.cell? ⟨g, 0, none⟩ = some (.int .i64 (valN 0 L)) ∧ w'.cell? ⟨g, 1, none⟩ = some (.int .i64 (valN 1 L)) ∧ w'.cell? ⟨g, 2, none⟩ = some (.int .i64 (valN 2 L)) ∧ w'.cell? ⟨g, 3, none⟩ = some (.int .i64 (valN 3 L)) ∧ w'.cell? ⟨g, 4, none⟩ = some (.int .i64 (valN 4 L)) ∧ w'.cell? ⟨g, 5, none⟩ = some (.int .i64 (valN 5 L))) (first | assumption | exact held6 ⟨d0, d1, d2, d3, d4, d5⟩ (below_box _ _) | exact held6 ⟨d0, d1, d2, d3, d4, d5⟩ ((Below.refl _ _).drew) | exact held6 ⟨d0, d1, d2, d3, d4, d5⟩ ((below_box _ _).drew)) (fail)
        have hXa : Blk (wr.alloc (.cells #[.int .i64 (valN 0 L), .int .i64 (valN 1 L), .int .i64 (valN 2 L), .int .i64 (valN 3 L), .int .i64 (valN 4 L), .int .i64 (valN 5 L), .int .i64 0, .int .i64 0, .bool false, .string ⟨#[]⟩, .bool false, .string ⟨#[]⟩, .int .i64 0] 56)).drew wr.heap.size 56 #[.int .i64 (valN 0 L), .int .i64 (valN 1 L), .int .i64 (valN 2 L), .int .i64 (valN 3 L), .int .i64 (valN 4 L), .int .i64 (valN 5 L), .int .i64 0, .int .i64 0, .bool false, .string ⟨#[]⟩, .bool false, .string ⟨#[]⟩, .int .i64 0] := Blk.new wr 56 #[.int .i64 (valN 0 L), .int .i64 (valN 1 L), .int .i64 (valN 2 L), .int .i64 (valN 3 L), .int .i64 (valN 4 L), .int .i64 (valN 5 L), .int .i64 0, .int .i64 0, .bool false, .string ⟨#[]⟩, .bool false, .string ⟨#[]⟩, .int .i64 0]
        have hXX : Blk (wr.alloc (.cells #[.int .i64 (valN 0 L), .int .i64 (valN 1 L), .int .i64 (valN 2 L), .int .i64 (valN 3 L), .int .i64 (valN 4 L), .int .i64 (valN 5 L), .int .i64 0, .int .i64 0, .bool false, .string ⟨#[]⟩, .bool false, .string ⟨#[]⟩, .int .i64 0] 56)).drew wr.heap.size 56 #[.int .i64 (readX L).kind, .int .i64 (readX L).cl, .int .i64 (readX L).ep, .int .i64 (readX L).n, .int .i64 (readX L).lsn, .int .i64 (readX L).prev, .int .i64 (readX L).page, .int .i64 (readX L).slot, .bool (readX L).wu, .string (readX L).wd, .bool (readX L).iu, .string (readX L).id, .int .i64 (readX L).next] := by
          rw [HXE.out]; simpa [partE] using hXa
        have hZZ : Blk (wr.alloc (.cells #[.int .i64 (valN 0 L), .int .i64 (valN 1 L), .int .i64 (valN 2 L), .int .i64 (valN 3 L), .int .i64 (valN 4 L), .int .i64 (valN 5 L), .int .i64 0, .int .i64 0, .bool false, .string ⟨#[]⟩, .bool false, .string ⟨#[]⟩, .int .i64 0] 56)).drew w.heap.size 56 #[.int .i64 noE.kind, .int .i64 noE.cl, .int .i64 noE.ep, .int .i64 noE.n, .int .i64 noE.lsn, .int .i64 noE.prev, .int .i64 noE.page, .int .i64 noE.slot, .bool noE.wu, .string noE.wd, .bool noE.iu, .string noE.id, .int .i64 noE.next] := HZ9.out.alloc (.cells #[.int .i64 (valN 0 L), .int .i64 (valN 1 L), .int .i64 (valN 2 L), .int .i64 (valN 3 L), .int .i64 (valN 4 L), .int .i64 (valN 5 L), .int .i64 0, .int .i64 0, .bool false, .string ⟨#[]⟩, .bool false, .string ⟨#[]⟩, .int .i64 0] 56)
        have hbX := (below_next HB9.out (below_box wr (.cells #[.int .i64 (valN 0 L), .int .i64 (valN 1 L), .int .i64 (valN 2 L), .int .i64 (valN 3 L), .int .i64 (valN 4 L), .int .i64 (valN 5 L), .int .i64 0, .int .i64 0, .bool false, .string ⟨#[]⟩, .bool false, .string ⟨#[]⟩, .int .i64 0] 56))).drew
        clear hXa d0 d1 d2 d3 d4 d5
        go_upto_region 12 with (fail)
        generalize hGen : (wr.alloc (.cells #[.int .i64 (valN 0 L), .int .i64 (valN 1 L), .int .i64 (valN 2 L), .int .i64 (valN 3 L), .int .i64 (valN 4 L), .int .i64 (valN 5 L), .int .i64 0, .int .i64 0, .bool false, .string ⟨#[]⟩, .bool false, .string ⟨#[]⟩, .int .i64 0] 56)).drew = W2 at hXX hZZ hbX ⊢
        clear hGen
        generalize hGen : wr.heap.size = gx at hXX ⊢
        clear hGen
        have HXX := Lib.hid hXX
        have HZZ := Lib.hid hZZ
        have HBX := Lib.hid hbX
        have hTT : arr (restN 6 L) = arr (readT L) := by rw [HTE.out]
        rw [hTT]
        have HTT := Lib.hid hTT
        clear hXX hZZ hbX hTT
        clear HXE
        generalize readX L = X at HXX HFAIL HOK hsm
        clear HTT HTE
        generalize readT L = T at HOK ⊢
        obtain ⟨c0, c1, c2, c3, c4, c5, c6, c7, c8, c9, c10, c11, c12⟩ := ent_cells HXX.out
        go_wp2_with fail
        refine (rgood_any X _ hsm).mono ?_
        rintro e w8 ⟨rfl, b8⟩
        have hX8 := HXX.out.below b8 HXX.out.lt
        have hZ8 := HZZ.out.below b8 HZZ.out.lt
        have HB8 := Lib.hid (below_next HBX.out b8)
        clear c0 c1 c2 c3 c4 c5 c6 c7 c8 c9 c10 c11 c12 b8
        obtain ⟨c0, c1, c2, c3, c4, c5, c6, c7, c8, c9, c10, c11, c12⟩ := ent_cells hX8
        obtain ⟨z0, z1, z2, z3, z4, z5, z6, z7, z8, z9, z10, z11, z12⟩ := ent_cells hZ8
        obtain ⟨q0, q1, q2, q3, q4, q5, q6, q7, q8, q9, q10, q11, q12⟩ := ent_frozen hZ8
        cases hgd : goodB X with
        | false =>
          have HF := Lib.hid (HFAIL.out (.inr hgd))
          clear hgd HFAIL HOK
          go_wp2
          refine bodyPost_ret (v := .tuple #[.agg #[.int .i64 0, .int .i64 0, .int .i64 0, .int .i64 0, .int .i64 0, .int .i64 0, .int .i64 0, .int .i64 0, .bool false, .string ⟨#[]⟩, .bool false, .string ⟨#[]⟩, .int .i64 0], .string ⟨#[]⟩, .int .i64 4]) (by simp [results, Try.results18, go_sem, z0, z1, z2, z3, z4, z5, z6, z7, z8, z9, z10, z11, z12]) rfl ?_
          obtain ⟨f1, f2, f3⟩ := HF.out
          refine ⟨by rw [f1, f2, f3]; rfl, ?_⟩
          exact below13 HB8.out (Nat.le_refl _) _ _ _ _ _ _ _ _ _ _ _ _ _
        | true =>
          have HF := Lib.hid (HOK.out HW.out hgd)
          clear hgd HFAIL HOK
          go_wp2
          refine bodyPost_ret (v := .tuple #[.agg #[.int .i64 X.kind, .int .i64 X.cl, .int .i64 X.ep, .int .i64 X.n, .int .i64 X.lsn, .int .i64 X.prev, .int .i64 X.page, .int .i64 X.slot, .bool X.wu, .string X.wd, .bool X.iu, .string X.id, .int .i64 X.next], .string (arr T), .int .i64 0]) (by simp [results, Try.results18, go_sem, z0, z1, z2, z3, z4, z5, z6, z7, z8, z9, z10, z11, z12]) rfl ?_
          obtain ⟨f1, f2, f3⟩ := HF.out
          refine ⟨by rw [f1, f2, f3]; rfl, ?_⟩
          exact below13 HB8.out (Nat.le_refl _) _ _ _ _ _ _ _ _ _ _ _ _ _
      | true =>
        have hk9 : k = 9 := by
          have h5 := HEQ.out
          by_cases h6 : 1 ≤ k
          · rw [if_pos ⟨h6, rfl⟩] at h5; exact h5
          · rw [if_neg (fun h => h6 h.1)] at h5; omega
        subst hk9
        obtain ⟨r1, r2, r3⟩ := read_long HLG.out
        obtain ⟨g, cap', hv, hge, hlt6⟩ := HOWN.out.form (by decide)
        cases hv
        have hcl : ∀ i, i < 9 → wr.cell? ⟨g, i, none⟩ = some (.int .i64 (valN i L)) := fun i hi => by
          have := HOWN.out.cells (g := g) rfl i _ (valsV_get hi L)
          rwa [add_at] at this
        have d0 := hcl 0 (by decide)
        have d1 := hcl 1 (by decide)
        have d2 := hcl 2 (by decide)
        have d3 := hcl 3 (by decide)
        have d4 := hcl 4 (by decide)
        have d5 := hcl 5 (by decide)
        have HCL := Lib.hid hcl
        have hgw : g < wr.heap.size := hlt6
        clear hcl hge hlt6
        have HR1 := Lib.hid r1
        have HR2 := Lib.hid r2
        have HR3 := Lib.hid r3
        clear r1 r2 r3
        go_upto_region 11 with (fail)
        go_region_held3 (fun w' => w'.cell? ⟨g, 0, none⟩ = some (.int .i64 (valN 0 L)) ∧ w'.cell? ⟨g, 1, none⟩ = some (.int .i64 (valN 1 L)) ∧ w'.cell? ⟨g, 2, none⟩ = some (.int .i64 (valN 2 L)) ∧ w'.cell? ⟨g, 3, none⟩ = some (.int .i64 (valN 3 L)) ∧ w'.cell? ⟨g, 4, none⟩ = some (.int .i64 (valN 4 L)) ∧ w'.cell? ⟨g, 5, none⟩ = some (.int .i64 (valN 5 L))) (first | assumption | exact held6 ⟨d0, d1, d2, d3, d4, d5⟩ (below_box _ _) | exact held6 ⟨d0, d1, d2, d3, d4, d5⟩ ((Below.refl _ _).drew) | exact held6 ⟨d0, d1, d2, d3, d4, d5⟩ ((below_box _ _).drew)) (fail)
        have hXa : Blk (wr.alloc (.cells #[.int .i64 (valN 0 L), .int .i64 (valN 1 L), .int .i64 (valN 2 L), .int .i64 (valN 3 L), .int .i64 (valN 4 L), .int .i64 (valN 5 L), .int .i64 0, .int .i64 0, .bool false, .string ⟨#[]⟩, .bool false, .string ⟨#[]⟩, .int .i64 0] 56)).drew wr.heap.size 56 #[.int .i64 (valN 0 L), .int .i64 (valN 1 L), .int .i64 (valN 2 L), .int .i64 (valN 3 L), .int .i64 (valN 4 L), .int .i64 (valN 5 L), .int .i64 0, .int .i64 0, .bool false, .string ⟨#[]⟩, .bool false, .string ⟨#[]⟩, .int .i64 0] := Blk.new wr 56 #[.int .i64 (valN 0 L), .int .i64 (valN 1 L), .int .i64 (valN 2 L), .int .i64 (valN 3 L), .int .i64 (valN 4 L), .int .i64 (valN 5 L), .int .i64 0, .int .i64 0, .bool false, .string ⟨#[]⟩, .bool false, .string ⟨#[]⟩, .int .i64 0]
        have hZZ : Blk (wr.alloc (.cells #[.int .i64 (valN 0 L), .int .i64 (valN 1 L), .int .i64 (valN 2 L), .int .i64 (valN 3 L), .int .i64 (valN 4 L), .int .i64 (valN 5 L), .int .i64 0, .int .i64 0, .bool false, .string ⟨#[]⟩, .bool false, .string ⟨#[]⟩, .int .i64 0] 56)).drew w.heap.size 56 #[.int .i64 noE.kind, .int .i64 noE.cl, .int .i64 noE.ep, .int .i64 noE.n, .int .i64 noE.lsn, .int .i64 noE.prev, .int .i64 noE.page, .int .i64 noE.slot, .bool noE.wu, .string noE.wd, .bool noE.iu, .string noE.id, .int .i64 noE.next] := HZ9.out.alloc (.cells #[.int .i64 (valN 0 L), .int .i64 (valN 1 L), .int .i64 (valN 2 L), .int .i64 (valN 3 L), .int .i64 (valN 4 L), .int .i64 (valN 5 L), .int .i64 0, .int .i64 0, .bool false, .string ⟨#[]⟩, .bool false, .string ⟨#[]⟩, .int .i64 0] 56)
        have hbX := (below_next HB9.out (below_box wr (.cells #[.int .i64 (valN 0 L), .int .i64 (valN 1 L), .int .i64 (valN 2 L), .int .i64 (valN 3 L), .int .i64 (valN 4 L), .int .i64 (valN 5 L), .int .i64 0, .int .i64 0, .bool false, .string ⟨#[]⟩, .bool false, .string ⟨#[]⟩, .int .i64 0] 56))).drew
        have hlb := (below_box wr (.cells #[.int .i64 (valN 0 L), .int .i64 (valN 1 L), .int .i64 (valN 2 L), .int .i64 (valN 3 L), .int .i64 (valN 4 L), .int .i64 (valN 5 L), .int .i64 0, .int .i64 0, .bool false, .string ⟨#[]⟩, .bool false, .string ⟨#[]⟩, .int .i64 0] 56)).drew
        have d6 := (hlb.cell (p := ⟨g, 6, none⟩) hgw).trans (HCL.out 6 (by decide))
        have d7 := (hlb.cell (p := ⟨g, 7, none⟩) hgw).trans (HCL.out 7 (by decide))
        have d8 := (hlb.cell (p := ⟨g, 8, none⟩) hgw).trans (HCL.out 8 (by decide))
        clear d0 d1 d2 d3 d4 d5 hlb
        have hT1 := fun w => rtake_any (arr (restN 9 L)) w (by have := restN_len 9 L; rw [arr_size]; omega)
        rw [arr_list] at hT1
        have hok1 := rtake_ok (restN 9 L)
        have hsz1 : (rtake (restN 9 L)).2.2.1.length ≤ 140737488351232 := by
          have h9 := restN_len 9 L
          have h1 := Nib.takeInt_len (restN 9 L)
          unfold rtake
          split
          · simp only; omega
          · have h2 := (Nib.takeStr_len (takeInt (restN 9 L)).2.1 200).2
            simp only; omega
        have hT2 := fun w => rtake_any (arr (rtake (restN 9 L)).2.2.1) w (by rw [arr_size]; omega)
        rw [arr_list] at hT2
        have hok2 := rtake_ok (rtake (restN 9 L)).2.2.1
        have hWR : readW L = ((!(slotR (restN 9 L)).2.2.2) || !(slotR (slotR (restN 9 L)).2.2.1).2.2.2) := by
          rw [HR3.out]; simp only [swN, srN]; rw [HWR.out]; simp
        have HWR2 := Lib.hid hWR
        have HOK1 := Lib.hid hok1
        have HOK2 := Lib.hid hok2
        have HT1 := Lib.hid hT1
        have HT2 := Lib.hid hT2
        clear hT1 hT2 hok1 hok2 hWR hsz1
        go_upto_region 12 with (fail)
        generalize hGen : (wr.alloc (.cells #[.int .i64 (valN 0 L), .int .i64 (valN 1 L), .int .i64 (valN 2 L), .int .i64 (valN 3 L), .int .i64 (valN 4 L), .int .i64 (valN 5 L), .int .i64 0, .int .i64 0, .bool false, .string ⟨#[]⟩, .bool false, .string ⟨#[]⟩, .int .i64 0] 56)).drew = W2 at hXa hZZ hbX d6 d7 d8 ⊢
        clear hGen
        generalize hGen : wr.heap.size = gx at hXa hgw hwr ⊢
        clear hGen
        have hn1 : g ≠ gx := by omega
        have hn2 : gx ≠ g := by omega
        have e6 := hXa.cell 6
        have e7 := hXa.cell 7
        have e12 := hXa.cell 12
        have f6 := hXa.frozen 6
        have f7 := hXa.frozen 7
        have f12 := hXa.frozen 12
        have hwx : w.heap.size ≤ gx := Nat.le_of_lt hwr
        have HXX := Lib.hid (show Blk (((W2.setCell ⟨gx, 6, none⟩ (.int .i64 (valN 6 L))).setCell ⟨gx, 7, none⟩ (.int .i64 (valN 7 L))).setCell ⟨gx, 12, none⟩ (.int .i64 (valN 8 L))) gx 56 (entA (partE 8 L)) by
          have h5 := Slab.Blk.set_ (Slab.Blk.set_ (Slab.Blk.set_ hXa 6 (.int .i64 (valN 6 L))) 7 (.int .i64 (valN 7 L))) 12 (.int .i64 (valN 8 L))
          simpa [entA, partE] using h5)
        have HZZ := Lib.hid (show Blk (((W2.setCell ⟨gx, 6, none⟩ (.int .i64 (valN 6 L))).setCell ⟨gx, 7, none⟩ (.int .i64 (valN 7 L))).setCell ⟨gx, 12, none⟩ (.int .i64 (valN 8 L))) w.heap.size 56 #[.int .i64 noE.kind, .int .i64 noE.cl, .int .i64 noE.ep, .int .i64 noE.n, .int .i64 noE.lsn, .int .i64 noE.prev, .int .i64 noE.page, .int .i64 noE.slot, .bool noE.wu, .string noE.wd, .bool noE.iu, .string noE.id, .int .i64 noE.next] from Slab.Blk.far (Slab.Blk.far (Slab.Blk.far hZZ (p := ⟨gx, 6, none⟩) (show w.heap.size ≠ gx by omega) _) (p := ⟨gx, 7, none⟩) (show w.heap.size ≠ gx by omega) _) (p := ⟨gx, 12, none⟩) (show w.heap.size ≠ gx by omega) _)
        have HBX := Lib.hid (show Below w.heap.size w (((W2.setCell ⟨gx, 6, none⟩ (.int .i64 (valN 6 L))).setCell ⟨gx, 7, none⟩ (.int .i64 (valN 7 L))).setCell ⟨gx, 12, none⟩ (.int .i64 (valN 8 L))) from ((hbX.setCell (p := ⟨gx, 6, none⟩) hwx _).setCell (p := ⟨gx, 7, none⟩) hwx _).setCell (p := ⟨gx, 12, none⟩) hwx _)
        clear hXa hZZ hbX
        go_wp2_with fail
        refine (HT1.out _).mono ?_
        generalize hRT1 : rtake (restN 9 L) = RT1 at HT2 HOK1 HOK2 ⊢
        rintro e w3 ⟨rfl, b3⟩
        have HX3 := Lib.hid ((HXX.out.below b3 HXX.out.lt).alloc (.cells #[.bool RT1.1, .string (arr RT1.2.1)] 54))
        have HZ3 := Lib.hid ((HZZ.out.below b3 HZZ.out.lt).alloc (.cells #[.bool RT1.1, .string (arr RT1.2.1)] 54))
        have HB3 := Lib.hid (below_next (below_next HBX.out b3) (below_box w3 (.cells #[.bool RT1.1, .string (arr RT1.2.1)] 54)))
        have hs3 := Blk.new w3 54 #[.bool RT1.1, .string (arr RT1.2.1)]
        have hg3 : gx < w3.heap.size := (HXX.out.below b3 HXX.out.lt).lt
        clear b3 e6 e7 e12 f6 f7 f12 d6 d7 d8 HXX HZZ HBX hn1 hn2
        go_upto_region 17 with (fail)
        generalize hGen : w3.alloc (.cells #[.bool RT1.1, .string (arr RT1.2.1)] 54) = W3 at HX3 HZ3 HB3 hs3 ⊢
        clear hGen
        generalize hGen : w3.heap.size = s1 at hs3 hg3 ⊢
        clear hGen
        have HS3 := Lib.hid hs3
        have hl3 : s1 < W3.heap.size := hs3.lt
        clear hs3
        go_wp2_with fail
        refine (HT2.out _).mono ?_
        generalize hRT2 : rtake RT1.2.2.1 = RT2 at HOK2 ⊢
        rintro e w4 ⟨rfl, b4⟩
        have HX4 := Lib.hid ((HX3.out.below b4 HX3.out.lt).alloc (.cells #[.bool RT2.1, .string (arr RT2.2.1)] 54))
        have HZ4 := Lib.hid ((HZ3.out.below b4 HZ3.out.lt).alloc (.cells #[.bool RT2.1, .string (arr RT2.2.1)] 54))
        have HB4 := Lib.hid (below_next (below_next HB3.out b4) (below_box w4 (.cells #[.bool RT2.1, .string (arr RT2.2.1)] 54)))
        have HS4 := Lib.hid ((HS3.out.below b4 hl3).alloc (.cells #[.bool RT2.1, .string (arr RT2.2.1)] 54))
        have hs4 := Blk.new w4 54 #[.bool RT2.1, .string (arr RT2.2.1)]
        have hl4 : s1 < w4.heap.size := Nat.lt_of_lt_of_le hl3 b4.size
        clear b4 HX3 HZ3 HB3 HS3
        go_upto_region 18 with (fail)
        generalize hGen : w4.alloc (.cells #[.bool RT2.1, .string (arr RT2.2.1)] 54) = W4 at HX4 HZ4 HB4 HS4 hs4 ⊢
        clear hGen
        generalize hGen : w4.heap.size = s2 at hs4 hl4 ⊢
        clear hGen
        cases ho1 : RT1.2.2.2 with
        | false =>
          have HF := Lib.hid (HFAIL.out (.inl (by rw [HWR2.out, ← HOK1.out.1, ho1]; rfl)))
          clear ho1
          obtain ⟨z0, z1, z2, z3, z4, z5, z6, z7, z8, z9, z10, z11, z12⟩ := ent_cells HZ4.out
          obtain ⟨q0, q1, q2, q3, q4, q5, q6, q7, q8, q9, q10, q11, q12⟩ := ent_frozen HZ4.out
          go_wp2
          refine bodyPost_ret (v := .tuple #[.agg #[.int .i64 0, .int .i64 0, .int .i64 0, .int .i64 0, .int .i64 0, .int .i64 0, .int .i64 0, .int .i64 0, .bool false, .string ⟨#[]⟩, .bool false, .string ⟨#[]⟩, .int .i64 0], .string ⟨#[]⟩, .int .i64 4]) (by simp [results, Try.results18, go_sem, z0, z1, z2, z3, z4, z5, z6, z7, z8, z9, z10, z11, z12]) rfl ?_
          obtain ⟨f1, f2, f3⟩ := HF.out
          refine ⟨by rw [f1, f2, f3]; rfl, ?_⟩
          exact below13 HB4.out (Nat.le_refl _) _ _ _ _ _ _ _ _ _ _ _ _ _
        | true =>
          have e1 : RT1 = slotR (restN 9 L) := HOK1.out.2 (by rw [← HOK1.out.1]; exact ho1)
          cases ho2 : RT2.2.2.2 with
          | false =>
            have HF := Lib.hid (HFAIL.out (.inl (by rw [HWR2.out, ← e1, ← HOK2.out.1, ho2]; simp)))
            clear ho1 ho2 e1
            obtain ⟨z0, z1, z2, z3, z4, z5, z6, z7, z8, z9, z10, z11, z12⟩ := ent_cells HZ4.out
            obtain ⟨q0, q1, q2, q3, q4, q5, q6, q7, q8, q9, q10, q11, q12⟩ := ent_frozen HZ4.out
            go_wp2
            refine bodyPost_ret (v := .tuple #[.agg #[.int .i64 0, .int .i64 0, .int .i64 0, .int .i64 0, .int .i64 0, .int .i64 0, .int .i64 0, .int .i64 0, .bool false, .string ⟨#[]⟩, .bool false, .string ⟨#[]⟩, .int .i64 0], .string ⟨#[]⟩, .int .i64 4]) (by simp [results, Try.results18, go_sem, z0, z1, z2, z3, z4, z5, z6, z7, z8, z9, z10, z11, z12]) rfl ?_
            obtain ⟨f1, f2, f3⟩ := HF.out
            refine ⟨by rw [f1, f2, f3]; rfl, ?_⟩
            exact below13 HB4.out (Nat.le_refl _) _ _ _ _ _ _ _ _ _ _ _ _ _
          | true =>
            have e2 : RT2 = slotR RT1.2.2.1 := HOK2.out.2 (by rw [← HOK2.out.1]; exact ho2)
            have HW := Lib.hid (show readW L = false by rw [HWR2.out, ← e1, ← HOK2.out.1, ho1, ho2]; rfl)
            have hTT : arr RT2.2.2.1 = arr (readT L) := by rw [HR2.out, e2, e1]; simp only [srN]
            have hwx : w.heap.size ≤ gx := Nat.le_of_lt hwr
            have hnz : w.heap.size ≠ gx := by omega
            have HXX := Lib.hid (show Blk ((((W4.setCell ⟨gx, 8, none⟩ (.bool RT1.1)).setCell ⟨gx, 9, none⟩ (.string (arr RT1.2.1))).setCell ⟨gx, 10, none⟩ (.bool RT2.1)).setCell ⟨gx, 11, none⟩ (.string (arr RT2.2.1))) gx 56 #[.int .i64 (readX L).kind, .int .i64 (readX L).cl, .int .i64 (readX L).ep, .int .i64 (readX L).n, .int .i64 (readX L).lsn, .int .i64 (readX L).prev, .int .i64 (readX L).page, .int .i64 (readX L).slot, .bool (readX L).wu, .string (readX L).wd, .bool (readX L).iu, .string (readX L).id, .int .i64 (readX L).next] by
              have p1 := partS_next L 0 (by decide)
              have p2 := partS_next L 1 (by decide)
              simp only [srN] at p1 p2
              have h5 := Slab.Blk.set_ (Slab.Blk.set_ (show Blk W4 gx 56 (entA (partS 0 L)) by rw [← part_all]; exact HX4.out) 8 (.bool RT1.1)) 9 (.string (arr RT1.2.1))
              have h6 : Blk ((W4.setCell ⟨gx, 8, none⟩ (.bool RT1.1)).setCell ⟨gx, 9, none⟩ (.string (arr RT1.2.1))) gx 56 (entA (partS 1 L)) := by
                rw [← p1]; rw [e1] at h5 ⊢; exact h5
              have h7 := Slab.Blk.set_ (Slab.Blk.set_ h6 10 (.bool RT2.1)) 11 (.string (arr RT2.2.1))
              have h8 : Blk ((((W4.setCell ⟨gx, 8, none⟩ (.bool RT1.1)).setCell ⟨gx, 9, none⟩ (.string (arr RT1.2.1))).setCell ⟨gx, 10, none⟩ (.bool RT2.1)).setCell ⟨gx, 11, none⟩ (.string (arr RT2.2.1))) gx 56 (entA (partS 2 L)) := by
                rw [← p2]; rw [e2, e1] at h7 ⊢; exact h7
              rw [HR1.out]; exact h8)
            have HZZ := Lib.hid (show Blk ((((W4.setCell ⟨gx, 8, none⟩ (.bool RT1.1)).setCell ⟨gx, 9, none⟩ (.string (arr RT1.2.1))).setCell ⟨gx, 10, none⟩ (.bool RT2.1)).setCell ⟨gx, 11, none⟩ (.string (arr RT2.2.1))) w.heap.size 56 #[.int .i64 noE.kind, .int .i64 noE.cl, .int .i64 noE.ep, .int .i64 noE.n, .int .i64 noE.lsn, .int .i64 noE.prev, .int .i64 noE.page, .int .i64 noE.slot, .bool noE.wu, .string noE.wd, .bool noE.iu, .string noE.id, .int .i64 noE.next] from Slab.Blk.far (Slab.Blk.far (Slab.Blk.far (Slab.Blk.far HZ4.out (p := ⟨gx, 8, none⟩) hnz _) (p := ⟨gx, 9, none⟩) hnz _) (p := ⟨gx, 10, none⟩) hnz _) (p := ⟨gx, 11, none⟩) hnz _)
            have HBX := Lib.hid (show Below w.heap.size w ((((W4.setCell ⟨gx, 8, none⟩ (.bool RT1.1)).setCell ⟨gx, 9, none⟩ (.string (arr RT1.2.1))).setCell ⟨gx, 10, none⟩ (.bool RT2.1)).setCell ⟨gx, 11, none⟩ (.string (arr RT2.2.1))) from (((HB4.out.setCell (p := ⟨gx, 8, none⟩) hwx _).setCell (p := ⟨gx, 9, none⟩) hwx _).setCell (p := ⟨gx, 10, none⟩) hwx _).setCell (p := ⟨gx, 11, none⟩) hwx _)
            have a0 := HS4.out.cell 0
            have a1 := HS4.out.cell 1
            have b0 := hs4.cell 0
            have b1 := hs4.cell 1
            have g8 := HX4.out.frozen 8
            have g9 := HX4.out.frozen 9
            have g10 := HX4.out.frozen 10
            have g11 := HX4.out.frozen 11
            have c8 : W4.cell? ⟨gx, 8, none⟩ = some (.bool (partE 8 L).wu) := HX4.out.cell 8
            have c9 : W4.cell? ⟨gx, 9, none⟩ = some (.string (partE 8 L).wd) := HX4.out.cell 9
            have c10 : W4.cell? ⟨gx, 10, none⟩ = some (.bool (partE 8 L).iu) := HX4.out.cell 10
            have c11 : W4.cell? ⟨gx, 11, none⟩ = some (.string (partE 8 L).id) := HX4.out.cell 11
            have n1 : s1 ≠ gx := by omega
            have n2 : gx ≠ s1 := by omega
            have n3 : s2 ≠ gx := by omega
            have n4 : gx ≠ s2 := by omega
            have HTT := Lib.hid hTT
            clear ho1 ho2 e1 e2 hTT hnz
            go_upto_region 23 with (fail)
            rw [HTT.out]
            generalize hGen : (((W4.setCell ⟨gx, 8, none⟩ (.bool RT1.1)).setCell ⟨gx, 9, none⟩ (.string (arr RT1.2.1))).setCell ⟨gx, 10, none⟩ (.bool RT2.1)).setCell ⟨gx, 11, none⟩ (.string (arr RT2.2.1)) = W5 at HXX HZZ HBX ⊢
            clear hGen
            clear a0 a1 b0 b1 g8 g9 g10 g11 c8 c9 c10 c11
            have hsm := hsm
            generalize readX L = X at HXX HFAIL HOK hsm
            generalize readT L = T at HOK ⊢
            obtain ⟨c0, c1, c2, c3, c4, c5, c6, c7, c8, c9, c10, c11, c12⟩ := ent_cells HXX.out
            go_wp2_with fail
            refine (rgood_any X _ hsm).mono ?_
            rintro e w8 ⟨rfl, b8⟩
            have hX8 := HXX.out.below b8 HXX.out.lt
            have hZ8 := HZZ.out.below b8 HZZ.out.lt
            have HB8 := Lib.hid (below_next HBX.out b8)
            clear c0 c1 c2 c3 c4 c5 c6 c7 c8 c9 c10 c11 c12 b8
            obtain ⟨c0, c1, c2, c3, c4, c5, c6, c7, c8, c9, c10, c11, c12⟩ := ent_cells hX8
            obtain ⟨z0, z1, z2, z3, z4, z5, z6, z7, z8, z9, z10, z11, z12⟩ := ent_cells hZ8
            obtain ⟨q0, q1, q2, q3, q4, q5, q6, q7, q8, q9, q10, q11, q12⟩ := ent_frozen hZ8
            cases hgd : goodB X with
            | false =>
              have HF := Lib.hid (HFAIL.out (.inr hgd))
              clear hgd HFAIL HOK
              go_wp2
              refine bodyPost_ret (v := .tuple #[.agg #[.int .i64 0, .int .i64 0, .int .i64 0, .int .i64 0, .int .i64 0, .int .i64 0, .int .i64 0, .int .i64 0, .bool false, .string ⟨#[]⟩, .bool false, .string ⟨#[]⟩, .int .i64 0], .string ⟨#[]⟩, .int .i64 4]) (by simp [results, Try.results18, go_sem, z0, z1, z2, z3, z4, z5, z6, z7, z8, z9, z10, z11, z12]) rfl ?_
              obtain ⟨f1, f2, f3⟩ := HF.out
              refine ⟨by rw [f1, f2, f3]; rfl, ?_⟩
              exact below13 HB8.out (Nat.le_refl _) _ _ _ _ _ _ _ _ _ _ _ _ _
            | true =>
              have HF := Lib.hid (HOK.out HW.out hgd)
              clear hgd HFAIL HOK
              go_wp2
              refine bodyPost_ret (v := .tuple #[.agg #[.int .i64 X.kind, .int .i64 X.cl, .int .i64 X.ep, .int .i64 X.n, .int .i64 X.lsn, .int .i64 X.prev, .int .i64 X.page, .int .i64 X.slot, .bool X.wu, .string X.wd, .bool X.iu, .string X.id, .int .i64 X.next], .string (arr T), .int .i64 0]) (by simp [results, Try.results18, go_sem, z0, z1, z2, z3, z4, z5, z6, z7, z8, z9, z10, z11, z12]) rfl ?_
              obtain ⟨f1, f2, f3⟩ := HF.out
              refine ⟨by rw [f1, f2, f3]; rfl, ?_⟩
              exact below13 HB8.out (Nat.le_refl _) _ _ _ _ _ _ _ _ _ _ _ _ _
end Go.Proofs.Ytjffjmffoffblaa.Ent
