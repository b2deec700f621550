/- The walks of the document's own Decode, at each of the kinds. -/
import Derived.Test.YtjffjmffoffblaaQNoteRDec
namespace Go.Proofs.Ytjffjmffoffblaa.Note
set_option maxRecDepth 100000
open Go.RowKit Go.Sort
open Go.Proofs.Ytjffjmffoffblaa.Nib (enc below_next below_drew Fits takeInt)
open Go.Proofs.Ytjffjmffoffblaa.Slab (Slot Slots Blk ret_bool' ret_int' decR)
open Go.Proofs.Ytjffjmffoffblaa.Ent (Ent Ents EntAt SmallE withinB knownB noE entA below_box alloc_lt arr arr_list list_arr arr_size ent_cells Only decX decT decC cellsE cellsE_snoc infoE)
set_option maxRecDepth 100000 in
set_option maxHeartbeats 8000000 in
theorem rdec_Image (S : ByteArray) (w : World) (hs : S.size ≤ 140737488351232) (h4 : 4 ≤ S.size) (hq : S.data.toList.take 4 = quadH (Sum.check (S.data.toList.drop 4))) (hall : sAll (S.data.toList.drop 4) = sEnts hImage (sImage hImage (sN hImage (sTxn hImage (sNeed hImage (sX hImage (sPage hImage (sKind (S.data.toList.drop 4)))))))))
    (hh0 : ∀ w (m : Ms) (hd : Hd),m.kind = vl (S.data.toList.drop 4) → m.need = false → Calls Try.prog 14 #[.agg #[.int .i64 m.kind,.int .i64 m.page,.bool m.x,.bool m.need,.int .i64 m.n,.int .i64 m.cl,.int .i64 m.ep,.int .i64 m.tn,.int .i64 m.lsn,.slice hd.a hd.an hd.ac,.slice hd.b hd.bn hd.bc]] w fun e w' => e = .returned (.string ⟨#[112,105]⟩) ∧ Below w.heap.size w w')
    (hh1 : ∀ w (m : Ms) (hd : Hd),m.kind = vl (S.data.toList.drop 4) → m.need = (sN hImage (sTxn hImage (sNeed hImage (sX hImage (sPage hImage (sKind (S.data.toList.drop 4))))))).m.need → Calls Try.prog 14 #[.agg #[.int .i64 m.kind,.int .i64 m.page,.bool m.x,.bool m.need,.int .i64 m.n,.int .i64 m.cl,.int .i64 m.ep,.int .i64 m.tn,.int .i64 m.lsn,.slice hd.a hd.an hd.ac,.slice hd.b hd.bn hd.bc]] w fun e w' => e = .returned (.string ⟨#[112,105]⟩) ∧ Below w.heap.size w w') :
    Calls Try.prog 6 #[.string S] w (DecRes (decS S.data.toList).1 (decS S.data.toList).2 w) := by
  have hZ := Blk.new w 30 #[.int .i64 0,.int .i64 0,.bool false,.bool false,.int .i64 0,.int .i64 0,.int .i64 0,.int .i64 0,.int .i64 0,.slice none 0 0,.slice none 0 0]
  have hb := below_box w (.cells #[.int .i64 0,.int .i64 0,.bool false,.bool false,.int .i64 0,.int .i64 0,.int .i64 0,.int .i64 0,.int .i64 0,.slice none 0 0,.slice none 0 0] 30)
  have hg := alloc_lt w (.cells #[.int .i64 0,.int .i64 0,.bool false,.bool false,.int .i64 0,.int .i64 0,.int .i64 0,.int .i64 0,.int .i64 0,.slice none 0 0,.slice none 0 0] 30)
  have HI0 := Lib.hid (fun W => InN.nil w.heap.size W noM rfl rfl)
  have hsz : S.size = S.data.toList.length := by simp
  have HSZ := Lib.hid hsz
  clear hsz
  have HDEC := Lib.hid (decS_of (by have := HSZ.out; omega) hq hall)
  have HH0 := Lib.hid hh0
  have HH1 := Lib.hid hh1
  clear hh0 hh1 hall
  have h4' : ¬ ((S.size : Int) < 4) := by omega
  have i0 : (0 : Int) < (S.size : Int) := by omega
  have i1 : (1 : Int) < (S.size : Int) := by omega
  have i2 : (2 : Int) < (S.size : Int) := by omega
  have i3 : (3 : Int) < (S.size : Int) := by omega
  have j0 : 0 < S.size := by omega
  have j1 : 1 < S.size := by omega
  have j2 : 2 < S.size := by omega
  have j3 : 3 < S.size := by omega
  have b0 := (S[0]'(by omega)).toNat_lt
  have b1 := (S[1]'(by omega)).toNat_lt
  have b2 := (S[2]'(by omega)).toNat_lt
  have b3 := (S[3]'(by omega)).toNat_lt
  have hs4 : 4 ≤ S.size := h4
  have HQN := Lib.hid (quad_num h4 (Sum.check (S.data.toList.drop 4)))
  have HDR := Lib.hid (show (S.extract 4 S.size).data.toList = S.data.toList.drop 4 from by rw [← Nib.str_drop])
  have HOF := Lib.hid (fun w => Sum.ref_any (S.extract 4 S.size) w (by rw [ByteArray.size_extract]; omega))
  rw [HDR.out] at HOF
  go_enter Try.func6,Try.ntmps6
  try dsimp only [List.append]
  go_upto_region 3 with (fail)
  generalize hGen : w.alloc (.cells #[.int .i64 0,.int .i64 0,.bool false,.bool false,.int .i64 0,.int .i64 0,.int .i64 0,.int .i64 0,.int .i64 0,.slice none 0 0,.slice none 0 0] 30) = W at hb hZ hg ⊢
  clear hGen
  go_quiet (fail)
  have hbq := below_drew hb nq
  have hZq : Blk (W.drewN nq) w.heap.size 30 #[.int .i64 0,.int .i64 0,.bool false,.bool false,.int .i64 0,.int .i64 0,.int .i64 0,.int .i64 0,.int .i64 0,.slice none 0 0,.slice none 0 0] := hZ
  have hgq : w.heap.size < (W.drewN nq).heap.size := hg
  generalize hGen : W.drewN nq = Wq at hbq hZq hgq ⊢
  clear hGen
  clear hb hZ hg
  have heq := HQN.out.1 hq
  clear hq
  generalize ((S[0]'(by omega)).toNat : Int) * 16777216 + ((S[1]'(by omega)).toNat : Int) * 65536 + ((S[2]'(by omega)).toNat : Int) * 256 + ((S[3]'(by omega)).toNat : Int) = V at heq ⊢
  have hcmp : (((Sum.check (S.data.toList.drop 4)).toNat : Int) != V) = false := by rw [heq]; exact bne_self_eq_false _
  clear heq b0 b1 b2 b3
  have HSL := Lib.hid (show (S.data.toList.drop 4).length ≤ 140737488351232 from by rw [List.length_drop]; have := HSZ.out; omega)
  have HEX := Lib.hid (show S.extract 4 S.size = arr (S.data.toList.drop 4) from by rw [← HDR.out,list_arr])
  generalize S.data.toList.drop 4 = s at HDEC HH0 HH1 HOF hcmp HSL HEX HDR HQN
  clear HQN HDR
  go_wp2_with fail
  refine (HOF.out _).mono ?_
  rintro e wx ⟨rfl,rfl⟩
  have hex := HEX.out
  go_upto_region 7 with (fail)
  clear hex hcmp h4'
  have hZ2 := hZq.alloc (.cells #[.string (arr s),.bool false] 47)
  have hR2 := Blk.new Wq 47 #[.string (arr s),.bool false]
  have hb2 := below_next hbq (below_box Wq (.cells #[.string (arr s),.bool false] 47))
  have hg2 := alloc_lt Wq (.cells #[.string (arr s),.bool false] 47)
  generalize hGen : Wq.alloc (.cells #[.string (arr s),.bool false] 47) = W2 at hZ2 hR2 hb2 hg2 ⊢
  clear hGen
  clear hZq hbq
  generalize hGen : Wq.heap.size = r at hR2 hg2 hgq ⊢
  clear hGen
  have R2 := Lib.hid (show CRd W2 r s false from hR2)
  have Z2 := Lib.hid hZ2
  have B2 := Lib.hid hb2
  clear hR2 hZ2 hb2
  go_wp2_with fail
  refine (cint_any r s false _ R2.out (by have := HSL.out; omega)).mono ?_
  rintro e w3 ⟨rfl,h1,o1⟩
  have R3 := Lib.hid h1
  have Z3 := Lib.hid (o1.blk Z2.out (by omega))
  have B3 := Lib.hid (B2.out.trans (o1.below (B := w.heap.size) (by omega) (by omega)))
  have hg3 := Nat.lt_of_lt_of_le hg2 o1.size
  clear h1 o1 R2 Z2 B2 hg2
  go_upto_region 8 with (fail)
  have R4 := Lib.hid (R3.out.below (below_box w3 (.cells #[.int .i64 (vl s),.int .i64 0,.bool false,.bool false,.int .i64 0,.int .i64 0,.int .i64 0,.int .i64 0,.int .i64 0,.slice none 0 0,.slice none 0 0] 30)))
  have Z4 := Lib.hid (Z3.out.alloc (.cells #[.int .i64 (vl s),.int .i64 0,.bool false,.bool false,.int .i64 0,.int .i64 0,.int .i64 0,.int .i64 0,.int .i64 0,.slice none 0 0,.slice none 0 0] 30))
  have B4 := Lib.hid (below_next B3.out (below_box w3 (.cells #[.int .i64 (vl s),.int .i64 0,.bool false,.bool false,.int .i64 0,.int .i64 0,.int .i64 0,.int .i64 0,.int .i64 0,.slice none 0 0,.slice none 0 0] 30)))
  have hM := Blk.new w3 30 #[.int .i64 (vl s),.int .i64 0,.bool false,.bool false,.int .i64 0,.int .i64 0,.int .i64 0,.int .i64 0,.int .i64 0,.slice none 0 0,.slice none 0 0]
  generalize hGen : w3.alloc (.cells #[.int .i64 (vl s),.int .i64 0,.bool false,.bool false,.int .i64 0,.int .i64 0,.int .i64 0,.int .i64 0,.int .i64 0,.slice none 0 0,.slice none 0 0] 30) = wb at R4 Z4 B4 hM ⊢
  clear hGen
  clear R3 Z3 B3
  generalize hGen : w3.heap.size = mb at hM hg3 ⊢
  clear hGen
  have P := Lib.hid (show PC w r mb from ⟨hgq,hg3⟩)
  have SR := Lib.hid (show RC w wb r mb (sKind s) hd0 from ⟨R4.out,hM,Z4.out,B4.out,Nat.le_trans (nx_len s) HSL.out⟩)
  clear R4 Z4 B4 hM hgq hg3
  have i_p := Lib.hid (fun w => in_is ⟨#[112,105]⟩ 112 true (by decide) (by decide) w 112 (by decide))
  have i_x := Lib.hid (fun w => in_is ⟨#[112,105]⟩ 120 false (by decide) (by decide) w 120 (by decide))
  have i_n := Lib.hid (fun w => in_is ⟨#[112,105]⟩ 110 false (by decide) (by decide) w 110 (by decide))
  have i_t := Lib.hid (fun w => in_is ⟨#[112,105]⟩ 116 false (by decide) (by decide) w 116 (by decide))
  have i_k := Lib.hid (fun w => in_is ⟨#[112,105]⟩ 107 false (by decide) (by decide) w 107 (by decide))
  have i_i := Lib.hid (fun w => in_is ⟨#[112,105]⟩ 105 true (by decide) (by decide) w 105 (by decide))
  have i_e := Lib.hid (fun w => in_is ⟨#[112,105]⟩ 101 false (by decide) (by decide) w 101 (by decide))
  generalize ht : sKind s = t0 at SR
  have HT0 := Lib.hid ht
  clear ht
  have hk0 := Lib.hid (show t0.m.kind = vl s ∧ t0.m.need = false from by rw [← HT0.out]; exact ⟨rfl,rfl⟩)
  have hMc := SR.out.m
  obtain ⟨c0,c1,c2,c3,c4,c5,c6,c7,c8,c9,c10⟩ := msg_cells (m := t0.m) (h := hd0) hMc
  clear hMc
  simp only [hd0] at c9 c10
  go_wp2_with fail
  refine (HH0.out _ t0.m hd0 hk0.out.1 hk0.out.2).mono ?_
  rintro e wa ⟨rfl,ba⟩
  replace SR := Lib.hid (SR.out.next ba)
  clear ba hk0 c0 c1 c2 c3 c4 c5 c6 c7 c8 c9 c10
  go_wp2_with (go_at_call 15; apply Calls.mono; (with_reducible first | exact i_p.out _ | exact i_x.out _ | exact i_n.out _ | exact i_t.out _ | exact i_k.out _ | exact i_i.out _ | exact i_e.out _); rintro e w' ⟨rfl,rfl⟩)
  refine (cint_any r t0.r t0.bad _ SR.out.rd (by have := SR.out.len; omega)).mono ?_
  rintro e wd ⟨rfl,h1,o1⟩
  replace SR := Lib.hid (SR.out.num P.out h1 o1 (nx_len _))
  clear h1 o1
  have hm := SR.out.m
  have y := Blk.cell hm 1
  have f := Blk.frozen hm 1
  clear hm
  simp [msgA] at y
  replace SR := Lib.hid (SR.out.setm P.out 1 (.int .i64 (vl t0.r)) (m' := { t0.m with page := vl t0.r }) (hd' := hd0) rfl)
  go_upto_region 11 with (go_at_call 15; apply Calls.mono; (with_reducible first | exact i_p.out _ | exact i_x.out _ | exact i_n.out _ | exact i_t.out _ | exact i_k.out _ | exact i_i.out _ | exact i_e.out _); rintro e w' ⟨rfl,rfl⟩)
  generalize hGen : wd.setCell ⟨mb,1,none⟩ (.int .i64 (vl t0.r)) = wb at SR ⊢
  clear hGen
  clear y f
  replace SR := Lib.hid (show RC w _ r mb (sPage hImage t0) hd0 from SR.out)
  generalize ht : sPage hImage t0 = t1 at SR
  have HT1 := Lib.hid ht
  clear ht
  have HCH := Lib.hid (show sN hImage (sTxn hImage (sNeed hImage (sX hImage (sPage hImage (sKind s))))) = t1 from by rw [HT0.out,HT1.out,show sX hImage t1 = t1 from rfl,show sNeed hImage t1 = t1 from rfl,show sTxn hImage t1 = t1 from rfl,show sN hImage t1 = t1 from rfl])
  generalize ht : t1 = t at SR HCH
  have HTT := Lib.hid ht
  clear ht
  have hk1 := Lib.hid (show t.m.kind = vl s ∧ t.m.need = (sN hImage (sTxn hImage (sNeed hImage (sX hImage (sPage hImage (sKind s)))))).m.need from by
    rw [HCH.out]; refine ⟨?_,rfl⟩; rw [← HCH.out]; simp only [sPage_kind,sX_kind,sNeed_kind,sTxn_kind,sN_kind]; rfl)
  have hes := Lib.hid (show t.m.zs = [] ∧ t.m.es = [] from by rw [← HCH.out]; simp only [sPage_es,sX_es,sNeed_es,sTxn_es,sN_es,sPage_zs,sX_zs,sNeed_zs,sTxn_zs,sN_zs]; exact ⟨rfl,rfl⟩)
  go_upto_region 21 with (go_at_call 15; apply Calls.mono; (with_reducible first | exact i_p.out _ | exact i_x.out _ | exact i_n.out _ | exact i_t.out _ | exact i_k.out _ | exact i_i.out _ | exact i_e.out _); rintro e w' ⟨rfl,rfl⟩)
  have hMc := SR.out.m
  obtain ⟨c0,c1,c2,c3,c4,c5,c6,c7,c8,c9,c10⟩ := msg_cells (m := t.m) (h := hd0) hMc
  clear hMc
  simp only [hd0] at c9 c10
  go_wp2_with fail
  refine (HH1.out _ t.m hd0 hk1.out.1 hk1.out.2).mono ?_
  rintro e we ⟨rfl,ba⟩
  replace SR := Lib.hid (SR.out.next ba)
  clear ba c0 c1 c2 c3 c4 c5 c6 c7 c8 c9 c10
  rw [HCH.out] at HDEC
  go_upto_region 22 with (go_at_call 15; apply Calls.mono; (with_reducible first | exact i_p.out _ | exact i_x.out _ | exact i_n.out _ | exact i_t.out _ | exact i_k.out _ | exact i_i.out _ | exact i_e.out _); rintro e w' ⟨rfl,rfl⟩)
  obtain ⟨r0,r1,_,_⟩ := SR.out.rd.get
  have hrs : (arr t.r).size = t.r.length := arr_size _
  have HRS := Lib.hid hrs
  clear hrs
  by_cases hsh : t.r.length < 240
  · have hsh' : ((arr t.r).size : Int) < 240 := by have := HRS.out; omega
    have HE := Lib.hid (show decS S.data.toList = (noM,4) from by rw [HDEC.out]; unfold sImage; simp only [if_true,hImage,sEnts,imR_short hsh]; simp)
    have hZc := SR.out.z
    obtain ⟨z0,z1,z2,z3,z4,z5,z6,z7,z8,z9,z10⟩ := msg_cells (m := noM) (h := hd0) hZc
    obtain ⟨q0,q1,q2,q3,q4,q5,q6,q7,q8,q9,q10⟩ := msg_frozen hZc
    simp only [noM,hd0] at z0 z1 z2 z3 z4 z5 z6 z7 z8 z9 z10
    clear hZc
    have hbl := SR.out.bel
    go_wp2_with (go_at_call 15; apply Calls.mono; (with_reducible first | exact i_p.out _ | exact i_x.out _ | exact i_n.out _ | exact i_t.out _ | exact i_k.out _ | exact i_i.out _ | exact i_e.out _); rintro e w' ⟨rfl,rfl⟩)
    refine bodyPost_ret (v := .tuple #[.agg #[.int .i64 0,.int .i64 0,.bool false,.bool false,.int .i64 0,.int .i64 0,.int .i64 0,.int .i64 0,.int .i64 0,.slice none 0 0,.slice none 0 0],.int .i64 4]) (by simp [results,Try.results6,go_sem,z0,z1,z2,z3,z4,z5,z6,z7,z8,z9,z10]) rfl ?_
    rw [HE.out]
    exact ⟨hd0,rfl,(HI0.out _).set11 _ _ _ _ _ _ _ _ _ _ _,below11 hbl (Nat.le_refl _) _ _ _ _ _ _ _ _ _ _ _⟩
  have hsh' : ¬ ((arr t.r).size : Int) < 240 := by have := HRS.out; omega
  have hk240 : 240 ≤ (arr t.r).size := by omega
  have he1 := ext_take t.r 240
  have he2 := ext_drop t.r 240
  have HIE := Lib.hid (imE_long hsh)
  clear hsh
  have HRD := Lib.hid (fun w => Slab.rdecode_any (arr (t.r.take 240)) w)
  rw [arr_list] at HRD
  have HIR := Lib.hid (show imR t.r = decR (t.r.take 240) from by unfold imR; rw [HIE.out])
  rw [← HIR.out] at HRD
  generalize hL : (imR t.r).1 = L at HRD
  generalize hz : (imR t.r).2.1 = zz at HRD
  generalize hc : (imR t.r).2.2 = code at HRD
  have HL := Lib.hid (And.intro hL (And.intro hz hc))
  clear hL hz hc
  go_wp2_with fail
  refine (HRD.out _).mono ?_
  rintro e wf ⟨qa,qn,qc,rfl,hS,b1,hnew⟩
  have HMB := Lib.hid (show mb < wf.heap.size from Nat.lt_of_lt_of_le SR.out.m.lt b1.size)
  have HGN := Lib.hid (show ∀ g off e,qa = some ⟨g,off,e⟩ → mb < g from fun g off e h => Nat.lt_of_lt_of_le SR.out.m.lt (hnew g off e h))
  have HZQ := Lib.hid (show zz.length ≤ 1000000 from by rw [← HL.out.2.1]; exact Nat.le_trans (imR_len t.r) (by decide))
  replace SR := Lib.hid (SR.out.next b1)
  have HS := Lib.hid hS
  have HNEW := Lib.hid hnew
  have hbs := b1.size
  clear hS hnew r0 r1
  go_upto_region 25 with (fail)
  have hPG := Blk.new wf 27 #[.int .i64 L,.slice qa qn qc]
  have b2 := below_box wf (.cells #[.int .i64 L,.slice qa qn qc] 27)
  have hg5 := alloc_lt wf (.cells #[.int .i64 L,.slice qa qn qc] 27)
  replace SR := Lib.hid (SR.out.next b2)
  replace HS := Lib.hid (HS.out.below b2)
  generalize hGen : wf.alloc (.cells #[.int .i64 L,.slice qa qn qc] 27) = wg at hPG b2 hg5 SR HS ⊢
  clear hGen
  clear b1 b2
  have HPG := Lib.hid hPG
  clear hPG
  obtain ⟨r0,r1,g0,g1⟩ := SR.out.rd.get
  obtain ⟨nb,hnb⟩ : ∃ nb,nb = (t.bad || !(code == 0)) := ⟨_,rfl⟩
  have HNB := Lib.hid hnb
  have hcn : (code != 0) = !(code == 0) := rfl
  replace SR := Lib.hid (SR.out.bad P.out nb)
  cases hb0 : t.bad with
  | true =>
    rw [hb0] at r1 hnb
    have hnb2 : nb = true := hnb
    subst hnb2
    clear hnb hb0
    go_upto_region 26 with (fail)
    have hPC0 : (wg.setCell ⟨r,1,none⟩ (.bool true)).cell? ⟨wf.heap.size,0,none⟩ = some (.int .i64 L) := by rw [(Slab.Blk.far HPG.out (p := ⟨r,1,none⟩) (show wf.heap.size ≠ r from by have := P.out.pm; have := HMB.out; omega) (.bool true)).cell 0]; rfl
    have hPC1 : (wg.setCell ⟨r,1,none⟩ (.bool true)).cell? ⟨wf.heap.size,1,none⟩ = some (.slice qa qn qc) := by rw [(Slab.Blk.far HPG.out (p := ⟨r,1,none⟩) (show wf.heap.size ≠ r from by have := P.out.pm; have := HMB.out; omega) (.bool true)).cell 1]; rfl
    have HS2 := Lib.hid (slots_set HS.out (b := r) (fun g off e h => by have := HGN.out g off e h; have := P.out.pm; omega) 1 (.bool true) : Slots (wg.setCell ⟨r,1,none⟩ (.bool true)) qa qn zz)
    generalize hGen : wg.setCell ⟨r,1,none⟩ (.bool true) = wh at SR hPC0 hPC1 HS2 ⊢
    clear hGen
    clear r0 r1 g0 g1
    have hm := SR.out.m
    have y8 := Blk.cell hm 8
    have f8 := Blk.frozen hm 8
    have y9 := Blk.cell hm 9
    have f9 := Blk.frozen hm 9
    clear hm
    simp [msgA,hd0] at y8 y9
    replace SR := Lib.hid (SR.out.page1 P.out L zz qa qn qc)
    have HS3 := Lib.hid (slots_set (slots_set HS2.out (b := mb) (fun g off e h => Nat.ne_of_gt (HGN.out g off e h)) 8 (.int .i64 L)) (b := mb) (fun g off e h => Nat.ne_of_gt (HGN.out g off e h)) 9 (.slice qa qn qc))
    clear HS2
    go_upto_region 27 with (fail)
    generalize hGen : (wh.setCell ⟨mb,8,none⟩ (.int .i64 L)).setCell ⟨mb,9,none⟩ (.slice qa qn qc) = wi at SR HS3 ⊢
    clear hGen
    clear y8 y9 f8 f9 hPC0 hPC1
    obtain ⟨r0,r1,g0,g1⟩ := SR.out.rd.get
    simp only at r0 r1
    replace SR := Lib.hid (SR.out.rest P.out (t.r.drop 240) (by rw [List.length_drop]; exact Nat.sub_le _ _))
    have HS4 := Lib.hid (slots_set HS3.out (b := r) (fun g off e h => by have := HGN.out g off e h; have := P.out.pm; omega) 0 (.string (arr (t.r.drop 240))))
    clear HS3
    go_upto_region 28 with (fail)
    generalize hGen : wi.setCell ⟨r,0,none⟩ (.string (arr (t.r.drop 240))) = wj at SR HS4 ⊢
    clear hGen
    clear r0 r1 g0 g1
    have HFT := Lib.hid (show sImage hImage t = ⟨{ t.m with lsn := L,zs := zz },t.r.drop 240,true⟩ from by unfold sImage; simp only [hImage,if_true,HL.out.1,HL.out.2.1,HL.out.2.2,HIE.out]; rw [← HNB.out])
    have HDE := HDEC.out
    rw [HFT.out] at HDE
    have HDC := Lib.hid (show decS S.data.toList = if (!true && (t.r.drop 240 == [])) && goodM { t.m with lsn := L,zs := zz } then ({ t.m with lsn := L,zs := zz },0) else (noM,4) from HDE)
    clear HDE
    have HIN := Lib.hid (show InN w.heap.size wj { t.m with lsn := L,zs := zz } ⟨qa,qn,qc,none,0,0⟩ from ⟨⟨HS4.out,by rw [hes.out.2]; exact ⟨rfl,by simp,fun h => absurd h (Nat.lt_irrefl 0)⟩⟩,fun g off e h => Nat.lt_trans (Nat.lt_trans P.out.pr P.out.pm) (HGN.out g off e h),fun _ _ _ h => (by cases h)⟩)
    have HZL := Lib.hid (show qn ≤ 1000000 from by have h1 := HS4.out.len; have h3 := HZQ.out; omega)
    clear HS4
    generalize ({ t.m with lsn := L,zs := zz } : Ms) = m2 at SR HDC HIN ⊢
    generalize t.r.drop 240 = s2 at SR HDC ⊢
    go_upto_region 38 with (go_at_call 15; apply Calls.mono; (with_reducible first | exact i_p.out _ | exact i_x.out _ | exact i_n.out _ | exact i_t.out _ | exact i_k.out _ | exact i_i.out _ | exact i_e.out _); rintro e w' ⟨rfl,rfl⟩)
    obtain ⟨r0,r1,g0,g1⟩ := SR.out.rd.get
    simp only at r0 r1
    have HE := Lib.hid (show decS S.data.toList = (noM,4) from by rw [HDC.out]; rfl)
    have hZc := SR.out.z
    obtain ⟨z0,z1,z2,z3,z4,z5,z6,z7,z8,z9,z10⟩ := msg_cells (m := noM) (h := hd0) hZc
    obtain ⟨q0,q1,q2,q3,q4,q5,q6,q7,q8,q9,q10⟩ := msg_frozen hZc
    simp only [noM,hd0] at z0 z1 z2 z3 z4 z5 z6 z7 z8 z9 z10
    clear hZc
    have hbl := SR.out.bel
    go_wp2_with (go_at_call 15; apply Calls.mono; (with_reducible first | exact i_p.out _ | exact i_x.out _ | exact i_n.out _ | exact i_t.out _ | exact i_k.out _ | exact i_i.out _ | exact i_e.out _); rintro e w' ⟨rfl,rfl⟩)
    refine bodyPost_ret (v := .tuple #[.agg #[.int .i64 0,.int .i64 0,.bool false,.bool false,.int .i64 0,.int .i64 0,.int .i64 0,.int .i64 0,.int .i64 0,.slice none 0 0,.slice none 0 0],.int .i64 4]) (by simp [results,Try.results6,go_sem,z0,z1,z2,z3,z4,z5,z6,z7,z8,z9,z10]) rfl ?_
    rw [HE.out]
    exact ⟨hd0,rfl,(HI0.out _).set11 _ _ _ _ _ _ _ _ _ _ _,below11 hbl (Nat.le_refl _) _ _ _ _ _ _ _ _ _ _ _⟩
  | false =>
    rw [hb0] at r1 hnb
    cases hc0 : (code == 0) with
    | true =>
      have hc1 : (code != 0) = false := by show (!(code == 0)) = _; rw [hc0]; rfl
      rw [hc0] at hnb
      have hnb2 : nb = false := hnb
      subst hnb2
      clear hnb hb0
      go_upto_region 26 with (fail)
      have hPC0 : (wg.setCell ⟨r,1,none⟩ (.bool false)).cell? ⟨wf.heap.size,0,none⟩ = some (.int .i64 L) := by rw [(Slab.Blk.far HPG.out (p := ⟨r,1,none⟩) (show wf.heap.size ≠ r from by have := P.out.pm; have := HMB.out; omega) (.bool false)).cell 0]; rfl
      have hPC1 : (wg.setCell ⟨r,1,none⟩ (.bool false)).cell? ⟨wf.heap.size,1,none⟩ = some (.slice qa qn qc) := by rw [(Slab.Blk.far HPG.out (p := ⟨r,1,none⟩) (show wf.heap.size ≠ r from by have := P.out.pm; have := HMB.out; omega) (.bool false)).cell 1]; rfl
      have HS2 := Lib.hid (slots_set HS.out (b := r) (fun g off e h => by have := HGN.out g off e h; have := P.out.pm; omega) 1 (.bool false) : Slots (wg.setCell ⟨r,1,none⟩ (.bool false)) qa qn zz)
      generalize hGen : wg.setCell ⟨r,1,none⟩ (.bool false) = wh at SR hPC0 hPC1 HS2 ⊢
      clear hGen
      clear r0 r1 g0 g1 hc0 hc1
      have hm := SR.out.m
      have y8 := Blk.cell hm 8
      have f8 := Blk.frozen hm 8
      have y9 := Blk.cell hm 9
      have f9 := Blk.frozen hm 9
      clear hm
      simp [msgA,hd0] at y8 y9
      replace SR := Lib.hid (SR.out.page1 P.out L zz qa qn qc)
      have HS3 := Lib.hid (slots_set (slots_set HS2.out (b := mb) (fun g off e h => Nat.ne_of_gt (HGN.out g off e h)) 8 (.int .i64 L)) (b := mb) (fun g off e h => Nat.ne_of_gt (HGN.out g off e h)) 9 (.slice qa qn qc))
      clear HS2
      go_upto_region 27 with (fail)
      generalize hGen : (wh.setCell ⟨mb,8,none⟩ (.int .i64 L)).setCell ⟨mb,9,none⟩ (.slice qa qn qc) = wi at SR HS3 ⊢
      clear hGen
      clear y8 y9 f8 f9 hPC0 hPC1
      obtain ⟨r0,r1,g0,g1⟩ := SR.out.rd.get
      simp only at r0 r1
      replace SR := Lib.hid (SR.out.rest P.out (t.r.drop 240) (by rw [List.length_drop]; exact Nat.sub_le _ _))
      have HS4 := Lib.hid (slots_set HS3.out (b := r) (fun g off e h => by have := HGN.out g off e h; have := P.out.pm; omega) 0 (.string (arr (t.r.drop 240))))
      clear HS3
      go_upto_region 28 with (fail)
      generalize hGen : wi.setCell ⟨r,0,none⟩ (.string (arr (t.r.drop 240))) = wj at SR HS4 ⊢
      clear hGen
      clear r0 r1 g0 g1
      have HFT := Lib.hid (show sImage hImage t = ⟨{ t.m with lsn := L,zs := zz },t.r.drop 240,false⟩ from by unfold sImage; simp only [hImage,if_true,HL.out.1,HL.out.2.1,HL.out.2.2,HIE.out]; rw [← HNB.out])
      have HDE := HDEC.out
      rw [HFT.out] at HDE
      have HDC := Lib.hid (show decS S.data.toList = if (!false && (t.r.drop 240 == [])) && goodM { t.m with lsn := L,zs := zz } then ({ t.m with lsn := L,zs := zz },0) else (noM,4) from HDE)
      clear HDE
      have HIN := Lib.hid (show InN w.heap.size wj { t.m with lsn := L,zs := zz } ⟨qa,qn,qc,none,0,0⟩ from ⟨⟨HS4.out,by rw [hes.out.2]; exact ⟨rfl,by simp,fun h => absurd h (Nat.lt_irrefl 0)⟩⟩,fun g off e h => Nat.lt_trans (Nat.lt_trans P.out.pr P.out.pm) (HGN.out g off e h),fun _ _ _ h => (by cases h)⟩)
      have HZL := Lib.hid (show qn ≤ 1000000 from by have h1 := HS4.out.len; have h3 := HZQ.out; omega)
      clear HS4
      generalize ({ t.m with lsn := L,zs := zz } : Ms) = m2 at SR HDC HIN ⊢
      generalize t.r.drop 240 = s2 at SR HDC ⊢
      go_upto_region 38 with (go_at_call 15; apply Calls.mono; (with_reducible first | exact i_p.out _ | exact i_x.out _ | exact i_n.out _ | exact i_t.out _ | exact i_k.out _ | exact i_i.out _ | exact i_e.out _); rintro e w' ⟨rfl,rfl⟩)
      by_cases hnil : s2 = []
      rotate_left
      · obtain ⟨r0,r1,g0,g1⟩ := SR.out.rd.get
        simp only at r0 r1
        have n2 := arr_ne hnil
        have n3 := arr_ne2 hnil
        have n4 : ((arr s2).toList != []) = true := by show (!((arr s2).toList == [])) = true; rw [n2]; rfl
        have HNN := Lib.hid (show (s2 == []) = false from beq_eq_false_iff_ne.2 hnil)
        clear hnil
        have HE := Lib.hid (show decS S.data.toList = (noM,4) from by rw [HDC.out,HNN.out]; rfl)
        have hZc := SR.out.z
        obtain ⟨z0,z1,z2,z3,z4,z5,z6,z7,z8,z9,z10⟩ := msg_cells (m := noM) (h := hd0) hZc
        obtain ⟨q0,q1,q2,q3,q4,q5,q6,q7,q8,q9,q10⟩ := msg_frozen hZc
        simp only [noM,hd0] at z0 z1 z2 z3 z4 z5 z6 z7 z8 z9 z10
        clear hZc
        have hbl := SR.out.bel
        go_wp2_with (go_at_call 15; apply Calls.mono; (with_reducible first | exact i_p.out _ | exact i_x.out _ | exact i_n.out _ | exact i_t.out _ | exact i_k.out _ | exact i_i.out _ | exact i_e.out _); rintro e w' ⟨rfl,rfl⟩)
        refine bodyPost_ret (v := .tuple #[.agg #[.int .i64 0,.int .i64 0,.bool false,.bool false,.int .i64 0,.int .i64 0,.int .i64 0,.int .i64 0,.int .i64 0,.slice none 0 0,.slice none 0 0],.int .i64 4]) (by simp [results,Try.results6,go_sem,z0,z1,z2,z3,z4,z5,z6,z7,z8,z9,z10]) rfl ?_
        rw [HE.out]
        exact ⟨hd0,rfl,(HI0.out _).set11 _ _ _ _ _ _ _ _ _ _ _,below11 hbl (Nat.le_refl _) _ _ _ _ _ _ _ _ _ _ _⟩
      subst hnil
      obtain ⟨r0,r1,g0,g1⟩ := SR.out.rd.get
      simp only at r0 r1
      rw [Ent.arr_nil] at r0
      have hMc := SR.out.m
      obtain ⟨c0,c1,c2,c3,c4,c5,c6,c7,c8,c9,c10⟩ := msg_cells (m := m2) (h := ⟨qa,qn,qc,none,0,0⟩) hMc
      clear hMc
      simp only at c9 c10
      have HGD := Lib.hid (show ∀ w,In w m2 ⟨qa,qn,qc,none,0,0⟩ → Calls Try.prog 19 #[.agg #[.int .i64 m2.kind,.int .i64 m2.page,.bool m2.x,.bool m2.need,.int .i64 m2.n,.int .i64 m2.cl,.int .i64 m2.ep,.int .i64 m2.tn,.int .i64 m2.lsn,.slice qa qn qc,.slice none 0 0]] w fun e w' => e = .returned (.bool (goodM m2)) ∧ Below w.heap.size w w' from fun w hi => rgood_any m2 ⟨qa,qn,qc,none,0,0⟩ w hi HZL.out (Nat.zero_le _))
      go_wp2_with (go_at_call 15; apply Calls.mono; (with_reducible first | exact i_p.out _ | exact i_x.out _ | exact i_n.out _ | exact i_t.out _ | exact i_k.out _ | exact i_i.out _ | exact i_e.out _); rintro e w' ⟨rfl,rfl⟩)
      refine (HGD.out _ HIN.out.i).mono ?_
      rintro e wq ⟨rfl,bb⟩
      replace SR := Lib.hid (SR.out.next bb)
      replace HIN := Lib.hid (HIN.out.below bb)
      clear bb r0 r1 g0 g1 c0 c1 c2 c3 c4 c5 c6 c7 c8 c9 c10
      cases hgd : goodM m2 with
      | false =>
        have HGG := Lib.hid hgd
        clear hgd
        have HE := Lib.hid (show decS S.data.toList = (noM,4) from by rw [HDC.out,HGG.out]; rfl)
        have hZc := SR.out.z
        obtain ⟨z0,z1,z2,z3,z4,z5,z6,z7,z8,z9,z10⟩ := msg_cells (m := noM) (h := hd0) hZc
        obtain ⟨q0,q1,q2,q3,q4,q5,q6,q7,q8,q9,q10⟩ := msg_frozen hZc
        simp only [noM,hd0] at z0 z1 z2 z3 z4 z5 z6 z7 z8 z9 z10
        clear hZc
        have hbl := SR.out.bel
        go_wp2_with fail
        refine bodyPost_ret (v := .tuple #[.agg #[.int .i64 0,.int .i64 0,.bool false,.bool false,.int .i64 0,.int .i64 0,.int .i64 0,.int .i64 0,.int .i64 0,.slice none 0 0,.slice none 0 0],.int .i64 4]) (by simp [results,Try.results6,go_sem,z0,z1,z2,z3,z4,z5,z6,z7,z8,z9,z10]) rfl ?_
        rw [HE.out]
        exact ⟨hd0,rfl,(HI0.out _).set11 _ _ _ _ _ _ _ _ _ _ _,below11 hbl (Nat.le_refl _) _ _ _ _ _ _ _ _ _ _ _⟩
      | true =>
        have HE := Lib.hid (show decS S.data.toList = (m2,0) from by rw [HDC.out,hgd]; rfl)
        clear hgd
        have hZc := SR.out.z
        obtain ⟨z0,z1,z2,z3,z4,z5,z6,z7,z8,z9,z10⟩ := msg_cells (m := noM) (h := hd0) hZc
        obtain ⟨q0,q1,q2,q3,q4,q5,q6,q7,q8,q9,q10⟩ := msg_frozen hZc
        simp only [noM,hd0] at z0 z1 z2 z3 z4 z5 z6 z7 z8 z9 z10
        clear hZc
        have hbl := SR.out.bel
        have hMc := SR.out.m
        obtain ⟨c0,c1,c2,c3,c4,c5,c6,c7,c8,c9,c10⟩ := msg_cells (m := m2) (h := ⟨qa,qn,qc,none,0,0⟩) hMc
        clear hMc
        simp only at c9 c10
        have hne1 : mb ≠ w.heap.size := Nat.ne_of_gt (Nat.lt_trans P.out.pr P.out.pm)
        go_wp2_with fail
        refine bodyPost_ret (v := .tuple #[.agg #[.int .i64 m2.kind,.int .i64 m2.page,.bool m2.x,.bool m2.need,.int .i64 m2.n,.int .i64 m2.cl,.int .i64 m2.ep,.int .i64 m2.tn,.int .i64 m2.lsn,.slice qa qn qc,.slice none 0 0],.int .i64 0]) (by simp [results,Try.results6,go_sem,z0,z1,z2,z3,z4,z5,z6,z7,z8,z9,z10]) rfl ?_
        rw [HE.out]
        exact ⟨⟨qa,qn,qc,none,0,0⟩,rfl,HIN.out.set11 _ _ _ _ _ _ _ _ _ _ _,below11 hbl (Nat.le_refl _) _ _ _ _ _ _ _ _ _ _ _⟩
    | false =>
      have hc1 : (code != 0) = true := by show (!(code == 0)) = _; rw [hc0]; rfl
      rw [hc0] at hnb
      have hnb2 : nb = true := hnb
      subst hnb2
      clear hnb hb0
      go_upto_region 26 with (fail)
      have hPC0 : (wg.setCell ⟨r,1,none⟩ (.bool true)).cell? ⟨wf.heap.size,0,none⟩ = some (.int .i64 L) := by rw [(Slab.Blk.far HPG.out (p := ⟨r,1,none⟩) (show wf.heap.size ≠ r from by have := P.out.pm; have := HMB.out; omega) (.bool true)).cell 0]; rfl
      have hPC1 : (wg.setCell ⟨r,1,none⟩ (.bool true)).cell? ⟨wf.heap.size,1,none⟩ = some (.slice qa qn qc) := by rw [(Slab.Blk.far HPG.out (p := ⟨r,1,none⟩) (show wf.heap.size ≠ r from by have := P.out.pm; have := HMB.out; omega) (.bool true)).cell 1]; rfl
      have HS2 := Lib.hid (slots_set HS.out (b := r) (fun g off e h => by have := HGN.out g off e h; have := P.out.pm; omega) 1 (.bool true) : Slots (wg.setCell ⟨r,1,none⟩ (.bool true)) qa qn zz)
      generalize hGen : wg.setCell ⟨r,1,none⟩ (.bool true) = wh at SR hPC0 hPC1 HS2 ⊢
      clear hGen
      clear r0 r1 g0 g1 hc0 hc1
      have hm := SR.out.m
      have y8 := Blk.cell hm 8
      have f8 := Blk.frozen hm 8
      have y9 := Blk.cell hm 9
      have f9 := Blk.frozen hm 9
      clear hm
      simp [msgA,hd0] at y8 y9
      replace SR := Lib.hid (SR.out.page1 P.out L zz qa qn qc)
      have HS3 := Lib.hid (slots_set (slots_set HS2.out (b := mb) (fun g off e h => Nat.ne_of_gt (HGN.out g off e h)) 8 (.int .i64 L)) (b := mb) (fun g off e h => Nat.ne_of_gt (HGN.out g off e h)) 9 (.slice qa qn qc))
      clear HS2
      go_upto_region 27 with (fail)
      generalize hGen : (wh.setCell ⟨mb,8,none⟩ (.int .i64 L)).setCell ⟨mb,9,none⟩ (.slice qa qn qc) = wi at SR HS3 ⊢
      clear hGen
      clear y8 y9 f8 f9 hPC0 hPC1
      obtain ⟨r0,r1,g0,g1⟩ := SR.out.rd.get
      simp only at r0 r1
      replace SR := Lib.hid (SR.out.rest P.out (t.r.drop 240) (by rw [List.length_drop]; exact Nat.sub_le _ _))
      have HS4 := Lib.hid (slots_set HS3.out (b := r) (fun g off e h => by have := HGN.out g off e h; have := P.out.pm; omega) 0 (.string (arr (t.r.drop 240))))
      clear HS3
      go_upto_region 28 with (fail)
      generalize hGen : wi.setCell ⟨r,0,none⟩ (.string (arr (t.r.drop 240))) = wj at SR HS4 ⊢
      clear hGen
      clear r0 r1 g0 g1
      have HFT := Lib.hid (show sImage hImage t = ⟨{ t.m with lsn := L,zs := zz },t.r.drop 240,true⟩ from by unfold sImage; simp only [hImage,if_true,HL.out.1,HL.out.2.1,HL.out.2.2,HIE.out]; rw [← HNB.out])
      have HDE := HDEC.out
      rw [HFT.out] at HDE
      have HDC := Lib.hid (show decS S.data.toList = if (!true && (t.r.drop 240 == [])) && goodM { t.m with lsn := L,zs := zz } then ({ t.m with lsn := L,zs := zz },0) else (noM,4) from HDE)
      clear HDE
      have HIN := Lib.hid (show InN w.heap.size wj { t.m with lsn := L,zs := zz } ⟨qa,qn,qc,none,0,0⟩ from ⟨⟨HS4.out,by rw [hes.out.2]; exact ⟨rfl,by simp,fun h => absurd h (Nat.lt_irrefl 0)⟩⟩,fun g off e h => Nat.lt_trans (Nat.lt_trans P.out.pr P.out.pm) (HGN.out g off e h),fun _ _ _ h => (by cases h)⟩)
      have HZL := Lib.hid (show qn ≤ 1000000 from by have h1 := HS4.out.len; have h3 := HZQ.out; omega)
      clear HS4
      generalize ({ t.m with lsn := L,zs := zz } : Ms) = m2 at SR HDC HIN ⊢
      generalize t.r.drop 240 = s2 at SR HDC ⊢
      go_upto_region 38 with (go_at_call 15; apply Calls.mono; (with_reducible first | exact i_p.out _ | exact i_x.out _ | exact i_n.out _ | exact i_t.out _ | exact i_k.out _ | exact i_i.out _ | exact i_e.out _); rintro e w' ⟨rfl,rfl⟩)
      obtain ⟨r0,r1,g0,g1⟩ := SR.out.rd.get
      simp only at r0 r1
      have HE := Lib.hid (show decS S.data.toList = (noM,4) from by rw [HDC.out]; rfl)
      have hZc := SR.out.z
      obtain ⟨z0,z1,z2,z3,z4,z5,z6,z7,z8,z9,z10⟩ := msg_cells (m := noM) (h := hd0) hZc
      obtain ⟨q0,q1,q2,q3,q4,q5,q6,q7,q8,q9,q10⟩ := msg_frozen hZc
      simp only [noM,hd0] at z0 z1 z2 z3 z4 z5 z6 z7 z8 z9 z10
      clear hZc
      have hbl := SR.out.bel
      go_wp2_with (go_at_call 15; apply Calls.mono; (with_reducible first | exact i_p.out _ | exact i_x.out _ | exact i_n.out _ | exact i_t.out _ | exact i_k.out _ | exact i_i.out _ | exact i_e.out _); rintro e w' ⟨rfl,rfl⟩)
      refine bodyPost_ret (v := .tuple #[.agg #[.int .i64 0,.int .i64 0,.bool false,.bool false,.int .i64 0,.int .i64 0,.int .i64 0,.int .i64 0,.int .i64 0,.slice none 0 0,.slice none 0 0],.int .i64 4]) (by simp [results,Try.results6,go_sem,z0,z1,z2,z3,z4,z5,z6,z7,z8,z9,z10]) rfl ?_
      rw [HE.out]
      exact ⟨hd0,rfl,(HI0.out _).set11 _ _ _ _ _ _ _ _ _ _ _,below11 hbl (Nat.le_refl _) _ _ _ _ _ _ _ _ _ _ _⟩
set_option maxRecDepth 100000 in
set_option maxHeartbeats 8000000 in
theorem rdec_Grant (S : ByteArray) (w : World) (hs : S.size ≤ 140737488351232) (h4 : 4 ≤ S.size) (hq : S.data.toList.take 4 = quadH (Sum.check (S.data.toList.drop 4))) (hall : sAll (S.data.toList.drop 4) = sEnts (hGrant true) (sImage (hGrant true) (sN hLock (sTxn hLock (sNeed hLock (sX hLock (sPage hLock (sKind (S.data.toList.drop 4)))))))))
    (hh0 : ∀ w (m : Ms) (hd : Hd),m.kind = vl (S.data.toList.drop 4) → m.need = false → Calls Try.prog 14 #[.agg #[.int .i64 m.kind,.int .i64 m.page,.bool m.x,.bool m.need,.int .i64 m.n,.int .i64 m.cl,.int .i64 m.ep,.int .i64 m.tn,.int .i64 m.lsn,.slice hd.a hd.an hd.ac,.slice hd.b hd.bn hd.bc]] w fun e w' => e = .returned (.string ⟨#[112,120,110]⟩) ∧ Below w.heap.size w w')
    (hh1 : ∀ w (m : Ms) (hd : Hd),m.kind = vl (S.data.toList.drop 4) → m.need = (sN hLock (sTxn hLock (sNeed hLock (sX hLock (sPage hLock (sKind (S.data.toList.drop 4))))))).m.need → Calls Try.prog 14 #[.agg #[.int .i64 m.kind,.int .i64 m.page,.bool m.x,.bool m.need,.int .i64 m.n,.int .i64 m.cl,.int .i64 m.ep,.int .i64 m.tn,.int .i64 m.lsn,.slice hd.a hd.an hd.ac,.slice hd.b hd.bn hd.bc]] w fun e w' => e = .returned (.string ⟨#[112,120,110,105]⟩) ∧ Below w.heap.size w w') :
    Calls Try.prog 6 #[.string S] w (DecRes (decS S.data.toList).1 (decS S.data.toList).2 w) := by
  have hZ := Blk.new w 30 #[.int .i64 0,.int .i64 0,.bool false,.bool false,.int .i64 0,.int .i64 0,.int .i64 0,.int .i64 0,.int .i64 0,.slice none 0 0,.slice none 0 0]
  have hb := below_box w (.cells #[.int .i64 0,.int .i64 0,.bool false,.bool false,.int .i64 0,.int .i64 0,.int .i64 0,.int .i64 0,.int .i64 0,.slice none 0 0,.slice none 0 0] 30)
  have hg := alloc_lt w (.cells #[.int .i64 0,.int .i64 0,.bool false,.bool false,.int .i64 0,.int .i64 0,.int .i64 0,.int .i64 0,.int .i64 0,.slice none 0 0,.slice none 0 0] 30)
  have HI0 := Lib.hid (fun W => InN.nil w.heap.size W noM rfl rfl)
  have hsz : S.size = S.data.toList.length := by simp
  have HSZ := Lib.hid hsz
  clear hsz
  have HDEC := Lib.hid (decS_of (by have := HSZ.out; omega) hq hall)
  have HH0 := Lib.hid hh0
  have HH1 := Lib.hid hh1
  clear hh0 hh1 hall
  have h4' : ¬ ((S.size : Int) < 4) := by omega
  have i0 : (0 : Int) < (S.size : Int) := by omega
  have i1 : (1 : Int) < (S.size : Int) := by omega
  have i2 : (2 : Int) < (S.size : Int) := by omega
  have i3 : (3 : Int) < (S.size : Int) := by omega
  have j0 : 0 < S.size := by omega
  have j1 : 1 < S.size := by omega
  have j2 : 2 < S.size := by omega
  have j3 : 3 < S.size := by omega
  have b0 := (S[0]'(by omega)).toNat_lt
  have b1 := (S[1]'(by omega)).toNat_lt
  have b2 := (S[2]'(by omega)).toNat_lt
  have b3 := (S[3]'(by omega)).toNat_lt
  have hs4 : 4 ≤ S.size := h4
  have HQN := Lib.hid (quad_num h4 (Sum.check (S.data.toList.drop 4)))
  have HDR := Lib.hid (show (S.extract 4 S.size).data.toList = S.data.toList.drop 4 from by rw [← Nib.str_drop])
  have HOF := Lib.hid (fun w => Sum.ref_any (S.extract 4 S.size) w (by rw [ByteArray.size_extract]; omega))
  rw [HDR.out] at HOF
  go_enter Try.func6,Try.ntmps6
  try dsimp only [List.append]
  go_upto_region 3 with (fail)
  generalize hGen : w.alloc (.cells #[.int .i64 0,.int .i64 0,.bool false,.bool false,.int .i64 0,.int .i64 0,.int .i64 0,.int .i64 0,.int .i64 0,.slice none 0 0,.slice none 0 0] 30) = W at hb hZ hg ⊢
  clear hGen
  go_quiet (fail)
  have hbq := below_drew hb nq
  have hZq : Blk (W.drewN nq) w.heap.size 30 #[.int .i64 0,.int .i64 0,.bool false,.bool false,.int .i64 0,.int .i64 0,.int .i64 0,.int .i64 0,.int .i64 0,.slice none 0 0,.slice none 0 0] := hZ
  have hgq : w.heap.size < (W.drewN nq).heap.size := hg
  generalize hGen : W.drewN nq = Wq at hbq hZq hgq ⊢
  clear hGen
  clear hb hZ hg
  have heq := HQN.out.1 hq
  clear hq
  generalize ((S[0]'(by omega)).toNat : Int) * 16777216 + ((S[1]'(by omega)).toNat : Int) * 65536 + ((S[2]'(by omega)).toNat : Int) * 256 + ((S[3]'(by omega)).toNat : Int) = V at heq ⊢
  have hcmp : (((Sum.check (S.data.toList.drop 4)).toNat : Int) != V) = false := by rw [heq]; exact bne_self_eq_false _
  clear heq b0 b1 b2 b3
  have HSL := Lib.hid (show (S.data.toList.drop 4).length ≤ 140737488351232 from by rw [List.length_drop]; have := HSZ.out; omega)
  have HEX := Lib.hid (show S.extract 4 S.size = arr (S.data.toList.drop 4) from by rw [← HDR.out,list_arr])
  generalize S.data.toList.drop 4 = s at HDEC HH0 HH1 HOF hcmp HSL HEX HDR HQN
  clear HQN HDR
  go_wp2_with fail
  refine (HOF.out _).mono ?_
  rintro e wx ⟨rfl,rfl⟩
  have hex := HEX.out
  go_upto_region 7 with (fail)
  clear hex hcmp h4'
  have hZ2 := hZq.alloc (.cells #[.string (arr s),.bool false] 47)
  have hR2 := Blk.new Wq 47 #[.string (arr s),.bool false]
  have hb2 := below_next hbq (below_box Wq (.cells #[.string (arr s),.bool false] 47))
  have hg2 := alloc_lt Wq (.cells #[.string (arr s),.bool false] 47)
  generalize hGen : Wq.alloc (.cells #[.string (arr s),.bool false] 47) = W2 at hZ2 hR2 hb2 hg2 ⊢
  clear hGen
  clear hZq hbq
  generalize hGen : Wq.heap.size = r at hR2 hg2 hgq ⊢
  clear hGen
  have R2 := Lib.hid (show CRd W2 r s false from hR2)
  have Z2 := Lib.hid hZ2
  have B2 := Lib.hid hb2
  clear hR2 hZ2 hb2
  go_wp2_with fail
  refine (cint_any r s false _ R2.out (by have := HSL.out; omega)).mono ?_
  rintro e w3 ⟨rfl,h1,o1⟩
  have R3 := Lib.hid h1
  have Z3 := Lib.hid (o1.blk Z2.out (by omega))
  have B3 := Lib.hid (B2.out.trans (o1.below (B := w.heap.size) (by omega) (by omega)))
  have hg3 := Nat.lt_of_lt_of_le hg2 o1.size
  clear h1 o1 R2 Z2 B2 hg2
  go_upto_region 8 with (fail)
  have R4 := Lib.hid (R3.out.below (below_box w3 (.cells #[.int .i64 (vl s),.int .i64 0,.bool false,.bool false,.int .i64 0,.int .i64 0,.int .i64 0,.int .i64 0,.int .i64 0,.slice none 0 0,.slice none 0 0] 30)))
  have Z4 := Lib.hid (Z3.out.alloc (.cells #[.int .i64 (vl s),.int .i64 0,.bool false,.bool false,.int .i64 0,.int .i64 0,.int .i64 0,.int .i64 0,.int .i64 0,.slice none 0 0,.slice none 0 0] 30))
  have B4 := Lib.hid (below_next B3.out (below_box w3 (.cells #[.int .i64 (vl s),.int .i64 0,.bool false,.bool false,.int .i64 0,.int .i64 0,.int .i64 0,.int .i64 0,.int .i64 0,.slice none 0 0,.slice none 0 0] 30)))
  have hM := Blk.new w3 30 #[.int .i64 (vl s),.int .i64 0,.bool false,.bool false,.int .i64 0,.int .i64 0,.int .i64 0,.int .i64 0,.int .i64 0,.slice none 0 0,.slice none 0 0]
  generalize hGen : w3.alloc (.cells #[.int .i64 (vl s),.int .i64 0,.bool false,.bool false,.int .i64 0,.int .i64 0,.int .i64 0,.int .i64 0,.int .i64 0,.slice none 0 0,.slice none 0 0] 30) = wb at R4 Z4 B4 hM ⊢
  clear hGen
  clear R3 Z3 B3
  generalize hGen : w3.heap.size = mb at hM hg3 ⊢
  clear hGen
  have P := Lib.hid (show PC w r mb from ⟨hgq,hg3⟩)
  have SR := Lib.hid (show RC w wb r mb (sKind s) hd0 from ⟨R4.out,hM,Z4.out,B4.out,Nat.le_trans (nx_len s) HSL.out⟩)
  clear R4 Z4 B4 hM hgq hg3
  have i_p := Lib.hid (fun w => in_is ⟨#[112,120,110]⟩ 112 true (by decide) (by decide) w 112 (by decide))
  have i_x := Lib.hid (fun w => in_is ⟨#[112,120,110]⟩ 120 true (by decide) (by decide) w 120 (by decide))
  have i_n := Lib.hid (fun w => in_is ⟨#[112,120,110]⟩ 110 true (by decide) (by decide) w 110 (by decide))
  have i_t := Lib.hid (fun w => in_is ⟨#[112,120,110]⟩ 116 false (by decide) (by decide) w 116 (by decide))
  have i_k := Lib.hid (fun w => in_is ⟨#[112,120,110]⟩ 107 false (by decide) (by decide) w 107 (by decide))
  have i_i := Lib.hid (fun w => in_is ⟨#[112,120,110]⟩ 105 false (by decide) (by decide) w 105 (by decide))
  have i_e := Lib.hid (fun w => in_is ⟨#[112,120,110]⟩ 101 false (by decide) (by decide) w 101 (by decide))
  generalize ht : sKind s = t0 at SR
  have HT0 := Lib.hid ht
  clear ht
  have hk0 := Lib.hid (show t0.m.kind = vl s ∧ t0.m.need = false from by rw [← HT0.out]; exact ⟨rfl,rfl⟩)
  have hMc := SR.out.m
  obtain ⟨c0,c1,c2,c3,c4,c5,c6,c7,c8,c9,c10⟩ := msg_cells (m := t0.m) (h := hd0) hMc
  clear hMc
  simp only [hd0] at c9 c10
  go_wp2_with fail
  refine (HH0.out _ t0.m hd0 hk0.out.1 hk0.out.2).mono ?_
  rintro e wa ⟨rfl,ba⟩
  replace SR := Lib.hid (SR.out.next ba)
  clear ba hk0 c0 c1 c2 c3 c4 c5 c6 c7 c8 c9 c10
  go_wp2_with (go_at_call 15; apply Calls.mono; (with_reducible first | exact i_p.out _ | exact i_x.out _ | exact i_n.out _ | exact i_t.out _ | exact i_k.out _ | exact i_i.out _ | exact i_e.out _); rintro e w' ⟨rfl,rfl⟩)
  refine (cint_any r t0.r t0.bad _ SR.out.rd (by have := SR.out.len; omega)).mono ?_
  rintro e wd ⟨rfl,h1,o1⟩
  replace SR := Lib.hid (SR.out.num P.out h1 o1 (nx_len _))
  clear h1 o1
  have hm := SR.out.m
  have y := Blk.cell hm 1
  have f := Blk.frozen hm 1
  clear hm
  simp [msgA] at y
  replace SR := Lib.hid (SR.out.setm P.out 1 (.int .i64 (vl t0.r)) (m' := { t0.m with page := vl t0.r }) (hd' := hd0) rfl)
  go_upto_region 11 with (go_at_call 15; apply Calls.mono; (with_reducible first | exact i_p.out _ | exact i_x.out _ | exact i_n.out _ | exact i_t.out _ | exact i_k.out _ | exact i_i.out _ | exact i_e.out _); rintro e w' ⟨rfl,rfl⟩)
  generalize hGen : wd.setCell ⟨mb,1,none⟩ (.int .i64 (vl t0.r)) = wb at SR ⊢
  clear hGen
  clear y f
  replace SR := Lib.hid (show RC w _ r mb (sPage hLock t0) hd0 from SR.out)
  generalize ht : sPage hLock t0 = t1 at SR
  have HT1 := Lib.hid ht
  clear ht
  go_wp2_with (go_at_call 15; apply Calls.mono; (with_reducible first | exact i_p.out _ | exact i_x.out _ | exact i_n.out _ | exact i_t.out _ | exact i_k.out _ | exact i_i.out _ | exact i_e.out _); rintro e w' ⟨rfl,rfl⟩)
  refine (cflag_any r t1.r t1.bad _ SR.out.rd (by have := SR.out.len; omega)).mono ?_
  rintro e wd ⟨rfl,h1,o1⟩
  replace SR := Lib.hid (SR.out.num P.out h1 o1 (nx_len _))
  clear h1 o1
  have hm := SR.out.m
  have y := Blk.cell hm 2
  have f := Blk.frozen hm 2
  clear hm
  simp [msgA] at y
  replace SR := Lib.hid (SR.out.setm P.out 2 (.bool (fg t1.r)) (m' := { t1.m with x := fg t1.r }) (hd' := hd0) rfl)
  go_upto_region 13 with (go_at_call 15; apply Calls.mono; (with_reducible first | exact i_p.out _ | exact i_x.out _ | exact i_n.out _ | exact i_t.out _ | exact i_k.out _ | exact i_i.out _ | exact i_e.out _); rintro e w' ⟨rfl,rfl⟩)
  generalize hGen : wd.setCell ⟨mb,2,none⟩ (.bool (fg t1.r)) = wb at SR ⊢
  clear hGen
  clear y f
  replace SR := Lib.hid (show RC w _ r mb (sX hLock t1) hd0 from SR.out)
  generalize ht : sX hLock t1 = t2 at SR
  have HT2 := Lib.hid ht
  clear ht
  go_wp2_with (go_at_call 15; apply Calls.mono; (with_reducible first | exact i_p.out _ | exact i_x.out _ | exact i_n.out _ | exact i_t.out _ | exact i_k.out _ | exact i_i.out _ | exact i_e.out _); rintro e w' ⟨rfl,rfl⟩)
  refine (cflag_any r t2.r t2.bad _ SR.out.rd (by have := SR.out.len; omega)).mono ?_
  rintro e wd ⟨rfl,h1,o1⟩
  replace SR := Lib.hid (SR.out.num P.out h1 o1 (nx_len _))
  clear h1 o1
  have hm := SR.out.m
  have y := Blk.cell hm 3
  have f := Blk.frozen hm 3
  clear hm
  simp [msgA] at y
  replace SR := Lib.hid (SR.out.setm P.out 3 (.bool (fg t2.r)) (m' := { t2.m with need := fg t2.r }) (hd' := hd0) rfl)
  go_upto_region 15 with (go_at_call 15; apply Calls.mono; (with_reducible first | exact i_p.out _ | exact i_x.out _ | exact i_n.out _ | exact i_t.out _ | exact i_k.out _ | exact i_i.out _ | exact i_e.out _); rintro e w' ⟨rfl,rfl⟩)
  generalize hGen : wd.setCell ⟨mb,3,none⟩ (.bool (fg t2.r)) = wb at SR ⊢
  clear hGen
  clear y f
  replace SR := Lib.hid (show RC w _ r mb (sNeed hLock t2) hd0 from SR.out)
  generalize ht : sNeed hLock t2 = t3 at SR
  have HT3 := Lib.hid ht
  clear ht
  have HCH := Lib.hid (show sN hLock (sTxn hLock (sNeed hLock (sX hLock (sPage hLock (sKind s))))) = t3 from by rw [HT0.out,HT1.out,HT2.out,HT3.out,show sTxn hLock t3 = t3 from rfl,show sN hLock t3 = t3 from rfl])
  generalize ht : t3 = t at SR HCH
  have HTT := Lib.hid ht
  clear ht
  have hk1 := Lib.hid (show t.m.kind = vl s ∧ t.m.need = (sN hLock (sTxn hLock (sNeed hLock (sX hLock (sPage hLock (sKind s)))))).m.need from by
    rw [HCH.out]; refine ⟨?_,rfl⟩; rw [← HCH.out]; simp only [sPage_kind,sX_kind,sNeed_kind,sTxn_kind,sN_kind]; rfl)
  have hes := Lib.hid (show t.m.zs = [] ∧ t.m.es = [] from by rw [← HCH.out]; simp only [sPage_es,sX_es,sNeed_es,sTxn_es,sN_es,sPage_zs,sX_zs,sNeed_zs,sTxn_zs,sN_zs]; exact ⟨rfl,rfl⟩)
  go_upto_region 21 with (go_at_call 15; apply Calls.mono; (with_reducible first | exact i_p.out _ | exact i_x.out _ | exact i_n.out _ | exact i_t.out _ | exact i_k.out _ | exact i_i.out _ | exact i_e.out _); rintro e w' ⟨rfl,rfl⟩)
  have hMc := SR.out.m
  obtain ⟨c0,c1,c2,c3,c4,c5,c6,c7,c8,c9,c10⟩ := msg_cells (m := t.m) (h := hd0) hMc
  clear hMc
  simp only [hd0] at c9 c10
  go_wp2_with fail
  refine (HH1.out _ t.m hd0 hk1.out.1 hk1.out.2).mono ?_
  rintro e we ⟨rfl,ba⟩
  replace SR := Lib.hid (SR.out.next ba)
  clear ba c0 c1 c2 c3 c4 c5 c6 c7 c8 c9 c10
  have j_i := Lib.hid (fun w => in_is ⟨#[112,120,110,105]⟩ 105 true (by decide) (by decide) w 105 (by decide))
  rw [HCH.out] at HDEC
  go_upto_region 22 with (go_at_call 15; apply Calls.mono; (with_reducible first | exact i_e.out _ | exact j_i.out _); rintro e w' ⟨rfl,rfl⟩)
  obtain ⟨r0,r1,_,_⟩ := SR.out.rd.get
  have hrs : (arr t.r).size = t.r.length := arr_size _
  have HRS := Lib.hid hrs
  clear hrs
  by_cases hsh : t.r.length < 240
  · have hsh' : ((arr t.r).size : Int) < 240 := by have := HRS.out; omega
    have HE := Lib.hid (show decS S.data.toList = (noM,4) from by rw [HDEC.out]; unfold sImage; simp only [if_true,hGrant,sEnts,imR_short hsh]; simp)
    have hZc := SR.out.z
    obtain ⟨z0,z1,z2,z3,z4,z5,z6,z7,z8,z9,z10⟩ := msg_cells (m := noM) (h := hd0) hZc
    obtain ⟨q0,q1,q2,q3,q4,q5,q6,q7,q8,q9,q10⟩ := msg_frozen hZc
    simp only [noM,hd0] at z0 z1 z2 z3 z4 z5 z6 z7 z8 z9 z10
    clear hZc
    have hbl := SR.out.bel
    go_wp2_with (go_at_call 15; apply Calls.mono; (with_reducible first | exact i_e.out _ | exact j_i.out _); rintro e w' ⟨rfl,rfl⟩)
    refine bodyPost_ret (v := .tuple #[.agg #[.int .i64 0,.int .i64 0,.bool false,.bool false,.int .i64 0,.int .i64 0,.int .i64 0,.int .i64 0,.int .i64 0,.slice none 0 0,.slice none 0 0],.int .i64 4]) (by simp [results,Try.results6,go_sem,z0,z1,z2,z3,z4,z5,z6,z7,z8,z9,z10]) rfl ?_
    rw [HE.out]
    exact ⟨hd0,rfl,(HI0.out _).set11 _ _ _ _ _ _ _ _ _ _ _,below11 hbl (Nat.le_refl _) _ _ _ _ _ _ _ _ _ _ _⟩
  have hsh' : ¬ ((arr t.r).size : Int) < 240 := by have := HRS.out; omega
  have hk240 : 240 ≤ (arr t.r).size := by omega
  have he1 := ext_take t.r 240
  have he2 := ext_drop t.r 240
  have HIE := Lib.hid (imE_long hsh)
  clear hsh
  have HRD := Lib.hid (fun w => Slab.rdecode_any (arr (t.r.take 240)) w)
  rw [arr_list] at HRD
  have HIR := Lib.hid (show imR t.r = decR (t.r.take 240) from by unfold imR; rw [HIE.out])
  rw [← HIR.out] at HRD
  generalize hL : (imR t.r).1 = L at HRD
  generalize hz : (imR t.r).2.1 = zz at HRD
  generalize hc : (imR t.r).2.2 = code at HRD
  have HL := Lib.hid (And.intro hL (And.intro hz hc))
  clear hL hz hc
  go_wp2_with fail
  refine (HRD.out _).mono ?_
  rintro e wf ⟨qa,qn,qc,rfl,hS,b1,hnew⟩
  have HMB := Lib.hid (show mb < wf.heap.size from Nat.lt_of_lt_of_le SR.out.m.lt b1.size)
  have HGN := Lib.hid (show ∀ g off e,qa = some ⟨g,off,e⟩ → mb < g from fun g off e h => Nat.lt_of_lt_of_le SR.out.m.lt (hnew g off e h))
  have HZQ := Lib.hid (show zz.length ≤ 1000000 from by rw [← HL.out.2.1]; exact Nat.le_trans (imR_len t.r) (by decide))
  replace SR := Lib.hid (SR.out.next b1)
  have HS := Lib.hid hS
  have HNEW := Lib.hid hnew
  have hbs := b1.size
  clear hS hnew r0 r1
  go_upto_region 25 with (fail)
  have hPG := Blk.new wf 27 #[.int .i64 L,.slice qa qn qc]
  have b2 := below_box wf (.cells #[.int .i64 L,.slice qa qn qc] 27)
  have hg5 := alloc_lt wf (.cells #[.int .i64 L,.slice qa qn qc] 27)
  replace SR := Lib.hid (SR.out.next b2)
  replace HS := Lib.hid (HS.out.below b2)
  generalize hGen : wf.alloc (.cells #[.int .i64 L,.slice qa qn qc] 27) = wg at hPG b2 hg5 SR HS ⊢
  clear hGen
  clear b1 b2
  have HPG := Lib.hid hPG
  clear hPG
  obtain ⟨r0,r1,g0,g1⟩ := SR.out.rd.get
  obtain ⟨nb,hnb⟩ : ∃ nb,nb = (t.bad || !(code == 0)) := ⟨_,rfl⟩
  have HNB := Lib.hid hnb
  have hcn : (code != 0) = !(code == 0) := rfl
  replace SR := Lib.hid (SR.out.bad P.out nb)
  cases hb0 : t.bad with
  | true =>
    rw [hb0] at r1 hnb
    have hnb2 : nb = true := hnb
    subst hnb2
    clear hnb hb0
    go_upto_region 26 with (fail)
    have hPC0 : (wg.setCell ⟨r,1,none⟩ (.bool true)).cell? ⟨wf.heap.size,0,none⟩ = some (.int .i64 L) := by rw [(Slab.Blk.far HPG.out (p := ⟨r,1,none⟩) (show wf.heap.size ≠ r from by have := P.out.pm; have := HMB.out; omega) (.bool true)).cell 0]; rfl
    have hPC1 : (wg.setCell ⟨r,1,none⟩ (.bool true)).cell? ⟨wf.heap.size,1,none⟩ = some (.slice qa qn qc) := by rw [(Slab.Blk.far HPG.out (p := ⟨r,1,none⟩) (show wf.heap.size ≠ r from by have := P.out.pm; have := HMB.out; omega) (.bool true)).cell 1]; rfl
    have HS2 := Lib.hid (slots_set HS.out (b := r) (fun g off e h => by have := HGN.out g off e h; have := P.out.pm; omega) 1 (.bool true) : Slots (wg.setCell ⟨r,1,none⟩ (.bool true)) qa qn zz)
    generalize hGen : wg.setCell ⟨r,1,none⟩ (.bool true) = wh at SR hPC0 hPC1 HS2 ⊢
    clear hGen
    clear r0 r1 g0 g1
    have hm := SR.out.m
    have y8 := Blk.cell hm 8
    have f8 := Blk.frozen hm 8
    have y9 := Blk.cell hm 9
    have f9 := Blk.frozen hm 9
    clear hm
    simp [msgA,hd0] at y8 y9
    replace SR := Lib.hid (SR.out.page1 P.out L zz qa qn qc)
    have HS3 := Lib.hid (slots_set (slots_set HS2.out (b := mb) (fun g off e h => Nat.ne_of_gt (HGN.out g off e h)) 8 (.int .i64 L)) (b := mb) (fun g off e h => Nat.ne_of_gt (HGN.out g off e h)) 9 (.slice qa qn qc))
    clear HS2
    go_upto_region 27 with (fail)
    generalize hGen : (wh.setCell ⟨mb,8,none⟩ (.int .i64 L)).setCell ⟨mb,9,none⟩ (.slice qa qn qc) = wi at SR HS3 ⊢
    clear hGen
    clear y8 y9 f8 f9 hPC0 hPC1
    obtain ⟨r0,r1,g0,g1⟩ := SR.out.rd.get
    simp only at r0 r1
    replace SR := Lib.hid (SR.out.rest P.out (t.r.drop 240) (by rw [List.length_drop]; exact Nat.sub_le _ _))
    have HS4 := Lib.hid (slots_set HS3.out (b := r) (fun g off e h => by have := HGN.out g off e h; have := P.out.pm; omega) 0 (.string (arr (t.r.drop 240))))
    clear HS3
    go_upto_region 28 with (fail)
    generalize hGen : wi.setCell ⟨r,0,none⟩ (.string (arr (t.r.drop 240))) = wj at SR HS4 ⊢
    clear hGen
    clear r0 r1 g0 g1
    have HFT := Lib.hid (show sImage (hGrant true) t = ⟨{ t.m with lsn := L,zs := zz },t.r.drop 240,true⟩ from by unfold sImage; simp only [hGrant,if_true,HL.out.1,HL.out.2.1,HL.out.2.2,HIE.out]; rw [← HNB.out])
    have HDE := HDEC.out
    rw [HFT.out] at HDE
    have HDC := Lib.hid (show decS S.data.toList = if (!true && (t.r.drop 240 == [])) && goodM { t.m with lsn := L,zs := zz } then ({ t.m with lsn := L,zs := zz },0) else (noM,4) from HDE)
    clear HDE
    have HIN := Lib.hid (show InN w.heap.size wj { t.m with lsn := L,zs := zz } ⟨qa,qn,qc,none,0,0⟩ from ⟨⟨HS4.out,by rw [hes.out.2]; exact ⟨rfl,by simp,fun h => absurd h (Nat.lt_irrefl 0)⟩⟩,fun g off e h => Nat.lt_trans (Nat.lt_trans P.out.pr P.out.pm) (HGN.out g off e h),fun _ _ _ h => (by cases h)⟩)
    have HZL := Lib.hid (show qn ≤ 1000000 from by have h1 := HS4.out.len; have h3 := HZQ.out; omega)
    clear HS4
    generalize ({ t.m with lsn := L,zs := zz } : Ms) = m2 at SR HDC HIN ⊢
    generalize t.r.drop 240 = s2 at SR HDC ⊢
    go_upto_region 38 with (go_at_call 15; apply Calls.mono; (with_reducible first | exact i_e.out _ | exact j_i.out _); rintro e w' ⟨rfl,rfl⟩)
    obtain ⟨r0,r1,g0,g1⟩ := SR.out.rd.get
    simp only at r0 r1
    have HE := Lib.hid (show decS S.data.toList = (noM,4) from by rw [HDC.out]; rfl)
    have hZc := SR.out.z
    obtain ⟨z0,z1,z2,z3,z4,z5,z6,z7,z8,z9,z10⟩ := msg_cells (m := noM) (h := hd0) hZc
    obtain ⟨q0,q1,q2,q3,q4,q5,q6,q7,q8,q9,q10⟩ := msg_frozen hZc
    simp only [noM,hd0] at z0 z1 z2 z3 z4 z5 z6 z7 z8 z9 z10
    clear hZc
    have hbl := SR.out.bel
    go_wp2_with (go_at_call 15; apply Calls.mono; (with_reducible first | exact i_e.out _ | exact j_i.out _); rintro e w' ⟨rfl,rfl⟩)
    refine bodyPost_ret (v := .tuple #[.agg #[.int .i64 0,.int .i64 0,.bool false,.bool false,.int .i64 0,.int .i64 0,.int .i64 0,.int .i64 0,.int .i64 0,.slice none 0 0,.slice none 0 0],.int .i64 4]) (by simp [results,Try.results6,go_sem,z0,z1,z2,z3,z4,z5,z6,z7,z8,z9,z10]) rfl ?_
    rw [HE.out]
    exact ⟨hd0,rfl,(HI0.out _).set11 _ _ _ _ _ _ _ _ _ _ _,below11 hbl (Nat.le_refl _) _ _ _ _ _ _ _ _ _ _ _⟩
  | false =>
    rw [hb0] at r1 hnb
    cases hc0 : (code == 0) with
    | true =>
      have hc1 : (code != 0) = false := by show (!(code == 0)) = _; rw [hc0]; rfl
      rw [hc0] at hnb
      have hnb2 : nb = false := hnb
      subst hnb2
      clear hnb hb0
      go_upto_region 26 with (fail)
      have hPC0 : (wg.setCell ⟨r,1,none⟩ (.bool false)).cell? ⟨wf.heap.size,0,none⟩ = some (.int .i64 L) := by rw [(Slab.Blk.far HPG.out (p := ⟨r,1,none⟩) (show wf.heap.size ≠ r from by have := P.out.pm; have := HMB.out; omega) (.bool false)).cell 0]; rfl
      have hPC1 : (wg.setCell ⟨r,1,none⟩ (.bool false)).cell? ⟨wf.heap.size,1,none⟩ = some (.slice qa qn qc) := by rw [(Slab.Blk.far HPG.out (p := ⟨r,1,none⟩) (show wf.heap.size ≠ r from by have := P.out.pm; have := HMB.out; omega) (.bool false)).cell 1]; rfl
      have HS2 := Lib.hid (slots_set HS.out (b := r) (fun g off e h => by have := HGN.out g off e h; have := P.out.pm; omega) 1 (.bool false) : Slots (wg.setCell ⟨r,1,none⟩ (.bool false)) qa qn zz)
      generalize hGen : wg.setCell ⟨r,1,none⟩ (.bool false) = wh at SR hPC0 hPC1 HS2 ⊢
      clear hGen
      clear r0 r1 g0 g1 hc0 hc1
      have hm := SR.out.m
      have y8 := Blk.cell hm 8
      have f8 := Blk.frozen hm 8
      have y9 := Blk.cell hm 9
      have f9 := Blk.frozen hm 9
      clear hm
      simp [msgA,hd0] at y8 y9
      replace SR := Lib.hid (SR.out.page1 P.out L zz qa qn qc)
      have HS3 := Lib.hid (slots_set (slots_set HS2.out (b := mb) (fun g off e h => Nat.ne_of_gt (HGN.out g off e h)) 8 (.int .i64 L)) (b := mb) (fun g off e h => Nat.ne_of_gt (HGN.out g off e h)) 9 (.slice qa qn qc))
      clear HS2
      go_upto_region 27 with (fail)
      generalize hGen : (wh.setCell ⟨mb,8,none⟩ (.int .i64 L)).setCell ⟨mb,9,none⟩ (.slice qa qn qc) = wi at SR HS3 ⊢
      clear hGen
      clear y8 y9 f8 f9 hPC0 hPC1
      obtain ⟨r0,r1,g0,g1⟩ := SR.out.rd.get
      simp only at r0 r1
      replace SR := Lib.hid (SR.out.rest P.out (t.r.drop 240) (by rw [List.length_drop]; exact Nat.sub_le _ _))
      have HS4 := Lib.hid (slots_set HS3.out (b := r) (fun g off e h => by have := HGN.out g off e h; have := P.out.pm; omega) 0 (.string (arr (t.r.drop 240))))
      clear HS3
      go_upto_region 28 with (fail)
      generalize hGen : wi.setCell ⟨r,0,none⟩ (.string (arr (t.r.drop 240))) = wj at SR HS4 ⊢
      clear hGen
      clear r0 r1 g0 g1
      have HFT := Lib.hid (show sImage (hGrant true) t = ⟨{ t.m with lsn := L,zs := zz },t.r.drop 240,false⟩ from by unfold sImage; simp only [hGrant,if_true,HL.out.1,HL.out.2.1,HL.out.2.2,HIE.out]; rw [← HNB.out])
      have HDE := HDEC.out
      rw [HFT.out] at HDE
      have HDC := Lib.hid (show decS S.data.toList = if (!false && (t.r.drop 240 == [])) && goodM { t.m with lsn := L,zs := zz } then ({ t.m with lsn := L,zs := zz },0) else (noM,4) from HDE)
      clear HDE
      have HIN := Lib.hid (show InN w.heap.size wj { t.m with lsn := L,zs := zz } ⟨qa,qn,qc,none,0,0⟩ from ⟨⟨HS4.out,by rw [hes.out.2]; exact ⟨rfl,by simp,fun h => absurd h (Nat.lt_irrefl 0)⟩⟩,fun g off e h => Nat.lt_trans (Nat.lt_trans P.out.pr P.out.pm) (HGN.out g off e h),fun _ _ _ h => (by cases h)⟩)
      have HZL := Lib.hid (show qn ≤ 1000000 from by have h1 := HS4.out.len; have h3 := HZQ.out; omega)
      clear HS4
      generalize ({ t.m with lsn := L,zs := zz } : Ms) = m2 at SR HDC HIN ⊢
      generalize t.r.drop 240 = s2 at SR HDC ⊢
      go_upto_region 38 with (go_at_call 15; apply Calls.mono; (with_reducible first | exact i_e.out _ | exact j_i.out _); rintro e w' ⟨rfl,rfl⟩)
      by_cases hnil : s2 = []
      rotate_left
      · obtain ⟨r0,r1,g0,g1⟩ := SR.out.rd.get
        simp only at r0 r1
        have n2 := arr_ne hnil
        have n3 := arr_ne2 hnil
        have n4 : ((arr s2).toList != []) = true := by show (!((arr s2).toList == [])) = true; rw [n2]; rfl
        have HNN := Lib.hid (show (s2 == []) = false from beq_eq_false_iff_ne.2 hnil)
        clear hnil
        have HE := Lib.hid (show decS S.data.toList = (noM,4) from by rw [HDC.out,HNN.out]; rfl)
        have hZc := SR.out.z
        obtain ⟨z0,z1,z2,z3,z4,z5,z6,z7,z8,z9,z10⟩ := msg_cells (m := noM) (h := hd0) hZc
        obtain ⟨q0,q1,q2,q3,q4,q5,q6,q7,q8,q9,q10⟩ := msg_frozen hZc
        simp only [noM,hd0] at z0 z1 z2 z3 z4 z5 z6 z7 z8 z9 z10
        clear hZc
        have hbl := SR.out.bel
        go_wp2_with (go_at_call 15; apply Calls.mono; (with_reducible first | exact i_e.out _ | exact j_i.out _); rintro e w' ⟨rfl,rfl⟩)
        refine bodyPost_ret (v := .tuple #[.agg #[.int .i64 0,.int .i64 0,.bool false,.bool false,.int .i64 0,.int .i64 0,.int .i64 0,.int .i64 0,.int .i64 0,.slice none 0 0,.slice none 0 0],.int .i64 4]) (by simp [results,Try.results6,go_sem,z0,z1,z2,z3,z4,z5,z6,z7,z8,z9,z10]) rfl ?_
        rw [HE.out]
        exact ⟨hd0,rfl,(HI0.out _).set11 _ _ _ _ _ _ _ _ _ _ _,below11 hbl (Nat.le_refl _) _ _ _ _ _ _ _ _ _ _ _⟩
      subst hnil
      obtain ⟨r0,r1,g0,g1⟩ := SR.out.rd.get
      simp only at r0 r1
      rw [Ent.arr_nil] at r0
      have hMc := SR.out.m
      obtain ⟨c0,c1,c2,c3,c4,c5,c6,c7,c8,c9,c10⟩ := msg_cells (m := m2) (h := ⟨qa,qn,qc,none,0,0⟩) hMc
      clear hMc
      simp only at c9 c10
      have HGD := Lib.hid (show ∀ w,In w m2 ⟨qa,qn,qc,none,0,0⟩ → Calls Try.prog 19 #[.agg #[.int .i64 m2.kind,.int .i64 m2.page,.bool m2.x,.bool m2.need,.int .i64 m2.n,.int .i64 m2.cl,.int .i64 m2.ep,.int .i64 m2.tn,.int .i64 m2.lsn,.slice qa qn qc,.slice none 0 0]] w fun e w' => e = .returned (.bool (goodM m2)) ∧ Below w.heap.size w w' from fun w hi => rgood_any m2 ⟨qa,qn,qc,none,0,0⟩ w hi HZL.out (Nat.zero_le _))
      go_wp2_with (go_at_call 15; apply Calls.mono; (with_reducible first | exact i_e.out _ | exact j_i.out _); rintro e w' ⟨rfl,rfl⟩)
      refine (HGD.out _ HIN.out.i).mono ?_
      rintro e wq ⟨rfl,bb⟩
      replace SR := Lib.hid (SR.out.next bb)
      replace HIN := Lib.hid (HIN.out.below bb)
      clear bb r0 r1 g0 g1 c0 c1 c2 c3 c4 c5 c6 c7 c8 c9 c10
      cases hgd : goodM m2 with
      | false =>
        have HGG := Lib.hid hgd
        clear hgd
        have HE := Lib.hid (show decS S.data.toList = (noM,4) from by rw [HDC.out,HGG.out]; rfl)
        have hZc := SR.out.z
        obtain ⟨z0,z1,z2,z3,z4,z5,z6,z7,z8,z9,z10⟩ := msg_cells (m := noM) (h := hd0) hZc
        obtain ⟨q0,q1,q2,q3,q4,q5,q6,q7,q8,q9,q10⟩ := msg_frozen hZc
        simp only [noM,hd0] at z0 z1 z2 z3 z4 z5 z6 z7 z8 z9 z10
        clear hZc
        have hbl := SR.out.bel
        go_wp2_with fail
        refine bodyPost_ret (v := .tuple #[.agg #[.int .i64 0,.int .i64 0,.bool false,.bool false,.int .i64 0,.int .i64 0,.int .i64 0,.int .i64 0,.int .i64 0,.slice none 0 0,.slice none 0 0],.int .i64 4]) (by simp [results,Try.results6,go_sem,z0,z1,z2,z3,z4,z5,z6,z7,z8,z9,z10]) rfl ?_
        rw [HE.out]
        exact ⟨hd0,rfl,(HI0.out _).set11 _ _ _ _ _ _ _ _ _ _ _,below11 hbl (Nat.le_refl _) _ _ _ _ _ _ _ _ _ _ _⟩
      | true =>
        have HE := Lib.hid (show decS S.data.toList = (m2,0) from by rw [HDC.out,hgd]; rfl)
        clear hgd
        have hZc := SR.out.z
        obtain ⟨z0,z1,z2,z3,z4,z5,z6,z7,z8,z9,z10⟩ := msg_cells (m := noM) (h := hd0) hZc
        obtain ⟨q0,q1,q2,q3,q4,q5,q6,q7,q8,q9,q10⟩ := msg_frozen hZc
        simp only [noM,hd0] at z0 z1 z2 z3 z4 z5 z6 z7 z8 z9 z10
        clear hZc
        have hbl := SR.out.bel
        have hMc := SR.out.m
        obtain ⟨c0,c1,c2,c3,c4,c5,c6,c7,c8,c9,c10⟩ := msg_cells (m := m2) (h := ⟨qa,qn,qc,none,0,0⟩) hMc
        clear hMc
        simp only at c9 c10
        have hne1 : mb ≠ w.heap.size := Nat.ne_of_gt (Nat.lt_trans P.out.pr P.out.pm)
        go_wp2_with fail
        refine bodyPost_ret (v := .tuple #[.agg #[.int .i64 m2.kind,.int .i64 m2.page,.bool m2.x,.bool m2.need,.int .i64 m2.n,.int .i64 m2.cl,.int .i64 m2.ep,.int .i64 m2.tn,.int .i64 m2.lsn,.slice qa qn qc,.slice none 0 0],.int .i64 0]) (by simp [results,Try.results6,go_sem,z0,z1,z2,z3,z4,z5,z6,z7,z8,z9,z10]) rfl ?_
        rw [HE.out]
        exact ⟨⟨qa,qn,qc,none,0,0⟩,rfl,HIN.out.set11 _ _ _ _ _ _ _ _ _ _ _,below11 hbl (Nat.le_refl _) _ _ _ _ _ _ _ _ _ _ _⟩
    | false =>
      have hc1 : (code != 0) = true := by show (!(code == 0)) = _; rw [hc0]; rfl
      rw [hc0] at hnb
      have hnb2 : nb = true := hnb
      subst hnb2
      clear hnb hb0
      go_upto_region 26 with (fail)
      have hPC0 : (wg.setCell ⟨r,1,none⟩ (.bool true)).cell? ⟨wf.heap.size,0,none⟩ = some (.int .i64 L) := by rw [(Slab.Blk.far HPG.out (p := ⟨r,1,none⟩) (show wf.heap.size ≠ r from by have := P.out.pm; have := HMB.out; omega) (.bool true)).cell 0]; rfl
      have hPC1 : (wg.setCell ⟨r,1,none⟩ (.bool true)).cell? ⟨wf.heap.size,1,none⟩ = some (.slice qa qn qc) := by rw [(Slab.Blk.far HPG.out (p := ⟨r,1,none⟩) (show wf.heap.size ≠ r from by have := P.out.pm; have := HMB.out; omega) (.bool true)).cell 1]; rfl
      have HS2 := Lib.hid (slots_set HS.out (b := r) (fun g off e h => by have := HGN.out g off e h; have := P.out.pm; omega) 1 (.bool true) : Slots (wg.setCell ⟨r,1,none⟩ (.bool true)) qa qn zz)
      generalize hGen : wg.setCell ⟨r,1,none⟩ (.bool true) = wh at SR hPC0 hPC1 HS2 ⊢
      clear hGen
      clear r0 r1 g0 g1 hc0 hc1
      have hm := SR.out.m
      have y8 := Blk.cell hm 8
      have f8 := Blk.frozen hm 8
      have y9 := Blk.cell hm 9
      have f9 := Blk.frozen hm 9
      clear hm
      simp [msgA,hd0] at y8 y9
      replace SR := Lib.hid (SR.out.page1 P.out L zz qa qn qc)
      have HS3 := Lib.hid (slots_set (slots_set HS2.out (b := mb) (fun g off e h => Nat.ne_of_gt (HGN.out g off e h)) 8 (.int .i64 L)) (b := mb) (fun g off e h => Nat.ne_of_gt (HGN.out g off e h)) 9 (.slice qa qn qc))
      clear HS2
      go_upto_region 27 with (fail)
      generalize hGen : (wh.setCell ⟨mb,8,none⟩ (.int .i64 L)).setCell ⟨mb,9,none⟩ (.slice qa qn qc) = wi at SR HS3 ⊢
      clear hGen
      clear y8 y9 f8 f9 hPC0 hPC1
      obtain ⟨r0,r1,g0,g1⟩ := SR.out.rd.get
      simp only at r0 r1
      replace SR := Lib.hid (SR.out.rest P.out (t.r.drop 240) (by rw [List.length_drop]; exact Nat.sub_le _ _))
      have HS4 := Lib.hid (slots_set HS3.out (b := r) (fun g off e h => by have := HGN.out g off e h; have := P.out.pm; omega) 0 (.string (arr (t.r.drop 240))))
      clear HS3
      go_upto_region 28 with (fail)
      generalize hGen : wi.setCell ⟨r,0,none⟩ (.string (arr (t.r.drop 240))) = wj at SR HS4 ⊢
      clear hGen
      clear r0 r1 g0 g1
      have HFT := Lib.hid (show sImage (hGrant true) t = ⟨{ t.m with lsn := L,zs := zz },t.r.drop 240,true⟩ from by unfold sImage; simp only [hGrant,if_true,HL.out.1,HL.out.2.1,HL.out.2.2,HIE.out]; rw [← HNB.out])
      have HDE := HDEC.out
      rw [HFT.out] at HDE
      have HDC := Lib.hid (show decS S.data.toList = if (!true && (t.r.drop 240 == [])) && goodM { t.m with lsn := L,zs := zz } then ({ t.m with lsn := L,zs := zz },0) else (noM,4) from HDE)
      clear HDE
      have HIN := Lib.hid (show InN w.heap.size wj { t.m with lsn := L,zs := zz } ⟨qa,qn,qc,none,0,0⟩ from ⟨⟨HS4.out,by rw [hes.out.2]; exact ⟨rfl,by simp,fun h => absurd h (Nat.lt_irrefl 0)⟩⟩,fun g off e h => Nat.lt_trans (Nat.lt_trans P.out.pr P.out.pm) (HGN.out g off e h),fun _ _ _ h => (by cases h)⟩)
      have HZL := Lib.hid (show qn ≤ 1000000 from by have h1 := HS4.out.len; have h3 := HZQ.out; omega)
      clear HS4
      generalize ({ t.m with lsn := L,zs := zz } : Ms) = m2 at SR HDC HIN ⊢
      generalize t.r.drop 240 = s2 at SR HDC ⊢
      go_upto_region 38 with (go_at_call 15; apply Calls.mono; (with_reducible first | exact i_e.out _ | exact j_i.out _); rintro e w' ⟨rfl,rfl⟩)
      obtain ⟨r0,r1,g0,g1⟩ := SR.out.rd.get
      simp only at r0 r1
      have HE := Lib.hid (show decS S.data.toList = (noM,4) from by rw [HDC.out]; rfl)
      have hZc := SR.out.z
      obtain ⟨z0,z1,z2,z3,z4,z5,z6,z7,z8,z9,z10⟩ := msg_cells (m := noM) (h := hd0) hZc
      obtain ⟨q0,q1,q2,q3,q4,q5,q6,q7,q8,q9,q10⟩ := msg_frozen hZc
      simp only [noM,hd0] at z0 z1 z2 z3 z4 z5 z6 z7 z8 z9 z10
      clear hZc
      have hbl := SR.out.bel
      go_wp2_with (go_at_call 15; apply Calls.mono; (with_reducible first | exact i_e.out _ | exact j_i.out _); rintro e w' ⟨rfl,rfl⟩)
      refine bodyPost_ret (v := .tuple #[.agg #[.int .i64 0,.int .i64 0,.bool false,.bool false,.int .i64 0,.int .i64 0,.int .i64 0,.int .i64 0,.int .i64 0,.slice none 0 0,.slice none 0 0],.int .i64 4]) (by simp [results,Try.results6,go_sem,z0,z1,z2,z3,z4,z5,z6,z7,z8,z9,z10]) rfl ?_
      rw [HE.out]
      exact ⟨hd0,rfl,(HI0.out _).set11 _ _ _ _ _ _ _ _ _ _ _,below11 hbl (Nat.le_refl _) _ _ _ _ _ _ _ _ _ _ _⟩
end Go.Proofs.Ytjffjmffoffblaa.Note
