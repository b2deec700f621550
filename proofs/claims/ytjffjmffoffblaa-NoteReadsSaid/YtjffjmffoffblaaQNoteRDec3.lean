/- The walks of the document's own Decode, at each of the kinds. -/
import Derived.Test.YtjffjmffoffblaaQNoteRDec
import Derived.Test.YtjffjmffoffblaaQNoteEnts
namespace Go.Proofs.Ytjffjmffoffblaa.Note
set_option maxRecDepth 100000
open Go.RowKit Go.Sort
open Go.Proofs.Ytjffjmffoffblaa.Nib (enc below_next below_drew Fits takeInt)
open Go.Proofs.Ytjffjmffoffblaa.Slab (Slot Slots Blk ret_bool' ret_int' decR)
open Go.Proofs.Ytjffjmffoffblaa.Ent (Ent Ents EntAt SmallE withinB knownB noE entA below_box alloc_lt arr arr_list list_arr arr_size ent_cells Only decX decT decC cellsE cellsE_snoc infoE)
theorem RC.grown {w wk wk' : World} {r mb : Nat} {t : St} {hd : Hd} (S : RC w wk r mb t hd) (P : PC w r mb) {v : Value} {base n size : Nat} {ty : TypeId} {xs : List Value} (hO : wk.ownsRow base ty size v n xs) (hb : mb < base) (hg : wk.grownBy wk' v.ownBlock) : RC w wk' r mb t hd :=
  ⟨Slab.Blk.grown S.rd hg (Slab.own_ne hO (Nat.lt_trans P.pm hb)),Slab.Blk.grown S.m hg (Slab.own_ne hO hb),Slab.Blk.grown S.z hg (Slab.own_ne hO (Nat.lt_trans P.pr (Nat.lt_trans P.pm hb))),S.bel.grown hg S.bel.size (fun j hj => by have h1 := Slab.own_block_ge hO hj; have h2 := P.pr; have h3 := P.pm; omega),S.len⟩
set_option maxRecDepth 100000 in
set_option maxHeartbeats 8000000 in
theorem rdec_Log (S : ByteArray) (w : World) (hs : S.size ≤ 140737488351232) (h4 : 4 ≤ S.size) (hq : S.data.toList.take 4 = quadH (Sum.check (S.data.toList.drop 4))) (hall : sAll (S.data.toList.drop 4) = sEnts hLog (sImage hLog (sN hLog (sTxn hLog (sNeed hLog (sX hLog (sPage hLog (sKind (S.data.toList.drop 4)))))))))
    (hLOG : ∀ b,partsH (vl (S.data.toList.drop 4)) b = hLog)
    (hh0 : ∀ w (m : Ms) (hd : Hd),m.kind = vl (S.data.toList.drop 4) → m.need = false → Calls Try.prog 14 #[.agg #[.int .i64 m.kind,.int .i64 m.page,.bool m.x,.bool m.need,.int .i64 m.n,.int .i64 m.cl,.int .i64 m.ep,.int .i64 m.tn,.int .i64 m.lsn,.slice hd.a hd.an hd.ac,.slice hd.b hd.bn hd.bc]] w fun e w' => e = .returned (.string ⟨#[101]⟩) ∧ Below w.heap.size w w')
    (hh1 : ∀ w (m : Ms) (hd : Hd),m.kind = vl (S.data.toList.drop 4) → m.need = (sN hLog (sTxn hLog (sNeed hLog (sX hLog (sPage hLog (sKind (S.data.toList.drop 4))))))).m.need → Calls Try.prog 14 #[.agg #[.int .i64 m.kind,.int .i64 m.page,.bool m.x,.bool m.need,.int .i64 m.n,.int .i64 m.cl,.int .i64 m.ep,.int .i64 m.tn,.int .i64 m.lsn,.slice hd.a hd.an hd.ac,.slice hd.b hd.bn hd.bc]] w fun e w' => e = .returned (.string ⟨#[101]⟩) ∧ Below w.heap.size w w') :
    Calls Try.prog 6 #[.string S] w (DecRes (decS S.data.toList).1 (decS S.data.toList).2 w) := by
  have hZ := Blk.new w 30 #[.int .i64 0,.int .i64 0,.bool false,.bool false,.int .i64 0,.int .i64 0,.int .i64 0,.int .i64 0,.int .i64 0,.slice none 0 0,.slice none 0 0]
  have hb := below_box w (.cells #[.int .i64 0,.int .i64 0,.bool false,.bool false,.int .i64 0,.int .i64 0,.int .i64 0,.int .i64 0,.int .i64 0,.slice none 0 0,.slice none 0 0] 30)
  have hg := alloc_lt w (.cells #[.int .i64 0,.int .i64 0,.bool false,.bool false,.int .i64 0,.int .i64 0,.int .i64 0,.int .i64 0,.int .i64 0,.slice none 0 0,.slice none 0 0] 30)
  have HI0 := Lib.hid (fun W => InN.nil w.heap.size W noM rfl rfl)
  have hsz : S.size = S.data.toList.length := by simp
  have HSZ := Lib.hid hsz
  clear hsz
  have HDEC := Lib.hid (decS_of (by have := HSZ.out; omega) hq hall)
  have HH0 := Lib.hid hh0
  have HH1 := Lib.hid hh1
  clear hh0 hh1 hall
  have HLOG := Lib.hid hLOG
  clear hLOG
  have h4' : ¬ ((S.size : Int) < 4) := by omega
  have i0 : (0 : Int) < (S.size : Int) := by omega
  have i1 : (1 : Int) < (S.size : Int) := by omega
  have i2 : (2 : Int) < (S.size : Int) := by omega
  have i3 : (3 : Int) < (S.size : Int) := by omega
  have j0 : 0 < S.size := by omega
  have j1 : 1 < S.size := by omega
  have j2 : 2 < S.size := by omega
  have j3 : 3 < S.size := by omega
  have b0 := (S[0]'(by omega)).toNat_lt
  have b1 := (S[1]'(by omega)).toNat_lt
  have b2 := (S[2]'(by omega)).toNat_lt
  have b3 := (S[3]'(by omega)).toNat_lt
  have hs4 : 4 ≤ S.size := h4
  have HQN := Lib.hid (quad_num h4 (Sum.check (S.data.toList.drop 4)))
  have HDR := Lib.hid (show (S.extract 4 S.size).data.toList = S.data.toList.drop 4 from by rw [← Nib.str_drop])
  have HOF := Lib.hid (fun w => Sum.ref_any (S.extract 4 S.size) w (by rw [ByteArray.size_extract]; omega))
  rw [HDR.out] at HOF
  go_enter Try.func6,Try.ntmps6
  try dsimp only [List.append]
  go_upto_region 3 with (fail)
  generalize hGen : w.alloc (.cells #[.int .i64 0,.int .i64 0,.bool false,.bool false,.int .i64 0,.int .i64 0,.int .i64 0,.int .i64 0,.int .i64 0,.slice none 0 0,.slice none 0 0] 30) = W at hb hZ hg ⊢
  clear hGen
  go_quiet (fail)
  have hbq := below_drew hb nq
  have hZq : Blk (W.drewN nq) w.heap.size 30 #[.int .i64 0,.int .i64 0,.bool false,.bool false,.int .i64 0,.int .i64 0,.int .i64 0,.int .i64 0,.int .i64 0,.slice none 0 0,.slice none 0 0] := hZ
  have hgq : w.heap.size < (W.drewN nq).heap.size := hg
  generalize hGen : W.drewN nq = Wq at hbq hZq hgq ⊢
  clear hGen
  clear hb hZ hg
  have heq := HQN.out.1 hq
  clear hq
  generalize ((S[0]'(by omega)).toNat : Int) * 16777216 + ((S[1]'(by omega)).toNat : Int) * 65536 + ((S[2]'(by omega)).toNat : Int) * 256 + ((S[3]'(by omega)).toNat : Int) = V at heq ⊢
  have hcmp : (((Sum.check (S.data.toList.drop 4)).toNat : Int) != V) = false := by rw [heq]; exact bne_self_eq_false _
  clear heq b0 b1 b2 b3
  have HSL := Lib.hid (show (S.data.toList.drop 4).length ≤ 140737488351232 from by rw [List.length_drop]; have := HSZ.out; omega)
  have HEX := Lib.hid (show S.extract 4 S.size = arr (S.data.toList.drop 4) from by rw [← HDR.out,list_arr])
  generalize S.data.toList.drop 4 = s at HDEC HH0 HH1 HOF hcmp HSL HEX HDR HQN HLOG
  clear HQN HDR
  go_wp2_with fail
  refine (HOF.out _).mono ?_
  rintro e wx ⟨rfl,rfl⟩
  have hex := HEX.out
  go_upto_region 7 with (fail)
  clear hex hcmp h4'
  have hZ2 := hZq.alloc (.cells #[.string (arr s),.bool false] 47)
  have hR2 := Blk.new Wq 47 #[.string (arr s),.bool false]
  have hb2 := below_next hbq (below_box Wq (.cells #[.string (arr s),.bool false] 47))
  have hg2 := alloc_lt Wq (.cells #[.string (arr s),.bool false] 47)
  generalize hGen : Wq.alloc (.cells #[.string (arr s),.bool false] 47) = W2 at hZ2 hR2 hb2 hg2 ⊢
  clear hGen
  clear hZq hbq
  generalize hGen : Wq.heap.size = r at hR2 hg2 hgq ⊢
  clear hGen
  have R2 := Lib.hid (show CRd W2 r s false from hR2)
  have Z2 := Lib.hid hZ2
  have B2 := Lib.hid hb2
  clear hR2 hZ2 hb2
  go_wp2_with fail
  refine (cint_any r s false _ R2.out (by have := HSL.out; omega)).mono ?_
  rintro e w3 ⟨rfl,h1,o1⟩
  have R3 := Lib.hid h1
  have Z3 := Lib.hid (o1.blk Z2.out (by omega))
  have B3 := Lib.hid (B2.out.trans (o1.below (B := w.heap.size) (by omega) (by omega)))
  have hg3 := Nat.lt_of_lt_of_le hg2 o1.size
  clear h1 o1 R2 Z2 B2 hg2
  go_upto_region 8 with (fail)
  have R4 := Lib.hid (R3.out.below (below_box w3 (.cells #[.int .i64 (vl s),.int .i64 0,.bool false,.bool false,.int .i64 0,.int .i64 0,.int .i64 0,.int .i64 0,.int .i64 0,.slice none 0 0,.slice none 0 0] 30)))
  have Z4 := Lib.hid (Z3.out.alloc (.cells #[.int .i64 (vl s),.int .i64 0,.bool false,.bool false,.int .i64 0,.int .i64 0,.int .i64 0,.int .i64 0,.int .i64 0,.slice none 0 0,.slice none 0 0] 30))
  have B4 := Lib.hid (below_next B3.out (below_box w3 (.cells #[.int .i64 (vl s),.int .i64 0,.bool false,.bool false,.int .i64 0,.int .i64 0,.int .i64 0,.int .i64 0,.int .i64 0,.slice none 0 0,.slice none 0 0] 30)))
  have hM := Blk.new w3 30 #[.int .i64 (vl s),.int .i64 0,.bool false,.bool false,.int .i64 0,.int .i64 0,.int .i64 0,.int .i64 0,.int .i64 0,.slice none 0 0,.slice none 0 0]
  generalize hGen : w3.alloc (.cells #[.int .i64 (vl s),.int .i64 0,.bool false,.bool false,.int .i64 0,.int .i64 0,.int .i64 0,.int .i64 0,.int .i64 0,.slice none 0 0,.slice none 0 0] 30) = wb at R4 Z4 B4 hM ⊢
  clear hGen
  clear R3 Z3 B3
  generalize hGen : w3.heap.size = mb at hM hg3 ⊢
  clear hGen
  have P := Lib.hid (show PC w r mb from ⟨hgq,hg3⟩)
  have SR := Lib.hid (show RC w wb r mb (sKind s) hd0 from ⟨R4.out,hM,Z4.out,B4.out,Nat.le_trans (nx_len s) HSL.out⟩)
  clear R4 Z4 B4 hM hgq hg3
  have i_p := Lib.hid (fun w => in_is ⟨#[101]⟩ 112 false (by decide) (by decide) w 112 (by decide))
  have i_x := Lib.hid (fun w => in_is ⟨#[101]⟩ 120 false (by decide) (by decide) w 120 (by decide))
  have i_n := Lib.hid (fun w => in_is ⟨#[101]⟩ 110 false (by decide) (by decide) w 110 (by decide))
  have i_t := Lib.hid (fun w => in_is ⟨#[101]⟩ 116 false (by decide) (by decide) w 116 (by decide))
  have i_k := Lib.hid (fun w => in_is ⟨#[101]⟩ 107 false (by decide) (by decide) w 107 (by decide))
  have i_i := Lib.hid (fun w => in_is ⟨#[101]⟩ 105 false (by decide) (by decide) w 105 (by decide))
  have i_e := Lib.hid (fun w => in_is ⟨#[101]⟩ 101 true (by decide) (by decide) w 101 (by decide))
  generalize ht : sKind s = t0 at SR
  have HT0 := Lib.hid ht
  clear ht
  have hk0 := Lib.hid (show t0.m.kind = vl s ∧ t0.m.need = false from by rw [← HT0.out]; exact ⟨rfl,rfl⟩)
  have hMc := SR.out.m
  obtain ⟨c0,c1,c2,c3,c4,c5,c6,c7,c8,c9,c10⟩ := msg_cells (m := t0.m) (h := hd0) hMc
  clear hMc
  simp only [hd0] at c9 c10
  go_wp2_with fail
  refine (HH0.out _ t0.m hd0 hk0.out.1 hk0.out.2).mono ?_
  rintro e wa ⟨rfl,ba⟩
  replace SR := Lib.hid (SR.out.next ba)
  clear ba hk0 c0 c1 c2 c3 c4 c5 c6 c7 c8 c9 c10
  have HCH := Lib.hid (show sN hLog (sTxn hLog (sNeed hLog (sX hLog (sPage hLog (sKind s))))) = t0 from by rw [HT0.out,show sPage hLog t0 = t0 from rfl,show sX hLog t0 = t0 from rfl,show sNeed hLog t0 = t0 from rfl,show sTxn hLog t0 = t0 from rfl,show sN hLog t0 = t0 from rfl])
  generalize ht : t0 = t at SR HCH
  have HTT := Lib.hid ht
  clear ht
  have hk1 := Lib.hid (show t.m.kind = vl s ∧ t.m.need = (sN hLog (sTxn hLog (sNeed hLog (sX hLog (sPage hLog (sKind s)))))).m.need from by
    rw [HCH.out]; refine ⟨?_,rfl⟩; rw [← HCH.out]; simp only [sPage_kind,sX_kind,sNeed_kind,sTxn_kind,sN_kind]; rfl)
  have hes := Lib.hid (show t.m.zs = [] ∧ t.m.es = [] from by rw [← HCH.out]; simp only [sPage_es,sX_es,sNeed_es,sTxn_es,sN_es,sPage_zs,sX_zs,sNeed_zs,sTxn_zs,sN_zs]; exact ⟨rfl,rfl⟩)
  go_upto_region 21 with (go_at_call 15; apply Calls.mono; (with_reducible first | exact i_p.out _ | exact i_x.out _ | exact i_n.out _ | exact i_t.out _ | exact i_k.out _ | exact i_i.out _ | exact i_e.out _); rintro e w' ⟨rfl,rfl⟩)
  have hMc := SR.out.m
  obtain ⟨c0,c1,c2,c3,c4,c5,c6,c7,c8,c9,c10⟩ := msg_cells (m := t.m) (h := hd0) hMc
  clear hMc
  simp only [hd0] at c9 c10
  go_wp2_with fail
  refine (HH1.out _ t.m hd0 hk1.out.1 hk1.out.2).mono ?_
  rintro e we ⟨rfl,ba⟩
  replace SR := Lib.hid (SR.out.next ba)
  clear ba c0 c1 c2 c3 c4 c5 c6 c7 c8 c9 c10
  rw [HCH.out] at HDEC
  go_upto_region 29 with (go_at_call 15; apply Calls.mono; (with_reducible first | exact i_p.out _ | exact i_x.out _ | exact i_n.out _ | exact i_t.out _ | exact i_k.out _ | exact i_i.out _ | exact i_e.out _); rintro e w' ⟨rfl,rfl⟩)
  go_wp2_with fail
  refine (cint_any r t.r t.bad _ SR.out.rd (by have := SR.out.len; exact Nat.le_trans this (by omega))).mono ?_
  rintro e wd ⟨rfl,h1,o1⟩
  replace SR := Lib.hid (SR.out.num P.out h1 o1 (nx_len _))
  clear h1 o1
  have HXT := Lib.hid (fun j => @ents_exit t.m (by rw [hk1.out.1]; exact HLOG.out _) t.r t.bad j)
  have HDE := HDEC.out
  rw [show sEnts hLog (sImage hLog t) = ⟨{ t.m with es := esL t.r },esT t.r,esW t.r t.bad⟩ from rfl] at HDE
  have HDC := Lib.hid HDE
  clear HDE HDEC HH0 HH1 HCH HTT
  have hbm := SR.out.m.lt
  have hbr : r < wd.heap.size := Nat.lt_trans P.out.pm hbm
  generalize nx t.r = u at SR HXT
  generalize (t.bad || wr t.r) = bd at SR HXT
  generalize vl t.r = V at HXT ⊢
  obtain ⟨i0,hi,hz0,hz1,hz2⟩ := info_parts infoE
  go_wp2
  go_loopw [11] (fun iv wr => ∃ (k : Nat) (a : Option Addr) (c : Nat),iv = .int .i64 (k : Int) ∧ k ≤ 17 ∧ Hid (∀ i,i < k → (i : Int) < V ∧ i < 17 ∧ entsW i u bd = false) ∧ Hid (RC w wr r mb ⟨t.m,entsT k u,entsW k u bd⟩ ⟨none,0,0,a,k,c⟩) ∧ Hid (wr.ownsRow wd.heap.size 56 13 (.slice a k c) k (cellsE (entsL k u))) ∧ Hid (wd.heap.size ≤ wr.heap.size)) (fun iv _ => 17 - (intOf iv).toNat)
  case atStart => exact ⟨0,none,0,rfl,by omega,Lib.hid (fun i h => absurd h (Nat.not_lt_zero i)),SR,Lib.hid (Mem.own_nil _ _ _ _),Lib.hid (Nat.le_refl _)⟩
  case round =>
    clear SR
    obtain ⟨k,a,c,rfl,hk17,HP,SR,HO,HB⟩ := hrel
    by_cases hlt : (k : Int) < V ∧ k < 17 ∧ entsW k u bd = false
    · obtain ⟨hV,hk,hwk⟩ := hlt
      have HPN := Lib.hid (show ∀ i,i < k + 1 → (i : Int) < V ∧ i < 17 ∧ entsW i u bd = false from fun i hi => by
        rcases Nat.lt_or_ge i k with h | h
        · exact HP.out i h
        · obtain rfl : i = k := by omega
          exact ⟨hV,hk,hwk⟩)
      have hkI : (k : Int) < 17 := by omega
      obtain ⟨r0,r1,g0,g1⟩ := SR.out.rd.get
      simp only [hwk] at r0 r1
      have HW := Lib.hid hwk
      clear hwk
      have HD := Lib.hid (fun w => Ent.rdecode_any (entsT k u) w SR.out.len)
      have HSN := Lib.hid (And.intro (entsL_snoc k u) (And.intro (entsT_snoc k u) (And.intro (entsW_snoc k u bd) (decT_len (entsT k u)))))
      generalize decX (entsT k u) = X at HD HSN
      generalize decT (entsT k u) = T at HD HSN
      generalize decC (entsT k u) = C at HD HSN
      have HD2 := Lib.hid (show ∀ w,Calls Try.prog 18 #[.string (arr (entsT k u))] w fun e w' => e = .returned (.tuple #[.agg #[.int .i64 X.kind,.int .i64 X.cl,.int .i64 X.ep,.int .i64 X.n,.int .i64 X.lsn,.int .i64 X.prev,.int .i64 X.page,.int .i64 X.slot,.bool X.wu,.string X.wd,.bool X.iu,.string X.id,.int .i64 X.next],.string (arr T),.int .i64 C]) ∧ Below w.heap.size w w' from HD.out)
      go_wp2_with fail
      refine (HD2.out _).mono ?_
      rintro e w2 ⟨rfl,b2⟩
      replace SR := Lib.hid (SR.out.next b2)
      replace HO := Lib.hid (Slab.own_below HO.out b2)
      replace HB := Lib.hid (Nat.le_trans HB.out b2.size)
      have hmx : mb < w2.heap.size := SR.out.m.lt
      clear r0 r1 g0 g1
      go_upto_region 34 with (fail)
      have hX := Blk.new w2 56 #[.int .i64 X.kind,.int .i64 X.cl,.int .i64 X.ep,.int .i64 X.n,.int .i64 X.lsn,.int .i64 X.prev,.int .i64 X.page,.int .i64 X.slot,.bool X.wu,.string X.wd,.bool X.iu,.string X.id,.int .i64 X.next]
      replace SR := Lib.hid (SR.out.next (below_box w2 (.cells #[.int .i64 X.kind,.int .i64 X.cl,.int .i64 X.ep,.int .i64 X.n,.int .i64 X.lsn,.int .i64 X.prev,.int .i64 X.page,.int .i64 X.slot,.bool X.wu,.string X.wd,.bool X.iu,.string X.id,.int .i64 X.next] 56)))
      replace HO := Lib.hid (Slab.own_below HO.out (below_box w2 (.cells #[.int .i64 X.kind,.int .i64 X.cl,.int .i64 X.ep,.int .i64 X.n,.int .i64 X.lsn,.int .i64 X.prev,.int .i64 X.page,.int .i64 X.slot,.bool X.wu,.string X.wd,.bool X.iu,.string X.id,.int .i64 X.next] 56)))
      have hg3 := alloc_lt w2 (.cells #[.int .i64 X.kind,.int .i64 X.cl,.int .i64 X.ep,.int .i64 X.n,.int .i64 X.lsn,.int .i64 X.prev,.int .i64 X.page,.int .i64 X.slot,.bool X.wu,.string X.wd,.bool X.iu,.string X.id,.int .i64 X.next] 56)
      replace HB := Lib.hid (Nat.le_trans HB.out (below_box w2 (.cells #[.int .i64 X.kind,.int .i64 X.cl,.int .i64 X.ep,.int .i64 X.n,.int .i64 X.lsn,.int .i64 X.prev,.int .i64 X.page,.int .i64 X.slot,.bool X.wu,.string X.wd,.bool X.iu,.string X.id,.int .i64 X.next] 56)).size)
      generalize hGen : w2.alloc (.cells #[.int .i64 X.kind,.int .i64 X.cl,.int .i64 X.ep,.int .i64 X.n,.int .i64 X.lsn,.int .i64 X.prev,.int .i64 X.page,.int .i64 X.slot,.bool X.wu,.string X.wd,.bool X.iu,.string X.id,.int .i64 X.next] 56) = W at SR hX HO hg3 HB ⊢
      clear hGen
      clear b2
      generalize hGen : w2.heap.size = gx at hX hg3 hmx ⊢
      clear hGen
      obtain ⟨r0,r1,g0,g1⟩ := SR.out.rd.get
      simp only [HW.out] at r0 r1
      replace SR := Lib.hid (SR.out.bad P.out (C != 0))
      have hX2 := Slab.Blk.far hX (p := ⟨r,1,none⟩) (show gx ≠ r from by have := P.out.pm; omega) (.bool (C != 0))
      replace HO := Lib.hid (Slab.own_far HO.out hbr 1 (.bool (C != 0)))
      replace HB := Lib.hid (show wd.heap.size ≤ (W.setCell ⟨r,1,none⟩ (.bool (C != 0))).heap.size from by have := HB.out; simpa using this)
      go_upto_region 35 with (fail)
      generalize hGen : W.setCell ⟨r,1,none⟩ (.bool (C != 0)) = W5 at SR hX2 HO HB ⊢
      clear hGen
      clear r0 r1 g0 g1 hX hg3
      have hm := SR.out.m
      have p1 := Blk.cell hm 10
      have f1 := Blk.frozen hm 10
      clear hm
      simp [msgA] at p1
      obtain ⟨x0,x1,x2,x3,x4,x5,x6,x7,x8,x9,x10,x11,x12⟩ := ent_cells hX2
      go_wp2_with (at_builtin; refine wpList_append_own _ rfl _ _ 28 rfl wd.heap.size 56 i0 (.agg #[.int .i64 0,.int .i64 0,.int .i64 0,.int .i64 0,.int .i64 0,.int .i64 0,.int .i64 0,.int .i64 0,.bool false,.string ⟨#[]⟩,.bool false,.string ⟨#[]⟩,.int .i64 0]) 13 120 Try.underlying28 hi hz0 hz1 hz2 rfl (by decide) _ k (cellsE (entsL k u)) rfl (Slab.own_below HO.out (below_box _ _)) ⟨W5.heap.size,0,none⟩ 1 1 (entA X).toList rfl rfl ?c1 ?c2 ?c3 ?c4 ?c5 ?_)
      case c1 =>
        intro j v hj
        simpa [entA] using hj
      case c2 => intro v hv; simp [entA] at hv; rcases hv with rfl | rfl | rfl | rfl | rfl | rfl | rfl | rfl | rfl | rfl | rfl | rfl | rfl <;> rfl
      case c3 => unfold maxLen; omega
      case c4 => omega
      case c5 => have h1 := HB.out; simp; omega
      intro v' w6 hown6 hgrow6 _
      rw [cellsE_snoc,← HSN.out.1] at hown6
      have HO5 := Lib.hid (Slab.own_below HO.out (below_box W5 (.cells (entA X) 56)))
      replace SR := Lib.hid ((SR.out.next (below_box W5 (.cells (entA X) 56))).grown P.out HO5.out hbm hgrow6)
      have HO6 := Lib.hid hown6
      replace HB := Lib.hid (Nat.le_trans (Nat.le_trans HB.out (below_box W5 (.cells (entA X) 56)).size) hgrow6.size)
      obtain ⟨a',c',rfl⟩ := Mem.own_shape HO6.out
      clear hown6 hgrow6 p1 f1 HO HO5 hX2 x0 x1 x2 x3 x4 x5 x6 x7 x8 x9 x10 x11 x12
      have hm := SR.out.m
      have p1 := Blk.cell hm 10
      have f1 := Blk.frozen hm 10
      clear hm
      simp [msgA] at p1
      replace SR := Lib.hid (SR.out.setm P.out 10 (.slice a' (k + 1) c') (m' := t.m) (hd' := ⟨none,0,0,a',k + 1,c'⟩) rfl)
      have HO := Lib.hid (Slab.own_far HO6.out hbm 10 (.slice a' (k + 1) c'))
      replace HB := Lib.hid (show wd.heap.size ≤ (w6.setCell ⟨mb,10,none⟩ (.slice a' (k + 1) c')).heap.size from by have := HB.out; simpa using this)
      go_upto_region 36 with (fail)
      generalize hGen : w6.setCell ⟨mb,10,none⟩ (.slice a' (k + 1) c') = W7 at SR HO HB ⊢
      clear hGen
      clear p1 f1 HO6
      obtain ⟨r0,r1,g0,g1⟩ := SR.out.rd.get
      simp only at r0 r1
      replace SR := Lib.hid (SR.out.rest P.out T HSN.out.2.2.2)
      replace HO := Lib.hid (Slab.own_far HO.out hbr 0 (.string (arr T)))
      replace HB := Lib.hid (show wd.heap.size ≤ (W7.setCell ⟨r,0,none⟩ (.string (arr T))).heap.size from by have := HB.out; simpa using this)
      go_upto_region 32 with (fail)
      generalize hGen : W7.setCell ⟨r,0,none⟩ (.string (arr T)) = W8 at SR HO HB ⊢
      clear hGen
      clear r0 r1 g0 g1
      have hwe : entsW (k + 1) u bd = (C != 0) := by rw [HSN.out.2.2.1,HW.out]; rfl
      have SR2 := Lib.hid (show RC w W8 r mb ⟨t.m,entsT (k + 1) u,entsW (k + 1) u bd⟩ ⟨none,0,0,a',k + 1,c'⟩ from by rw [HSN.out.2.1,hwe]; exact SR.out)
      go_wp2
      go_roundw
      case rel => exact ⟨k + 1,a',c',by go_num,by omega,HPN,SR2,HO,HB⟩
      case measure => simp [intOf]; omega
    · have HEN := Lib.hid (HXT.out k hlt HP.out)
      have HDK := Lib.hid (show decS S.data.toList = if ((!(entsW k u bd || !(V == (k : Int))) && (entsT k u == [])) && goodM { t.m with es := entsL k u }) = true then ({ t.m with es := entsL k u },0) else (noM,4) from by
        rw [HDC.out,← HEN.out.1]
        by_cases hc : ((!(entsW k u bd || !(V == (k : Int))) && (entsT k u == [])) && goodM { t.m with es := entsL k u }) = true
        · rw [if_pos hc,if_pos hc,HEN.out.2 hc]
        · rw [if_neg hc,if_neg hc])
      clear HEN HDC HXT HP
      have hbB : w.heap.size < wd.heap.size := Nat.lt_trans P.out.pr hbr
      obtain ⟨r0,r1,g0,g1⟩ := SR.out.rd.get
      simp only at r0 r1
      have hm := SR.out.m
      have p1 := Blk.cell hm 10
      clear hm
      simp [msgA] at p1
      by_cases hV : (k : Int) < V
      · have hvn : (V == (k : Int)) = false := beq_eq_false_iff_ne.2 (by omega)
        have HV0 := Lib.hid hvn
        clear hvn
        by_cases hk : k < 17
        · have hkI : (k : Int) < 17 := by omega
          have hw : entsW k u bd = true := by cases h : entsW k u bd with | true => rfl | false => exact absurd ⟨hV,hk,h⟩ hlt
          clear hlt
          have HW := Lib.hid hw
          rw [hw] at r1
          clear hw
          replace SR := Lib.hid (SR.out.bad P.out true)
          replace HO := Lib.hid (Slab.own_far HO.out hbr 1 (.bool true))
          go_upto_region 38 with (fail)
          generalize hGen : wr.setCell ⟨r,1,none⟩ (.bool true) = wj at SR HO ⊢
          clear hGen
          have HDC := Lib.hid (show decS S.data.toList = if (!true && (entsT k u == [])) && goodM { t.m with es := entsL k u } then ({ t.m with es := entsL k u },0) else (noM,4) from by have h := HDK.out; rw [HW.out] at h; exact h)
          clear r0 r1 g0 g1 p1
          obtain ⟨a2,c2,hv,hE,hnew⟩ := ents_own (show wj.ownsRow wd.heap.size 56 13 (.slice a k c) (entsL k u).length (cellsE (entsL k u)) from by rw [entsL_len]; exact HO.out) (entsL_small k u)
          rw [entsL_len] at hv hE
          cases hv
          have HIN := Lib.hid (show InN w.heap.size wj { t.m with es := entsL k u } ⟨none,0,0,a,k,c⟩ from ⟨⟨by show Slots wj none 0 t.m.zs; rw [hes.out.1]; exact ⟨rfl,by simp,fun h => absurd h (Nat.lt_irrefl 0)⟩,hE⟩,fun _ _ _ h => (by cases h),fun g off e h => Nat.lt_of_lt_of_le hbB (hnew g off e h)⟩)
          have SR2 := Lib.hid (show RC w wj r mb ⟨{ t.m with es := entsL k u },entsT k u,true⟩ ⟨none,0,0,a,k,c⟩ from ⟨SR.out.rd,SR.out.m,SR.out.z,SR.out.bel,SR.out.len⟩)
          clear SR HO hE hnew
          have SR := Lib.hid SR2.out
          clear SR2
          have HZL := Lib.hid (show k ≤ 1000000 from Nat.le_trans hk17 (by decide))
          generalize ({ t.m with es := entsL k u } : Ms) = m2 at SR HDC HIN
          generalize entsT k u = s2 at SR HDC
          obtain ⟨r0,r1,g0,g1⟩ := SR.out.rd.get
          simp only at r0 r1
          have HE := Lib.hid (show decS S.data.toList = (noM,4) from by rw [HDC.out]; rfl)
          have hZc := SR.out.z
          obtain ⟨z0,z1,z2,z3,z4,z5,z6,z7,z8,z9,z10⟩ := msg_cells (m := noM) (h := hd0) hZc
          obtain ⟨q0,q1,q2,q3,q4,q5,q6,q7,q8,q9,q10⟩ := msg_frozen hZc
          simp only [noM,hd0] at z0 z1 z2 z3 z4 z5 z6 z7 z8 z9 z10
          clear hZc
          have hbl := SR.out.bel
          go_wp2_with (go_at_call 15; apply Calls.mono; (with_reducible first | exact i_p.out _ | exact i_x.out _ | exact i_n.out _ | exact i_t.out _ | exact i_k.out _ | exact i_i.out _ | exact i_e.out _); rintro e w' ⟨rfl,rfl⟩)
          refine bodyPost_ret (v := .tuple #[.agg #[.int .i64 0,.int .i64 0,.bool false,.bool false,.int .i64 0,.int .i64 0,.int .i64 0,.int .i64 0,.int .i64 0,.slice none 0 0,.slice none 0 0],.int .i64 4]) (by simp [results,Try.results6,go_sem,z0,z1,z2,z3,z4,z5,z6,z7,z8,z9,z10]) rfl ?_
          rw [HE.out]
          exact ⟨hd0,rfl,(HI0.out _).set11 _ _ _ _ _ _ _ _ _ _ _,below11 hbl (Nat.le_refl _) _ _ _ _ _ _ _ _ _ _ _⟩
        · have hkI : ¬ (k : Int) < 17 := by omega
          clear hlt hk
          cases hw : entsW k u bd with
          | true =>
            have HW := Lib.hid hw
            rw [hw] at r1
            clear hw
            replace SR := Lib.hid (SR.out.bad P.out true)
            replace HO := Lib.hid (Slab.own_far HO.out hbr 1 (.bool true))
            go_upto_region 38 with (fail)
            generalize hGen : wr.setCell ⟨r,1,none⟩ (.bool true) = wj at SR HO ⊢
            clear hGen
            have HDC := Lib.hid (show decS S.data.toList = if (!true && (entsT k u == [])) && goodM { t.m with es := entsL k u } then ({ t.m with es := entsL k u },0) else (noM,4) from by have h := HDK.out; rw [HW.out] at h; exact h)
            clear r0 r1 g0 g1 p1
            obtain ⟨a2,c2,hv,hE,hnew⟩ := ents_own (show wj.ownsRow wd.heap.size 56 13 (.slice a k c) (entsL k u).length (cellsE (entsL k u)) from by rw [entsL_len]; exact HO.out) (entsL_small k u)
            rw [entsL_len] at hv hE
            cases hv
            have HIN := Lib.hid (show InN w.heap.size wj { t.m with es := entsL k u } ⟨none,0,0,a,k,c⟩ from ⟨⟨by show Slots wj none 0 t.m.zs; rw [hes.out.1]; exact ⟨rfl,by simp,fun h => absurd h (Nat.lt_irrefl 0)⟩,hE⟩,fun _ _ _ h => (by cases h),fun g off e h => Nat.lt_of_lt_of_le hbB (hnew g off e h)⟩)
            have SR2 := Lib.hid (show RC w wj r mb ⟨{ t.m with es := entsL k u },entsT k u,true⟩ ⟨none,0,0,a,k,c⟩ from ⟨SR.out.rd,SR.out.m,SR.out.z,SR.out.bel,SR.out.len⟩)
            clear SR HO hE hnew
            have SR := Lib.hid SR2.out
            clear SR2
            have HZL := Lib.hid (show k ≤ 1000000 from Nat.le_trans hk17 (by decide))
            generalize ({ t.m with es := entsL k u } : Ms) = m2 at SR HDC HIN
            generalize entsT k u = s2 at SR HDC
            obtain ⟨r0,r1,g0,g1⟩ := SR.out.rd.get
            simp only at r0 r1
            have HE := Lib.hid (show decS S.data.toList = (noM,4) from by rw [HDC.out]; rfl)
            have hZc := SR.out.z
            obtain ⟨z0,z1,z2,z3,z4,z5,z6,z7,z8,z9,z10⟩ := msg_cells (m := noM) (h := hd0) hZc
            obtain ⟨q0,q1,q2,q3,q4,q5,q6,q7,q8,q9,q10⟩ := msg_frozen hZc
            simp only [noM,hd0] at z0 z1 z2 z3 z4 z5 z6 z7 z8 z9 z10
            clear hZc
            have hbl := SR.out.bel
            go_wp2_with (go_at_call 15; apply Calls.mono; (with_reducible first | exact i_p.out _ | exact i_x.out _ | exact i_n.out _ | exact i_t.out _ | exact i_k.out _ | exact i_i.out _ | exact i_e.out _); rintro e w' ⟨rfl,rfl⟩)
            refine bodyPost_ret (v := .tuple #[.agg #[.int .i64 0,.int .i64 0,.bool false,.bool false,.int .i64 0,.int .i64 0,.int .i64 0,.int .i64 0,.int .i64 0,.slice none 0 0,.slice none 0 0],.int .i64 4]) (by simp [results,Try.results6,go_sem,z0,z1,z2,z3,z4,z5,z6,z7,z8,z9,z10]) rfl ?_
            rw [HE.out]
            exact ⟨hd0,rfl,(HI0.out _).set11 _ _ _ _ _ _ _ _ _ _ _,below11 hbl (Nat.le_refl _) _ _ _ _ _ _ _ _ _ _ _⟩
          | false =>
            have hv0 := HV0.out
            have HW := Lib.hid hw
            rw [hw] at r1
            clear hw
            have hv1 : (V != (k : Int)) = true := by show (!(V == (k : Int))) = _; rw [hv0]; rfl
            replace SR := Lib.hid (SR.out.bad P.out true)
            replace HO := Lib.hid (Slab.own_far HO.out hbr 1 (.bool true))
            go_upto_region 38 with (fail)
            generalize hGen : wr.setCell ⟨r,1,none⟩ (.bool true) = wj at SR HO ⊢
            clear hGen
            have HDC := Lib.hid (show decS S.data.toList = if (!true && (entsT k u == [])) && goodM { t.m with es := entsL k u } then ({ t.m with es := entsL k u },0) else (noM,4) from by have h := HDK.out; rw [HW.out,hv0] at h; exact h)
            clear r0 r1 g0 g1 p1 hv0 hv1
            obtain ⟨a2,c2,hv,hE,hnew⟩ := ents_own (show wj.ownsRow wd.heap.size 56 13 (.slice a k c) (entsL k u).length (cellsE (entsL k u)) from by rw [entsL_len]; exact HO.out) (entsL_small k u)
            rw [entsL_len] at hv hE
            cases hv
            have HIN := Lib.hid (show InN w.heap.size wj { t.m with es := entsL k u } ⟨none,0,0,a,k,c⟩ from ⟨⟨by show Slots wj none 0 t.m.zs; rw [hes.out.1]; exact ⟨rfl,by simp,fun h => absurd h (Nat.lt_irrefl 0)⟩,hE⟩,fun _ _ _ h => (by cases h),fun g off e h => Nat.lt_of_lt_of_le hbB (hnew g off e h)⟩)
            have SR2 := Lib.hid (show RC w wj r mb ⟨{ t.m with es := entsL k u },entsT k u,true⟩ ⟨none,0,0,a,k,c⟩ from ⟨SR.out.rd,SR.out.m,SR.out.z,SR.out.bel,SR.out.len⟩)
            clear SR HO hE hnew
            have SR := Lib.hid SR2.out
            clear SR2
            have HZL := Lib.hid (show k ≤ 1000000 from Nat.le_trans hk17 (by decide))
            generalize ({ t.m with es := entsL k u } : Ms) = m2 at SR HDC HIN
            generalize entsT k u = s2 at SR HDC
            obtain ⟨r0,r1,g0,g1⟩ := SR.out.rd.get
            simp only at r0 r1
            have HE := Lib.hid (show decS S.data.toList = (noM,4) from by rw [HDC.out]; rfl)
            have hZc := SR.out.z
            obtain ⟨z0,z1,z2,z3,z4,z5,z6,z7,z8,z9,z10⟩ := msg_cells (m := noM) (h := hd0) hZc
            obtain ⟨q0,q1,q2,q3,q4,q5,q6,q7,q8,q9,q10⟩ := msg_frozen hZc
            simp only [noM,hd0] at z0 z1 z2 z3 z4 z5 z6 z7 z8 z9 z10
            clear hZc
            have hbl := SR.out.bel
            go_wp2_with (go_at_call 15; apply Calls.mono; (with_reducible first | exact i_p.out _ | exact i_x.out _ | exact i_n.out _ | exact i_t.out _ | exact i_k.out _ | exact i_i.out _ | exact i_e.out _); rintro e w' ⟨rfl,rfl⟩)
            refine bodyPost_ret (v := .tuple #[.agg #[.int .i64 0,.int .i64 0,.bool false,.bool false,.int .i64 0,.int .i64 0,.int .i64 0,.int .i64 0,.int .i64 0,.slice none 0 0,.slice none 0 0],.int .i64 4]) (by simp [results,Try.results6,go_sem,z0,z1,z2,z3,z4,z5,z6,z7,z8,z9,z10]) rfl ?_
            rw [HE.out]
            exact ⟨hd0,rfl,(HI0.out _).set11 _ _ _ _ _ _ _ _ _ _ _,below11 hbl (Nat.le_refl _) _ _ _ _ _ _ _ _ _ _ _⟩
      · clear hlt
        cases hw : entsW k u bd with
        | true =>
          have HW := Lib.hid hw
          rw [hw] at r1
          clear hw
          replace SR := Lib.hid (SR.out.bad P.out true)
          replace HO := Lib.hid (Slab.own_far HO.out hbr 1 (.bool true))
          go_upto_region 38 with (fail)
          generalize hGen : wr.setCell ⟨r,1,none⟩ (.bool true) = wj at SR HO ⊢
          clear hGen
          have HDC := Lib.hid (show decS S.data.toList = if (!true && (entsT k u == [])) && goodM { t.m with es := entsL k u } then ({ t.m with es := entsL k u },0) else (noM,4) from by have h := HDK.out; rw [HW.out] at h; exact h)
          clear r0 r1 g0 g1 p1
          obtain ⟨a2,c2,hv,hE,hnew⟩ := ents_own (show wj.ownsRow wd.heap.size 56 13 (.slice a k c) (entsL k u).length (cellsE (entsL k u)) from by rw [entsL_len]; exact HO.out) (entsL_small k u)
          rw [entsL_len] at hv hE
          cases hv
          have HIN := Lib.hid (show InN w.heap.size wj { t.m with es := entsL k u } ⟨none,0,0,a,k,c⟩ from ⟨⟨by show Slots wj none 0 t.m.zs; rw [hes.out.1]; exact ⟨rfl,by simp,fun h => absurd h (Nat.lt_irrefl 0)⟩,hE⟩,fun _ _ _ h => (by cases h),fun g off e h => Nat.lt_of_lt_of_le hbB (hnew g off e h)⟩)
          have SR2 := Lib.hid (show RC w wj r mb ⟨{ t.m with es := entsL k u },entsT k u,true⟩ ⟨none,0,0,a,k,c⟩ from ⟨SR.out.rd,SR.out.m,SR.out.z,SR.out.bel,SR.out.len⟩)
          clear SR HO hE hnew
          have SR := Lib.hid SR2.out
          clear SR2
          have HZL := Lib.hid (show k ≤ 1000000 from Nat.le_trans hk17 (by decide))
          generalize ({ t.m with es := entsL k u } : Ms) = m2 at SR HDC HIN
          generalize entsT k u = s2 at SR HDC
          obtain ⟨r0,r1,g0,g1⟩ := SR.out.rd.get
          simp only at r0 r1
          have HE := Lib.hid (show decS S.data.toList = (noM,4) from by rw [HDC.out]; rfl)
          have hZc := SR.out.z
          obtain ⟨z0,z1,z2,z3,z4,z5,z6,z7,z8,z9,z10⟩ := msg_cells (m := noM) (h := hd0) hZc
          obtain ⟨q0,q1,q2,q3,q4,q5,q6,q7,q8,q9,q10⟩ := msg_frozen hZc
          simp only [noM,hd0] at z0 z1 z2 z3 z4 z5 z6 z7 z8 z9 z10
          clear hZc
          have hbl := SR.out.bel
          go_wp2_with (go_at_call 15; apply Calls.mono; (with_reducible first | exact i_p.out _ | exact i_x.out _ | exact i_n.out _ | exact i_t.out _ | exact i_k.out _ | exact i_i.out _ | exact i_e.out _); rintro e w' ⟨rfl,rfl⟩)
          refine bodyPost_ret (v := .tuple #[.agg #[.int .i64 0,.int .i64 0,.bool false,.bool false,.int .i64 0,.int .i64 0,.int .i64 0,.int .i64 0,.int .i64 0,.slice none 0 0,.slice none 0 0],.int .i64 4]) (by simp [results,Try.results6,go_sem,z0,z1,z2,z3,z4,z5,z6,z7,z8,z9,z10]) rfl ?_
          rw [HE.out]
          exact ⟨hd0,rfl,(HI0.out _).set11 _ _ _ _ _ _ _ _ _ _ _,below11 hbl (Nat.le_refl _) _ _ _ _ _ _ _ _ _ _ _⟩
        | false =>
          cases hv0 : (V == (k : Int)) with
          | true =>
            have HW := Lib.hid hw
            rw [hw] at r1
            clear hw
            have hv1 : (V != (k : Int)) = false := by show (!(V == (k : Int))) = _; rw [hv0]; rfl
            replace SR := Lib.hid (SR.out.bad P.out false)
            replace HO := Lib.hid (Slab.own_far HO.out hbr 1 (.bool false))
            go_upto_region 38 with (fail)
            generalize hGen : wr.setCell ⟨r,1,none⟩ (.bool false) = wj at SR HO ⊢
            clear hGen
            have HDC := Lib.hid (show decS S.data.toList = if (!false && (entsT k u == [])) && goodM { t.m with es := entsL k u } then ({ t.m with es := entsL k u },0) else (noM,4) from by have h := HDK.out; rw [HW.out,hv0] at h; exact h)
            clear r0 r1 g0 g1 p1 hv0 hv1
            obtain ⟨a2,c2,hv,hE,hnew⟩ := ents_own (show wj.ownsRow wd.heap.size 56 13 (.slice a k c) (entsL k u).length (cellsE (entsL k u)) from by rw [entsL_len]; exact HO.out) (entsL_small k u)
            rw [entsL_len] at hv hE
            cases hv
            have HIN := Lib.hid (show InN w.heap.size wj { t.m with es := entsL k u } ⟨none,0,0,a,k,c⟩ from ⟨⟨by show Slots wj none 0 t.m.zs; rw [hes.out.1]; exact ⟨rfl,by simp,fun h => absurd h (Nat.lt_irrefl 0)⟩,hE⟩,fun _ _ _ h => (by cases h),fun g off e h => Nat.lt_of_lt_of_le hbB (hnew g off e h)⟩)
            have SR2 := Lib.hid (show RC w wj r mb ⟨{ t.m with es := entsL k u },entsT k u,false⟩ ⟨none,0,0,a,k,c⟩ from ⟨SR.out.rd,SR.out.m,SR.out.z,SR.out.bel,SR.out.len⟩)
            clear SR HO hE hnew
            have SR := Lib.hid SR2.out
            clear SR2
            have HZL := Lib.hid (show k ≤ 1000000 from Nat.le_trans hk17 (by decide))
            generalize ({ t.m with es := entsL k u } : Ms) = m2 at SR HDC HIN
            generalize entsT k u = s2 at SR HDC
            by_cases hnil : s2 = []
            rotate_left
            · obtain ⟨r0,r1,g0,g1⟩ := SR.out.rd.get
              simp only at r0 r1
              have n2 := arr_ne hnil
              have n3 := arr_ne2 hnil
              have n4 : ((arr s2).toList != []) = true := by show (!((arr s2).toList == [])) = true; rw [n2]; rfl
              have HNN := Lib.hid (show (s2 == []) = false from beq_eq_false_iff_ne.2 hnil)
              clear hnil
              have HE := Lib.hid (show decS S.data.toList = (noM,4) from by rw [HDC.out,HNN.out]; rfl)
              have hZc := SR.out.z
              obtain ⟨z0,z1,z2,z3,z4,z5,z6,z7,z8,z9,z10⟩ := msg_cells (m := noM) (h := hd0) hZc
              obtain ⟨q0,q1,q2,q3,q4,q5,q6,q7,q8,q9,q10⟩ := msg_frozen hZc
              simp only [noM,hd0] at z0 z1 z2 z3 z4 z5 z6 z7 z8 z9 z10
              clear hZc
              have hbl := SR.out.bel
              go_wp2_with (go_at_call 15; apply Calls.mono; (with_reducible first | exact i_p.out _ | exact i_x.out _ | exact i_n.out _ | exact i_t.out _ | exact i_k.out _ | exact i_i.out _ | exact i_e.out _); rintro e w' ⟨rfl,rfl⟩)
              refine bodyPost_ret (v := .tuple #[.agg #[.int .i64 0,.int .i64 0,.bool false,.bool false,.int .i64 0,.int .i64 0,.int .i64 0,.int .i64 0,.int .i64 0,.slice none 0 0,.slice none 0 0],.int .i64 4]) (by simp [results,Try.results6,go_sem,z0,z1,z2,z3,z4,z5,z6,z7,z8,z9,z10]) rfl ?_
              rw [HE.out]
              exact ⟨hd0,rfl,(HI0.out _).set11 _ _ _ _ _ _ _ _ _ _ _,below11 hbl (Nat.le_refl _) _ _ _ _ _ _ _ _ _ _ _⟩
            subst hnil
            obtain ⟨r0,r1,g0,g1⟩ := SR.out.rd.get
            simp only at r0 r1
            rw [Ent.arr_nil] at r0
            have hMc := SR.out.m
            obtain ⟨c0,c1,c2,c3,c4,c5,c6,c7,c8,c9,c10⟩ := msg_cells (m := m2) (h := ⟨none,0,0,a,k,c⟩) hMc
            clear hMc
            simp only at c9 c10
            have HGD := Lib.hid (show ∀ w,In w m2 ⟨none,0,0,a,k,c⟩ → Calls Try.prog 19 #[.agg #[.int .i64 m2.kind,.int .i64 m2.page,.bool m2.x,.bool m2.need,.int .i64 m2.n,.int .i64 m2.cl,.int .i64 m2.ep,.int .i64 m2.tn,.int .i64 m2.lsn,.slice none 0 0,.slice a k c]] w fun e w' => e = .returned (.bool (goodM m2)) ∧ Below w.heap.size w w' from fun w hi => rgood_any m2 ⟨none,0,0,a,k,c⟩ w hi (Nat.zero_le _) HZL.out)
            go_wp2_with (go_at_call 15; apply Calls.mono; (with_reducible first | exact i_p.out _ | exact i_x.out _ | exact i_n.out _ | exact i_t.out _ | exact i_k.out _ | exact i_i.out _ | exact i_e.out _); rintro e w' ⟨rfl,rfl⟩)
            refine (HGD.out _ HIN.out.i).mono ?_
            rintro e wq ⟨rfl,bb⟩
            replace SR := Lib.hid (SR.out.next bb)
            replace HIN := Lib.hid (HIN.out.below bb)
            clear bb r0 r1 g0 g1 c0 c1 c2 c3 c4 c5 c6 c7 c8 c9 c10
            cases hgd : goodM m2 with
            | false =>
              have HGG := Lib.hid hgd
              clear hgd
              have HE := Lib.hid (show decS S.data.toList = (noM,4) from by rw [HDC.out,HGG.out]; rfl)
              have hZc := SR.out.z
              obtain ⟨z0,z1,z2,z3,z4,z5,z6,z7,z8,z9,z10⟩ := msg_cells (m := noM) (h := hd0) hZc
              obtain ⟨q0,q1,q2,q3,q4,q5,q6,q7,q8,q9,q10⟩ := msg_frozen hZc
              simp only [noM,hd0] at z0 z1 z2 z3 z4 z5 z6 z7 z8 z9 z10
              clear hZc
              have hbl := SR.out.bel
              go_wp2_with fail
              refine bodyPost_ret (v := .tuple #[.agg #[.int .i64 0,.int .i64 0,.bool false,.bool false,.int .i64 0,.int .i64 0,.int .i64 0,.int .i64 0,.int .i64 0,.slice none 0 0,.slice none 0 0],.int .i64 4]) (by simp [results,Try.results6,go_sem,z0,z1,z2,z3,z4,z5,z6,z7,z8,z9,z10]) rfl ?_
              rw [HE.out]
              exact ⟨hd0,rfl,(HI0.out _).set11 _ _ _ _ _ _ _ _ _ _ _,below11 hbl (Nat.le_refl _) _ _ _ _ _ _ _ _ _ _ _⟩
            | true =>
              have HE := Lib.hid (show decS S.data.toList = (m2,0) from by rw [HDC.out,hgd]; rfl)
              clear hgd
              have hZc := SR.out.z
              obtain ⟨z0,z1,z2,z3,z4,z5,z6,z7,z8,z9,z10⟩ := msg_cells (m := noM) (h := hd0) hZc
              obtain ⟨q0,q1,q2,q3,q4,q5,q6,q7,q8,q9,q10⟩ := msg_frozen hZc
              simp only [noM,hd0] at z0 z1 z2 z3 z4 z5 z6 z7 z8 z9 z10
              clear hZc
              have hbl := SR.out.bel
              have hMc := SR.out.m
              obtain ⟨c0,c1,c2,c3,c4,c5,c6,c7,c8,c9,c10⟩ := msg_cells (m := m2) (h := ⟨none,0,0,a,k,c⟩) hMc
              clear hMc
              simp only at c9 c10
              have hne1 : mb ≠ w.heap.size := Nat.ne_of_gt (Nat.lt_trans P.out.pr P.out.pm)
              go_wp2_with fail
              refine bodyPost_ret (v := .tuple #[.agg #[.int .i64 m2.kind,.int .i64 m2.page,.bool m2.x,.bool m2.need,.int .i64 m2.n,.int .i64 m2.cl,.int .i64 m2.ep,.int .i64 m2.tn,.int .i64 m2.lsn,.slice none 0 0,.slice a k c],.int .i64 0]) (by simp [results,Try.results6,go_sem,z0,z1,z2,z3,z4,z5,z6,z7,z8,z9,z10]) rfl ?_
              rw [HE.out]
              exact ⟨⟨none,0,0,a,k,c⟩,rfl,HIN.out.set11 _ _ _ _ _ _ _ _ _ _ _,below11 hbl (Nat.le_refl _) _ _ _ _ _ _ _ _ _ _ _⟩
          | false =>
            have HW := Lib.hid hw
            rw [hw] at r1
            clear hw
            have hv1 : (V != (k : Int)) = true := by show (!(V == (k : Int))) = _; rw [hv0]; rfl
            replace SR := Lib.hid (SR.out.bad P.out true)
            replace HO := Lib.hid (Slab.own_far HO.out hbr 1 (.bool true))
            go_upto_region 38 with (fail)
            generalize hGen : wr.setCell ⟨r,1,none⟩ (.bool true) = wj at SR HO ⊢
            clear hGen
            have HDC := Lib.hid (show decS S.data.toList = if (!true && (entsT k u == [])) && goodM { t.m with es := entsL k u } then ({ t.m with es := entsL k u },0) else (noM,4) from by have h := HDK.out; rw [HW.out,hv0] at h; exact h)
            clear r0 r1 g0 g1 p1 hv0 hv1
            obtain ⟨a2,c2,hv,hE,hnew⟩ := ents_own (show wj.ownsRow wd.heap.size 56 13 (.slice a k c) (entsL k u).length (cellsE (entsL k u)) from by rw [entsL_len]; exact HO.out) (entsL_small k u)
            rw [entsL_len] at hv hE
            cases hv
            have HIN := Lib.hid (show InN w.heap.size wj { t.m with es := entsL k u } ⟨none,0,0,a,k,c⟩ from ⟨⟨by show Slots wj none 0 t.m.zs; rw [hes.out.1]; exact ⟨rfl,by simp,fun h => absurd h (Nat.lt_irrefl 0)⟩,hE⟩,fun _ _ _ h => (by cases h),fun g off e h => Nat.lt_of_lt_of_le hbB (hnew g off e h)⟩)
            have SR2 := Lib.hid (show RC w wj r mb ⟨{ t.m with es := entsL k u },entsT k u,true⟩ ⟨none,0,0,a,k,c⟩ from ⟨SR.out.rd,SR.out.m,SR.out.z,SR.out.bel,SR.out.len⟩)
            clear SR HO hE hnew
            have SR := Lib.hid SR2.out
            clear SR2
            have HZL := Lib.hid (show k ≤ 1000000 from Nat.le_trans hk17 (by decide))
            generalize ({ t.m with es := entsL k u } : Ms) = m2 at SR HDC HIN
            generalize entsT k u = s2 at SR HDC
            obtain ⟨r0,r1,g0,g1⟩ := SR.out.rd.get
            simp only at r0 r1
            have HE := Lib.hid (show decS S.data.toList = (noM,4) from by rw [HDC.out]; rfl)
            have hZc := SR.out.z
            obtain ⟨z0,z1,z2,z3,z4,z5,z6,z7,z8,z9,z10⟩ := msg_cells (m := noM) (h := hd0) hZc
            obtain ⟨q0,q1,q2,q3,q4,q5,q6,q7,q8,q9,q10⟩ := msg_frozen hZc
            simp only [noM,hd0] at z0 z1 z2 z3 z4 z5 z6 z7 z8 z9 z10
            clear hZc
            have hbl := SR.out.bel
            go_wp2_with (go_at_call 15; apply Calls.mono; (with_reducible first | exact i_p.out _ | exact i_x.out _ | exact i_n.out _ | exact i_t.out _ | exact i_k.out _ | exact i_i.out _ | exact i_e.out _); rintro e w' ⟨rfl,rfl⟩)
            refine bodyPost_ret (v := .tuple #[.agg #[.int .i64 0,.int .i64 0,.bool false,.bool false,.int .i64 0,.int .i64 0,.int .i64 0,.int .i64 0,.int .i64 0,.slice none 0 0,.slice none 0 0],.int .i64 4]) (by simp [results,Try.results6,go_sem,z0,z1,z2,z3,z4,z5,z6,z7,z8,z9,z10]) rfl ?_
            rw [HE.out]
            exact ⟨hd0,rfl,(HI0.out _).set11 _ _ _ _ _ _ _ _ _ _ _,below11 hbl (Nat.le_refl _) _ _ _ _ _ _ _ _ _ _ _⟩
end Go.Proofs.Ytjffjmffoffblaa.Note
