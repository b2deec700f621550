/- The walk of the statement KeyServes. -/
import Derived.Test.YthodggkpkjfggaaKeyServesMem
import Derived.Test.YthodggkpkjfggaaKeySharesWalk
namespace Go.Proofs.Ythodggkpkjfggaa.Key
set_option maxRecDepth 100000
open Go.RowKit
open Go.Proofs.Ythodggkpkjfggaa.Mem
open Go.Maps
/-- between two calls: i calls were -/
def Ke (w : World) (p gA gG i : Nat) (W : World) (S : KS) : Prop := ∃ a g v, Sv S [] a g ∧ (Phi S [] ≤ 8 * i ∧ ∀ q, a q ≤ i) ∧ E8 w p gA gG (fun _ => False) S (nums a g) v W
/-- l of the round's words are told -/
def Kl (w : World) (p gA gG k r : Nat) (L : List Wd) (vb : Value) (w5 : World) (l : Nat) (W : World) : Prop := ∃ S' a' g' v', Sv S' (L.drop l) a' g' ∧ (Phi S' (L.drop l) + l + r ≤ 8 * (k + 1) ∧ ∀ q, a' q ≤ k + 1) ∧ E8 w p gA gG (fun j => vb.ownBlock = some j) S' (nums a' g') v' W ∧ ∀ j, vb.ownBlock = some j → W.heap[j]? = w5.heap[j]?
set_option maxRecDepth 100000 in
set_option maxHeartbeats 64000000 in
theorem serves_walk (a : Option Addr) (n cc : Nat) (zs : List Act) (w : World) (hI : Acts w a n zs) :
    Calls Try.prog 3 #[.slice a n cc] w fun e w' => e = .returned (.bool true) ∧ Below w.heap.size w w' := by
  have HI := Lib.hid hI
  clear hI
  go_enter Try.func3, Try.ntmps3
  go_wp2_with fail
  refine (awake_any w).mono ?_
  rintro e w1 ⟨rfl, b1⟩
  have HB1 := Lib.hid b1
  clear b1
  go_wp2_with fail
  refine (new_any w1).mono ?_
  rintro e w3 ⟨p, rfl, _, hn, b3⟩
  have ST : Hid (Ke w p w3.heap.size (w3.heap.size + 1) 0 ((w3.alloc (.cells #[.slice none 0 0, .slice none 0 0, .slice none 0 0, .slice none 0 0] 27)).alloc (.cells #[.slice none 0 0, .slice none 0 0, .slice none 0 0, .slice none 0 0] 27)) newK) :=
    Lib.hid ⟨_, _, _, sv_new, ⟨by rw [phi_new]; omega, fun _ => Nat.le_refl _⟩, E8.start (hn.mono (fun k hk => Nat.lt_of_lt_of_le hk HB1.out.size)) (HB1.out.trans (b3.mono HB1.out.size))⟩
  clear hn b3 HB1
  go_wp2_with fail
  generalize (w3.alloc (.cells #[.slice none 0 0, .slice none 0 0, .slice none 0 0, .slice none 0 0] 27)).alloc (.cells #[.slice none 0 0, .slice none 0 0, .slice none 0 0, .slice none 0 0] 27) = w4 at *
  generalize w3.heap.size + 1 = gG at *
  generalize w3.heap.size = gA at *
  go_loopw [6] (fun ti wr => ∃ k : Nat, k ≤ 60 ∧ k ≤ n ∧ ti = .int .i64 (k : Int) ∧ Hid (∃ S, Ke w p gA gG k wr S ∧ (S.said = [] ∨ (k < n ∧ k < 60)))) (fun ti _ => 60 - (intOf ti).toNat)
  case atStart => exact ⟨0, Nat.zero_le _, Nat.zero_le _, rfl, Lib.hid ⟨_, ST.out, .inl rfl⟩⟩
  case round =>
    obtain ⟨k, hk, hkn, rfl, HK⟩ := hrel
    clear ST
    by_cases hin : k < n ∧ k < 60
    · obtain ⟨hlt, hlt2⟩ := hin
      obtain ⟨S, ⟨aa, gg, v, hV, hphi, hE⟩, -⟩ := HK.out
      obtain ⟨b, off, ⟨kd, cl, pg, xx⟩, rfl, -, hz, ⟨c0, c1, c2, c3⟩, hg⟩ := (HI.out.below hE.b).at_ hlt
      dsimp only at c0 c1 c2 c3
      obtain ⟨K, hKe, hK⟩ := cut_of cl 8 (by omega) (by omega)
      obtain ⟨P, hPe, hP⟩ := cut_of pg 4 (by omega) (by omega)
      have hsP : Sm (P : Int) := sm_of (by omega)
      have hsC : Sm (1 + (K : Int)) := sm_of (by omega)
      have HE := Lib.hid hE
      have HV := Lib.hid hV
      have HPH := Lib.hid hphi
      have HKE := Lib.hid hKe
      have HPE := Lib.hid hPe
      have hHL : S.said.length ≤ 3800000 := by have := said_le S []; have := hphi.1; omega
      clear hE hV hphi hz hg HK hKe hPe
      go_upto_region 10 with (fail)
      rw [HKE.out, show wrap64 (1 + (K : Int)) = 1 + (K : Int) by unfold wrap64; omega]
      go_upto_region 11 with (fail)
      rw [HPE.out]
      generalize hck : (1 : Int) + (K : Int) = C at *
      have hC8 : 1 ≤ C ∧ C ≤ 8 := by omega
      clear HKE HPE c1 c2
      have hP4 : P < 4 := by omega
      have HA := Lib.hid (ask_any p _ S C (P : Int) xx wr HE.out.t hsP hsC (by omega))
      have hx := ask_or (S := S) hC8 (show 0 ≤ (P : Int) ∧ (P : Int) < 4 by omega)
      go_wp2_with fail
      refine HA.out.mono ?_
      rintro e W2 ⟨rfl, h2, k2⟩
      have HE2 := Lib.hid (HE.out.call h2 k2)
      clear h2 k2 HA HE
      have hx0 : (askX S C (P : Int) == 0) = decide (askX S C (P : Int) = 0) := rfl
      obtain ⟨e9, he9⟩ : ∃ e9, askX S C (P : Int) = e9 := ⟨_, rfl⟩
      have HX9 := Lib.hid he9
      rw [he9] at hx ⊢
      clear he9 hx0
      go_upto_if 56 with (fail)
      go_cut [] (fun wx => ∃ S', Ke w p gA gG (k + 1) wx S')
      case first =>
        rcases hx with rfl | rfl
        · obtain ⟨hV2, hP2⟩ := sv_ask HV.out hC8 (show 0 ≤ (P : Int) ∧ (P : Int) < 4 by omega) xx HX9.out
          obtain ⟨xs, hown⟩ := HE2.out.own P (by omega)
          obtain ⟨aP, cP, eP⟩ := own_shape hown
          have a0 := (HE2.out.aA.at_ hP4).1
          have f0 := (HE2.out.aA.at_ hP4).2
          rw [eP] at a0 hown
          have hlen : nums aa gg P ≤ 3000000 := by
            unfold nums
            rw [if_pos hP4]
            have := HPH.out.2 (P : Int)
            omega
          have HO := Lib.hid hown
          have HLN := Lib.hid hlen
          have HEP := Lib.hid eP
          have FIN : Hid (∀ v' w1 w2, Below W2.heap.size W2 w1 → w2.ownsRow 0 3 1 v' (nums aa gg P + 1) (xs ++ [.int .i64 C]) → w1.grownBy w2 (v P).ownBlock → (v'.ownBlock = (v P).ownBlock ∨ v'.ownBlock = some w1.heap.size) →
              (w2.cell? ⟨gA, P, none⟩ = some (v P) ∧ w2.frozen? ⟨gA, P, none⟩ = false) ∧ Ke w p gA gG (k + 1) (w2.setCell ⟨gA, P, none⟩ v') (askK S C (P : Int) xx)) := Lib.hid fun v' w1 w2 h1 h2 h3 h4 => by
            have h5 := (HE2.out.app (fun _ h => h.elim) (show P < 8 by omega) h1 h2 h3 h4 (g := gA) (i := P) (.inl ⟨rfl, rfl, hP4⟩)).1
            rw [nums_A aa gg hP4] at h5
            have hlt := HE2.out.aA.lt
            have hblk : w2.heap[gA]? = W2.heap[gA]? := (h3.block gA (Nat.lt_of_lt_of_le hlt h1.size) (fun e => (HE2.out.off P (by omega) gA e.symm).1 rfl)).trans (h1.block gA hlt)
            have h6 := (HE2.out.aA.of_block hblk).at_ hP4
            exact ⟨h6, _, _, _, hV2, ⟨by have := HPH.out.1; omega, fun q => by have := HPH.out.2 q; unfold up1; split <;> omega⟩, h5⟩
          rw [eP] at FIN
          have hb := below_box W2 (.cells #[.int .i64 C] 3)
          have hB := Blk.new W2 3 #[.int .i64 C]
          clear hown hlen hV2 hP2
          go_wp2_with (at_builtin; refine wpList_int (wr := W2) rfl _ _ rfl _ _ xs rfl W2.heap.size C rfl ⟨hb, hB⟩ HO.out HLN.out ?_; intro v5 w5 hb5 ho5 hg5 hv5; obtain ⟨⟨g1, g2⟩, HKE⟩ := FIN.out v5 _ w5 hb5 ho5 hg5 hv5; have HKE5 := Lib.hid HKE; obtain ⟨a5, n5, e5⟩ := own_shape ho5; subst e5; clear HKE hb5 ho5 hg5 hv5)
          go_wp2
          go_meet
          exact ⟨_, HKE5.out⟩
        · have FIN : Hid (Ke w p gA gG (k + 1) W2 S) := Lib.hid ⟨_, _, _, HV.out, ⟨by have := HPH.out.1; omega, fun q => by have := HPH.out.2 q; omega⟩, by have h := HE2.out; rw [ask_refused (by rw [HX9.out]; decide)] at h; exact h⟩
          go_wp2
          go_meet
          exact ⟨_, FIN.out⟩
      case rest =>
        obtain ⟨S2, hK2⟩ := hcut
        have HK2 := Lib.hid hK2
        clear hK2 HV HPH HE2 HX9 c0 c3
        go_upto_region 14 with (fail)
        go_cut [70] (fun t wx => t = .bool false ∧ wc = wx)
        case first =>
          rcases hx with rfl | rfl
          all_goals
            go_wp2
            go_meet
            exact ⟨rfl, by first | rfl | trivial⟩
        case rest =>
          obtain ⟨rfl, hw⟩ := hcut
          subst hw
          clear hx
          obtain ⟨z, hz, hzk⟩ : ∃ z, wrap64 ((n : Int) - 1) = z ∧ ((k : Int) < z → k + 1 < n) := ⟨_, rfl, fun h => by unfold wrap64 at h; omega⟩
          have HZ := Lib.hid hz
          clear hz
          go_upto_region 16 with (fail)
          go_cut [84] (fun t wx => (∃ bb, t = .bool bb ∧ (bb = true → k + 1 < n ∧ k + 1 < 60)) ∧ wc = wx)
          case first =>
            go_wp2
            all_goals go_meet
            all_goals refine ⟨⟨_, rfl, fun h => ?_⟩, by first | rfl | trivial⟩
            all_goals first
              | (cases h; done)
              | (have h9 := hzk (by rw [← HZ.out]; assumption)
                 simp at h
                 omega)
          case rest =>
            obtain ⟨⟨bb, rfl, hbb⟩, hw⟩ := hcut
            subst hw
            clear hzk HZ
            cases bb with
            | true =>
              have hb2 := hbb rfl
              have FIN : Hid (∃ S, Ke w p gA gG (k + 1) wc S ∧ (S.said = [] ∨ (k + 1 < n ∧ k + 1 < 60))) := Lib.hid ⟨S2, HK2.out, .inr hb2⟩
              clear hbb HK2
              go_wp2
              go_roundw
              case rel => exact ⟨k + 1, by omega, by omega, by go_num, FIN⟩
              case measure => simp [intOf]; omega
            | false =>
              clear hbb
              have ST0 : Hid (∃ S a g v, Sv S [] a g ∧ (Phi S [] + 0 ≤ 8 * (k + 1) ∧ ∀ q, a q ≤ k + 1) ∧ E8 w p gA gG (fun _ => False) S (nums a g) v wc) := Lib.hid (by
                obtain ⟨a9, g9, v9, h1, h2, h3⟩ := HK2.out
                exact ⟨_, _, _, _, h1, ⟨by have := h2.1; omega, h2.2⟩, h3⟩)
              clear HK2
              go_wp2_with fail
              go_loopw [10] (fun ti wr => ∃ r : Nat, r ≤ 2000 ∧ ti = .int .i64 (r : Int) ∧ Hid (∃ S a g v, Sv S [] a g ∧ (Phi S [] + r ≤ 8 * (k + 1) ∧ ∀ q, a q ≤ k + 1) ∧ E8 w p gA gG (fun _ => False) S (nums a g) v wr)) (fun ti _ => 2000 - (intOf ti).toNat)
              case atStart => exact ⟨0, by omega, rfl, ST0⟩
              case round =>
                obtain ⟨r, hr, rfl, HR⟩ := hrel
                clear ST0
                obtain ⟨S3, a3, g3, v3, hV3, hB3, hE3⟩ := HR.out
                have hr480 : r ≤ 480 := by have := hB3.1; omega
                have hrd : decide ((r : Int) < 2000) = true := by simp; omega
                have HTK := Lib.hid (take_any p _ S3 wr hE3.t)
                have HV3 := Lib.hid hV3
                have HE3 := Lib.hid hE3
                have HB3 := Lib.hid hB3
                clear HR hV3 hE3 hB3
                go_wp2_with fail
                refine HTK.out.mono ?_
                rintro e w5 ⟨v5, rfl, ho5, hv5, h5, k5⟩
                have HE5 := Lib.hid (HE3.out.take h5 k5 hv5)
                obtain ⟨hV5, hP5⟩ := sv_take HV3.out
                have HV5 := Lib.hid hV5
                have HP5 := Lib.hid hP5
                have HO5 := Lib.hid ho5
                have hL := said_le S3 []
                have hLb : S3.said.length ≤ 480 := by have := HB3.out.1; omega
                obtain ⟨b5, c5, e5⟩ := own_shape ho5
                obtain ⟨m, hm⟩ : ∃ m, S3.said.length = m := ⟨_, rfl⟩
                have HM := Lib.hid hm
                rw [hm] at e5 hLb
                subst e5
                clear hV5 hP5 h5 k5 hv5 HTK ho5 hL hm HE3
                by_cases hm0 : m = 0
                · -- nothing is to be said
                  subst hm0
                  have hS0 : S3.said = [] := List.length_eq_zero_iff.1 HM.out
                  obtain ⟨hq, hag⟩ := sv_end HV3.out hS0
                  have HWT := Lib.hid (waits_none p _ _ w5 HE5.out.t hq)
                  have HE6 := Lib.hid (HE5.out.less (Y := fun _ => False) fun _ h => h.elim)
                  go_wp2_with fail
                  refine HWT.out.mono ?_
                  rintro e w6 ⟨⟨a6, c6, rfl⟩, b6⟩
                  have FIN : Hid (∃ S, Ke w p gA gG (k + 1) w6 S ∧ (S.said = [] ∨ (k + 1 < n ∧ k + 1 < 60))) := Lib.hid ⟨{ S3 with said := [] }, ⟨a3, g3, v3, by have h := HV5.out; rw [hS0] at h; exact h, ⟨by have h7 := HP5.out; have := HB3.out.1; rw [hS0] at h7; omega, HB3.out.2⟩, HE6.out.below b6⟩, .inl rfl⟩
                  clear HWT HE6 HE5 HV5 HP5 HO5 HV3 HB3 b6
                  go_wp2
                  go_roundw
                  case rel => exact ⟨k + 1, by omega, by omega, by go_num, FIN⟩
                  case measure => simp [intOf]; omega
                · have hS5 : Hid (Kl w p gA gG k r S3.said (.slice b5 m c5) w5 0 w5) := Lib.hid ⟨_, a3, g3, v3, HV5.out, ⟨by have h7 := HP5.out; have h8 := HB3.out.1; rw [List.drop_zero]; omega, HB3.out.2⟩, HE5.out, fun _ _ => rfl⟩
                  clear HV5 HP5 HE5 HV3 HB3
                  have hm1 : (m == 0) = false := by simpa using hm0
                  have hm2 : ((m : Int) == 0) = false := by simp; omega
                  go_wp2_with fail
                  go_loopw [12] (fun ti wq => ∃ l : Nat, l ≤ m ∧ ti = .int .i64 (l : Int) ∧ Hid (Kl w p gA gG k r S3.said (.slice b5 m c5) w5 l wq)) (fun ti _ => m - (intOf ti).toNat)
                  case atStart => exact ⟨0, Nat.zero_le _, rfl, hS5⟩
                  case round =>
                    obtain ⟨l, hl, rfl, HL⟩ := hrel
                    clear hS5
                    by_cases hlm : l < m
                    · have hls : l < S3.said.length := by rw [HM.out]; exact hlm
                      have hy : S3.said[l]? = some S3.said[l] := List.getElem?_eq_getElem hls
                      have hdr : S3.said.drop l = S3.said[l] :: S3.said.drop (l + 1) := List.drop_eq_getElem_cons hls
                      generalize S3.said[l] = y at hy hdr
                      obtain ⟨S6, a6, g6, v6, hV6, hB6, hE6, hX6⟩ := HL.out
                      rw [hdr] at hV6 hB6
                      have hyp := hV6.wd y (List.mem_append_right _ List.mem_cons_self)
                      have hown6 : wr.ownsRow 0 36 4 (.slice b5 m c5) S3.said.length (wordsV S3.said) := own_same HO5.out fun j hj => hX6 j hj
                      have hlow : ∀ j, (Value.slice b5 m c5).ownBlock = some j → j < wr.heap.size := fun j hj => own_lt hown6 hj
                      obtain ⟨gw, cap, e1, eow, d0, d1, d2, d3⟩ := word_at hown6 hy
                      have hlow2 := hlow gw eow
                      injection e1 with e1 e2 e3
                      clear e2
                      subst e1; subst e3
                      have HV6 := Lib.hid hV6
                      have HB6 := Lib.hid hB6
                      have HE6 := Lib.hid hE6
                      have HX6 := Lib.hid hX6
                      have HOW := Lib.hid eow
                      have HLOW := Lib.hid hlow
                      have hsaid : S6.said.length ≤ 3800000 := by have := said_le S6 (y :: S3.said.drop (l + 1)); have := hB6.1; omega
                      clear hV6 hB6 hE6 hX6 hown6 hy hdr hls HL hlow eow
                      obtain ⟨yc, yl, yp, yx⟩ := y
                      dsimp only at d0 d1 d2 d3 hyp
                      obtain ⟨P6, hP6⟩ : ∃ P6 : Nat, yp = (P6 : Int) := ⟨yp.toNat, by omega⟩
                      subst hP6
                      have hP64 : P6 < 4 := by omega
                      cases yc with
                      | true =>
                        as_aux_lemma =>
                          have HF : Hid (∀ W1, Below wr.heap.size wr W1 → Calls Try.prog 13 #[.pointer (some ⟨p, 0, none⟩), .int .i64 yl, .int .i64 (P6 : Int), .bool (!yx)] W1 fun e w' => e = .returned (.int .i64 (freeX S6 yl (P6 : Int))) ∧ Kl w p gA gG k r S3.said (.slice (some ⟨gw, 0, none⟩) m c5) w5 (l + 1) w' ∧ (w'.cell? ⟨gw, l * 4 + 1, none⟩ = some (.int .i64 yl) ∧ w'.cell? ⟨gw, l * 4 + 1 + 1, none⟩ = some (.int .i64 (P6 : Int)) ∧ w'.cell? ⟨gw, l * 4 + 1 + 1 + 1, none⟩ = some (.bool yx))) := Lib.hid fun W1 hb => by
                            have hE1 := HE6.out.below hb
                            refine (free_any p _ S6 yl (P6 : Int) (!yx) W1 hE1.t (sm_of (by omega)) (sm_of (by omega)) (by omega)).mono fun e w' h => ?_
                            obtain ⟨he, ht, hk9⟩ := h
                            obtain ⟨hv9, hp9⟩ := sv_freed HV6.out rfl
                            have hs9 : w'.heap[gw]? = wr.heap[gw]? := (hE1.held hk9 HOW.out).trans (hb.block gw hlow2)
                            refine ⟨he, ⟨_, _, _, _, hv9, ⟨by have := HB6.out.1; dsimp only at hp9 this ⊢; omega, HB6.out.2⟩, hE1.call ht hk9, fun j hj => (hE1.held hk9 hj).trans ((hb.block j (HLOW.out j hj)).trans (HX6.out j hj))⟩, ?_⟩
                            exact ⟨(World.cell?_of_block (w := wr) hs9).trans d1, (World.cell?_of_block (w := wr) hs9).trans d2, (World.cell?_of_block (w := wr) hs9).trans d3⟩
                          have HFa := Lib.hid (HF.out _ (Below.refl _ _))
                          have HFb := Lib.hid (HF.out _ (Below.refl _ _).drew)
                          have HZ0 := Lib.hid (show wr.cell? ⟨gw, l * 4 + 1, none⟩ = some (.int .i64 yl) ∧ wr.cell? ⟨gw, l * 4 + 1 + 1, none⟩ = some (.int .i64 (P6 : Int)) ∧ wr.cell? ⟨gw, l * 4 + 1 + 1 + 1, none⟩ = some (.bool yx) from ⟨d1, d2, d3⟩)
                          have HZ1 := Lib.hid (show wr.drew.cell? ⟨gw, l * 4 + 1, none⟩ = some (.int .i64 yl) ∧ wr.drew.cell? ⟨gw, l * 4 + 1 + 1, none⟩ = some (.int .i64 (P6 : Int)) ∧ wr.drew.cell? ⟨gw, l * 4 + 1 + 1 + 1, none⟩ = some (.bool yx) from ⟨d1, d2, d3⟩)
                          clear HF HE6 HV6 HB6 HX6 HLOW HO5 HOW
                          go_upto_region 27 with (fail)
                          go_region_held3 (fun W' => W'.cell? ⟨gw, l * 4 + 1, none⟩ = some (.int .i64 yl) ∧ W'.cell? ⟨gw, l * 4 + 1 + 1, none⟩ = some (.int .i64 (P6 : Int)) ∧ W'.cell? ⟨gw, l * 4 + 1 + 1 + 1, none⟩ = some (.bool yx))
                            (first | (with_reducible assumption) | (with_reducible exact HZ0.out) | (with_reducible exact HZ1.out)) (first
                            | (go_at_call 13; (first | (with_reducible refine HFa.out.mono ?_) | (with_reducible refine HFb.out.mono ?_)); rintro e w7 ⟨rfl, hq7, hz7⟩; have HQ7 := Lib.hid hq7; clear hq7))
                          all_goals
                            clear HFa HFb HZ0 HZ1 d0 d1 d2 d3
                            have FIN := Lib.hid (show Kl w p gA gG k r S3.said (.slice (some ⟨gw, 0, none⟩) m c5) w5 (l + 1) w7 from HQ7.out)
                            have FIN2 := Lib.hid (show Kl w p gA gG k r S3.said (.slice (some ⟨gw, 0, none⟩) m c5) w5 (l + 1) w7.drew by
                              obtain ⟨S9, a9, g9, v9, h1, h2, h3, h4⟩ := HQ7.out
                              exact ⟨S9, a9, g9, v9, h1, h2, h3.below (Below.refl _ _).drew, h4⟩)
                            clear HQ7
                            go_wp2
                            go_roundw
                            case rel => exact ⟨l + 1, by omega, by go_num, by first | exact FIN | exact FIN2⟩
                            case measure => simp [intOf]; omega
                      | false =>
                        as_aux_lemma =>
                          obtain ⟨xs, hown⟩ := HE6.out.own (P6 + 4) (by omega)
                          obtain ⟨aP, cP, eP⟩ := own_shape hown
                          have a0 : wr.cell? ⟨gG, P6, none⟩ = some (v6 (P6 + 4)) := (HE6.out.aG.at_ hP64).1
                          have f0 := (HE6.out.aG.at_ hP64).2
                          have hlen : nums a6 g6 (P6 + 4) ≤ 3000000 := by
                            have h1 := HV6.out.cnt (P6 : Int)
                            have h2 := HB6.out.2 (P6 : Int)
                            have h3 : nums a6 g6 (P6 + 4) = g6 (P6 : Int) := by unfold nums; rw [if_neg (by omega)]; congr 1; omega
                            omega
                          have FIN : Hid (∀ v' w1 w2, Below wr.heap.size wr w1 → w2.ownsRow 0 3 1 v' (nums a6 g6 (P6 + 4) + 1) (xs ++ [.int .i64 yl]) → w1.grownBy w2 (v6 (P6 + 4)).ownBlock → (v'.ownBlock = (v6 (P6 + 4)).ownBlock ∨ v'.ownBlock = some w1.heap.size) →
                              (w2.cell? ⟨gG, P6, none⟩ = some (v6 (P6 + 4)) ∧ w2.frozen? ⟨gG, P6, none⟩ = false) ∧ (w2.cell? ⟨gw, l * 4 + 1, none⟩ = some (.int .i64 yl) ∧ w2.cell? ⟨gw, l * 4 + 1 + 1, none⟩ = some (.int .i64 (P6 : Int))) ∧ ((w2.setCell ⟨gG, P6, none⟩ v').cell? ⟨gw, l * 4 + 1, none⟩ = some (.int .i64 yl) ∧ (w2.setCell ⟨gG, P6, none⟩ v').cell? ⟨gw, l * 4 + 1 + 1, none⟩ = some (.int .i64 (P6 : Int))) ∧ ((w2.drew.setCell ⟨gG, P6, none⟩ v').cell? ⟨gw, l * 4 + 1, none⟩ = some (.int .i64 yl) ∧ (w2.drew.setCell ⟨gG, P6, none⟩ v').cell? ⟨gw, l * 4 + 1 + 1, none⟩ = some (.int .i64 (P6 : Int))) ∧ Kl w p gA gG k r S3.said (.slice (some ⟨gw, 0, none⟩) m c5) w5 (l + 1) (w2.setCell ⟨gG, P6, none⟩ v')) := Lib.hid fun v' w1 w2 h1 h2 h3 h4 => by
                            obtain ⟨h5, h6⟩ := HE6.out.app (fun j hj => HLOW.out j hj) (show P6 + 4 < 8 by omega) h1 h2 h3 h4 (g := gG) (i := P6) (.inr ⟨rfl, rfl⟩)
                            rw [nums_G a6 g6 hP64] at h5
                            obtain ⟨hv9, hp9⟩ := sv_got HV6.out rfl
                            dsimp only at hv9
                            have hlt := HE6.out.aG.lt
                            have hblk : w2.heap[gG]? = wr.heap[gG]? := (h3.block gG (Nat.lt_of_lt_of_le hlt h1.size) (fun e => (HE6.out.off (P6 + 4) (by omega) gG e.symm).2.1 rfl)).trans (h1.block gG hlt)
                            have hblw : w2.heap[gw]? = wr.heap[gw]? := (h3.block gw (Nat.lt_of_lt_of_le hlow2 h1.size) (fun e => (HE6.out.off (P6 + 4) (by omega) gw e.symm).2.2.2 HOW.out)).trans (h1.block gw hlow2)
                            have h7 := (HE6.out.aG.of_block hblk).at_ hP64
                            have hblz : (w2.setCell ⟨gG, P6, none⟩ v').heap[gw]? = wr.heap[gw]? := h6 gw HOW.out
                            exact ⟨h7, ⟨(World.cell?_of_block (w := wr) hblw).trans d1, (World.cell?_of_block (w := wr) hblw).trans d2⟩, ⟨(World.cell?_of_block (w := wr) hblz).trans d1, (World.cell?_of_block (w := wr) hblz).trans d2⟩, ⟨(World.cell?_of_block (w := wr) hblz).trans d1, (World.cell?_of_block (w := wr) hblz).trans d2⟩, _, _, _, _, hv9, ⟨by have := HB6.out.1; omega, HB6.out.2⟩, h5, fun j hj => (h6 j hj).trans (HX6.out j hj)⟩
                          rw [eP] at a0 hown FIN
                          have HO := Lib.hid hown
                          have HLN := Lib.hid hlen
                          clear HE6 HV6 HB6 HX6 HLOW HO5 HOW hown hlen eP d3
                          generalize nums a6 g6 (P6 + 4) = nn at *
                          have hbx := below_box wr (.cells #[.int .i64 yl] 3)
                          have hgG := World.block_lt_of_cell? wr _ a0
                          have a0b : (wr.alloc (.cells #[.int .i64 yl] 3)).cell? ⟨gG, P6, none⟩ = some (.slice aP nn cP) := (hbx.cell hgG).trans a0
                          have d1b : (wr.alloc (.cells #[.int .i64 yl] 3)).cell? ⟨gw, l * 4 + 1, none⟩ = some (.int .i64 yl) := (hbx.cell (p := ⟨gw, l * 4 + 1, none⟩) hlow2).trans d1
                          have d2b : (wr.alloc (.cells #[.int .i64 yl] 3)).cell? ⟨gw, l * 4 + 1 + 1, none⟩ = some (.int .i64 (P6 : Int)) := (hbx.cell (p := ⟨gw, l * 4 + 1 + 1, none⟩) hlow2).trans d2
                          have HZ : Hid (∀ W1, Below wr.heap.size wr W1 → W1.cell? ⟨gw, l * 4 + 1, none⟩ = some (.int .i64 yl) ∧ W1.cell? ⟨gw, l * 4 + 1 + 1, none⟩ = some (.int .i64 (P6 : Int))) := Lib.hid fun W1 hb => ⟨(hb.cell (p := ⟨gw, l * 4 + 1, none⟩) hlow2).trans d1, (hb.cell (p := ⟨gw, l * 4 + 1 + 1, none⟩) hlow2).trans d2⟩
                          clear hbx hgG
                          go_upto_region 26 with (fail)
                          refine wp_region_noPanic ?_
                          refine wp_region_held_drew (S := (fun W' => W'.cell? ⟨gw, l * 4 + 1, none⟩ = some (.int .i64 yl) ∧ W'.cell? ⟨gw, l * 4 + 1 + 1, none⟩ = some (.int .i64 (P6 : Int)))) (by kernel_rfl) ?_ (fun hHeld => ?_)
                          · (try dsimp only); first | (with_reducible assumption) | exact HZ.out _ (Below.refl _ _) | exact HZ.out _ ((Below.refl _ _).drew) | exact HZ.out _ (below_box _ _) | exact HZ.out _ ((below_box _ _).drew) | assumption
                          refine wpAnyH_take (i := 0) (oi := { dst := some 106, op := Op.move (Operand.tmp 11), type := 33, pos := "own.go:85", after := #[], guard := none }) (v := ?_) rfl (by kernel_rfl) (by kernel_rfl) (by kernel_rfl) (fun _ _ _ h => h) (Or.inl ⟨by rfl, ?_⟩) (by assumption) ?_
                          rotate_left
                          · intro w hSw; (try dsimp only at hSw); go_simp; (try with_reducible rfl)
                          try simp only [Act.put, List.setIfInBounds_toArray, List.set_cons_zero, List.set_cons_succ]
                          refine wpAnyH_take (i := 1) (oi := { dst := some 107, op := Op.move (Operand.tmp 12), type := 3, pos := "own.go:85", after := #[], guard := none }) (v := ?_) rfl (by kernel_rfl) (by kernel_rfl) (by kernel_rfl) (fun _ _ _ h => h) (Or.inl ⟨by rfl, ?_⟩) (by assumption) ?_
                          rotate_left
                          · intro w hSw; (try dsimp only at hSw); go_simp; (try with_reducible rfl)
                          try simp only [Act.put, List.setIfInBounds_toArray, List.set_cons_zero, List.set_cons_succ]
                          refine wpAnyH_take (i := 2) (oi := { dst := some 108, op := Op.indexAddr 33 (Operand.tmp 106) (Operand.tmp 107), type := 0, pos := "own.go:85", after := #[{ on := 0, ground := Ground.data }, { on := 1, ground := Ground.data }], guard := none }) (v := ?_) rfl (by kernel_rfl) (by kernel_rfl) (by kernel_rfl) (fun _ _ _ h => h) (Or.inl ⟨by rfl, ?_⟩) (by assumption) ?_
                          rotate_left
                          · intro w hSw; (try dsimp only at hSw); go_simp; (try with_reducible rfl)
                          try simp only [Act.put, List.setIfInBounds_toArray, List.set_cons_zero, List.set_cons_succ]
                          refine wpAnyH_take (i := 3) (oi := { dst := some 109, op := Op.fieldAddr 36 (Operand.tmp 108) 2, type := 0, pos := "own.go:85", after := #[{ on := 2, ground := Ground.data }], guard := none }) (v := ?_) rfl (by kernel_rfl) (by kernel_rfl) (by kernel_rfl) (fun _ _ _ h => h) (Or.inl ⟨by rfl, ?_⟩) (by assumption) ?_
                          rotate_left
                          · intro w hSw; (try dsimp only at hSw); go_simp; (try with_reducible rfl)
                          try simp only [Act.put, List.setIfInBounds_toArray, List.set_cons_zero, List.set_cons_succ]
                          refine wpAnyH_take (i := 4) (oi := { dst := some 110, op := Op.load 3 (Operand.tmp 109), type := 3, pos := "own.go:85", after := #[{ on := 3, ground := Ground.data }], guard := none }) (v := ?_) rfl (by kernel_rfl) (by kernel_rfl) (by kernel_rfl) (fun _ _ _ h => h) (Or.inl ⟨by rfl, ?_⟩) (by assumption) ?_
                          rotate_left
                          · intro w hSw; (try dsimp only at hSw); go_simp; (try with_reducible rfl)
                          try simp only [Act.put, List.setIfInBounds_toArray, List.set_cons_zero, List.set_cons_succ]
                          refine wpAnyH_take (i := 5) (oi := { dst := some 111, op := Op.move (Operand.tmp 11), type := 33, pos := "own.go:85", after := #[], guard := none }) (v := ?_) rfl (by kernel_rfl) (by kernel_rfl) (by kernel_rfl) (fun _ _ _ h => h) (Or.inl ⟨by rfl, ?_⟩) (by assumption) ?_
                          rotate_left
                          · intro w hSw; (try dsimp only at hSw); go_simp; (try with_reducible rfl)
                          try simp only [Act.put, List.setIfInBounds_toArray, List.set_cons_zero, List.set_cons_succ]
                          refine wpAnyH_take (i := 6) (oi := { dst := some 112, op := Op.move (Operand.tmp 12), type := 3, pos := "own.go:85", after := #[], guard := none }) (v := ?_) rfl (by kernel_rfl) (by kernel_rfl) (by kernel_rfl) (fun _ _ _ h => h) (Or.inl ⟨by rfl, ?_⟩) (by assumption) ?_
                          rotate_left
                          · intro w hSw; (try dsimp only at hSw); go_simp; (try with_reducible rfl)
                          try simp only [Act.put, List.setIfInBounds_toArray, List.set_cons_zero, List.set_cons_succ]
                          refine wpAnyH_take (i := 7) (oi := { dst := some 113, op := Op.indexAddr 33 (Operand.tmp 111) (Operand.tmp 112), type := 0, pos := "own.go:85", after := #[{ on := 5, ground := Ground.data }, { on := 6, ground := Ground.data }], guard := none }) (v := ?_) rfl (by kernel_rfl) (by kernel_rfl) (by kernel_rfl) (fun _ _ _ h => h) (Or.inl ⟨by rfl, ?_⟩) (by assumption) ?_
                          rotate_left
                          · intro w hSw; (try dsimp only at hSw); go_simp; (try with_reducible rfl)
                          try simp only [Act.put, List.setIfInBounds_toArray, List.set_cons_zero, List.set_cons_succ]
                          refine wpAnyH_take (i := 8) (oi := { dst := some 114, op := Op.fieldAddr 36 (Operand.tmp 113) 2, type := 0, pos := "own.go:85", after := #[{ on := 7, ground := Ground.data }], guard := none }) (v := ?_) rfl (by kernel_rfl) (by kernel_rfl) (by kernel_rfl) (fun _ _ _ h => h) (Or.inl ⟨by rfl, ?_⟩) (by assumption) ?_
                          rotate_left
                          · intro w hSw; (try dsimp only at hSw); go_simp; (try with_reducible rfl)
                          try simp only [Act.put, List.setIfInBounds_toArray, List.set_cons_zero, List.set_cons_succ]
                          refine wpAnyH_take (i := 9) (oi := { dst := some 115, op := Op.load 3 (Operand.tmp 114), type := 3, pos := "own.go:85", after := #[{ on := 8, ground := Ground.data }], guard := none }) (v := ?_) rfl (by kernel_rfl) (by kernel_rfl) (by kernel_rfl) (fun _ _ _ h => h) (Or.inl ⟨by rfl, ?_⟩) (by assumption) ?_
                          rotate_left
                          · intro w hSw; (try dsimp only at hSw); go_simp; (try with_reducible rfl)
                          try simp only [Act.put, List.setIfInBounds_toArray, List.set_cons_zero, List.set_cons_succ]
                          refine wpAnyH_take (i := 10) (oi := { dst := some 116, op := Op.indexAddr 27 (Operand.tmp 5) (Operand.tmp 115), type := 0, pos := "own.go:85", after := #[{ on := 9, ground := Ground.data }], guard := none }) (v := ?_) rfl (by kernel_rfl) (by kernel_rfl) (by kernel_rfl) (fun _ _ _ h => h) (Or.inl ⟨by rfl, ?_⟩) (by assumption) ?_
                          rotate_left
                          · intro w hSw; (try dsimp only at hSw); go_simp; (try with_reducible rfl)
                          try simp only [Act.put, List.setIfInBounds_toArray, List.set_cons_zero, List.set_cons_succ]
                          refine wpAnyH_take (i := 12) (oi := { dst := some 118, op := Op.move (Operand.tmp 11), type := 33, pos := "own.go:85", after := #[], guard := none }) (v := ?_) rfl (by kernel_rfl) (by kernel_rfl) (by kernel_rfl) (fun _ _ _ h => h) (Or.inl ⟨by rfl, ?_⟩) (by assumption) ?_
                          rotate_left
                          · intro w hSw; (try dsimp only at hSw); go_simp; (try with_reducible rfl)
                          try simp only [Act.put, List.setIfInBounds_toArray, List.set_cons_zero, List.set_cons_succ]
                          refine wpAnyH_take (i := 13) (oi := { dst := some 119, op := Op.move (Operand.tmp 12), type := 3, pos := "own.go:85", after := #[], guard := none }) (v := ?_) rfl (by kernel_rfl) (by kernel_rfl) (by kernel_rfl) (fun _ _ _ h => h) (Or.inl ⟨by rfl, ?_⟩) (by assumption) ?_
                          rotate_left
                          · intro w hSw; (try dsimp only at hSw); go_simp; (try with_reducible rfl)
                          try simp only [Act.put, List.setIfInBounds_toArray, List.set_cons_zero, List.set_cons_succ]
                          refine wpAnyH_take (i := 14) (oi := { dst := some 120, op := Op.indexAddr 33 (Operand.tmp 118) (Operand.tmp 119), type := 0, pos := "own.go:85", after := #[{ on := 12, ground := Ground.data }, { on := 13, ground := Ground.data }], guard := none }) (v := ?_) rfl (by kernel_rfl) (by kernel_rfl) (by kernel_rfl) (fun _ _ _ h => h) (Or.inl ⟨by rfl, ?_⟩) (by assumption) ?_
                          rotate_left
                          · intro w hSw; (try dsimp only at hSw); go_simp; (try with_reducible rfl)
                          try simp only [Act.put, List.setIfInBounds_toArray, List.set_cons_zero, List.set_cons_succ]
                          refine wpAnyH_take (i := 15) (oi := { dst := some 121, op := Op.fieldAddr 36 (Operand.tmp 120) 1, type := 0, pos := "own.go:85", after := #[{ on := 14, ground := Ground.data }], guard := none }) (v := ?_) rfl (by kernel_rfl) (by kernel_rfl) (by kernel_rfl) (fun _ _ _ h => h) (Or.inl ⟨by rfl, ?_⟩) (by assumption) ?_
                          rotate_left
                          · intro w hSw; (try dsimp only at hSw); go_simp; (try with_reducible rfl)
                          try simp only [Act.put, List.setIfInBounds_toArray, List.set_cons_zero, List.set_cons_succ]
                          refine wpAnyH_take (i := 16) (oi := { dst := some 122, op := Op.load 3 (Operand.tmp 121), type := 3, pos := "own.go:85", after := #[{ on := 15, ground := Ground.data }], guard := none }) (v := ?_) rfl (by kernel_rfl) (by kernel_rfl) (by kernel_rfl) (fun _ _ _ h => h) (Or.inl ⟨by rfl, ?_⟩) (by assumption) ?_
                          rotate_left
                          · intro w hSw; (try dsimp only at hSw); go_simp; (try with_reducible rfl)
                          try simp only [Act.put, List.setIfInBounds_toArray, List.set_cons_zero, List.set_cons_succ]
                          refine wpAnyH_ready (rs := [11, 17]) (by kernel_rfl) (by simp) ?_
                          refine AllReadyH.cons (o := { dst := some 117, op := Op.load 26 (Operand.tmp 116), type := 26, pos := "own.go:85", after := #[{ on := 10, ground := Ground.data }], guard := none }) rfl (fun K hK => ?_) ?_
                          · have HOLDK := True.intro
                            go_simp
                            refine hK.out _ _ ?_ (fun hHeld => ?_)
                            · (try dsimp only); first | (with_reducible assumption) | exact HZ.out _ (Below.refl _ _) | exact HZ.out _ ((Below.refl _ _).drew) | exact HZ.out _ (below_box _ _) | exact HZ.out _ ((below_box _ _).drew) | assumption
                            clear hK K
                            try simp only [Act.put, List.setIfInBounds_toArray, List.set_cons_zero, List.set_cons_succ]
                            refine wpAnyH_ready (rs := [17]) (by kernel_rfl) (by simp) ?_
                            refine AllReadyH.cons (o := { dst := some 123, op := Op.buildSlice 26 1 #[(0, Operand.tmp 122)], type := 26, pos := "own.go:85", after := #[{ on := 16, ground := Ground.data }], guard := none }) rfl (fun K hK => ?_) ?_
                            rotate_left
                            · exact AllReadyH.nil
                            go_simp
                            refine hK.out _ _ ?_ (fun hHeld => ?_)
                            · (try dsimp only); first | (with_reducible assumption) | exact HZ.out _ (Below.refl _ _) | exact HZ.out _ ((Below.refl _ _).drew) | exact HZ.out _ (below_box _ _) | exact HZ.out _ ((below_box _ _).drew) | assumption
                            clear hK K
                            try simp only [Act.put, List.setIfInBounds_toArray, List.set_cons_zero, List.set_cons_succ]
                            refine wpAnyH_ready (rs := [18]) (by kernel_rfl) (by simp) ?_
                            refine AllReadyH.cons (o := { dst := some 124, op := Op.call { callee := Callee.builtin Builtin.append, args := #[Operand.tmp 117, Operand.tmp 123], argTypes := #[26, 26] }, type := 26, pos := "own.go:85", after := #[{ on := 11, ground := Ground.data }, { on := 17, ground := Ground.data }], guard := none }) rfl (fun K hK => ?_) ?_
                            rotate_left
                            · exact AllReadyH.nil
                            (refine step_int (wr := wr) rfl (.tmp 117) (.tmp 123) rfl (.slice aP nn cP) nn xs (by simp [Act.eval]) wr.heap.size yl (by simp [Act.eval]) ?hp HO.out HLN.out ?_; (case hp => first | exact ⟨(below_box wr _).drew, Blk.new wr _ _⟩ | exact ⟨below_box wr _, Blk.new wr _ _⟩); intro v7 w7 hb5 ho5 hg5 hv5; obtain ⟨⟨g1, g2⟩, hz7, hz8, hz9, HKE⟩ := FIN.out v7 _ w7 hb5 ho5 hg5 hv5; have HKE5 := Lib.hid HKE; obtain ⟨a7, n7, e7⟩ := own_shape ho5; subst e7; clear HKE hb5 ho5 hg5 hv5)
                            refine hK.out _ _ ?_ (fun hHeld => ?_)
                            · (try dsimp only); first | (with_reducible assumption) | exact HZ.out _ (Below.refl _ _) | exact HZ.out _ ((Below.refl _ _).drew) | exact HZ.out _ (below_box _ _) | exact HZ.out _ ((below_box _ _).drew) | assumption
                            clear hK K
                            try simp only [Act.put, List.setIfInBounds_toArray, List.set_cons_zero, List.set_cons_succ]
                            refine wpAnyH_take (i := 19) (oi := { dst := some 125, op := Op.indexAddr 27 (Operand.tmp 5) (Operand.tmp 110), type := 0, pos := "own.go:85", after := #[{ on := 4, ground := Ground.data }, { on := 0, ground := Ground.phase }, { on := 1, ground := Ground.phase }, { on := 2, ground := Ground.phase }, { on := 3, ground := Ground.phase }, { on := 4, ground := Ground.phase }, { on := 5, ground := Ground.phase }, { on := 6, ground := Ground.phase }, { on := 7, ground := Ground.phase }, { on := 8, ground := Ground.phase }, { on := 9, ground := Ground.phase }, { on := 10, ground := Ground.phase }, { on := 11, ground := Ground.phase }, { on := 12, ground := Ground.phase }, { on := 13, ground := Ground.phase }, { on := 14, ground := Ground.phase }, { on := 15, ground := Ground.phase }, { on := 16, ground := Ground.phase }, { on := 17, ground := Ground.phase }, { on := 18, ground := Ground.phase }], guard := none }) (v := ?_) rfl (by kernel_rfl) (by kernel_rfl) (by kernel_rfl) (fun _ _ _ h => h) (Or.inl ⟨by rfl, ?_⟩) (by assumption) ?_
                            rotate_left
                            · intro w hSw; (try dsimp only at hSw); go_simp; (try with_reducible rfl)
                            try simp only [Act.put, List.setIfInBounds_toArray, List.set_cons_zero, List.set_cons_succ]
                            refine wpAnyH_ready (rs := [20]) (by kernel_rfl) (by simp) ?_
                            refine AllReadyH.cons (o := { dst := none, op := Op.store 26 (Operand.tmp 125) (Operand.tmp 124), type := 0, pos := "own.go:85", after := #[{ on := 19, ground := Ground.data }, { on := 18, ground := Ground.data }, { on := 18, ground := Ground.chain }, { on := 0, ground := Ground.phase }, { on := 1, ground := Ground.phase }, { on := 2, ground := Ground.phase }, { on := 3, ground := Ground.phase }, { on := 4, ground := Ground.phase }, { on := 5, ground := Ground.phase }, { on := 6, ground := Ground.phase }, { on := 7, ground := Ground.phase }, { on := 8, ground := Ground.phase }, { on := 9, ground := Ground.phase }, { on := 10, ground := Ground.phase }, { on := 11, ground := Ground.phase }, { on := 12, ground := Ground.phase }, { on := 13, ground := Ground.phase }, { on := 14, ground := Ground.phase }, { on := 15, ground := Ground.phase }, { on := 16, ground := Ground.phase }, { on := 17, ground := Ground.phase }, { on := 18, ground := Ground.phase }], guard := none }) rfl (fun K hK => ?_) ?_
                            rotate_left
                            · exact AllReadyH.nil
                            go_simp
                            refine hK.out _ _ ?_ (fun hHeld => ?_)
                            · (try dsimp only); first | (with_reducible assumption) | exact HZ.out _ (Below.refl _ _) | exact HZ.out _ ((Below.refl _ _).drew) | exact HZ.out _ (below_box _ _) | exact HZ.out _ ((below_box _ _).drew) | assumption
                            clear hK K
                            try simp only [Act.put, List.setIfInBounds_toArray, List.set_cons_zero, List.set_cons_succ]
                            refine wpAnyH_done (by kernel_rfl) ?_ _
                            refine NoPanic.normal ?_
                            have FIN2 := Lib.hid (show Kl w p gA gG k r S3.said (.slice (some ⟨gw, 0, none⟩) m c5) w5 (l + 1) (World.drew _) by
                              obtain ⟨S9, a9, g9, v9, h1, h2, h3, h4⟩ := HKE5.out
                              exact ⟨S9, a9, g9, v9, h1, h2, h3.below (Below.refl _ _).drew, h4⟩)
                            clear FIN HO HLN a0 f0 d0 d1 d2 a0b d1b d2b
                            go_wp2
                            go_roundw
                            case rel => exact ⟨l + 1, by omega, by go_num, by first | exact HKE5 | exact FIN2⟩
                            case measure => simp [intOf]; omega
                          refine AllReadyH.cons (o := { dst := some 123, op := Op.buildSlice 26 1 #[(0, Operand.tmp 122)], type := 26, pos := "own.go:85", after := #[{ on := 16, ground := Ground.data }], guard := none }) rfl (fun K hK => ?_) ?_
                          · have HOLDK := True.intro
                            go_simp
                            refine hK.out _ _ ?_ (fun hHeld => ?_)
                            · (try dsimp only); first | (with_reducible assumption) | exact HZ.out _ (Below.refl _ _) | exact HZ.out _ ((Below.refl _ _).drew) | exact HZ.out _ (below_box _ _) | exact HZ.out _ ((below_box _ _).drew) | assumption
                            clear hK K
                            try simp only [Act.put, List.setIfInBounds_toArray, List.set_cons_zero, List.set_cons_succ]
                            refine wpAnyH_ready (rs := [11]) (by kernel_rfl) (by simp) ?_
                            refine AllReadyH.cons (o := { dst := some 117, op := Op.load 26 (Operand.tmp 116), type := 26, pos := "own.go:85", after := #[{ on := 10, ground := Ground.data }], guard := none }) rfl (fun K hK => ?_) ?_
                            rotate_left
                            · exact AllReadyH.nil
                            go_simp
                            refine hK.out _ _ ?_ (fun hHeld => ?_)
                            · (try dsimp only); first | (with_reducible assumption) | exact HZ.out _ (Below.refl _ _) | exact HZ.out _ ((Below.refl _ _).drew) | exact HZ.out _ (below_box _ _) | exact HZ.out _ ((below_box _ _).drew) | assumption
                            clear hK K
                            try simp only [Act.put, List.setIfInBounds_toArray, List.set_cons_zero, List.set_cons_succ]
                            refine wpAnyH_ready (rs := [18]) (by kernel_rfl) (by simp) ?_
                            refine AllReadyH.cons (o := { dst := some 124, op := Op.call { callee := Callee.builtin Builtin.append, args := #[Operand.tmp 117, Operand.tmp 123], argTypes := #[26, 26] }, type := 26, pos := "own.go:85", after := #[{ on := 11, ground := Ground.data }, { on := 17, ground := Ground.data }], guard := none }) rfl (fun K hK => ?_) ?_
                            rotate_left
                            · exact AllReadyH.nil
                            (refine step_int (wr := wr) rfl (.tmp 117) (.tmp 123) rfl (.slice aP nn cP) nn xs (by simp [Act.eval]) wr.heap.size yl (by simp [Act.eval]) ?hp HO.out HLN.out ?_; (case hp => first | exact ⟨(below_box wr _).drew, Blk.new wr _ _⟩ | exact ⟨below_box wr _, Blk.new wr _ _⟩); intro v7 w7 hb5 ho5 hg5 hv5; obtain ⟨⟨g1, g2⟩, hz7, hz8, hz9, HKE⟩ := FIN.out v7 _ w7 hb5 ho5 hg5 hv5; have HKE5 := Lib.hid HKE; obtain ⟨a7, n7, e7⟩ := own_shape ho5; subst e7; clear HKE hb5 ho5 hg5 hv5)
                            refine hK.out _ _ ?_ (fun hHeld => ?_)
                            · (try dsimp only); first | (with_reducible assumption) | exact HZ.out _ (Below.refl _ _) | exact HZ.out _ ((Below.refl _ _).drew) | exact HZ.out _ (below_box _ _) | exact HZ.out _ ((below_box _ _).drew) | assumption
                            clear hK K
                            try simp only [Act.put, List.setIfInBounds_toArray, List.set_cons_zero, List.set_cons_succ]
                            refine wpAnyH_take (i := 19) (oi := { dst := some 125, op := Op.indexAddr 27 (Operand.tmp 5) (Operand.tmp 110), type := 0, pos := "own.go:85", after := #[{ on := 4, ground := Ground.data }, { on := 0, ground := Ground.phase }, { on := 1, ground := Ground.phase }, { on := 2, ground := Ground.phase }, { on := 3, ground := Ground.phase }, { on := 4, ground := Ground.phase }, { on := 5, ground := Ground.phase }, { on := 6, ground := Ground.phase }, { on := 7, ground := Ground.phase }, { on := 8, ground := Ground.phase }, { on := 9, ground := Ground.phase }, { on := 10, ground := Ground.phase }, { on := 11, ground := Ground.phase }, { on := 12, ground := Ground.phase }, { on := 13, ground := Ground.phase }, { on := 14, ground := Ground.phase }, { on := 15, ground := Ground.phase }, { on := 16, ground := Ground.phase }, { on := 17, ground := Ground.phase }, { on := 18, ground := Ground.phase }], guard := none }) (v := ?_) rfl (by kernel_rfl) (by kernel_rfl) (by kernel_rfl) (fun _ _ _ h => h) (Or.inl ⟨by rfl, ?_⟩) (by assumption) ?_
                            rotate_left
                            · intro w hSw; (try dsimp only at hSw); go_simp; (try with_reducible rfl)
                            try simp only [Act.put, List.setIfInBounds_toArray, List.set_cons_zero, List.set_cons_succ]
                            refine wpAnyH_ready (rs := [20]) (by kernel_rfl) (by simp) ?_
                            refine AllReadyH.cons (o := { dst := none, op := Op.store 26 (Operand.tmp 125) (Operand.tmp 124), type := 0, pos := "own.go:85", after := #[{ on := 19, ground := Ground.data }, { on := 18, ground := Ground.data }, { on := 18, ground := Ground.chain }, { on := 0, ground := Ground.phase }, { on := 1, ground := Ground.phase }, { on := 2, ground := Ground.phase }, { on := 3, ground := Ground.phase }, { on := 4, ground := Ground.phase }, { on := 5, ground := Ground.phase }, { on := 6, ground := Ground.phase }, { on := 7, ground := Ground.phase }, { on := 8, ground := Ground.phase }, { on := 9, ground := Ground.phase }, { on := 10, ground := Ground.phase }, { on := 11, ground := Ground.phase }, { on := 12, ground := Ground.phase }, { on := 13, ground := Ground.phase }, { on := 14, ground := Ground.phase }, { on := 15, ground := Ground.phase }, { on := 16, ground := Ground.phase }, { on := 17, ground := Ground.phase }, { on := 18, ground := Ground.phase }], guard := none }) rfl (fun K hK => ?_) ?_
                            rotate_left
                            · exact AllReadyH.nil
                            go_simp
                            refine hK.out _ _ ?_ (fun hHeld => ?_)
                            · (try dsimp only); first | (with_reducible assumption) | exact HZ.out _ (Below.refl _ _) | exact HZ.out _ ((Below.refl _ _).drew) | exact HZ.out _ (below_box _ _) | exact HZ.out _ ((below_box _ _).drew) | assumption
                            clear hK K
                            try simp only [Act.put, List.setIfInBounds_toArray, List.set_cons_zero, List.set_cons_succ]
                            refine wpAnyH_done (by kernel_rfl) ?_ _
                            refine NoPanic.normal ?_
                            have FIN2 := Lib.hid (show Kl w p gA gG k r S3.said (.slice (some ⟨gw, 0, none⟩) m c5) w5 (l + 1) (World.drew _) by
                              obtain ⟨S9, a9, g9, v9, h1, h2, h3, h4⟩ := HKE5.out
                              exact ⟨S9, a9, g9, v9, h1, h2, h3.below (Below.refl _ _).drew, h4⟩)
                            clear FIN HO HLN a0 f0 d0 d1 d2 a0b d1b d2b
                            go_wp2
                            go_roundw
                            case rel => exact ⟨l + 1, by omega, by go_num, by first | exact HKE5 | exact FIN2⟩
                            case measure => simp [intOf]; omega
                          exact AllReadyH.nil
                    · obtain rfl : l = m := by omega
                      have ST0 : Hid (∃ S a g v, Sv S [] a g ∧ (Phi S [] + (r + 1) ≤ 8 * (k + 1) ∧ ∀ q, a q ≤ k + 1) ∧ E8 w p gA gG (fun _ => False) S (nums a g) v wr) := Lib.hid (by
                        obtain ⟨S6, a6, g6, v6, hV6, hB6, hE6, -⟩ := HL.out
                        have e : S3.said.drop l = [] := List.drop_eq_nil_of_le (by rw [HM.out]; omega)
                        rw [e] at hV6 hB6
                        exact ⟨_, _, _, _, hV6, ⟨by have := hB6.1; omega, hB6.2⟩, hE6.less fun _ h => h.elim⟩)
                      clear HL HO5 HM
                      go_wp2
                      go_roundw
                      case rel => exact ⟨r + 1, by omega, by go_num, ST0⟩
                      case measure => simp [intOf]; omega
    · obtain ⟨S, ⟨aa, gg, v, hV, hphi, hE⟩, hs⟩ := HK.out
      have hS0 : S.said = [] := hs.resolve_right hin
      obtain ⟨-, hag⟩ := sv_end hV hS0
      have HB := Lib.hid hE.b
      have HQ : Hid (∀ q, q < 4 → ∃ (a1 : Option Addr) (c1 : Nat) (a2 : Option Addr) (c2 N : Nat), wr.cell? ⟨gA, q, none⟩ = some (.slice a1 N c1) ∧ wr.cell? ⟨gG, q, none⟩ = some (.slice a2 N c2)) := Lib.hid fun q hq => by
        obtain ⟨xs1, h1⟩ := hE.own q (by omega)
        obtain ⟨xs2, h2⟩ := hE.own (q + 4) (by omega)
        obtain ⟨a1, c1, e1⟩ := own_shape h1
        obtain ⟨a2, c2, e2⟩ := own_shape h2
        have e3 : nums aa gg (q + 4) = nums aa gg q := by
          unfold nums
          rw [if_neg (by omega), if_pos hq, hag]
          congr 1
          omega
        rw [e3] at e2
        exact ⟨a1, c1, a2, c2, _, (hE.aA.at_ hq).1.trans (by rw [e1]), (hE.aG.at_ hq).1.trans (by show some (v (q + 4)) = _; rw [e2])⟩
      clear hV hphi hE hs hS0 hag HK HI
      rcases (show (k < n ∧ k = 60) ∨ k = n by omega) with ⟨hlt, h⟩ | h
      all_goals
        subst h
        clear hin
        go_wp2_with fail
        go_loopw [13] (fun ti wz => ∃ q : Nat, q ≤ 4 ∧ ti = .int .i64 (q : Int) ∧ (∃ d, wz = wr.drewN d)) (fun ti _ => 4 - (intOf ti).toNat)
        case atStart => exact ⟨0, by omega, rfl, 0, rfl⟩
        case round =>
          obtain ⟨q, hq4, rfl, d, rfl⟩ := hrel
          by_cases hq : q < 4
          · obtain ⟨a1, c1, a2, c2, N, k1, k2⟩ := HQ.out q hq
            obtain ⟨W6, hW6⟩ : ∃ W6, wr.drewN d = W6 := ⟨_, rfl⟩
            have k1 : W6.cell? ⟨gA, q, none⟩ = some (.slice a1 N c1) := by rw [← hW6]; exact quiet_cell k1 d
            have k2 : W6.cell? ⟨gG, q, none⟩ = some (.slice a2 N c2) := by rw [← hW6]; exact quiet_cell k2 d
            have hNN : ((N : Int) != (N : Int)) = false := by simp
            have HW6 := Lib.hid hW6
            rw [hW6]
            clear hW6
            go_upto_region 33 with (fail)
            go_quiet (fail)
            clear k1 k2 hNN
            go_wp2
            go_roundw
            case rel => exact ⟨q + 1, by omega, by go_num, d + nq, by rw [← HW6.out]; exact World.drewN_drewN _ _ _⟩
            case measure => simp [intOf]; omega
          · obtain rfl : q = 4 := by omega
            have FIN : Hid (Below w.heap.size w (wr.drewN d)) := Lib.hid (HB.out.trans ⟨rfl, rfl, rfl, Nat.le_refl _, fun _ _ => rfl⟩)
            clear HQ HB
            go_wp2
            go_ret
            exact ⟨rfl, FIN.out⟩
end Go.Proofs.Ythodggkpkjfggaa.Key
