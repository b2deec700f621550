/- walk: the places come by, beginning by beginning. -/
import Derived.Test.YthodggkpkjfggaaKnotWS
namespace Go.Proofs.Ythodggkpkjfggaa.Knot
set_option maxRecDepth 100000
open Go.RowKit
open Go.Proofs.Ythodggkpkjfggaa.Mem
def WalkRes (p : Nat → List Nat) (n : Nat) (beg : List Nat) (w : World) (e : Ending) (w' : World) : Prop :=
  ∃ u D been gone, e = .returned u ∧ WR w' w.heap.size u D ∧ BInv p n D.flatten been gone ∧ Walks p beg D ∧ (∀ x ∈ beg, x ∈ D.flatten) ∧ Below w.heap.size w w'
/-- between two beginnings: i were -/
def Bet (p : Nat → List Nat) (n : Nat) (beg : List Nat) (w : World) (gb gg i : Nat) (kv : Value) (D : List (List Nat)) (been : Nat → Bool) (gone : Nat → Nat) (v : Nat → Value) (W : World) : Prop :=
  WS w n gb gg W kv D [] [] been gone v ∧ (v 0 = .slice none 0 0 ∧ v 1 = .slice none 0 0) ∧ BInv p n D.flatten been gone ∧ Walks p beg D ∧ (∀ x ∈ beg.take i, x ∈ D.flatten) ∧ D.length ≤ i
/-- under way -/
def Und (p : Nat → List Nat) (n : Nat) (w : World) (gb gg : Nat) (kv : Value) (D : List (List Nat)) (b : Nat) (left way : List Nat) (been : Nat → Bool) (gone : Nat → Nat) (v : Nat → Value) (W : World) : Prop :=
  WS w n gb gg W kv D left way been gone v ∧ DInv p n D.flatten left way b been gone
theorem own_capI {w : World} {B n k c s : Nat} {a : Option Addr} {T : TypeId} {xs : List Value} (h : w.ownsRow B T s (.slice a n c) k xs) : k ≤ c := by
  rcases h.2 with ⟨e, h0⟩ | ⟨g, cap, cur, e, _, _, h1, _⟩
  · omega
  · injection e with _ _ e3; omega
theorem drew_below (w : World) (q : Nat) : Below w.heap.size w (w.drewN q) := ⟨rfl, rfl, rfl, Nat.le_refl _, fun _ _ => rfl⟩
set_option maxRecDepth 100000 in
set_option maxHeartbeats 8000000 in
theorem walk_any (p : Nat → List Nat) (n : Nat) (beg : List Nat) (u bv : Value) (w : World) (hp : PR w u n p) (hb : IR w bv (nv beg)) (hlt : ∀ x, x < n → ∀ y ∈ p x, y < n) (hbeg : ∀ x ∈ beg, x < n) (hn : n ≤ 100000) (hbl : beg.length ≤ 100000) (hpl : ∀ x, x < n → (p x).length ≤ 100000) :
    Calls Try.prog 70 #[u, bv] w (WalkRes p n beg w) := by
  obtain ⟨gp, rfl, hgp, hrow⟩ := hp
  have HB := Lib.hid hb
  obtain ⟨ab, cb, rfl⟩ := hb.shape
  have HP := Lib.hid hrow
  have HLT := Lib.hid hlt
  have HBEG := Lib.hid hbeg
  have HPL := Lib.hid hpl
  obtain ⟨m, hm⟩ : ∃ m, (nv beg).length = m := ⟨_, rfl⟩
  have HM : Hid (beg.length = m) := Lib.hid (by rw [← hm, nv_len])
  rw [hm]
  have hml : m ≤ 100000 := by rw [← HM.out]; exact hbl
  clear hb hrow hlt hbeg hpl hm hbl
  have mk1 := fun W : World => run_makeN W Try.underlying130 info_bool rfl (by decide) n (by omega)
  have mk2 := fun W : World => run_makeN W Try.underlying26 info_int rfl (by decide) n (by omega)
  go_enter Try.func70, Try.ntmps70
  go_upto_region 1 with (fail)
  go_cut [5, 6] (fun t5 t6 wx => ∃ gb gg, t5 = .slice (some ⟨gb, 0, none⟩) n n ∧ t6 = .slice (some ⟨gg, 0, none⟩) n n ∧ Hid (∃ v, Bet p n beg w gb gg 0 (.slice none 0 0) [] (fun _ => false) (fun _ => 0) v wx))
  case first =>
    have FIN : Hid (∀ W : World, w.heap.size = W.heap.size → Below w.heap.size w W → (∃ v, Bet p n beg w W.heap.size (W.heap.size + 1) 0 (.slice none 0 0) [] (fun _ => false) (fun _ => 0) v ((W.alloc (.cells (madeCells #[.bool false] n) 4)).alloc (.cells (madeCells #[.int .i64 0] n) 3))) ∧
        ∃ v, Bet p n beg w (W.heap.size + 1) W.heap.size 0 (.slice none 0 0) [] (fun _ => false) (fun _ => 0) v ((W.alloc (.cells (madeCells #[.int .i64 0] n) 3)).alloc (.cells (madeCells #[.bool false] n) 4))) := Lib.hid fun W hs hb => by
      have hX : ∀ o o' : Obj, Below w.heap.size w ((W.alloc o).alloc o') := fun o o' => (hb.alloc (by omega) o).alloc (by simp; omega) o'
      have e1 : ∀ o : Obj, (W.alloc o).heap.size = W.heap.size + 1 := fun o => by simp
      refine ⟨⟨_, WS.start w n (hX _ _) ((Arr.made W 4 n (.bool false)).alloc _) ?_ ⟨by omega, by omega, by omega⟩, ⟨rfl, rfl⟩, BInv.new p n, Walks.nil p beg, by simp, Nat.le_refl _⟩, ⟨_, WS.start w n (hX _ _) ?_ ((Arr.made W 3 n (.int .i64 0)).alloc _) ⟨by omega, by omega, by omega⟩, ⟨rfl, rfl⟩, BInv.new p n, Walks.nil p beg, by simp, Nat.le_refl _⟩⟩
      · have := Arr.made (W.alloc (.cells (madeCells #[.bool false] n) 4)) 3 n (.int .i64 0)
        rw [e1] at this; exact this
      · have := Arr.made (W.alloc (.cells (madeCells #[.int .i64 0] n) 3)) 4 n (.bool false)
        rw [e1] at this; exact this
    have FA := Lib.hid (FIN.out w rfl (Below.refl _ _))
    clear FIN
    go_region
    · have F1 : Hid (∃ v, Bet p n beg w w.heap.size (w.heap.size + 1) 0 (.slice none 0 0) [] (fun _ => false) (fun _ => 0) v ((w.alloc (.cells (madeCells #[.bool false] n) 4)).alloc (.cells (madeCells #[.int .i64 0] n) 3)).drew) := Lib.hid (by
        obtain ⟨v, h1, h2⟩ := FA.out.1
        exact ⟨v, h1.below (drew_below _ 1), h2⟩)
      clear FA mk1 mk2
      go_wp2
      go_meet
      exact ⟨_, _, rfl, rfl, F1⟩
    · have F1 : Hid (∃ v, Bet p n beg w (w.heap.size + 1) w.heap.size 0 (.slice none 0 0) [] (fun _ => false) (fun _ => 0) v ((w.alloc (.cells (madeCells #[.int .i64 0] n) 3)).alloc (.cells (madeCells #[.bool false] n) 4)).drew) := Lib.hid (by
        obtain ⟨v, h1, h2⟩ := FA.out.2
        exact ⟨v, h1.below (drew_below _ 1), h2⟩)
      clear FA mk1 mk2
      go_wp2
      go_meet
      exact ⟨_, _, rfl, rfl, F1⟩
  case rest =>
    obtain ⟨gb, gg, rfl, rfl, HS0⟩ := hcut
    clear mk1 mk2
    go_wp2_with fail
    go_loopw [7, 22] (fun tk ti wr => ∃ i : Nat, i ≤ m ∧ ti = .int .i64 (i : Int) ∧ (∃ a k c, tk = .slice a k c) ∧ Hid (∃ D been gone v, Bet p n beg w gb gg i tk D been gone v wr)) (fun _ ti _ => m - (intOf ti).toNat)
    case atStart => exact ⟨0, Nat.zero_le _, rfl, ⟨_, _, _, rfl⟩, Lib.hid ⟨_, _, _, HS0.out⟩⟩
    case round =>
      obtain ⟨i, hi, rfl, ⟨ak, nk, ck, rfl⟩, HK⟩ := hrel
      clear HS0
      by_cases him : i < m
      · obtain ⟨D, been, gone, v, hW, ⟨hv0, hv1⟩, hBI, hWk, htk, hDl⟩ := HK.out
        have hil : i < beg.length := by rw [HM.out]; exact him
        have hx : beg[i]? = some beg[i] := List.getElem?_eq_getElem hil
        have hbn := HBEG.out _ (List.getElem_mem hil)
        have htk1 : beg.take (i + 1) = beg.take i ++ [beg[i]] := by rw [List.take_add_one, hx]; rfl
        have hsplit : beg = beg.take i ++ beg[i] :: beg.drop (i + 1) := by
          have h1 := List.take_append_drop i beg
          rw [List.drop_eq_getElem_cons hil] at h1
          exact h1.symm
        generalize beg[i] = b at hx hbn htk1 hsplit
        obtain ⟨bb, off, cc, e1, -, hbb, cb0⟩ := (HB.out.below hW.b).at_ (nv_at hx)
        injection e1 with e1 e2 e3
        clear e2
        subst e1; subst e3
        obtain ⟨k0, f0⟩ := hW.beenA.at_ hbn
        have HW := Lib.hid hW
        have HV := Lib.hid (And.intro hv0 hv1)
        have HBI := Lib.hid hBI
        have HWK := Lib.hid hWk
        have HTK := Lib.hid htk
        have HDL := Lib.hid hDl
        have HTK1 := Lib.hid htk1
        have HSP := Lib.hid hsplit
        clear hW hv0 hv1 hBI hWk htk hDl htk1 hsplit hx hil hbb HK
        cases hbeen : been b with
        | true =>
          rw [hbeen] at k0
          have FIN : Hid (∃ D been gone v, Bet p n beg w gb gg (i + 1) (.slice ak nk ck) D been gone v wr) := Lib.hid ⟨D, been, gone, v, HW.out, HV.out, HBI.out, HWK.out, fun x hx => by
            rw [HTK1.out] at hx
            rcases List.mem_append.1 hx with hx | hx
            · exact HTK.out x hx
            · obtain rfl := List.mem_singleton.1 hx
              exact HBI.out.skip hbeen, by have := HDL.out; omega⟩
          clear hbeen HW HV HBI HWK HTK
          go_wp2
          go_roundw
          case rel => exact ⟨i + 1, by omega, by go_num, ⟨_, _, _, rfl⟩, FIN⟩
          case measure => simp [intOf]; omega
        | false =>
          rw [hbeen] at k0
          have ST : Hid (∃ left way been' gone' v', v' 0 = .slice none 0 0 ∧ v' 1 = .slice (some ⟨wr.heap.size, 0, none⟩) 1 1 ∧ left.length = 0 ∧ way.length = 1 ∧ Und p n w gb gg (.slice ak nk ck) D b left way been' gone' v' ((wr.setCell ⟨gb, b, none⟩ (.bool true)).alloc (.cells #[.int .i64 (b : Int)] 3))) := Lib.hid (by
            have h1 := (HW.out.been_ hbn).begin_ b
            have e : (wr.setCell ⟨gb, b, none⟩ (.bool true)).heap.size = wr.heap.size := by simp
            rw [e] at h1
            refine ⟨[], [b], _, _, _, ?_, ?_, rfl, rfl, h1, HBI.out.begin_ hbeen hbn⟩
            · unfold put1; rw [if_neg (by omega)]; exact HV.out.1
            · unfold put1; rw [if_pos rfl])
          clear hbeen HW HV HBI
          go_wp2_with fail
          go_loopw [10, 11] (fun tl ty wq => ∃ (a1 a2 : Option Addr) (m1 m2 c1 c2 : Nat), tl = .slice a1 m1 c1 ∧ ty = .slice a2 m2 c2 ∧ Hid (∃ left way been gone v, v 0 = .slice a1 m1 c1 ∧ v 1 = .slice a2 m2 c2 ∧ left.length = m1 ∧ way.length = m2 ∧ Und p n w gb gg (.slice ak nk ck) D b left way been gone v wq)) (fun _ ty wq => 2 * steps p n (goneIn wq gg) n + lenIn ty)
          case atStart => exact ⟨_, _, _, _, _, _, rfl, rfl, ST.out⟩
          case round =>
            obtain ⟨a1, a2, m1, m2, c1, c2, rfl, rfl, HQ⟩ := hrel
            clear ST
            by_cases hm2 : m2 = 0
            · subst hm2
              obtain ⟨left, way, been', gone', v', e0, e1, e2, e3, hU⟩ := HQ.out
              obtain rfl : way = [] := List.length_eq_zero_iff.1 e3
              have hDl := HDL.out
              have hb9 := below_box wr (.cells #[.slice a1 m1 c1] 26)
              have hB9 := Blk.new wr 26 #[.slice a1 m1 c1]
              obtain ⟨u9, w9, hr9, ha9⟩ := run_app (ty := 114) (w := wr.alloc (.cells #[.slice a1 m1 c1] 26)) Try.underlying114 info_rows rfl (by decide) (by decide) (own_below hU.1.walks hb9) hB9 (m := 1) rfl (fun u hu => by simp at hu; subst hu; rfl) (by omega) (Nat.le_trans hU.1.b.size hb9.size)
              have ha9' : AppRes (wr.alloc (.cells #[.slice a1 m1 c1] 26)) w9 w.heap.size 26 1 (.slice ak nk ck) u9 (D.length + 1) (cellsOf v' D.length ++ [v' 0]) := by rw [e0]; exact ha9
              obtain ⟨a9, c9, e9⟩ := own_shape ha9.1
              have FIN : Hid (∃ D been gone v, Bet p n beg w gb gg (i + 1) u9 D been gone v w9) := Lib.hid (by
                refine ⟨D ++ [left], been', gone', _, hU.1.push hb9 ha9', ⟨rfl, rfl⟩, ?_, HWK.out.more hU.2 HSP.out HTK.out, fun y hy => ?_, by simp; omega⟩
                · have h1 := hU.2.end_
                  rw [List.flatten_append]; simpa using h1
                · rw [HTK1.out] at hy
                  have hbl : b ∈ left := by simpa using hU.2.has
                  rcases List.mem_append.1 hy with hy | hy
                  · have := HTK.out y hy
                    simp at this ⊢
                    exact .inl this
                  · obtain rfl := List.mem_singleton.1 hy
                    simp [hbl])
              have HR9 := Lib.hid hr9
              rw [e9] at FIN HR9
              clear hU ha9 ha9' hb9 hB9 e0 e1 e2 e3 hr9 HQ HWK HTK HTK1 HSP HDL hDl e9
              go_wp2_with (at_builtin; refine wpList_run rfl _ _ rfl rfl rfl HR9.out ?_)
              go_roundw
              case rel => exact ⟨i + 1, by omega, by go_num, ⟨_, _, _, rfl⟩, FIN⟩
              case measure => simp [intOf]; omega
            · obtain ⟨k, rfl⟩ : ∃ k, m2 = k + 1 := ⟨m2 - 1, by omega⟩
              obtain ⟨left, way, been', gone', v', e0, e1, e2, e3, hU⟩ := HQ.out
              obtain ⟨x, rest, rfl⟩ : ∃ x rest, way = x :: rest := by
                cases way with
                | nil => simp at e3
                | cons x rest => exact ⟨x, rest, rfl⟩
              have e3 : rest.length = k := by simpa using e3
              have hlen := hU.2.len
              have hkc : k + 1 ≤ c2 := by
                have h1 := hU.1.rows.own 1 (by omega)
                rw [e1] at h1
                have h2 := own_len h1
                have := own_capI h1
                omega
              have hkn : k < 100000 := by simp at hlen; omega
              have hm1n : m1 ≤ 100000 := by simp at hlen; omega
              have hxn : x < n := hU.2.lt x (by simp)
              obtain ⟨b2, off2, c5, f1, -, -, d0⟩ := (IR.of_own (hU.1.rows.own 1 (by omega))).at_ (i := k) (z := (x : Int)) (by
                have : ((x :: rest).reverse)[k]? = some x := by rw [List.reverse_cons, List.getElem?_append_right (by simp [e3])]; simp [e3]
                exact nv_at this)
              rw [e1] at f1
              injection f1 with f1 f2 f3
              clear f2
              subst f1; subst f3
              have d1 := (hU.1.goneA.at_ hxn).1
              obtain ⟨xv, d2, hIR⟩ := HP.out x hxn
              have d2 : wr.cell? ⟨gp, x, none⟩ = some xv := (hU.1.b.cell (p := ⟨gp, x, none⟩) hgp).trans d2
              have hIR := hIR.below hU.1.b
              have HIR := Lib.hid hIR
              obtain ⟨ap, cp, rfl⟩ := hIR.shape
              rw [nv_len] at d2
              have HPX := Lib.hid (show (p x).length = (p x).length from rfl)
              have hgle := (hU.2.gone_le x (by simp)).1
              have hpx := HPL.out x hxn
              have HU := Lib.hid hU
              have HE0 := Lib.hid e0
              have HE1 := Lib.hid e1
              have HE2 := Lib.hid e2
              have HE3 := Lib.hid e3
              have hws : IntKind.i64.wrap (((k + 1 : Nat) : Int) - 1) = (k : Int) := by rw [IntKind.wrap_i64]; omega
              clear hIR hU e0 e1 e2 e3 HPX HQ hlen
              obtain ⟨lam, hlam⟩ : ∃ lam, (p x).length = lam := ⟨_, rfl⟩
              obtain ⟨gam, hgam⟩ : ∃ gam, gone' x = gam := ⟨_, rfl⟩
              have HLAM := Lib.hid hlam
              have HGAM := Lib.hid hgam
              rw [hlam] at d2 hgle hpx
              rw [hgam] at d1 hgle
              clear hlam hgam
              by_cases hgl : gam = lam
              · subst hgl
                go_upto_region 12 with (fail)
                go_quiet (fail)
                obtain ⟨W1, hW1⟩ : ∃ W1, wr.drewN nq = W1 := ⟨_, rfl⟩
                have HU1 : Hid (Und p n w gb gg (.slice ak nk ck) D b left (x :: rest) been' gone' v' W1) := Lib.hid (by rw [← hW1]; exact ⟨HU.out.1.below (drew_below _ _), HU.out.2⟩)
                have HMS : Hid (steps p n (goneIn wr gg) n = steps p n gone' n) := Lib.hid (HU.out.1.goneIn_ p)
                rw [hW1]
                have HO : Hid (W1.ownsRow w.heap.size 3 1 (.slice a1 m1 c1) (nv left).length (iv (nv left))) := Lib.hid (by have := HU1.out.1.rows.own 0 (by omega); rw [HE0.out] at this; exact this)
                have HLN : Hid ((nv left).length ≤ 2000000) := Lib.hid (by rw [nv_len, HE2.out]; omega)
                have HBB := Lib.hid HU1.out.1.b.size
                have FIN : Hid (∀ v5 w1 w2, Below W1.heap.size W1 w1 → AppRes w1 w2 w.heap.size 3 1 (.slice a1 m1 c1) v5 (nv left ++ [(x : Int)]).length (iv (nv left ++ [(x : Int)])) → ∃ v, v 0 = v5 ∧ v 1 = .slice (some ⟨b2, off2, none⟩) k c2 ∧ Und p n w gb gg (.slice ak nk ck) D b (left ++ [x]) rest been' gone' v w2) := Lib.hid fun v5 w1 w2 hb5 ha5 => by
                  rw [← HE0.out] at ha5
                  have h1 := HU1.out.1.left_ hb5 ha5
                  have hv1 : put1 v' 0 v5 1 = .slice (some ⟨b2, off2, none⟩) (rest.length + 1) c2 := by rw [HE3.out]; exact HE1.out
                  have h2 := h1.pop hv1
                  exact ⟨_, rfl, by rw [← HE3.out]; rfl, h2, HU1.out.2.leave (by rw [HGAM.out, HLAM.out])⟩
                have HLX : Hid ((nv left ++ [(x : Int)]).length = (left ++ [x]).length) := Lib.hid (by simp [nv])
                clear hW1 HU1 HU HIR HE0 HE1 HE2 HGAM HLAM d1 d2 HPL HLT hgle hpx
                have hwk : IntKind.i64.wrap (k : Int) = (k : Int) := by rw [IntKind.wrap_i64]; omega
                have hkc2 : (k : Int) ≤ (c2 : Int) := by omega
                go_upto_region 13 with (fail)
                go_region_held3 (fun _ => True) (trivial) (first
                  | (refine step_int1 (W := W1) (B := w.heap.size) rfl (.tmp 54) (.tmp 56) rfl (.slice a1 m1 c1) (nv left) (by simp [Act.eval]) W1.heap.size (x : Int) (by simp [Act.eval]) ?hp HO.out HLN.out HBB.out ?_; (case hp => first | exact ⟨(below_box W1 _).drew, Blk.new W1 _ _⟩ | exact ⟨below_box W1 _, Blk.new W1 _ _⟩); intro v5 w5 hb5 ha5; have HF5 := Lib.hid (FIN.out v5 _ w5 hb5 ha5); obtain ⟨a5, k5, e5⟩ := own_shape ha5.1; subst e5; clear hb5 ha5))
                have HF6 : Hid (∃ v, v 0 = .slice a5 ((nv left).length + 1) k5 ∧ v 1 = .slice (some ⟨b2, off2, none⟩) k c2 ∧ Und p n w gb gg (.slice ak nk ck) D b (left ++ [x]) rest been' gone' v w5) := Lib.hid (by
                  obtain ⟨v, h1, h2⟩ := HF5.out
                  exact ⟨v, h1.trans (by rw [List.length_append]; rfl), h2⟩)
                have HLY : Hid ((left ++ [x]).length = (nv left).length + 1) := Lib.hid (by rw [← HLX.out, List.length_append]; rfl)
                clear FIN HO HLN HBB d0 HF5 HLX
                go_wp2
                go_roundw
                case rel => exact ⟨_, _, _, k, _, c2, rfl, rfl, Lib.hid (by obtain ⟨v, h1, h2, h3⟩ := HF6.out; exact ⟨_, _, _, _, v, h1, h2, HLY.out, HE3.out, h3⟩)⟩
                case measure =>
                  obtain ⟨v, h1, h2, h3⟩ := HF6.out
                  rw [h3.1.goneIn_ p, HMS.out]; simp only [lenIn]; omega
              · have q1 : (gam == lam) = false := by simpa using hgl
                have q2 : ((gam : Int) == (lam : Int)) = false := by simp; omega
                have q3 : decide (gam = lam) = false := by simpa using hgl
                have q4 : decide ((gam : Int) = (lam : Int)) = false := by simp; omega
                have hgl2 : gam < lam := by omega
                obtain ⟨y, hto⟩ : ∃ y, (p x)[gam]? = some y := ⟨_, List.getElem?_eq_getElem (by rw [HLAM.out]; exact hgl2)⟩
                obtain ⟨b3, off3, c3, g1, -, -, d3⟩ := HIR.out.at_ (nv_at hto)
                injection g1 with g1 g2 g3
                clear g2
                subst g1; subst g3
                have hton : y < n := HLT.out x hxn y (List.mem_of_getElem? hto)
                have HTO : Hid ((p x)[gone' x]? = some y) := Lib.hid (by rw [HGAM.out]; exact hto)
                have HMS : Hid (steps p n (goneIn wr gg) n = steps p n gone' n) := Lib.hid (HU.out.1.goneIn_ p)
                have HST : Hid (steps p n (put1 gone' x (gone' x + 1)) n + 1 = steps p n gone' n) := Lib.hid (steps_less hxn (by rw [HGAM.out, HLAM.out]; exact hgl2))
                clear hto hgl
                go_upto_region 12 with (fail)
                go_quiet (fail)
                obtain ⟨W1, hW1⟩ : ∃ W1, wr.drewN nq = W1 := ⟨_, rfl⟩
                have HU1 : Hid (Und p n w gb gg (.slice ak nk ck) D b left (x :: rest) been' gone' v' W1) := Lib.hid (by rw [← hW1]; exact ⟨HU.out.1.below (drew_below _ _), HU.out.2⟩)
                have d1 : W1.cell? ⟨gg, x, none⟩ = some (.int .i64 (gam : Int)) := by rw [← hW1]; exact d1
                have d2 : W1.cell? ⟨gp, x, none⟩ = some (.slice (some ⟨b3, off3, none⟩) lam cp) := by rw [← hW1]; exact d2
                have d3 : W1.cell? ⟨b3, off3 + gam, none⟩ = some (.int .i64 (y : Int)) := by rw [← hW1]; exact d3
                rw [hW1]
                clear hW1 HU d0 q1 q2 q3 q4
                go_upto_region 14 with (fail)
                go_quiet (fail)
                obtain ⟨W2, hW2⟩ : ∃ W2, W1.drewN nq = W2 := ⟨_, rfl⟩
                have HU2 : Hid (Und p n w gb gg (.slice ak nk ck) D b left (x :: rest) been' gone' v' W2) := Lib.hid (by rw [← hW2]; exact ⟨HU1.out.1.below (drew_below _ _), HU1.out.2⟩)
                have d1 : W2.cell? ⟨gg, x, none⟩ = some (.int .i64 (gam : Int)) := by rw [← hW2]; exact d1
                have f1 := (HU2.out.1.goneA.at_ hxn).2
                rw [hW2]
                clear hW2 HU1 d2 d3
                obtain ⟨W3, hW3⟩ : ∃ W3, W2.setCell ⟨gg, x, none⟩ (.int .i64 ((gam : Int) + 1)) = W3 := ⟨_, rfl⟩
                have hS3 : WS w n gb gg W3 (.slice ak nk ck) D left (x :: rest) been' (put1 gone' x (gone' x + 1)) v' := by
                  rw [← hW3]
                  have := HU2.out.1.gone_ hxn (gone' x + 1)
                  rw [HGAM.out] at this ⊢
                  exact this
                have HS3 := Lib.hid hS3
                have HW3 := Lib.hid hW3
                have d4 := (hS3.beenA.at_ hton).1
                have hwg : IntKind.i64.wrap ((gam : Int) + 1) = (gam : Int) + 1 := by rw [IntKind.wrap_i64]; omega
                clear hW3 hS3 HIR HLT
                go_upto_region 16 with (fail)
                rw [HW3.out]
                clear d1 f1 hwg HW3
                cases hbt : been' y with
                | true =>
                  rw [hbt] at d4
                  have HN : Hid (Und p n w gb gg (.slice ak nk ck) D b left (x :: rest) been' (put1 gone' x (gone' x + 1)) v' W3) := Lib.hid ⟨HS3.out, HU2.out.2.pass HTO.out hbt⟩
                  clear hbt HS3 HU2
                  go_wp2
                  go_roundw
                  case rel => exact ⟨_, _, _, _, _, _, rfl, rfl, Lib.hid ⟨_, _, _, _, _, HE0.out, HE1.out, HE2.out, by simp [HE3.out], HN.out⟩⟩
                  case measure => rw [HN.out.1.goneIn_ p, HMS.out]; have := HST.out; simp only [lenIn]; omega
                | false =>
                  rw [hbt] at d4
                  have hS3 := HS3.out
                  have hlen3 : (nv (x :: rest).reverse).length = k + 1 := by rw [nv_len, List.length_reverse]; simp [HE3.out]
                  have ho3 : W3.ownsRow w.heap.size 3 1 (.slice (some ⟨b2, off2, none⟩) (k + 1) c2) (nv (x :: rest).reverse).length (iv (nv (x :: rest).reverse)) := by
                    have := hS3.rows.own 1 (by omega); rw [HE1.out] at this; exact this
                  have hb9 := below_box W3 (.cells #[.int .i64 (y : Int)] 3)
                  obtain ⟨u9, w9, hr9, ha9⟩ := run_app (ty := 26) (w := W3.alloc (.cells #[.int .i64 (y : Int)] 3)) Try.underlying26 info_int rfl (by decide) (by decide) (own_below ho3 hb9) (Blk.new W3 3 #[.int .i64 (y : Int)]) (m := 1) rfl (fun u hu => by simp at hu; subst hu; rfl) (by omega) (Nat.le_trans hS3.b.size hb9.size)
                  have ha9' : AppRes (W3.alloc (.cells #[.int .i64 (y : Int)] 3)) w9 w.heap.size 3 1 (v' 1) u9 (nv (x :: rest).reverse ++ [(y : Int)]).length (iv (nv (x :: rest).reverse ++ [(y : Int)])) := by
                    rw [HE1.out, List.length_append, iv_app]; exact ha9
                  have hS9 := hS3.way_ hb9 ha9'
                  obtain ⟨d9, f9⟩ := hS9.beenA.at_ hton
                  obtain ⟨a9, c9, e9⟩ := own_shape ha9.1
                  rw [hlen3] at e9
                  have HN : Hid (Und p n w gb gg (.slice ak nk ck) D b left (y :: x :: rest) (put1 been' y true) (put1 gone' x (gone' x + 1)) (put1 v' 1 u9) (w9.setCell ⟨gb, y, none⟩ (.bool true))) := Lib.hid ⟨hS9.been_ hton, HU2.out.2.come HTO.out hbt hton⟩
                  have HR9 := Lib.hid hr9
                  rw [e9] at HR9 HN
                  clear hbt HS3 HU2 hS3 hlen3 ho3 hb9 ha9 ha9' hS9 e9 hr9
                  go_wp2_with (at_builtin; refine wpList_run rfl _ _ rfl rfl rfl HR9.out ?_)
                  go_roundw
                  case rel => exact ⟨_, _, _, _, _, _, rfl, rfl, Lib.hid ⟨left, y :: x :: rest, _, _, put1 v' 1 (.slice a9 (k + 1 + 1) c9), HE0.out, rfl, HE2.out, by show rest.length + 1 + 1 = _; rw [HE3.out], HN.out⟩⟩
                  case measure => rw [HN.out.1.goneIn_ p, HMS.out]; have := HST.out; simp only [lenIn]; omega
      · obtain rfl : i = m := by omega
        have FIN : Hid (WalkRes p n beg w (.returned (.slice ak nk ck)) wr) := Lib.hid (by
          obtain ⟨D, been, gone, v, h1, _, h3, h4, h5, _⟩ := HK.out
          refine ⟨_, D, been, gone, rfl, h1.read, h3, h4, fun x hx => h5 x ?_, h1.b⟩
          rw [List.take_of_length_le (by rw [HM.out]; exact Nat.le_refl _)]; exact hx)
        clear HK
        go_wp2
        go_ret
        exact FIN.out
end Go.Proofs.Ythodggkpkjfggaa.Knot
