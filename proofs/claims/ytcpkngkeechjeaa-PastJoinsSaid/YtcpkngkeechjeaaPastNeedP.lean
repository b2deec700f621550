/- The program's Needed. -/
import Derived.Test.YtcpkngkeechjeaaPastReadP
import Derived.Test.YtcpkngkeechjeaaPastNeeded
import Derived.Maps.RangeWalk
namespace Go.Proofs.Ytcpkngkeechjeaa.Past
set_option maxRecDepth 100000
open Go.RowKit Go.Sort
open Go.Proofs.Ytcpkngkeechjeaa.Mem
open Go.Maps
open Go.Proofs.Ytcpkngkeechjeaa.Ent (Ent goodB Ents EntAt SmallE noE entA cellsE)
/-- the least place of those that have come and aren't at their end -/
def Nd (first : Int) (T : Tl) (ss : List T3) (N : Int) : Prop :=
  (N = 0 ∧ ∀ t ∈ ss, ∀ c, T.tx t = some c → c.fin = true) ∨
    (0 < N ∧ (∃ t ∈ ss, ∃ c, T.tx t = some c ∧ c.fin = false ∧ N = first + c.beg) ∧ ∀ t ∈ ss, ∀ c, T.tx t = some c → c.fin = false → N ≤ first + c.beg)
section
variable {L : List Ent} {T : Tl} {first : Int}
theorem beg_at (h : Tells L T) {t : T3} {c : Crs} (hc : T.tx t = some c) : ∃ i : Nat, c.beg = (i : Int) ∧ ∃ x, L[i]? = some x ∧ isT t x = true ∧ ∀ j y, L[j]? = some y → isT t y = true → i ≤ j := by
  have h1 := (h.yes t c hc).1
  cases e : L.findIdx? (isT t) with
  | none => rw [e] at h1; cases h1
  | some i =>
    rw [e] at h1
    injection h1 with hk
    rw [List.findIdx?_eq_some_iff_getElem] at e
    obtain ⟨hl, hp, hb⟩ := e
    refine ⟨i, hk.symm, L[i], List.getElem?_eq_getElem hl, hp, fun j y hy ht => ?_⟩
    obtain ⟨hj, rfl⟩ := List.getElem?_eq_some_iff.1 hy
    rcases Nat.lt_or_ge j i with h2 | h2
    · exact absurd ht (hb j h2)
    · exact h2
theorem isT_parts {t : T3} {x : Ent} (h : isT t x = true) : goodB x = true ∧ txE x = t := by
  unfold isT at h
  simpa using h
theorem needed_is (h : Tells L T) {ss : List T3} (hm : ∀ t, t ∈ ss ↔ T.tx t ≠ none) {N : Int} (hN : Nd first T ss N) : N = needO first (needI L) := by
  have key : ∀ {j : Nat} {y : Ent}, L[j]? = some y → needB L y = true → ∃ c, T.tx (txE y) = some c ∧ c.fin = false ∧ c.beg ≤ j := by
    intro j y hy hb
    unfold needB at hb
    rw [Bool.and_eq_true] at hb
    have hmem := mem_of.2 ⟨List.mem_of_getElem? hy, hb.1, rfl⟩
    cases e : T.tx (txE y) with
    | none => have := h.no _ e; rw [this] at hmem; cases hmem
    | some c =>
      have h3 := (h.yes _ c e).2.2.1
      rw [h3] at hb
      obtain ⟨i, hi, _, _, _, hmin⟩ := beg_at h e
      refine ⟨c, rfl, by simpa using hb.2, ?_⟩
      have := hmin j y hy (by unfold isT; simp [hb.1])
      rw [hi]; omega
  rcases hN with ⟨rfl, hall⟩ | ⟨_, ⟨t, ht, c, hc, hf, rfl⟩, hmin⟩
  · have : needI L = none := by
      refine need_no (k := L.length) (fun x hx => ?_) (Nat.le_refl _)
      rw [List.take_length] at hx
      obtain ⟨j, hj, rfl⟩ := List.getElem_of_mem hx
      cases hb : needB L L[j] with
      | false => rfl
      | true =>
        obtain ⟨c, h1, h2, _⟩ := key (List.getElem?_eq_getElem hj) hb
        have := hall _ ((hm _).2 (by rw [h1]; simp)) c h1
        rw [h2] at this; cases this
    rw [this]; rfl
  · obtain ⟨i, hi, x, hx, hxt, _⟩ := beg_at h hc
    obtain ⟨hg, rfl⟩ := isT_parts hxt
    have : needI L = some i := by
      refine need_at (fun y hy => ?_) hx ?_
      · obtain ⟨j, hj, hjy⟩ := List.mem_take_iff_getElem.1 hy
        have hy2 : L[j]? = some y := by rw [← hjy]; exact List.getElem?_eq_getElem (by omega)
        cases hb : needB L y with
        | false => rfl
        | true =>
          obtain ⟨c', h1, h2, h3⟩ := key hy2 hb
          have := hmin _ ((hm _).2 (by rw [h1]; simp)) c' h1 h2
          omega
      · unfold needB
        rw [hg, (h.yes _ c hc).2.2.1, hf]; rfl
    rw [this, hi]; rfl
theorem nd_start : Nd first T [] 0 := .inl ⟨rfl, fun _ h => nomatch h⟩
theorem nd_old {ss : List T3} {t : T3} {c : Crs} {N : Int} (h : Nd first T ss N) (hc : T.tx t = some c) (ho : c.fin = true ∨ (N ≠ 0 ∧ N ≤ first + c.beg)) : Nd first T (ss ++ [t]) N := by
  have hmem : ∀ u ∈ ss ++ [t], u ∈ ss ∨ u = t := fun u hu => by
    rcases List.mem_append.1 hu with h | h
    · exact .inl h
    · exact .inr (by simpa using h)
  rcases h with ⟨rfl, h1⟩ | ⟨h0, ⟨u, hu, cu, h2⟩, h3⟩
  · rcases ho with hf | ⟨hz, _⟩
    · refine .inl ⟨rfl, fun u hu cu hcu => ?_⟩
      rcases hmem u hu with hu | rfl
      · exact h1 u hu cu hcu
      · rw [hc] at hcu; injection hcu with hcu; rw [← hcu]; exact hf
    · exact absurd rfl hz
  · refine .inr ⟨h0, ⟨u, List.mem_append_left _ hu, cu, h2⟩, fun v hv cv hcv hf => ?_⟩
    rcases hmem v hv with hv | rfl
    · exact h3 v hv cv hcv hf
    · rw [hc] at hcv; injection hcv with hcv; subst hcv
      rcases ho with h4 | ⟨_, h4⟩
      · rw [h4] at hf; cases hf
      · exact h4
theorem nd_new {ss : List T3} {t : T3} {c : Crs} {N : Int} (h : Nd first T ss N) (hc : T.tx t = some c) (hf : c.fin = false) (hp : 0 < first + c.beg) (ho : N = 0 ∨ first + c.beg < N) : Nd first T (ss ++ [t]) (first + c.beg) := by
  refine .inr ⟨hp, ⟨t, by simp, c, hc, hf, rfl⟩, fun u hu cu hcu hfu => ?_⟩
  rcases List.mem_append.1 hu with hu | hu
  · rcases h with ⟨rfl, h1⟩ | ⟨h0, _, h3⟩
    · have := h1 u hu cu hcu; rw [hfu] at this; cases this
    · have := h3 u hu cu hcu hfu
      rcases ho with h4 | h4 <;> omega
  · rw [List.mem_singleton] at hu
    subst hu
    rw [hc] at hcu; injection hcu with hcu; rw [← hcu]; exact Int.le_refl _
theorem nd_bound {ss : List T3} {N : Int} (h : Nd first T ss N) (hT : Tells L T) (hf : 0 ≤ first) : 0 ≤ N ∧ N ≤ first + L.length := by
  rcases h with ⟨rfl, _⟩ | ⟨_, ⟨t, _, c, hc, _, rfl⟩, _⟩
  · omega
  · have := beg_bound hT hc; omega
end
set_option maxRecDepth 100000 in
set_option maxHeartbeats 8000000 in
theorem needed_any (a : Option Addr) (n c : Nat) (L : List Ent) (first : Int) (w : World) (h : Ents w a n L) (hn : n ≤ 100000) :
    Calls Try.prog 15 #[.slice a n c, .int .i64 first] w fun e w' => e = .returned (.int .i64 (needV L first)) ∧ Below w.heap.size w w' := by
  have hLn : L.length ≤ 100000 := by rw [h.1]; exact hn
  have HN := Lib.hid (fun W => numbers_any first W)
  have HT := Lib.hid (tell_any a n c L w h hn)
  clear h
  rw [needV_is]
  cases hok : okFirst first with
  | false =>
    rw [if_neg (by simp)]
    rw [hok] at HN
    clear hok HT
    go_enter Try.func15, Try.ntmps15
    go_wp2_with fail
    refine (HN.out _).mono ?_
    rintro e w1 ⟨rfl, rfl⟩
    go_wp2
    go_ret
    exact ⟨rfl, Below.refl _ _⟩
  | true =>
    rw [if_pos rfl]
    have hf : 1 ≤ first ∧ first ≤ 1099511627776 := by unfold okFirst at hok; simpa using hok
    obtain ⟨f1, f2⟩ := hf
    rw [hok] at HN
    clear hok
    obtain ⟨R, hR⟩ : ∃ R : Int, R = needO first (needI L) := ⟨_, rfl⟩
    rw [← hR]
    have HRR := Lib.hid hR
    clear hR
    go_enter Try.func15, Try.ntmps15
    go_wp2_with fail
    refine (HN.out _).mono ?_
    rintro e w1 ⟨rfl, rfl⟩
    go_wp2_with fail
    refine HT.out.mono ?_
    rintro e w2 ⟨g, m1, m2, dv, T, rfl, ta, te, b2⟩
    obtain ⟨da, dc, rfl⟩ := own_shape ta.row
    have hfld : ∀ W : World, (Instr.field 56 (.agg #[.map (some m1), .map (some m2), .slice da T.dn.length dc]) 0).run Try.prog W = .ok (.map (some m1)) W := fun W => by kernel_rfl
    have HTE := Lib.hid te
    have HB2 := Lib.hid b2
    have HBM := Lib.hid (show w1.heap.size ≤ m1 from ta.h1)
    obtain ⟨D, hown, hD, hdom⟩ := ta.mt
    have HD := Lib.hid hD
    have HDM := Lib.hid hdom
    clear te b2 HT HN ta hD hdom
    go_wp2_with (first
      | (at_range; refine wpList_range_own _ rfl _ 53 rfl 24 63 lawT Try.underlying53 RVT m1 (2 * L.length) D rfl hown ?_; intro w0 hrg0 hg0 hs0)
      | fail)
    try go_frame
    have HS0 := Lib.hid hs0
    clear hs0
    go_loopw [5] (fun v wr => ∃ (left : Lit → Bool) (cnt : Nat) (ss : List T3) (N : Int), v = .int .i64 N ∧ wr.ranges Try.prog 24 RVT m1 w2.heap.size (2 * L.length) D left cnt ∧ Hid (Below w1.heap.size w1 wr) ∧ Hid (Come D left ss ∧ Nd first T ss N))
      (fun _ wr => wr.rangeLeft m1 w2.heap.size)
    case atStart =>
      exact ⟨_, _, [], 0, rfl, hrg0, Lib.hid ((HB2.out).grown hg0 HB2.out.size (fun j hj => by cases hj)), Lib.hid ⟨come_start D, nd_start⟩⟩
    case round =>
      obtain ⟨left, cnt, ss, N, rfl, hrg, HB, HC⟩ := hrel
      clear hrg0 hg0 HS0
      go_wp2_with (first
        | (at_next; refine wpList_next_ranges _ rfl _ rfl 24 lawT RVT (fun t : T3 => .agg #[.int .i64 t.cl, .int .i64 t.ep, .int .i64 t.n]) id (fun key kl hk => by obtain ⟨x, hx, _⟩ := keyT_inv hk; exact ⟨x, hx⟩) (fun v _ _ => ⟨v, rfl⟩) m1 w2.heap.size (2 * L.length) _ _ _ rfl hrg ?_ ?_)
        | fail)
      · intro hc0 hl0
        have HF := Lib.hid (show N = R from by
          rw [HRR.out]
          refine needed_is HTE.out (fun t => ?_) HC.out.2
          constructor
          · intro ht
            have hs := HC.out.1.2.1 t ht
            have h1 := ((HC.out.1.2.2 t hs).1 ht).1
            have h2 := (HD.out t hs).1
            rw [h1] at h2
            intro e
            rw [e] at h2
            cases h2
          · intro ht
            have hs := HDM.out t (by rw [Ne, Option.map_eq_none_iff]; exact ht)
            refine (HC.out.1.2.2 t hs).2 ⟨?_, hl0 _⟩
            rw [(HD.out t hs).1]
            cases e : T.tx t with
            | none => exact absurd e ht
            | some c => rfl)
        clear hrg HC HD HDM hl0 hc0
        go_wp2
        go_ret
        exact ⟨by rw [← HF.out]; rfl, HB.out⟩
      · intro x v kl yd yp w3 cnt2 hkey hlk hv hat hrg2 hlt hg2 hs2 hen
        obtain ⟨x', ex, hsm, rfl⟩ := keyT_inv hkey
        obtain rfl : x = x' := by injection ex with ex; simp at ex; exact t3_eq.2 ex
        have hC2 := come_step HC.out.1 hsm hlk hat
        obtain ⟨cr, hcr, rfl⟩ : ∃ cr, T.tx x = some cr ∧ v = crsV cr := by
          have h1 := HD.out x hsm
          have h2 : has D (litT x) = true := has_true_of_atKey hat
          rw [h2] at h1
          cases hf : T.tx x with
          | none => rw [hf] at h1; cases h1.1
          | some u =>
            have := h1.2 (crsV u) (by rw [hf]; rfl) .nil
            rw [hat] at this
            unfold RVT at hv
            injection hv with hv
            injection hv with hv _
            rw [← hv] at this
            injection this with this
            exact ⟨u, rfl, this⟩
        have HB3 := Lib.hid (HB.out.grown hg2 HB.out.size (fun j hj => by cases hj; exact HB2.out.size))
        have hbb := beg_bound HTE.out hcr
        have HCR := Lib.hid hcr
        have hnb := nd_bound HC.out.2 HTE.out (by omega)
        have HND := Lib.hid HC.out.2
        have HC2 := Lib.hid hC2
        have HLT := Lib.hid hlt
        obtain ⟨cb, cl, cm, cf⟩ := cr
        dsimp only at hbb
        have hw1 : IntKind.i64.wrap (first + cb) = first + cb := by rw [IntKind.wrap_i64]; omega
        have hrg3 := hrg2.alloc (.cells #[.int .i64 cb, .int .i64 cl, .bool cm, .bool cf] 63)
        have HRG := Lib.hid hrg3
        have HB4 := Lib.hid (HB3.out.trans ((Ent.below_box w3 (.cells #[.int .i64 cb, .int .i64 cl, .bool cm, .bool cf] 63)).mono HB3.out.size))
        have hq := Blk.new w3 63 #[.int .i64 cb, .int .i64 cl, .bool cm, .bool cf]
        have q0 := hq.cell 0
        have q3 := hq.cell 3
        have HRL := Lib.hid (show wr.rangeLeft m1 w2.heap.size = cnt from hrg.left_eq)
        clear hcr hC2 hlt hrg3 hq hkey hlk hat hv HC hs2 HB3 hrg2
        simp only [crsV] at hen ⊢
        cases cf with
        | true =>
          have H2 := Lib.hid (show Come D (fun z => left z && !z.sameKey (litT x)) (ss ++ [x]) ∧ Nd first T (ss ++ [x]) (N) from ⟨HC2.out, nd_old HND.out HCR.out (.inl rfl)⟩)
          clear HND HC2 HCR
          go_wp2
          have hrg4 := HRG.out
          go_roundw
          case rel => exact ⟨_, cnt2, ss ++ [x], _, by first | rfl | go_num, hrg4, HB4, H2⟩
          case measure => rw [hrg4.left_eq, HRL.out]; exact HLT.out
        | false =>
          by_cases h0 : N = 0
          · have e0 : (N == 0) = true := by simp [h0]
            have hnn := nd_new HND.out HCR.out rfl (by dsimp only; omega) (.inl h0)
            have HNN := Lib.hid hnn
            clear hnn h0 hnb
            have H2 := Lib.hid (show Come D (fun z => left z && !z.sameKey (litT x)) (ss ++ [x]) ∧ Nd first T (ss ++ [x]) (first + cb) from ⟨HC2.out, HNN.out⟩)
            clear HND HC2 HCR
            go_wp2
            have hrg4 := HRG.out
            go_roundw
            case rel => exact ⟨_, cnt2, ss ++ [x], _, by first | rfl | go_num, hrg4, HB4, H2⟩
            case measure => rw [hrg4.left_eq, HRL.out]; exact HLT.out
          · have e0 : (N == 0) = false := by simp [h0]
            by_cases h1 : first + cb < N
            · have e1 : decide (first + cb < N) = true := decide_eq_true h1
              have hnn := nd_new HND.out HCR.out rfl (by dsimp only; omega) (.inr h1)
              have HNN := Lib.hid hnn
              clear hnn h0 h1 hnb
              have H2 := Lib.hid (show Come D (fun z => left z && !z.sameKey (litT x)) (ss ++ [x]) ∧ Nd first T (ss ++ [x]) (first + cb) from ⟨HC2.out, HNN.out⟩)
              clear HND HC2 HCR
              go_wp2
              have hrg4 := HRG.out
              go_roundw
              case rel => exact ⟨_, cnt2, ss ++ [x], _, by first | rfl | go_num, hrg4, HB4, H2⟩
              case measure => rw [hrg4.left_eq, HRL.out]; exact HLT.out
            · have e1 : decide (first + cb < N) = false := decide_eq_false h1
              have hnn := nd_old HND.out HCR.out (.inr ⟨h0, by dsimp only; omega⟩)
              have HNN := Lib.hid hnn
              clear hnn h0 h1 hnb
              have H2 := Lib.hid (show Come D (fun z => left z && !z.sameKey (litT x)) (ss ++ [x]) ∧ Nd first T (ss ++ [x]) (N) from ⟨HC2.out, HNN.out⟩)
              clear HND HC2 HCR
              go_wp2
              have hrg4 := HRG.out
              go_roundw
              case rel => exact ⟨_, cnt2, ss ++ [x], _, by first | rfl | go_num, hrg4, HB4, H2⟩
              case measure => rw [hrg4.left_eq, HRL.out]; exact HLT.out
end Go.Proofs.Ytcpkngkeechjeaa.Past
