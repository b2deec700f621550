/- Going over all that is under way: Clone, Values, All. -/
import Derived.Test.YtjlmmglhgmfgiaaMistTwo
import Derived.Maps.AppendAt
namespace Go.Proofs.Ytjlmmglhgmfgiaa.Mist
set_option maxRecDepth 100000
open Go.RowKit Go.Shelf
open Go.Proofs.Ytjlmmglhgmfgiaa.Mem Go.Proofs.Ytjlmmglhgmfgiaa.CordG
attribute [local go_sem] Oper.semAt_some
theorem abides_below {β : Type} {B : Nat} {J : β → World → Prop} (h : AbidesFrom B J) {s : β} {W W' : World} (hb : Below W.heap.size W W') (hs : J s W) : J s W' :=
  h s W W' none hs ⟨hb.os, hb.tape, hb.output, hb.size, fun k hk _ => hb.block k hk⟩ (fun _ e => by cases e)
/-- a row handed back in new memory -/
def CloneRes (L : List Gr) (w : World) (e : Ending) (w' : World) : Prop :=
  ∃ v, e = .returned v ∧ w'.ownsRow w.heap.size 31 6 v L.length (gramsV L) ∧ Below w.heap.size w w'
set_option maxRecDepth 100000 in
set_option maxHeartbeats 1000000 in
theorem clone_any (v : Value) (L : List Gr) (w : World) (h : Src w v L) (hn : L.length ≤ 1000000) :
    Calls Try.prog 32 #[v] w (CloneRes L w) := by
  have q22 : ∀ (w : World) (a : Option Addr) (n c n' c' : Nat), (binOp .eql 27 (.slice a n c) (.slice none n' c')).run Try.prog w = .ok (.bool a.isNone) w := fun w a n c n' c' => Lib.run_eql_slice_nil w _ _ a n c n' c' Try.underlying27
  obtain ⟨i0, hi0, hz0, hz1, hz2⟩ := info_parts info_gram
  rcases h with ⟨rfl, rfl⟩ | ⟨g, c, cur, rfl, hg, ht⟩
  · go_enter Try.func32, Try.ntmps32
    go_wp2
    go_ret
    exact ⟨_, rfl, own_nil _ _ _ _, Below.refl _ _⟩
  · have hb0 := below_box w (.cells #[] 31)
    have hnews : ∀ j u, (gramsV L)[j]? = some u → (w.alloc (.cells #[] 31)).cell? ((⟨g, 0, none⟩ : Addr).add j) = some u := fun j u hj => by
      have hj2 : j < L.length * 6 := by rw [← grams_len]; exact (List.getElem?_eq_some_iff.1 hj).1
      rw [Addr.add_lit, Nat.zero_add, hb0.cell (p := ⟨g, j, none⟩) hg.lt, hg.cell, ← Array.getElem?_toList, ← List.getElem?_take_of_lt hj2, ht]
      exact hj
    have HW := Lib.hid hnews
    clear hg ht hnews hb0
    go_enter Try.func32, Try.ntmps32
    go_wp2_with (at_builtin; refine wpList_append_own_at _ rfl _ _ 27 rfl w.heap.size 31 i0 (.agg #[.int .i64 0, .bool false, .int .i64 0, .int .i64 0, .int .i64 0, .string .empty]) 6 56 Try.underlying27 hi0 hz0 hz1 hz2 rfl (by decide) _ 0 [] rfl (own_new w _ 6) ⟨g, 0, none⟩ L.length c (gramsV L) rfl (grams_len L) HW.out (grams_cell L) ?c3 ?c4 ?c5 ?_)
    case c3 => unfold maxLen; omega
    case c4 => omega
    case c5 => simp
    intro v' w1 hown hgr _ hat
    have hb : Below w.heap.size w w1 := ((Below.refl w.heap.size w).alloc (Nat.le_refl _) (.cells #[] 31)).grown hgr (by simp) (fun k e => by simp [Value.ownBlock] at e; omega)
    have HO := Lib.hid hown
    have HB := Lib.hid hb
    clear hown hgr hat hb
    go_wp2
    go_ret
    exact ⟨_, rfl, by simpa using HO.out, HB.out⟩
def encG (x : Gr) : Array Value := #[.agg #[.int .i64 x.cl, .bool x.up, .int .i64 x.ep, .int .i64 x.sq, .int .i64 x.ak, .string x.bd]]
set_option maxHeartbeats 4000000 in
set_option maxRecDepth 100000 in
theorem vals1_in (n : Nat) (hn : 1 ≤ n) (l B1 b : Nat) (v : Value) (L : List Gr) (J Jx : List Gr → World → Prop) (W : World) (hs : Src W v L) (hvb : v.ownBlock ≠ some b) (hB : Blk W B1 27 #[v]) (hlen : L.length ≤ 1000000) (hJ : AbidesFrom W.heap.size J)
    (hY : ∀ pre x W1, J pre W1 → pre.length < L.length → YieldAt Fence.wide (n - 1) Try.prog l (encG x) W1 fun e W' =>
      (e = .returned (.bool true) ∧ J (pre ++ [x]) W' ∧ KeepN b W1 W') ∨ (e = .returned (.bool false) ∧ Jx (pre ++ [x]) W')) (h0 : J [] W) :
    CallsIn Fence.wide n Try.prog 39 #[.func (.yield l) #[] #[], .pointer (some ⟨B1, 0, none⟩)] W fun e W' => (∃ v, e = .returned v) ∧
      ((∃ ys, ys = L ∧ J ys W') ∨ (∃ pre, (∃ m, m ≤ L.length ∧ pre = L.take m) ∧ Jx pre W')) := by
  have p0 := hB.cell 0
  have HY := Lib.hid hY
  have HS := Lib.hid hs
  have HJ := Lib.hid hJ
  have J0 : Hid (J (L.take 0) W) := Lib.hid h0
  obtain ⟨a, cv, rfl⟩ := hs.shape
  clear hY hs hJ h0 hB
  refine callsIn_of_wp Try.func39 rfl trivial ?_ rfl
  simp only [Try.ntmps39, List.size_toArray, List.length_cons, List.length_nil, Nat.reduceAdd, Nat.reduceSub, Array.replicate_succ, Array.replicate_zero, List.push_toArray, List.append_toArray, List.nil_append, List.cons_append]
  gi_wp2
  gi_loopw [7] (fun i wr => ∃ k : Nat, k ≤ L.length ∧ i = .int .i64 (k : Int) ∧ Hid (J (L.take k) wr) ∧ Hid (KeepN b W wr)) (fun i _ => L.length - (intOf i).toNat)
  case atStart => exact ⟨0, Nat.zero_le _, rfl, J0, Lib.hid (keepN_below (Below.refl _ _))⟩
  case round =>
    obtain ⟨k, hk, rfl, hJs, HK⟩ := hrel
    clear J0
    by_cases hlt : k < L.length
    · have hx : L[k]? = some L[k] := List.getElem?_eq_getElem hlt
      have hTn := Lib.hid (show L.take k ++ [L[k]] = L.take (k + 1) from (List.take_succ_eq_append_getElem hlt).symm)
      obtain ⟨g, cap, hv, _, hg, c0, c1, c2, c3, c4, c5⟩ := (HS.out.keep HK.out hvb).at_ hx
      generalize L[k] = x at c0 c1 c2 c3 c4 c5 hTn
      injection hv with e1 e2 e3
      subst e1; subst e3
      have hJa := abides_alloc HJ.out (.cells #[.int .i64 x.cl, .bool x.up, .int .i64 x.ep, .int .i64 x.sq, .int .i64 x.ak, .string x.bd] 31) hJs.out
      have HKa := Lib.hid (keepN_t HK.out (keepN_below ((Below.refl _ _).alloc (Nat.le_refl _) (.cells #[.int .i64 x.cl, .bool x.up, .int .i64 x.ep, .int .i64 x.sq, .int .i64 x.ak, .string x.bd] 31))))
      obtain ⟨fn, tmps, assign, body, hy, hR⟩ := HY.out _ x _ hJa (by rw [List.length_take]; omega)
      simp only [encG] at hy
      clear hJs hx
      gi_wp2
      refine hR.mono ?_
      rintro e W3 (⟨rfl, hJ3, hk3⟩ | ⟨rfl, hJx3⟩)
      · have HJ3 := Lib.hid (show J (L.take (k + 1)) W3 by rw [← hTn.out]; exact hJ3)
        have HK3 := Lib.hid (keepN_t HKa.out hk3)
        clear hJ3 hk3 hJa
        gi_wp2
        go_roundw
        case rel => exact ⟨k + 1, by omega, by go_num, HJ3, HK3⟩
        case measure => simp [intOf]; omega
      · clear hJa
        gi_wp2
        refine bodyPost_ret (results_none rfl _ _ _) rfl ?_
        exact ⟨⟨_, rfl⟩, .inr ⟨_, ⟨k + 1, by omega, hTn.out⟩, hJx3⟩⟩
    · obtain rfl : k = L.length := by omega
      have hJe := hJs.out
      rw [List.take_length] at hJe
      gi_wp2
      go_end0
      exact ⟨⟨_, rfl⟩, .inl ⟨_, rfl, hJe⟩⟩
set_option maxRecDepth 100000 in
theorem vals_any (v : Value) (w : World) (a : Option Addr) (n c : Nat) (hv : v = .slice a n c) : Calls Try.prog 31 #[v] w fun e w' =>
    e = .returned (.func (.func 39) #[] #[.pointer (some ⟨w.heap.size, 0, none⟩)]) ∧ w' = w.alloc (.cells #[v] 27) := by
  subst hv
  have hmf := hmakef
  go_enter Try.func31, Try.ntmps31
  go_wp2
  go_ret
  exact ⟨rfl, rfl⟩
/-- what All hands back -/
def AllRes (p : Nat) (w : World) (e : Ending) (w' : World) : Prop := e = .returned (.func (.func 30) #[] #[.pointer (some ⟨w.heap.size, 0, none⟩)]) ∧ w' = w.alloc (.cells #[.pointer (some ⟨p, 0, none⟩)] 24)
set_option maxRecDepth 100000 in
theorem all_any (w : World) (p : Nat) : Calls Try.prog 21 #[.pointer (some ⟨p, 0, none⟩)] w (AllRes p w) := by
  have hmf := hmakef
  go_enter Try.func21, Try.ntmps21
  go_wp2
  go_ret
  exact ⟨rfl, rfl⟩
set_option maxHeartbeats 4000000 in
set_option maxRecDepth 100000 in
theorem nall1_in (n : Nat) (hn : 2 ≤ n) (l Bs b p : Nat) (v : Value) (L : List Gr) (J Jx : List Gr → World → Prop) (W : World) (h : NP W (some ⟨p, 0, none⟩) v L) (hb : b < W.heap.size) (hlen : L.length ≤ 1000000) (hJ : AbidesFrom W.heap.size J)
    (hY : ∀ pre x W1, J pre W1 → pre.length < L.length → YieldAt Fence.wide (n - 1) Try.prog l (encG x) W1 fun e W' =>
      (e = .returned (.bool true) ∧ J (pre ++ [x]) W' ∧ KeepN b W1 W') ∨ (e = .returned (.bool false) ∧ Jx (pre ++ [x]) W'))
    (hBs : W.cell? ⟨Bs, 0, none⟩ = some (.pointer (some ⟨p, 0, none⟩))) (h0 : J [] W) :
    CallsIn Fence.wide n Try.prog 30 #[.func (.yield l) #[] #[], .pointer (some ⟨Bs, 0, none⟩)] W fun e W' => (∃ v, e = .returned v) ∧
      ((∃ ys, ys = L ∧ J ys W') ∨ (∃ pre, (∃ m, m ≤ L.length ∧ pre = L.take m) ∧ Jx pre W')) := by
  have hn1 : 1 ≤ n := by omega
  have HY := Lib.hid hY
  have HL := Lib.hid (list_any _ v L W h)
  have HT := Lib.hid (clone_any v L W h.1 hlen)
  obtain ⟨av, cv, rfl⟩ := h.1.shape
  have HJ := Lib.hid hJ
  have J0 := Lib.hid h0
  clear hY h h0 hJ
  refine callsIn_of_wp Try.func30 rfl trivial ?_ rfl
  simp only [Try.ntmps30, List.size_toArray, List.length_cons, List.length_nil, Nat.reduceAdd, Nat.reduceSub, Array.replicate_succ, Array.replicate_zero, List.push_toArray, List.append_toArray, List.nil_append, List.cons_append]
  gi_wp2_with fail
  refine ⟨trivial, (callsIn_wide.2 HL.out).mono ?_⟩
  rintro e w1 ⟨rfl, rfl⟩
  gi_wp2_with fail
  refine ⟨trivial, (callsIn_wide.2 HT.out).mono ?_⟩
  rintro e w1 ⟨v1, rfl, hown, b1⟩
  have hne : v1.ownBlock ≠ some b := fun e => by have := own_ge hown b e; omega
  obtain ⟨a1, c1, rfl⟩ := own_shape hown
  have HS1 := Lib.hid ((src_own hown).below (below_box w1 (.cells #[.slice a1 L.length c1] 27)))
  have HN := Lib.hid hne
  have HB := Lib.hid (Blk.new w1 27 #[.slice a1 L.length c1])
  have HZ := Lib.hid b1.size
  have J2 := Lib.hid (abides_below HJ.out (b1.trans ((below_box w1 (.cells #[.slice a1 L.length c1] 27)).mono b1.size)) J0.out)
  clear hown hne b1 HT HL J0 hBs
  gi_wp2_with fail
  refine ⟨trivial, (callsIn_wide.2 (vals_any _ w1 a1 _ c1 rfl)).mono ?_⟩
  rintro e w2 ⟨rfl, rfl⟩
  gi_wp2_with fail
  refine ⟨trivial, (vals1_in (n - 1) (by omega) l w1.heap.size b _ L J Jx _ HS1.out HN.out HB.out hlen (fun s V V' row hs hg hr => HJ.out s V V' row hs hg (fun r e => ⟨Nat.le_trans HZ.out (Nat.le_trans (by simp) (hr r e).1), (hr r e).2⟩)) (fun pre x W1 hj hl => ?_) J2.out).mono ?_⟩
  · obtain ⟨fn, tmps, assign, body, hy, hR⟩ := HY.out pre x W1 hj hl
    exact ⟨fn, tmps, assign, body, hy, round_one hR⟩
  rintro e W3 ⟨⟨v3, rfl⟩, hE⟩
  have HE := Lib.hid hE
  clear hE
  gi_wp2
  go_end0
  exact ⟨⟨_, rfl⟩, HE.out⟩
theorem nall_stops (n : Nat) (hn : 2 ≤ n) (Bs b p : Nat) (v : Value) (L : List Gr) (w : World) (h : NP w (some ⟨p, 0, none⟩) v L) (hb : b < w.heap.size) (hlen : L.length ≤ 1000000) (hBs : w.cell? ⟨Bs, 0, none⟩ = some (.pointer (some ⟨p, 0, none⟩))) :
    SeqStopsK Fence.wide n Try.prog 30 #[.pointer (some ⟨Bs, 0, none⟩)] encG (KeepN b) (fun ys => ys = L) (fun pre => ∃ m, m ≤ L.length ∧ pre = L.take m) L.length w := fun l J Jx W hW hJ _ hY h0 =>
  nall1_in n hn l Bs b p v L J Jx W (h.below hW) (Nat.lt_of_lt_of_le hb hW.size) hlen hJ hY ((hW.cell (p := ⟨Bs, 0, none⟩) (World.block_lt_of_cell? _ _ hBs)).trans hBs) h0
end Go.Proofs.Ytjlmmglhgmfgiaa.Mist
