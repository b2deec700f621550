/- The document's own net: Clear. -/
import Derived.Test.YtjlmmglhgmfgiaaMistRef1
import Derived.Test.YtjlmmglhgmfgiaaMistClear
namespace Go.Proofs.Ytjlmmglhgmfgiaa.Mist
set_option maxRecDepth 100000
open Go.RowKit
open Go.Proofs.Ytjlmmglhgmfgiaa.Mem Go.Proofs.Ytjlmmglhgmfgiaa.CordG
def UClearRes (p : Nat) (M : Nat → Prop) (L : List Gr) (c : Int) (w : World) (e : Ending) (w' : World) : Prop := e = .returned (.int .i64 (clearN L c)) ∧ PQ 29 w' p M (L.filter (notC c)) ∧ Keep M w w'
theorem fil_yes {L : List Gr} {i : Nat} {x : Gr} {c : Int} (h : L[i]? = some x) (hc : (x.cl != c) = true) : (L.take (i + 1)).filter (notC c) = (L.take i).filter (notC c) ++ [x] := by
  rw [List.take_add_one, h, List.filter_append]
  congr 1
  simp [notC] at hc ⊢
  exact hc
theorem fil_no {L : List Gr} {i : Nat} {x : Gr} {c : Int} (h : L[i]? = some x) (hc : (x.cl != c) = false) : (L.take (i + 1)).filter (notC c) = (L.take i).filter (notC c) := by
  rw [List.take_add_one, h, List.filter_append]
  simp [notC] at hc ⊢
  exact hc
theorem fil_len (L : List Gr) (i : Nat) (c : Int) : ((L.take i).filter (notC c)).length ≤ L.length :=
  Nat.le_trans (List.length_filter_le _ _) (by rw [List.length_take]; omega)
set_option maxRecDepth 100000 in
set_option maxHeartbeats 4000000 in
theorem uclear_any (p : Nat) (M : Nat → Prop) (L : List Gr) (c : Int) (w : World) (h : PQ 29 w p M L) (hlen : L.length ≤ 30000) :
    Calls Try.prog 18 #[.pointer (some ⟨p, 0, none⟩), .int .i64 c] w (UClearRes p M L c w) := by
  obtain ⟨v, h⟩ := h
  have H := Lib.hid h
  have hb := below_box w (.cells #[] 31)
  have HO0 : Hid ((w.alloc (.cells #[] 31)).ownsRow w.heap.size 31 6 (.slice (some ⟨w.heap.size, 0, none⟩) 0 0) ([] : List Gr).length (gramsV [])) := Lib.hid (own_new w _ 6)
  have HB0 := Lib.hid hb
  obtain ⟨a, cv, rfl⟩ := own_shape h.own
  have hcn : clearN L c = (L.length : Int) - ((L.filter (notC c)).length : Int) := rfl
  have HCN := Lib.hid hcn
  have FINR : Hid (∀ W v5, Below w.heap.size w W → W.ownsRow w.heap.size 31 6 v5 (L.filter (notC c)).length (gramsV (L.filter (notC c))) → W.cell? ⟨p, 0, none⟩ = some (.slice a L.length cv) ∧ W.frozen? ⟨p, 0, none⟩ = false ∧ PQ 29 (W.setCell ⟨p, 0, none⟩ v5) p M (L.filter (notC c)) ∧ Keep M w (W.setCell ⟨p, 0, none⟩ v5)) := Lib.hid fun W v5 hb ho => by
    obtain ⟨h1, h2, h3, h4⟩ := H.out.anew hb ho
    exact ⟨h1, h2, ⟨_, h3⟩, h4⟩
  clear h hb hcn
  go_enter Try.func18, Try.ntmps18
  go_wp2_with fail
  go_loopw [5, 6] (fun ta ti wr => ∃ (j m : Nat) (ao : Option Addr) (co : Nat), j ≤ L.length ∧ m ≤ L.length ∧ ta = .slice ao m co ∧ ti = .int .i64 (j : Int) ∧ Hid (((L.take j).filter (notC c)).length = m ∧ Below w.heap.size w wr ∧ wr.ownsRow w.heap.size 31 6 (.slice ao m co) ((L.take j).filter (notC c)).length (gramsV ((L.take j).filter (notC c))))) (fun _ ti _ => L.length - (intOf ti).toNat)
  case atStart => exact ⟨0, 0, _, _, Nat.zero_le _, Nat.zero_le _, rfl, rfl, Lib.hid ⟨rfl, HB0.out, HO0.out⟩⟩
  case round =>
    obtain ⟨j, m, ao, co, hj, hm, rfl, rfl, HS⟩ := hrel
    clear HO0 HB0
    have hAj : PA 29 wr p (.slice a L.length cv) (fun _ => False) L := (H.out.mono (M' := fun _ => False) (fun _ h => h.elim)).step HS.out.2.1.size (fun k hk _ => HS.out.2.1.block k hk) (fun _ h => .inl h)
    have p0 := hAj.blk.cell 0
    by_cases hlt : j < L.length
    · have hx : L[j]? = some L[j] := List.getElem?_eq_getElem hlt
      generalize L[j] = x at hx
      obtain ⟨g, c9, hv, hc9, _, hg, c0, c1, c2, c3, c4, c5⟩ := hAj.rowat hx
      injection hv with hv1 hv2 hv3
      subst hv1; subst hv3
      clear hAj hv2
      by_cases hc : (x.cl != c) = true
      · have HF := Lib.hid (fil_yes hx hc)
        have HJ := Lib.hid (fil_len L (j + 1) c)
        have FIN5 : Hid (∀ v5 w5, w5.ownsRow w.heap.size 31 6 v5 ((L.take j).filter (notC c) ++ [x]).length (gramsV ((L.take j).filter (notC c) ++ [x])) → (wr.alloc (.cells (gv x) 31)).grownBy w5 (Value.slice ao m co).ownBlock →
            (∃ a5 c5, v5 = .slice a5 (m + 1) c5) ∧ m + 1 ≤ L.length ∧ ((L.take (j + 1)).filter (notC c)).length = m + 1 ∧ Below w.heap.size w w5 ∧ w5.ownsRow w.heap.size 31 6 v5 ((L.take (j + 1)).filter (notC c)).length (gramsV ((L.take (j + 1)).filter (notC c)))) := Lib.hid fun v5 w5 ho hg => by
          obtain ⟨hl, hb, ho0⟩ := HS.out
          rw [HF.out]
          have hl2 : ((L.take j).filter (notC c) ++ [x]).length = m + 1 := by rw [List.length_append, hl]; rfl
          obtain ⟨a5, c5, e5⟩ := own_shape ho
          have hJ := HJ.out
          rw [HF.out, hl2] at hJ
          rw [hl2] at e5
          exact ⟨⟨a5, c5, e5⟩, hJ, hl2, (hb.alloc hb.size _).grown hg (Nat.le_trans hb.size (by simp)) (fun q e => own_ge ho0 q e), ho⟩
        have hx' := x
        obtain ⟨xcl, xup, xep, xsq, xak, xbd⟩ := x
        dsimp only [gv] at FIN5 c0 c1 c2 c3 c4 c5 hc
        have HL := Lib.hid (show ((L.take j).filter (notC c)).length ≤ 30000 from Nat.le_trans (fil_len L j c) hlen)
        have HO : Hid (wr.ownsRow w.heap.size 31 6 (.slice ao m co) ((L.take j).filter (notC c)).length (gramsV ((L.take j).filter (notC c)))) := Lib.hid HS.out.2.2
        have HZ := Lib.hid HS.out.2.1.size
        clear HF HJ HS hx
        go_wp2_with (at_builtin; go_loud (refine wpList_app rfl _ _ rfl w.heap.size _ ((L.take j).filter (notC c)) rfl (Mem.own_below HO.out (below_box _ _)) wr.heap.size ⟨xcl, xup, xep, xsq, xak, xbd⟩ rfl (Blk.new wr _ _) HL.out (Nat.le_trans HZ.out (by simp)) ?_; intro v5 w5 ho5 hg5 _; have HE5 := Lib.hid (FIN5.out v5 w5 ho5 hg5); obtain ⟨a5, c5', e5⟩ := HE5.out.1; subst e5; clear ho5 hg5))
        go_roundw
        case rel => exact ⟨j + 1, m + 1, _, _, by omega, HE5.out.2.1, rfl, by go_num, Lib.hid HE5.out.2.2⟩
        case measure => simp [intOf]; omega
      · have hc : (x.cl != c) = false := by simpa using hc
        have HE5 : Hid (((L.take (j + 1)).filter (notC c)).length = m ∧ Below w.heap.size w wr ∧ wr.ownsRow w.heap.size 31 6 (.slice ao m co) ((L.take (j + 1)).filter (notC c)).length (gramsV ((L.take (j + 1)).filter (notC c)))) := Lib.hid (by rw [fil_no hx hc]; exact HS.out)
        clear HS hx c1 c2 c3 c4 c5
        go_wp2
        go_roundw
        case rel => exact ⟨j + 1, m, _, _, by omega, by omega, rfl, by go_num, HE5⟩
        case measure => simp [intOf]; omega
    · obtain rfl : j = L.length := by omega
      have hHS := HS.out
      rw [List.take_of_length_le (Nat.le_refl _)] at hHS
      obtain ⟨hl, hb, ho⟩ := hHS
      obtain ⟨h1, h2, h3, h4⟩ := FINR.out wr _ hb ho
      have HCE : Hid (clearN L c = (L.length : Int) - (m : Int)) := Lib.hid (by rw [HCN.out, hl])
      have HE := Lib.hid (And.intro h3 h4)
      have hwn : IntKind.i64.wrap ((L.length : Int) - (m : Int)) = (L.length : Int) - (m : Int) := by rw [IntKind.wrap_i64]; omega
      clear hl hb ho h3 h4 HS hAj
      go_wp2
      go_ret
      exact ⟨by rw [HCE.out]; rfl, HE.out⟩
end Go.Proofs.Ytjlmmglhgmfgiaa.Mist
