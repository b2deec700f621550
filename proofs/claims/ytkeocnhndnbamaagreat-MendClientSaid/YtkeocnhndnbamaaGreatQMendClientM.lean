/- Pages as they are now, as leaves; what undoing one client's gives. -/
import Derived.Test.YtkeocnhndnbamaaGreatQBook31
namespace Go.Proofs.YtkeocnhndnbamaaGreat.Mend
set_option maxRecDepth 100000
open Go.RowKit
open Go.Proofs.YtkeocnhndnbamaaGreat.Slab (Slot Slots atL)
open Go.Proofs.YtkeocnhndnbamaaGreat.Ent (Ent goodB longB)
open Go.Proofs.YtkeocnhndnbamaaGreat.Past (T3 txE)
open Go.Proofs.YtkeocnhndnbamaaGreat.MLog
def nowL (nw : Pgs) : List Lf := (List.range 4).map fun n : Nat => ⟨(n : Int), (nw n).1, (nw n).2⟩
theorem nowL_at (nw : Pgs) {n : Nat} (hn : n < 4) : (nowL nw)[n]? = some ⟨(n : Int), (nw n).1, (nw n).2⟩ := by
  unfold nowL
  rw [List.getElem?_map, List.getElem?_range hn]; rfl
theorem nowL_len (nw : Pgs) : (nowL nw).length = 4 := by unfold nowL; simp
theorem now_leaves {M : Nat → Prop} {w : World} {v : Value} {nw : Pgs} (h : NowR M w v nw) : ∃ g c, v = .slice (some ⟨g, 0, none⟩) 4 c ∧ M g ∧ LeavesI w (some ⟨g, 0, none⟩) 4 (nowL nw) := by
  obtain ⟨g, c, e, hm, hlt, hc⟩ := h
  refine ⟨g, c, e, hm, nowL_len nw, fun x hx => ?_, fun _ => ⟨g, 0, rfl, hlt, fun i hi => ?_⟩⟩
  · unfold nowL at hx
    obtain ⟨n, hn, rfl⟩ := List.mem_map.1 hx
    have := List.mem_range.1 hn
    show -9223372036854775808 ≤ (n : Int) ∧ (n : Int) ≤ 9223372036854775807
    omega
  · obtain ⟨a, m, d, c1, c2, c3, hs⟩ := hc i hi
    have e1 : (nowL nw).getD i lf0 = ⟨(i : Int), (nw i).1, (nw i).2⟩ := by rw [List.getD_eq_getElem?_getD, nowL_at nw hi]; rfl
    rw [e1, Nat.zero_add]
    exact ⟨a, m, d, c1, c2, c3, hs.1, by have := hs.2.1; unfold maxLen; omega⟩
section
variable {p : PD} {s : St T3 Slot Im} {P T : Nat}
theorem now_mix (hv : Liv p s P T) : mixV p (fun _ => p.list.length) = nowL p.now := by
  obtain ⟨sv, l1, l2⟩ := ver_at hv (Nat.le_refl p.list.length)
  rw [List.take_length] at l1
  have hd := log_det l1 hv.core.log
  subst hd
  unfold mixV nowL
  refine List.map_congr_left fun n _ => ?_
  rw [l2 (n : Int), hv.core.now (n : Int)]
theorem client_log (hv : Liv p s P T) (hP : P ≤ 1000) : LogOK p.list s (nowL p.now) 1000 ∧ ∀ x ∈ nowL p.now, x.l = (s.pg x.n).1 ∧ x.z = (s.pg x.n).2.1 := by
  obtain ⟨sk, h1, -⟩ := mix_log (ver := fun _ => p.list.length) hv hP (Nat.le_refl _) (fun _ _ => Nat.le_refl _)
  rw [List.take_length, now_mix hv] at h1
  have hd := log_det h1.log hv.core.log
  subst hd
  refine ⟨h1, fun x hx => ?_⟩
  unfold nowL at hx
  obtain ⟨n, -, rfl⟩ := List.mem_map.1 hx
  rw [hv.core.now (n : Int)]
  exact ⟨rfl, rfl⟩
/-- what is left of one client's: its pages as the log without it tells, the others' as they were -/
theorem client_post (hv : Liv p s P T) {c : Int} (hc : Cl c) {E : List Ent} {R : List Lf} (h1000 : LogOK p.list s (nowL p.now) 1000) (hp : PostU (whoC c) p.list s (nowL p.now) 1000 E R) :
    ∃ z : St T3 Slot Im, R = (nowL p.now).map (fun x => ⟨x.n, (z.pg x.n).1, (z.pg x.n).2.1⟩) ∧ (∀ x ∈ E, x.cl = c) ∧ ∀ n : Int, (p.owner n = c → ∀ k, G.at_ (z.pg n).2 k = fold0 p.list n k) ∧ (p.owner n ≠ c → z.pg n = s.pg n) ∧ 0 ≤ (z.pg n).1 ∧ (z.pg n).1 ≤ 1099511627776 := by
  have hw : whoC c = fun t => t.cl = c := by
    funext t
    refine propext ⟨fun h => h.elim (fun h => by have := hc.1; omega) id, .inr⟩
  obtain ⟨B, F, m, z, rfl, hu, hR, hl, -⟩ := hp
  rw [hw] at hu
  have hz := (hu.log hv.core.log).2
  refine ⟨z, hR, fun x hx => ?_, fun n => ⟨(hu.client hv hc n).1, (hu.client hv hc n).2, (inv_log hz).pgs n, ?_⟩⟩
  rotate_left
  · have := log_page hz (K := 1000 + p.list.length + 1) (by omega) (fun e he => by
      obtain ⟨x, hx, rfl⟩ := mem_map he
      rcases List.mem_append.1 hx with hx | hx
      · have := h1000.lsn x hx
        show x.lsn ≤ _
        omega
      · exact hl x hx) n
    have := h1000.len
    omega
  have hk := hu.kinds hv.core.log
  rcases List.mem_append.1 hx with hx | hx
  · exact (hk.1 x hx).2
  · exact (hk.2 x hx).2
end
end Go.Proofs.YtkeocnhndnbamaaGreat.Mend
