/- The walks of slab.At and of the document's own At. -/
import Derived.Test.YtmmeemffiibndaaSlabRefGood
namespace Go.Proofs.Ytmmeemffiibndaa.Slab
open Go.RowKit Go.Sort

/-- a block that is known whole -/
def Blk (w : World) (g : Nat) (t : TypeId) (cs : Array Value) : Prop := w.heap[g]? = some (.cells cs t (0, 0))
section
variable {w w' : World} {g : Nat} {t : TypeId} {cs : Array Value}
theorem Blk.lt (h : Blk w g t cs) : g < w.heap.size := (Array.getElem?_eq_some_iff.1 h).1
theorem Blk.cell (h : Blk w g t cs) (i : Nat) : w.cell? ⟨g, i, none⟩ = cs[i]? := by unfold Blk at h; simp [World.cell?, h]
theorem Blk.frozen (h : Blk w g t cs) (i : Nat) : w.frozen? ⟨g, i, none⟩ = false := by unfold Blk at h; simp [World.frozen?, h]
theorem Blk.new (w : World) (t : TypeId) (cs : Array Value) : Blk (w.alloc (.cells cs t)) w.heap.size t cs := World.alloc_heap_new w _
theorem Blk.alloc (h : Blk w g t cs) (o : Obj) : Blk (w.alloc o) g t cs := (Below.heap_alloc w o g h.lt).trans h
theorem Blk.below {B : Nat} (h : Blk w g t cs) (hb : Below B w w') (hg : g < B) : Blk w' g t cs := (hb.block g hg).trans h
end
def slotV (x : Slot) : Value := .agg #[.bool x.u, .string x.d]
def atL (lsn : Int) (l : List Slot) (slot : Int) : Slot := if goodB lsn l then (if 0 ≤ slot ∧ slot < l.length then l.getD slot.toNat nos else nos) else nos
theorem atL_bad {lsn slot : Int} {l : List Slot} (h : goodB lsn l = false) : atL lsn l slot = nos := by unfold atL; rw [h]; rfl
theorem atL_out {lsn slot : Int} {l : List Slot} (h : slot < 0 ∨ (l.length : Int) ≤ slot) : atL lsn l slot = nos := by
  unfold atL; split
  · rw [if_neg (by omega)]
  · rfl
theorem atL_in {lsn : Int} {l : List Slot} {k : Nat} {x : Slot} (h : goodB lsn l = true) (hx : l[k]? = some x) : atL lsn l (k : Int) = x := by
  obtain ⟨hk, rfl⟩ := List.getElem?_eq_some_iff.1 hx
  unfold atL
  rw [h, if_pos rfl, if_pos (by omega)]
  simp [List.getD, hk]

set_option maxRecDepth 100000 in
set_option maxHeartbeats 2000000 in
theorem at_any (lsn : Int) (a : Option Addr) (n c : Nat) (zs : List Slot) (slot : Int) (w : World) (h : Slots w a n zs) (hn : n ≤ 1000000) :
    Calls Try.prog 13 #[.agg #[.int .i64 lsn, .slice a n c], .int .i64 slot] w fun e w' => e = .returned (slotV (atL lsn zs slot)) ∧ Below w.heap.size w w' := by
  have hb0 : Below w.heap.size w ((w.alloc (.cells #[.int .i64 lsn, .slice a n c] 24)).alloc (.cells #[.bool false, .string ⟨#[]⟩] 26)) := ((Below.refl _ _).alloc (Nat.le_refl _) _).alloc (by simp) _
  have HZ := Lib.hid h.len
  have HS := Lib.hid (h.below hb0)
  clear h
  have hsz : w.heap.size + 1 < ((w.alloc (.cells #[.int .i64 lsn, .slice a n c] 24)).alloc (.cells #[.bool false, .string ⟨#[]⟩] 26)).heap.size := by simp
  have c0 : ((w.alloc (.cells #[.int .i64 lsn, .slice a n c] 24)).alloc (.cells #[.bool false, .string ⟨#[]⟩] 26)).cell? ⟨w.heap.size, 0, none⟩ = some (.int .i64 lsn) := by rw [World.cell?_alloc_lt _ _ _ (by simp)]; exact (page_cells w _ _ _).1
  have c1 : ((w.alloc (.cells #[.int .i64 lsn, .slice a n c] 24)).alloc (.cells #[.bool false, .string ⟨#[]⟩] 26)).cell? ⟨w.heap.size, 1, none⟩ = some (.slice a n c) := by rw [World.cell?_alloc_lt _ _ _ (by simp)]; exact (page_cells w _ _ _).2
  have r : Blk ((w.alloc (.cells #[.int .i64 lsn, .slice a n c] 24)).alloc (.cells #[.bool false, .string ⟨#[]⟩] 26)) (w.heap.size + 1) 26 #[.bool false, .string ⟨#[]⟩] := by have := Blk.new (w.alloc (.cells #[.int .i64 lsn, .slice a n c] 24)) 26 #[.bool false, .string ⟨#[]⟩]; rwa [World.size_alloc] at this
  cases hg : goodB lsn zs with
  | false =>
    have HA := Lib.hid (atL_bad (slot := slot) (l := zs) hg)
    have HG := Lib.hid hg
    clear hg
    go_enter Try.func13, Try.ntmps13
    go_wp2_with fail
    generalize hGen : (w.alloc (.cells #[.int .i64 lsn, .slice a n c] 24)).alloc (.cells #[.bool false, .string ⟨#[]⟩] 26) = W at c0 c1 r hb0 HS hsz ⊢
    clear hGen
    refine (good_any lsn a n c zs _ HS.out (by omega)).mono ?_
    rw [HG.out]
    rintro e w1 ⟨rfl, b1⟩
    have c1' := (b1.cell (p := ⟨w.heap.size, 1, none⟩) (by simp; omega)).trans c1
    have r1 := r.below b1 (by omega)
    have hb1 := hb0.trans (b1.mono hb0.size)
    have HS1 := HS.out.below b1
    have f0 := r1.frozen 0
    have f1 := r1.frozen 1
    have q0 := r1.cell 0
    have q1 := r1.cell 1
    go_wp2
    exact bodyPost_ret (v := .agg #[.bool false, .string ⟨#[]⟩]) (by simp [results, Try.results13, go_sem, q0, q1]) rfl ⟨by rw [HA.out]; rfl, (hb1.setCell (p := ⟨w.heap.size + 1, 0, none⟩) (by simp) _).setCell (p := ⟨w.heap.size + 1, 1, none⟩) (by simp) _⟩
  | true =>
    have HG := Lib.hid hg
    clear hg
    by_cases s0 : slot < 0
    · have HA := Lib.hid (atL_out (lsn := lsn) (slot := slot) (l := zs) (.inl s0))
      go_enter Try.func13, Try.ntmps13
      go_wp2_with fail
      generalize hGen : (w.alloc (.cells #[.int .i64 lsn, .slice a n c] 24)).alloc (.cells #[.bool false, .string ⟨#[]⟩] 26) = W at c0 c1 r hb0 HS hsz ⊢
      clear hGen
      refine (good_any lsn a n c zs _ HS.out (by omega)).mono ?_
      rw [HG.out]
      rintro e w1 ⟨rfl, b1⟩
      have c1' := (b1.cell (p := ⟨w.heap.size, 1, none⟩) (by simp; omega)).trans c1
      have r1 := r.below b1 (by omega)
      have hb1 := hb0.trans (b1.mono hb0.size)
      have HS1 := HS.out.below b1
      have f0 := r1.frozen 0
      have f1 := r1.frozen 1
      have q0 := r1.cell 0
      have q1 := r1.cell 1
      go_wp2
      exact bodyPost_ret (v := .agg #[.bool false, .string ⟨#[]⟩]) (by simp [results, Try.results13, go_sem, q0, q1]) rfl ⟨by rw [HA.out]; rfl, (hb1.setCell (p := ⟨w.heap.size + 1, 0, none⟩) (by simp) _).setCell (p := ⟨w.heap.size + 1, 1, none⟩) (by simp) _⟩
    · by_cases s1 : slot < n
      · obtain ⟨k, rfl⟩ := Int.eq_ofNat_of_zero_le (show 0 ≤ slot by omega)
        have hk : k < n := by omega
        go_enter Try.func13, Try.ntmps13
        go_wp2_with fail
        generalize hGen : (w.alloc (.cells #[.int .i64 lsn, .slice a n c] 24)).alloc (.cells #[.bool false, .string ⟨#[]⟩] 26) = W at c0 c1 r hb0 HS hsz ⊢
        clear hGen
        refine (good_any lsn a n c zs _ HS.out (by omega)).mono ?_
        rw [HG.out]
        rintro e w1 ⟨rfl, b1⟩
        have c1' := (b1.cell (p := ⟨w.heap.size, 1, none⟩) (by simp; omega)).trans c1
        have r1 := r.below b1 (by omega)
        have hb1 := hb0.trans (b1.mono hb0.size)
        have HS1 := HS.out.below b1
        have f0 := r1.frozen 0
        have f1 := r1.frozen 1
        have q0 := r1.cell 0
        have q1 := r1.cell 1
        obtain ⟨b, off, u, d, rfl, hbl, hx, c2, c3, hd⟩ := HS1.at_ hk
        have HA := Lib.hid (atL_in (lsn := lsn) HG.out hx)
        clear hx hbl
        go_wp2
        exact bodyPost_ret (v := .agg #[.bool u, .string d]) (by simp [results, Try.results13, go_sem, q0, q1]) rfl ⟨by rw [HA.out]; rfl, (hb1.setCell (p := ⟨w.heap.size + 1, 0, none⟩) (by simp) _).setCell (p := ⟨w.heap.size + 1, 1, none⟩) (by simp) _⟩
      · have HA := Lib.hid (atL_out (lsn := lsn) (slot := slot) (l := zs) (.inr (by rw [HZ.out]; omega)))
        have s2 : (n : Int) ≤ slot := by omega
        go_enter Try.func13, Try.ntmps13
        go_wp2_with fail
        generalize hGen : (w.alloc (.cells #[.int .i64 lsn, .slice a n c] 24)).alloc (.cells #[.bool false, .string ⟨#[]⟩] 26) = W at c0 c1 r hb0 HS hsz ⊢
        clear hGen
        refine (good_any lsn a n c zs _ HS.out (by omega)).mono ?_
        rw [HG.out]
        rintro e w1 ⟨rfl, b1⟩
        have c1' := (b1.cell (p := ⟨w.heap.size, 1, none⟩) (by simp; omega)).trans c1
        have r1 := r.below b1 (by omega)
        have hb1 := hb0.trans (b1.mono hb0.size)
        have HS1 := HS.out.below b1
        have f0 := r1.frozen 0
        have f1 := r1.frozen 1
        have q0 := r1.cell 0
        have q1 := r1.cell 1
        go_wp2
        exact bodyPost_ret (v := .agg #[.bool false, .string ⟨#[]⟩]) (by simp [results, Try.results13, go_sem, q0, q1]) rfl ⟨by rw [HA.out]; rfl, (hb1.setCell (p := ⟨w.heap.size + 1, 0, none⟩) (by simp) _).setCell (p := ⟨w.heap.size + 1, 1, none⟩) (by simp) _⟩

set_option maxRecDepth 100000 in
set_option maxHeartbeats 2000000 in
theorem rat_any (lsn : Int) (a : Option Addr) (n c : Nat) (zs : List Slot) (slot : Int) (w : World) (h : Slots w a n zs) (hn : n ≤ 1000000) :
    Calls Try.prog 14 #[.agg #[.int .i64 lsn, .slice a n c], .int .i64 slot] w fun e w' => e = .returned (slotV (atL lsn zs slot)) ∧ Below w.heap.size w w' := by
  have hb0 : Below w.heap.size w ((w.alloc (.cells #[.int .i64 lsn, .slice a n c] 24)).alloc (.cells #[.bool false, .string ⟨#[]⟩] 26)) := ((Below.refl _ _).alloc (Nat.le_refl _) _).alloc (by simp) _
  have HZ := Lib.hid h.len
  have HS := Lib.hid (h.below hb0)
  clear h
  have hsz : w.heap.size + 1 < ((w.alloc (.cells #[.int .i64 lsn, .slice a n c] 24)).alloc (.cells #[.bool false, .string ⟨#[]⟩] 26)).heap.size := by simp
  have c0 : ((w.alloc (.cells #[.int .i64 lsn, .slice a n c] 24)).alloc (.cells #[.bool false, .string ⟨#[]⟩] 26)).cell? ⟨w.heap.size, 0, none⟩ = some (.int .i64 lsn) := by rw [World.cell?_alloc_lt _ _ _ (by simp)]; exact (page_cells w _ _ _).1
  have c1 : ((w.alloc (.cells #[.int .i64 lsn, .slice a n c] 24)).alloc (.cells #[.bool false, .string ⟨#[]⟩] 26)).cell? ⟨w.heap.size, 1, none⟩ = some (.slice a n c) := by rw [World.cell?_alloc_lt _ _ _ (by simp)]; exact (page_cells w _ _ _).2
  have r : Blk ((w.alloc (.cells #[.int .i64 lsn, .slice a n c] 24)).alloc (.cells #[.bool false, .string ⟨#[]⟩] 26)) (w.heap.size + 1) 26 #[.bool false, .string ⟨#[]⟩] := by have := Blk.new (w.alloc (.cells #[.int .i64 lsn, .slice a n c] 24)) 26 #[.bool false, .string ⟨#[]⟩]; rwa [World.size_alloc] at this
  cases hg : goodB lsn zs with
  | false =>
    have HA := Lib.hid (atL_bad (slot := slot) (l := zs) hg)
    have HG := Lib.hid hg
    clear hg
    go_enter Try.func14, Try.ntmps14
    go_wp2_with fail
    generalize hGen : (w.alloc (.cells #[.int .i64 lsn, .slice a n c] 24)).alloc (.cells #[.bool false, .string ⟨#[]⟩] 26) = W at c0 c1 r hb0 HS hsz ⊢
    clear hGen
    refine (rgood_any lsn a n c zs _ HS.out (by omega)).mono ?_
    rw [HG.out]
    rintro e w1 ⟨rfl, b1⟩
    have c1' := (b1.cell (p := ⟨w.heap.size, 1, none⟩) (by simp; omega)).trans c1
    have r1 := r.below b1 (by omega)
    have hb1 := hb0.trans (b1.mono hb0.size)
    have HS1 := HS.out.below b1
    have f0 := r1.frozen 0
    have f1 := r1.frozen 1
    have q0 := r1.cell 0
    have q1 := r1.cell 1
    go_wp2
    exact bodyPost_ret (v := .agg #[.bool false, .string ⟨#[]⟩]) (by simp [results, Try.results14, go_sem, q0, q1]) rfl ⟨by rw [HA.out]; rfl, (hb1.setCell (p := ⟨w.heap.size + 1, 0, none⟩) (by simp) _).setCell (p := ⟨w.heap.size + 1, 1, none⟩) (by simp) _⟩
  | true =>
    have HG := Lib.hid hg
    clear hg
    by_cases s0 : slot < 0
    · have HA := Lib.hid (atL_out (lsn := lsn) (slot := slot) (l := zs) (.inl s0))
      go_enter Try.func14, Try.ntmps14
      go_wp2_with fail
      generalize hGen : (w.alloc (.cells #[.int .i64 lsn, .slice a n c] 24)).alloc (.cells #[.bool false, .string ⟨#[]⟩] 26) = W at c0 c1 r hb0 HS hsz ⊢
      clear hGen
      refine (rgood_any lsn a n c zs _ HS.out (by omega)).mono ?_
      rw [HG.out]
      rintro e w1 ⟨rfl, b1⟩
      have c1' := (b1.cell (p := ⟨w.heap.size, 1, none⟩) (by simp; omega)).trans c1
      have r1 := r.below b1 (by omega)
      have hb1 := hb0.trans (b1.mono hb0.size)
      have HS1 := HS.out.below b1
      have f0 := r1.frozen 0
      have f1 := r1.frozen 1
      have q0 := r1.cell 0
      have q1 := r1.cell 1
      go_wp2
      exact bodyPost_ret (v := .agg #[.bool false, .string ⟨#[]⟩]) (by simp [results, Try.results14, go_sem, q0, q1]) rfl ⟨by rw [HA.out]; rfl, (hb1.setCell (p := ⟨w.heap.size + 1, 0, none⟩) (by simp) _).setCell (p := ⟨w.heap.size + 1, 1, none⟩) (by simp) _⟩
    · by_cases s1 : slot < n
      · obtain ⟨k, rfl⟩ := Int.eq_ofNat_of_zero_le (show 0 ≤ slot by omega)
        have hk : k < n := by omega
        go_enter Try.func14, Try.ntmps14
        go_wp2_with fail
        generalize hGen : (w.alloc (.cells #[.int .i64 lsn, .slice a n c] 24)).alloc (.cells #[.bool false, .string ⟨#[]⟩] 26) = W at c0 c1 r hb0 HS hsz ⊢
        clear hGen
        refine (rgood_any lsn a n c zs _ HS.out (by omega)).mono ?_
        rw [HG.out]
        rintro e w1 ⟨rfl, b1⟩
        have c1' := (b1.cell (p := ⟨w.heap.size, 1, none⟩) (by simp; omega)).trans c1
        have r1 := r.below b1 (by omega)
        have hb1 := hb0.trans (b1.mono hb0.size)
        have HS1 := HS.out.below b1
        have f0 := r1.frozen 0
        have f1 := r1.frozen 1
        have q0 := r1.cell 0
        have q1 := r1.cell 1
        obtain ⟨b, off, u, d, rfl, hbl, hx, c2, c3, hd⟩ := HS1.at_ hk
        have HA := Lib.hid (atL_in (lsn := lsn) HG.out hx)
        clear hx hbl
        go_wp2
        exact bodyPost_ret (v := .agg #[.bool u, .string d]) (by simp [results, Try.results14, go_sem, q0, q1]) rfl ⟨by rw [HA.out]; rfl, (hb1.setCell (p := ⟨w.heap.size + 1, 0, none⟩) (by simp) _).setCell (p := ⟨w.heap.size + 1, 1, none⟩) (by simp) _⟩
      · have HA := Lib.hid (atL_out (lsn := lsn) (slot := slot) (l := zs) (.inr (by rw [HZ.out]; omega)))
        have s2 : (n : Int) ≤ slot := by omega
        go_enter Try.func14, Try.ntmps14
        go_wp2_with fail
        generalize hGen : (w.alloc (.cells #[.int .i64 lsn, .slice a n c] 24)).alloc (.cells #[.bool false, .string ⟨#[]⟩] 26) = W at c0 c1 r hb0 HS hsz ⊢
        clear hGen
        refine (rgood_any lsn a n c zs _ HS.out (by omega)).mono ?_
        rw [HG.out]
        rintro e w1 ⟨rfl, b1⟩
        have c1' := (b1.cell (p := ⟨w.heap.size, 1, none⟩) (by simp; omega)).trans c1
        have r1 := r.below b1 (by omega)
        have hb1 := hb0.trans (b1.mono hb0.size)
        have HS1 := HS.out.below b1
        have f0 := r1.frozen 0
        have f1 := r1.frozen 1
        have q0 := r1.cell 0
        have q1 := r1.cell 1
        go_wp2
        exact bodyPost_ret (v := .agg #[.bool false, .string ⟨#[]⟩]) (by simp [results, Try.results14, go_sem, q0, q1]) rfl ⟨by rw [HA.out]; rfl, (hb1.setCell (p := ⟨w.heap.size + 1, 0, none⟩) (by simp) _).setCell (p := ⟨w.heap.size + 1, 1, none⟩) (by simp) _⟩
end Go.Proofs.Ytmmeemffiibndaa.Slab
