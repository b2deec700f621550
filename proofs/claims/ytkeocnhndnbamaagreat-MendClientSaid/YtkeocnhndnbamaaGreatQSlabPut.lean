/- The walk of slab.Put, where a slot is put. -/
import Derived.Test.YtkeocnhndnbamaaGreatQSlabPutErr
namespace Go.Proofs.YtkeocnhndnbamaaGreat.Slab
set_option maxRecDepth 100000
open Go.RowKit Go.Sort
theorem info_slot : (Tryz.prog.info? 41).map (fun i => (i.zero, i.size, i.bytes)) = some (some (.agg #[.bool false, .string ⟨#[]⟩]), 2, 24) := by kernel_rfl
theorem sizes_of_good {lsn : Int} {l : List Slot} (h : goodB lsn l = true) : ∀ x ∈ l, x.d.size ≤ 200 := by
  intro x hx
  have h1 : l.any wrongB = false := by simp [goodB] at h; simpa using h.1.2
  have := List.any_eq_false.1 h1 x hx
  simp [wrongB] at this; omega
theorem copy_two : (Tryz.prog.info? 41).map (·.size) = some 2 := by kernel_rfl
theorem ok_res {w w' : World} {lsn slot : Int} {l z : List Slot} {x : Slot} {n c bl : Nat} (h : putCode lsn l slot x = 0) (hz : putL l slot.toNat x = z) (hs : Slots w' (some ⟨bl, 0, none⟩) n z) (hb : Below w.heap.size w w') (hf : w.heap.size ≤ bl) :
    PageRes (putN lsn l slot x) (putZ lsn l slot x) (putCode lsn l slot x) w (.returned (.tuple #[.agg #[.int .i64 lsn, .slice (some ⟨bl, 0, none⟩) n c], .int .i64 0])) w' := by
  unfold putN putZ
  rw [if_pos h, if_pos h, h, hz]
  exact ⟨_, n, c, rfl, hs, hb, fun _ _ _ e => by cases e; exact hf⟩
/-- what the code does to the slots -/
def putG (l : List Slot) (k m : Nat) (x : Slot) : List Slot := (padL l m).set k x
theorem put_steps (l : List Slot) (k m : Nat) (x : Slot) (hm : max l.length (k + 1) = m) (hs : ∀ y ∈ l, y.d.size ≤ 200) (hx : x.d.size ≤ 200) :
    (putG l k m x).length = m ∧ (∀ y ∈ putG l k m x, y.d.size ≤ 200) ∧ putL l k x = (putG l k m x).take (usedN (putG l k m x)) ∧ usedN (putG l k m x) ≤ m := by
  subst hm
  have h1 : (putG l k (max l.length (k + 1)) x).length = max l.length (k + 1) := by unfold putG; rw [List.length_set, padL_length _ _ (by omega)]
  refine ⟨h1, set_sizes (padL_sizes hs) hx, rfl, ?_⟩
  have := usedN_le (putG l k (max l.length (k + 1)) x)
  omega
theorem blk_made {w : World} {g m base : Nat} (h : w.ownsRow base 41 2 (.slice (some ⟨g, 0, none⟩) m m) m (madeCells #[.bool false, .string ⟨#[]⟩] (m * 2)).toList) : Blk w g 41 (cellsOf (List.replicate m nos)).toArray := by
  rcases h.2 with ⟨h1, _⟩ | ⟨g', cap, cur, h1, _, hg, h2, _, hs, ht⟩
  · cases h1
  · cases h1
    rw [List.take_of_length_le (by simp [hs])] at ht
    have : cur = (cellsOf (List.replicate m nos)).toArray := by rw [← zero_cells]; exact Array.toList_inj.1 ht
    rw [this] at hg
    exact hg
theorem below_grown {w w' : World} (h : w.grownBy w' none) : Below w.heap.size w w' := ⟨h.os, h.tape, h.output, h.size, fun k hk => h.block k hk (by simp)⟩

set_option maxRecDepth 100000 in
set_option maxHeartbeats 8000000 in
theorem put_true_in (lsn : Int) (a : Option Addr) (n c : Nat) (zs : List Slot) (k m : Nat) (d : ByteArray) (w : World) (h : Slots w a n zs) (hg : goodB lsn zs = true) (hk : k < 32) (hd : d.size ≤ 200) (hkn : k + 1 ≤ n ∧ m ≤ n ∧ n ≤ m) :
    Calls Tryz.prog 63 #[.agg #[.int .i64 lsn, .slice a n c], .int .i64 (k : Int), .agg #[.bool true, .string d]] w (PageRes (putN lsn zs k ⟨true, d⟩) (putZ lsn zs k ⟨true, d⟩) (putCode lsn zs k ⟨true, d⟩) w) := by
  have hn : n ≤ 32 := by have := h.len; simp [goodB] at hg; omega
  have hng : ¬ (goodB lsn zs = false ∨ (k : Int) < 0 ∨ 32 ≤ (k : Int) ∨ ((⟨true, d⟩ : Slot).u = false ∧ ¬ (⟨true, d⟩ : Slot).d.size = 0)) := by
    rw [hg]
    rintro (h1 | h1 | h1 | h1)
    · cases h1
    · omega
    · omega
    · cases h1.1
  have hm1 : zs.length ≤ m := by rw [h.len]; omega
  have hm2 : k < m := by omega
  have hm3 : m ≤ 32 := by omega
  have hput := put_steps zs k m ⟨true, d⟩ (by rw [h.len]; omega) (sizes_of_good hg) hd
  have HP := Lib.hid hput
  have HNG := Lib.hid hng
  have HL := Lib.hid h.len
  have HCL : (cellsOf zs).length = Nat.min n m * 2 := by rw [cellsOf_length, h.len, show Nat.min n m = n from Nat.min_eq_left (by omega)]
  have HCL := Lib.hid HCL
  have H0 := put_at w lsn a n c true d zs h
  have HG := Lib.hid hg
  clear hg h hput hng
  obtain ⟨i0, hi, hz0, hz1, hz2⟩ := info_parts info_slot
  have hby : i0.bytes * m ≤ 281474976710656 := by rw [hz2]; omega
  have HMX : ¬ (n : Int) < (k : Int) + 1 := by omega
  go_enter Tryz.func63, Tryz.ntmps63
  go_wp2_with fail
  generalize hGen : ((w.alloc (.cells #[.int .i64 lsn, .slice a n c] 52)).alloc (.cells #[.bool true, .string d] 41)).alloc (.cells #[.int .i64 0, .slice none 0 0] 52) = W at H0 ⊢
  clear hGen
  refine (good_any lsn a n c zs _ H0.s (by omega)).mono ?_
  rw [HG.out]
  rintro e w1 ⟨rfl, b1⟩
  have H1 := H0.next b1
  have p0 := H1.p0
  have p1 := H1.p1
  have s0 := H1.s0
  have s1 := H1.s1
  have k0 : (0 : Int) ≤ (k : Int) := by omega
  have k1 : (k : Int) < 32 := by omega
  obtain ⟨G, hG⟩ : ∃ G, G = putG zs k m ⟨true, d⟩ := ⟨_, rfl⟩
  obtain ⟨v, hv⟩ : ∃ v, v = usedN G := ⟨_, rfl⟩
  have HGE := Lib.hid hG
  have HV := Lib.hid hv
  have hvm : v ≤ m := by have := HP.out.2.2.2; rw [hv, hG]; exact this
  have hsv : sz (G.take v) ≤ 1000000 := by
    have h1 := sz_take_le G v
    have h2 := sz_bound (l := G) (B := 200) (by rw [hG]; exact HP.out.2.1)
    have h3 : G.length ≤ 32 := by rw [hG, HP.out.1]; exact hm3
    omega
  have HTL : putL zs ((k : Int)).toNat ⟨true, d⟩ = G.take v := by rw [hv, hG]; exact HP.out.2.2.1
  have HTL := Lib.hid HTL
  clear hG hv
  have HB1 := Lib.hid (show w.heap.size + 2 < w1.heap.size from H1.z)
  have v0 : (0 : Int) ≤ (v : Int) := by omega
  have v1 : (v : Int) ≤ (m : Int) := by omega
  have k2 : (k : Int) < (m : Int) := by omega
  go_wp2_with (first
    | (at_make; refine wpList_make_full _ rfl _ _ 50 rfl w1.heap.size 41 i0 _ 2 Tryz.underlying50 hi hz0 hz1 .i64 .i64 _ _ m rfl rfl (by omega) (by omega) hby (by unfold maxLen; omega) (Nat.le_refl _) ?_; intro w2 hown2 hgrow2; have b2 := below_grown hgrow2; have H2 := H1.next b2; have p1b := H2.p1; have B2 := Lib.hid (show w2.heap[w1.heap.size]? = some (.cells (cellsOf (List.replicate m nos)).toArray 41 (0, 0)) from blk_made hown2); clear hown2 hgrow2)
    | (with_reducible refine wpList_copy_spliceK rfl (.tmp 43) (.tmp 45) 50 50 rfl 41 2 Tryz.underlying50 copy_two (by decide) (some ⟨w1.heap.size, 0, none⟩) a m m n c (by with_unfolding_all rfl) (by with_unfolding_all rfl) w1.heap.size 0 (cellsOf (List.replicate m nos)) 41 B2.out (cellsOf zs) HCL.out (fun hp => ⟨rfl, slots_src H2.s (by rw [cellsOf_length, HL.out] at hp; omega)⟩) (by simp only [cellsOf_length, List.length_replicate]; omega) (cellsOf_one zs) w1.heap.size w1 b2 (Nat.le_refl _) ?_
       intro w3 HB3 hb3 _
       have B3 := Lib.hid (show Blk w3 w1.heap.size 41 (cellsOf (padL zs m)).toArray by rw [← splice_pad zs m hm1]; exact HB3.out)
       have H3 := H1.next hb3
       have s0c := H3.s0
       have s1c := H3.s1
       have hpl : k < (padL zs m).length := by rw [padL_length zs m hm1]; exact hm2
       obtain ⟨y, hy⟩ : ∃ y, (padL zs m)[k]? = some y := ⟨_, List.getElem?_eq_getElem hpl⟩
       have x0 : w3.cell? ⟨w1.heap.size, k * 2, none⟩ = some (.bool y.u) := (B3.out.cell (k * 2)).trans (by rw [List.getElem?_toArray]; exact (cellsOf_get hy).1)
       have x1 : w3.cell? ⟨w1.heap.size, k * 2 + 1, none⟩ = some (.string y.d) := (B3.out.cell (k * 2 + 1)).trans (by rw [List.getElem?_toArray]; exact (cellsOf_get hy).2)
       have g0 := B3.out.frozen (k * 2)
       have g1 := B3.out.frozen (k * 2 + 1)
       have HPL := Lib.hid hpl
       clear hy hpl HB3)
    | (go_at_call 53
       have BG := Lib.hid (show Blk ((w3.setCell ⟨w1.heap.size, k * 2, none⟩ (.bool true)).setCell ⟨w1.heap.size, k * 2 + 1, none⟩ (.string d)) w1.heap.size 41 (cellsOf G).toArray by rw [HGE.out]; exact B3.out.put_slot HPL.out true d)
       have HS := Lib.hid (show Slots ((w3.setCell ⟨w1.heap.size, k * 2, none⟩ (.bool true)).setCell ⟨w1.heap.size, k * 2 + 1, none⟩ (.string d)) (some ⟨w1.heap.size, 0, none⟩) m G by have := slots_of_blk (l := G) (r := []) (by rw [List.append_nil]; exact BG.out) (fun x hx => by rw [HGE.out] at hx; have := HP.out.2.1 x hx; omega); rwa [show G.length = m by rw [HGE.out]; exact HP.out.1] at this)
       have HU := used_any (some ⟨w1.heap.size, 0, none⟩) m m G _ HS.out (by omega)
       rw [← HV.out] at HU
       refine HU.mono ?_
       rintro e w4 ⟨rfl, b4⟩
       have H4 := ((H3.store HB1.out (k * 2) (.bool true)).store HB1.out (k * 2 + 1) (.string d)).next b4
       have B4 := Lib.hid (BG.out.below b4 BG.out.lt)
       clear HU)
    | (go_at_call 56
       have HS5 := Lib.hid (show Slots w4 (some ⟨w1.heap.size, 0, none⟩) v (G.take v) by have := slots_of_blk (l := G.take v) (r := G.drop v) (by rw [List.take_append_drop]; exact B4.out) (fun x hx => by rw [HGE.out] at hx; have := HP.out.2.1 x (List.mem_of_mem_take hx); omega); rwa [List.length_take, show G.length = m by (rw [HGE.out]; exact HP.out.1), Nat.min_eq_left hvm] at this)
       refine (size_any (some ⟨w1.heap.size, 0, none⟩) v m (G.take v) _ HS5.out hsv (by omega)).mono ?_
       rintro e w5 ⟨rfl, b5⟩
       have H5 := H4.next b5
       have HS6 := Lib.hid (HS5.out.below b5)
       have p0e := H5.p0
       have q0 := H5.r.cell 0
       have q1 := H5.r.cell 1
       have f0 := H5.r.frozen 0
       have f1 := H5.r.frozen 1)
    | fail)
  · have ht : (240 : Int) < 9 + (sz (G.take v) : Int) := by assumption
    exact bodyPost_ret (v := .tuple #[.agg #[.int .i64 0, .slice none 0 0], .int .i64 22]) (by simp [results, Tryz.results63, go_sem, q0, q1]) rfl (err_res (put_full (x := ⟨true, d⟩) (by simpa using HNG.out) (by show ¬ 200 < ByteArray.size d; omega) (by rw [HTL.out]; omega)) (by decide) ((H5.b.setCell (p := ⟨w.heap.size + 2, 0, none⟩) (by simp) _).setCell (p := ⟨w.heap.size + 2, 1, none⟩) (by simp) _))
  · have ht : 9 + (sz (G.take v) : Int) ≤ 240 := by assumption
    exact bodyPost_ret (v := .tuple #[.agg #[.int .i64 lsn, .slice (some ⟨w1.heap.size, 0, none⟩) v m], .int .i64 0]) (by simp [results, Tryz.results63, go_sem, q0, q1]) rfl (ok_res (put_ok (x := ⟨true, d⟩) (by simpa using HNG.out) (by show ¬ 200 < ByteArray.size d; omega) (by rw [HTL.out]; omega)) HTL.out ((HS6.out.setCell _ (fun b off e _ => by cases e; have := HB1.out; omega)).setCell _ (fun b off e _ => by cases e; have := HB1.out; omega)) ((H5.b.setCell (p := ⟨w.heap.size + 2, 0, none⟩) (by simp) _).setCell (p := ⟨w.heap.size + 2, 1, none⟩) (by simp) _) (by have := HB1.out; omega))

set_option maxRecDepth 100000 in
set_option maxHeartbeats 8000000 in
theorem put_true_out (lsn : Int) (a : Option Addr) (n c : Nat) (zs : List Slot) (k m : Nat) (d : ByteArray) (w : World) (h : Slots w a n zs) (hg : goodB lsn zs = true) (hk : k < 32) (hd : d.size ≤ 200) (hkn : n < k + 1 ∧ m ≤ k + 1 ∧ k + 1 ≤ m) :
    Calls Tryz.prog 63 #[.agg #[.int .i64 lsn, .slice a n c], .int .i64 (k : Int), .agg #[.bool true, .string d]] w (PageRes (putN lsn zs k ⟨true, d⟩) (putZ lsn zs k ⟨true, d⟩) (putCode lsn zs k ⟨true, d⟩) w) := by
  have hn : n ≤ 32 := by have := h.len; simp [goodB] at hg; omega
  have hng : ¬ (goodB lsn zs = false ∨ (k : Int) < 0 ∨ 32 ≤ (k : Int) ∨ ((⟨true, d⟩ : Slot).u = false ∧ ¬ (⟨true, d⟩ : Slot).d.size = 0)) := by
    rw [hg]
    rintro (h1 | h1 | h1 | h1)
    · cases h1
    · omega
    · omega
    · cases h1.1
  have hm1 : zs.length ≤ m := by rw [h.len]; omega
  have hm2 : k < m := by omega
  have hm3 : m ≤ 32 := by omega
  have hput := put_steps zs k m ⟨true, d⟩ (by rw [h.len]; omega) (sizes_of_good hg) hd
  have HP := Lib.hid hput
  have HNG := Lib.hid hng
  have HL := Lib.hid h.len
  have HCL : (cellsOf zs).length = Nat.min n m * 2 := by rw [cellsOf_length, h.len, show Nat.min n m = n from Nat.min_eq_left (by omega)]
  have HCL := Lib.hid HCL
  have H0 := put_at w lsn a n c true d zs h
  have HG := Lib.hid hg
  clear hg h hput hng
  obtain ⟨i0, hi, hz0, hz1, hz2⟩ := info_parts info_slot
  have hby : i0.bytes * m ≤ 281474976710656 := by rw [hz2]; omega
  have HMX : (n : Int) < (k : Int) + 1 := by omega
  go_enter Tryz.func63, Tryz.ntmps63
  go_wp2_with fail
  generalize hGen : ((w.alloc (.cells #[.int .i64 lsn, .slice a n c] 52)).alloc (.cells #[.bool true, .string d] 41)).alloc (.cells #[.int .i64 0, .slice none 0 0] 52) = W at H0 ⊢
  clear hGen
  refine (good_any lsn a n c zs _ H0.s (by omega)).mono ?_
  rw [HG.out]
  rintro e w1 ⟨rfl, b1⟩
  have H1 := H0.next b1
  have p0 := H1.p0
  have p1 := H1.p1
  have s0 := H1.s0
  have s1 := H1.s1
  have k0 : (0 : Int) ≤ (k : Int) := by omega
  have k1 : (k : Int) < 32 := by omega
  obtain ⟨G, hG⟩ : ∃ G, G = putG zs k m ⟨true, d⟩ := ⟨_, rfl⟩
  obtain ⟨v, hv⟩ : ∃ v, v = usedN G := ⟨_, rfl⟩
  have HGE := Lib.hid hG
  have HV := Lib.hid hv
  have hvm : v ≤ m := by have := HP.out.2.2.2; rw [hv, hG]; exact this
  have hsv : sz (G.take v) ≤ 1000000 := by
    have h1 := sz_take_le G v
    have h2 := sz_bound (l := G) (B := 200) (by rw [hG]; exact HP.out.2.1)
    have h3 : G.length ≤ 32 := by rw [hG, HP.out.1]; exact hm3
    omega
  have HTL : putL zs ((k : Int)).toNat ⟨true, d⟩ = G.take v := by rw [hv, hG]; exact HP.out.2.2.1
  have HTL := Lib.hid HTL
  clear hG hv
  have HB1 := Lib.hid (show w.heap.size + 2 < w1.heap.size from H1.z)
  have v0 : (0 : Int) ≤ (v : Int) := by omega
  have v1 : (v : Int) ≤ (m : Int) := by omega
  have k2 : (k : Int) < (m : Int) := by omega
  go_wp2_with (first
    | (at_make; refine wpList_make_full _ rfl _ _ 50 rfl w1.heap.size 41 i0 _ 2 Tryz.underlying50 hi hz0 hz1 .i64 .i64 _ _ m rfl rfl (by omega) (by omega) hby (by unfold maxLen; omega) (Nat.le_refl _) ?_; intro w2 hown2 hgrow2; have b2 := below_grown hgrow2; have H2 := H1.next b2; have p1b := H2.p1; have B2 := Lib.hid (show w2.heap[w1.heap.size]? = some (.cells (cellsOf (List.replicate m nos)).toArray 41 (0, 0)) from blk_made hown2); clear hown2 hgrow2)
    | (with_reducible refine wpList_copy_spliceK rfl (.tmp 43) (.tmp 45) 50 50 rfl 41 2 Tryz.underlying50 copy_two (by decide) (some ⟨w1.heap.size, 0, none⟩) a m m n c (by with_unfolding_all rfl) (by with_unfolding_all rfl) w1.heap.size 0 (cellsOf (List.replicate m nos)) 41 B2.out (cellsOf zs) HCL.out (fun hp => ⟨rfl, slots_src H2.s (by rw [cellsOf_length, HL.out] at hp; omega)⟩) (by simp only [cellsOf_length, List.length_replicate]; omega) (cellsOf_one zs) w1.heap.size w1 b2 (Nat.le_refl _) ?_
       intro w3 HB3 hb3 _
       have B3 := Lib.hid (show Blk w3 w1.heap.size 41 (cellsOf (padL zs m)).toArray by rw [← splice_pad zs m hm1]; exact HB3.out)
       have H3 := H1.next hb3
       have s0c := H3.s0
       have s1c := H3.s1
       have hpl : k < (padL zs m).length := by rw [padL_length zs m hm1]; exact hm2
       obtain ⟨y, hy⟩ : ∃ y, (padL zs m)[k]? = some y := ⟨_, List.getElem?_eq_getElem hpl⟩
       have x0 : w3.cell? ⟨w1.heap.size, k * 2, none⟩ = some (.bool y.u) := (B3.out.cell (k * 2)).trans (by rw [List.getElem?_toArray]; exact (cellsOf_get hy).1)
       have x1 : w3.cell? ⟨w1.heap.size, k * 2 + 1, none⟩ = some (.string y.d) := (B3.out.cell (k * 2 + 1)).trans (by rw [List.getElem?_toArray]; exact (cellsOf_get hy).2)
       have g0 := B3.out.frozen (k * 2)
       have g1 := B3.out.frozen (k * 2 + 1)
       have HPL := Lib.hid hpl
       clear hy hpl HB3)
    | (go_at_call 53
       have BG := Lib.hid (show Blk ((w3.setCell ⟨w1.heap.size, k * 2, none⟩ (.bool true)).setCell ⟨w1.heap.size, k * 2 + 1, none⟩ (.string d)) w1.heap.size 41 (cellsOf G).toArray by rw [HGE.out]; exact B3.out.put_slot HPL.out true d)
       have HS := Lib.hid (show Slots ((w3.setCell ⟨w1.heap.size, k * 2, none⟩ (.bool true)).setCell ⟨w1.heap.size, k * 2 + 1, none⟩ (.string d)) (some ⟨w1.heap.size, 0, none⟩) m G by have := slots_of_blk (l := G) (r := []) (by rw [List.append_nil]; exact BG.out) (fun x hx => by rw [HGE.out] at hx; have := HP.out.2.1 x hx; omega); rwa [show G.length = m by rw [HGE.out]; exact HP.out.1] at this)
       have HU := used_any (some ⟨w1.heap.size, 0, none⟩) m m G _ HS.out (by omega)
       rw [← HV.out] at HU
       refine HU.mono ?_
       rintro e w4 ⟨rfl, b4⟩
       have H4 := ((H3.store HB1.out (k * 2) (.bool true)).store HB1.out (k * 2 + 1) (.string d)).next b4
       have B4 := Lib.hid (BG.out.below b4 BG.out.lt)
       clear HU)
    | (go_at_call 56
       have HS5 := Lib.hid (show Slots w4 (some ⟨w1.heap.size, 0, none⟩) v (G.take v) by have := slots_of_blk (l := G.take v) (r := G.drop v) (by rw [List.take_append_drop]; exact B4.out) (fun x hx => by rw [HGE.out] at hx; have := HP.out.2.1 x (List.mem_of_mem_take hx); omega); rwa [List.length_take, show G.length = m by (rw [HGE.out]; exact HP.out.1), Nat.min_eq_left hvm] at this)
       refine (size_any (some ⟨w1.heap.size, 0, none⟩) v m (G.take v) _ HS5.out hsv (by omega)).mono ?_
       rintro e w5 ⟨rfl, b5⟩
       have H5 := H4.next b5
       have HS6 := Lib.hid (HS5.out.below b5)
       have p0e := H5.p0
       have q0 := H5.r.cell 0
       have q1 := H5.r.cell 1
       have f0 := H5.r.frozen 0
       have f1 := H5.r.frozen 1)
    | fail)
  · have ht : (240 : Int) < 9 + (sz (G.take v) : Int) := by assumption
    exact bodyPost_ret (v := .tuple #[.agg #[.int .i64 0, .slice none 0 0], .int .i64 22]) (by simp [results, Tryz.results63, go_sem, q0, q1]) rfl (err_res (put_full (x := ⟨true, d⟩) (by simpa using HNG.out) (by show ¬ 200 < ByteArray.size d; omega) (by rw [HTL.out]; omega)) (by decide) ((H5.b.setCell (p := ⟨w.heap.size + 2, 0, none⟩) (by simp) _).setCell (p := ⟨w.heap.size + 2, 1, none⟩) (by simp) _))
  · have ht : 9 + (sz (G.take v) : Int) ≤ 240 := by assumption
    exact bodyPost_ret (v := .tuple #[.agg #[.int .i64 lsn, .slice (some ⟨w1.heap.size, 0, none⟩) v m], .int .i64 0]) (by simp [results, Tryz.results63, go_sem, q0, q1]) rfl (ok_res (put_ok (x := ⟨true, d⟩) (by simpa using HNG.out) (by show ¬ 200 < ByteArray.size d; omega) (by rw [HTL.out]; omega)) HTL.out ((HS6.out.setCell _ (fun b off e _ => by cases e; have := HB1.out; omega)).setCell _ (fun b off e _ => by cases e; have := HB1.out; omega)) ((H5.b.setCell (p := ⟨w.heap.size + 2, 0, none⟩) (by simp) _).setCell (p := ⟨w.heap.size + 2, 1, none⟩) (by simp) _) (by have := HB1.out; omega))

set_option maxRecDepth 100000 in
set_option maxHeartbeats 8000000 in
theorem put_false_in (lsn : Int) (a : Option Addr) (n c : Nat) (zs : List Slot) (k m : Nat) (w : World) (h : Slots w a n zs) (hg : goodB lsn zs = true) (hk : k < 32) (hkn : k + 1 ≤ n ∧ m ≤ n ∧ n ≤ m) :
    Calls Tryz.prog 63 #[.agg #[.int .i64 lsn, .slice a n c], .int .i64 (k : Int), .agg #[.bool false, .string ⟨#[]⟩]] w (PageRes (putN lsn zs k ⟨false, ⟨#[]⟩⟩) (putZ lsn zs k ⟨false, ⟨#[]⟩⟩) (putCode lsn zs k ⟨false, ⟨#[]⟩⟩) w) := by
  have hn : n ≤ 32 := by have := h.len; simp [goodB] at hg; omega
  have hng : ¬ (goodB lsn zs = false ∨ (k : Int) < 0 ∨ 32 ≤ (k : Int) ∨ ((⟨false, ⟨#[]⟩⟩ : Slot).u = false ∧ ¬ (⟨false, ⟨#[]⟩⟩ : Slot).d.size = 0)) := by
    rw [hg]
    rintro (h1 | h1 | h1 | h1)
    · cases h1
    · omega
    · omega
    · exact h1.2 rfl
  have hm1 : zs.length ≤ m := by rw [h.len]; omega
  have hm2 : k < m := by omega
  have hm3 : m ≤ 32 := by omega
  have hput := put_steps zs k m ⟨false, ⟨#[]⟩⟩ (by rw [h.len]; omega) (sizes_of_good hg) (by decide)
  have HP := Lib.hid hput
  have HNG := Lib.hid hng
  have HL := Lib.hid h.len
  have HCL : (cellsOf zs).length = Nat.min n m * 2 := by rw [cellsOf_length, h.len, show Nat.min n m = n from Nat.min_eq_left (by omega)]
  have HCL := Lib.hid HCL
  have H0 := put_at w lsn a n c false ⟨#[]⟩ zs h
  have HG := Lib.hid hg
  clear hg h hput hng
  obtain ⟨i0, hi, hz0, hz1, hz2⟩ := info_parts info_slot
  have hby : i0.bytes * m ≤ 281474976710656 := by rw [hz2]; omega
  have HMX : ¬ (n : Int) < (k : Int) + 1 := by omega
  go_enter Tryz.func63, Tryz.ntmps63
  go_wp2_with fail
  generalize hGen : ((w.alloc (.cells #[.int .i64 lsn, .slice a n c] 52)).alloc (.cells #[.bool false, .string ⟨#[]⟩] 41)).alloc (.cells #[.int .i64 0, .slice none 0 0] 52) = W at H0 ⊢
  clear hGen
  refine (good_any lsn a n c zs _ H0.s (by omega)).mono ?_
  rw [HG.out]
  rintro e w1 ⟨rfl, b1⟩
  have H1 := H0.next b1
  have p0 := H1.p0
  have p1 := H1.p1
  have s0 := H1.s0
  have s1 := H1.s1
  have k0 : (0 : Int) ≤ (k : Int) := by omega
  have k1 : (k : Int) < 32 := by omega
  obtain ⟨G, hG⟩ : ∃ G, G = putG zs k m ⟨false, ⟨#[]⟩⟩ := ⟨_, rfl⟩
  obtain ⟨v, hv⟩ : ∃ v, v = usedN G := ⟨_, rfl⟩
  have HGE := Lib.hid hG
  have HV := Lib.hid hv
  have hvm : v ≤ m := by have := HP.out.2.2.2; rw [hv, hG]; exact this
  have hsv : sz (G.take v) ≤ 1000000 := by
    have h1 := sz_take_le G v
    have h2 := sz_bound (l := G) (B := 200) (by rw [hG]; exact HP.out.2.1)
    have h3 : G.length ≤ 32 := by rw [hG, HP.out.1]; exact hm3
    omega
  have HTL : putL zs ((k : Int)).toNat ⟨false, ⟨#[]⟩⟩ = G.take v := by rw [hv, hG]; exact HP.out.2.2.1
  have HTL := Lib.hid HTL
  clear hG hv
  have HB1 := Lib.hid (show w.heap.size + 2 < w1.heap.size from H1.z)
  have v0 : (0 : Int) ≤ (v : Int) := by omega
  have v1 : (v : Int) ≤ (m : Int) := by omega
  have k2 : (k : Int) < (m : Int) := by omega
  go_wp2_with (first
    | (at_make; refine wpList_make_full _ rfl _ _ 50 rfl w1.heap.size 41 i0 _ 2 Tryz.underlying50 hi hz0 hz1 .i64 .i64 _ _ m rfl rfl (by omega) (by omega) hby (by unfold maxLen; omega) (Nat.le_refl _) ?_; intro w2 hown2 hgrow2; have b2 := below_grown hgrow2; have H2 := H1.next b2; have p1b := H2.p1; have B2 := Lib.hid (show w2.heap[w1.heap.size]? = some (.cells (cellsOf (List.replicate m nos)).toArray 41 (0, 0)) from blk_made hown2); clear hown2 hgrow2)
    | (with_reducible refine wpList_copy_spliceK rfl (.tmp 43) (.tmp 45) 50 50 rfl 41 2 Tryz.underlying50 copy_two (by decide) (some ⟨w1.heap.size, 0, none⟩) a m m n c (by with_unfolding_all rfl) (by with_unfolding_all rfl) w1.heap.size 0 (cellsOf (List.replicate m nos)) 41 B2.out (cellsOf zs) HCL.out (fun hp => ⟨rfl, slots_src H2.s (by rw [cellsOf_length, HL.out] at hp; omega)⟩) (by simp only [cellsOf_length, List.length_replicate]; omega) (cellsOf_one zs) w1.heap.size w1 b2 (Nat.le_refl _) ?_
       intro w3 HB3 hb3 _
       have B3 := Lib.hid (show Blk w3 w1.heap.size 41 (cellsOf (padL zs m)).toArray by rw [← splice_pad zs m hm1]; exact HB3.out)
       have H3 := H1.next hb3
       have s0c := H3.s0
       have s1c := H3.s1
       have hpl : k < (padL zs m).length := by rw [padL_length zs m hm1]; exact hm2
       obtain ⟨y, hy⟩ : ∃ y, (padL zs m)[k]? = some y := ⟨_, List.getElem?_eq_getElem hpl⟩
       have x0 : w3.cell? ⟨w1.heap.size, k * 2, none⟩ = some (.bool y.u) := (B3.out.cell (k * 2)).trans (by rw [List.getElem?_toArray]; exact (cellsOf_get hy).1)
       have x1 : w3.cell? ⟨w1.heap.size, k * 2 + 1, none⟩ = some (.string y.d) := (B3.out.cell (k * 2 + 1)).trans (by rw [List.getElem?_toArray]; exact (cellsOf_get hy).2)
       have g0 := B3.out.frozen (k * 2)
       have g1 := B3.out.frozen (k * 2 + 1)
       have HPL := Lib.hid hpl
       clear hy hpl HB3)
    | (go_at_call 53
       have BG := Lib.hid (show Blk ((w3.setCell ⟨w1.heap.size, k * 2, none⟩ (.bool false)).setCell ⟨w1.heap.size, k * 2 + 1, none⟩ (.string ⟨#[]⟩)) w1.heap.size 41 (cellsOf G).toArray by rw [HGE.out]; exact B3.out.put_slot HPL.out false ⟨#[]⟩)
       have HS := Lib.hid (show Slots ((w3.setCell ⟨w1.heap.size, k * 2, none⟩ (.bool false)).setCell ⟨w1.heap.size, k * 2 + 1, none⟩ (.string ⟨#[]⟩)) (some ⟨w1.heap.size, 0, none⟩) m G by have := slots_of_blk (l := G) (r := []) (by rw [List.append_nil]; exact BG.out) (fun x hx => by rw [HGE.out] at hx; have := HP.out.2.1 x hx; omega); rwa [show G.length = m by rw [HGE.out]; exact HP.out.1] at this)
       have HU := used_any (some ⟨w1.heap.size, 0, none⟩) m m G _ HS.out (by omega)
       rw [← HV.out] at HU
       refine HU.mono ?_
       rintro e w4 ⟨rfl, b4⟩
       have H4 := ((H3.store HB1.out (k * 2) (.bool false)).store HB1.out (k * 2 + 1) (.string ⟨#[]⟩)).next b4
       have B4 := Lib.hid (BG.out.below b4 BG.out.lt)
       clear HU)
    | (go_at_call 56
       have HS5 := Lib.hid (show Slots w4 (some ⟨w1.heap.size, 0, none⟩) v (G.take v) by have := slots_of_blk (l := G.take v) (r := G.drop v) (by rw [List.take_append_drop]; exact B4.out) (fun x hx => by rw [HGE.out] at hx; have := HP.out.2.1 x (List.mem_of_mem_take hx); omega); rwa [List.length_take, show G.length = m by (rw [HGE.out]; exact HP.out.1), Nat.min_eq_left hvm] at this)
       refine (size_any (some ⟨w1.heap.size, 0, none⟩) v m (G.take v) _ HS5.out hsv (by omega)).mono ?_
       rintro e w5 ⟨rfl, b5⟩
       have H5 := H4.next b5
       have HS6 := Lib.hid (HS5.out.below b5)
       have p0e := H5.p0
       have q0 := H5.r.cell 0
       have q1 := H5.r.cell 1
       have f0 := H5.r.frozen 0
       have f1 := H5.r.frozen 1)
    | fail)
  · have ht : (240 : Int) < 9 + (sz (G.take v) : Int) := by assumption
    exact bodyPost_ret (v := .tuple #[.agg #[.int .i64 0, .slice none 0 0], .int .i64 22]) (by simp [results, Tryz.results63, go_sem, q0, q1]) rfl (err_res (put_full (x := ⟨false, ⟨#[]⟩⟩) (by simpa using HNG.out) (by show ¬ 200 < ByteArray.size ⟨#[]⟩; decide) (by rw [HTL.out]; omega)) (by decide) ((H5.b.setCell (p := ⟨w.heap.size + 2, 0, none⟩) (by simp) _).setCell (p := ⟨w.heap.size + 2, 1, none⟩) (by simp) _))
  · have ht : 9 + (sz (G.take v) : Int) ≤ 240 := by assumption
    exact bodyPost_ret (v := .tuple #[.agg #[.int .i64 lsn, .slice (some ⟨w1.heap.size, 0, none⟩) v m], .int .i64 0]) (by simp [results, Tryz.results63, go_sem, q0, q1]) rfl (ok_res (put_ok (x := ⟨false, ⟨#[]⟩⟩) (by simpa using HNG.out) (by show ¬ 200 < ByteArray.size ⟨#[]⟩; decide) (by rw [HTL.out]; omega)) HTL.out ((HS6.out.setCell _ (fun b off e _ => by cases e; have := HB1.out; omega)).setCell _ (fun b off e _ => by cases e; have := HB1.out; omega)) ((H5.b.setCell (p := ⟨w.heap.size + 2, 0, none⟩) (by simp) _).setCell (p := ⟨w.heap.size + 2, 1, none⟩) (by simp) _) (by have := HB1.out; omega))

set_option maxRecDepth 100000 in
set_option maxHeartbeats 8000000 in
theorem put_false_out (lsn : Int) (a : Option Addr) (n c : Nat) (zs : List Slot) (k m : Nat) (w : World) (h : Slots w a n zs) (hg : goodB lsn zs = true) (hk : k < 32) (hkn : n < k + 1 ∧ m ≤ k + 1 ∧ k + 1 ≤ m) :
    Calls Tryz.prog 63 #[.agg #[.int .i64 lsn, .slice a n c], .int .i64 (k : Int), .agg #[.bool false, .string ⟨#[]⟩]] w (PageRes (putN lsn zs k ⟨false, ⟨#[]⟩⟩) (putZ lsn zs k ⟨false, ⟨#[]⟩⟩) (putCode lsn zs k ⟨false, ⟨#[]⟩⟩) w) := by
  have hn : n ≤ 32 := by have := h.len; simp [goodB] at hg; omega
  have hng : ¬ (goodB lsn zs = false ∨ (k : Int) < 0 ∨ 32 ≤ (k : Int) ∨ ((⟨false, ⟨#[]⟩⟩ : Slot).u = false ∧ ¬ (⟨false, ⟨#[]⟩⟩ : Slot).d.size = 0)) := by
    rw [hg]
    rintro (h1 | h1 | h1 | h1)
    · cases h1
    · omega
    · omega
    · exact h1.2 rfl
  have hm1 : zs.length ≤ m := by rw [h.len]; omega
  have hm2 : k < m := by omega
  have hm3 : m ≤ 32 := by omega
  have hput := put_steps zs k m ⟨false, ⟨#[]⟩⟩ (by rw [h.len]; omega) (sizes_of_good hg) (by decide)
  have HP := Lib.hid hput
  have HNG := Lib.hid hng
  have HL := Lib.hid h.len
  have HCL : (cellsOf zs).length = Nat.min n m * 2 := by rw [cellsOf_length, h.len, show Nat.min n m = n from Nat.min_eq_left (by omega)]
  have HCL := Lib.hid HCL
  have H0 := put_at w lsn a n c false ⟨#[]⟩ zs h
  have HG := Lib.hid hg
  clear hg h hput hng
  obtain ⟨i0, hi, hz0, hz1, hz2⟩ := info_parts info_slot
  have hby : i0.bytes * m ≤ 281474976710656 := by rw [hz2]; omega
  have HMX : (n : Int) < (k : Int) + 1 := by omega
  go_enter Tryz.func63, Tryz.ntmps63
  go_wp2_with fail
  generalize hGen : ((w.alloc (.cells #[.int .i64 lsn, .slice a n c] 52)).alloc (.cells #[.bool false, .string ⟨#[]⟩] 41)).alloc (.cells #[.int .i64 0, .slice none 0 0] 52) = W at H0 ⊢
  clear hGen
  refine (good_any lsn a n c zs _ H0.s (by omega)).mono ?_
  rw [HG.out]
  rintro e w1 ⟨rfl, b1⟩
  have H1 := H0.next b1
  have p0 := H1.p0
  have p1 := H1.p1
  have s0 := H1.s0
  have s1 := H1.s1
  have k0 : (0 : Int) ≤ (k : Int) := by omega
  have k1 : (k : Int) < 32 := by omega
  obtain ⟨G, hG⟩ : ∃ G, G = putG zs k m ⟨false, ⟨#[]⟩⟩ := ⟨_, rfl⟩
  obtain ⟨v, hv⟩ : ∃ v, v = usedN G := ⟨_, rfl⟩
  have HGE := Lib.hid hG
  have HV := Lib.hid hv
  have hvm : v ≤ m := by have := HP.out.2.2.2; rw [hv, hG]; exact this
  have hsv : sz (G.take v) ≤ 1000000 := by
    have h1 := sz_take_le G v
    have h2 := sz_bound (l := G) (B := 200) (by rw [hG]; exact HP.out.2.1)
    have h3 : G.length ≤ 32 := by rw [hG, HP.out.1]; exact hm3
    omega
  have HTL : putL zs ((k : Int)).toNat ⟨false, ⟨#[]⟩⟩ = G.take v := by rw [hv, hG]; exact HP.out.2.2.1
  have HTL := Lib.hid HTL
  clear hG hv
  have HB1 := Lib.hid (show w.heap.size + 2 < w1.heap.size from H1.z)
  have v0 : (0 : Int) ≤ (v : Int) := by omega
  have v1 : (v : Int) ≤ (m : Int) := by omega
  have k2 : (k : Int) < (m : Int) := by omega
  go_wp2_with (first
    | (at_make; refine wpList_make_full _ rfl _ _ 50 rfl w1.heap.size 41 i0 _ 2 Tryz.underlying50 hi hz0 hz1 .i64 .i64 _ _ m rfl rfl (by omega) (by omega) hby (by unfold maxLen; omega) (Nat.le_refl _) ?_; intro w2 hown2 hgrow2; have b2 := below_grown hgrow2; have H2 := H1.next b2; have p1b := H2.p1; have B2 := Lib.hid (show w2.heap[w1.heap.size]? = some (.cells (cellsOf (List.replicate m nos)).toArray 41 (0, 0)) from blk_made hown2); clear hown2 hgrow2)
    | (with_reducible refine wpList_copy_spliceK rfl (.tmp 43) (.tmp 45) 50 50 rfl 41 2 Tryz.underlying50 copy_two (by decide) (some ⟨w1.heap.size, 0, none⟩) a m m n c (by with_unfolding_all rfl) (by with_unfolding_all rfl) w1.heap.size 0 (cellsOf (List.replicate m nos)) 41 B2.out (cellsOf zs) HCL.out (fun hp => ⟨rfl, slots_src H2.s (by rw [cellsOf_length, HL.out] at hp; omega)⟩) (by simp only [cellsOf_length, List.length_replicate]; omega) (cellsOf_one zs) w1.heap.size w1 b2 (Nat.le_refl _) ?_
       intro w3 HB3 hb3 _
       have B3 := Lib.hid (show Blk w3 w1.heap.size 41 (cellsOf (padL zs m)).toArray by rw [← splice_pad zs m hm1]; exact HB3.out)
       have H3 := H1.next hb3
       have s0c := H3.s0
       have s1c := H3.s1
       have hpl : k < (padL zs m).length := by rw [padL_length zs m hm1]; exact hm2
       obtain ⟨y, hy⟩ : ∃ y, (padL zs m)[k]? = some y := ⟨_, List.getElem?_eq_getElem hpl⟩
       have x0 : w3.cell? ⟨w1.heap.size, k * 2, none⟩ = some (.bool y.u) := (B3.out.cell (k * 2)).trans (by rw [List.getElem?_toArray]; exact (cellsOf_get hy).1)
       have x1 : w3.cell? ⟨w1.heap.size, k * 2 + 1, none⟩ = some (.string y.d) := (B3.out.cell (k * 2 + 1)).trans (by rw [List.getElem?_toArray]; exact (cellsOf_get hy).2)
       have g0 := B3.out.frozen (k * 2)
       have g1 := B3.out.frozen (k * 2 + 1)
       have HPL := Lib.hid hpl
       clear hy hpl HB3)
    | (go_at_call 53
       have BG := Lib.hid (show Blk ((w3.setCell ⟨w1.heap.size, k * 2, none⟩ (.bool false)).setCell ⟨w1.heap.size, k * 2 + 1, none⟩ (.string ⟨#[]⟩)) w1.heap.size 41 (cellsOf G).toArray by rw [HGE.out]; exact B3.out.put_slot HPL.out false ⟨#[]⟩)
       have HS := Lib.hid (show Slots ((w3.setCell ⟨w1.heap.size, k * 2, none⟩ (.bool false)).setCell ⟨w1.heap.size, k * 2 + 1, none⟩ (.string ⟨#[]⟩)) (some ⟨w1.heap.size, 0, none⟩) m G by have := slots_of_blk (l := G) (r := []) (by rw [List.append_nil]; exact BG.out) (fun x hx => by rw [HGE.out] at hx; have := HP.out.2.1 x hx; omega); rwa [show G.length = m by rw [HGE.out]; exact HP.out.1] at this)
       have HU := used_any (some ⟨w1.heap.size, 0, none⟩) m m G _ HS.out (by omega)
       rw [← HV.out] at HU
       refine HU.mono ?_
       rintro e w4 ⟨rfl, b4⟩
       have H4 := ((H3.store HB1.out (k * 2) (.bool false)).store HB1.out (k * 2 + 1) (.string ⟨#[]⟩)).next b4
       have B4 := Lib.hid (BG.out.below b4 BG.out.lt)
       clear HU)
    | (go_at_call 56
       have HS5 := Lib.hid (show Slots w4 (some ⟨w1.heap.size, 0, none⟩) v (G.take v) by have := slots_of_blk (l := G.take v) (r := G.drop v) (by rw [List.take_append_drop]; exact B4.out) (fun x hx => by rw [HGE.out] at hx; have := HP.out.2.1 x (List.mem_of_mem_take hx); omega); rwa [List.length_take, show G.length = m by (rw [HGE.out]; exact HP.out.1), Nat.min_eq_left hvm] at this)
       refine (size_any (some ⟨w1.heap.size, 0, none⟩) v m (G.take v) _ HS5.out hsv (by omega)).mono ?_
       rintro e w5 ⟨rfl, b5⟩
       have H5 := H4.next b5
       have HS6 := Lib.hid (HS5.out.below b5)
       have p0e := H5.p0
       have q0 := H5.r.cell 0
       have q1 := H5.r.cell 1
       have f0 := H5.r.frozen 0
       have f1 := H5.r.frozen 1)
    | fail)
  · have ht : (240 : Int) < 9 + (sz (G.take v) : Int) := by assumption
    exact bodyPost_ret (v := .tuple #[.agg #[.int .i64 0, .slice none 0 0], .int .i64 22]) (by simp [results, Tryz.results63, go_sem, q0, q1]) rfl (err_res (put_full (x := ⟨false, ⟨#[]⟩⟩) (by simpa using HNG.out) (by show ¬ 200 < ByteArray.size ⟨#[]⟩; decide) (by rw [HTL.out]; omega)) (by decide) ((H5.b.setCell (p := ⟨w.heap.size + 2, 0, none⟩) (by simp) _).setCell (p := ⟨w.heap.size + 2, 1, none⟩) (by simp) _))
  · have ht : 9 + (sz (G.take v) : Int) ≤ 240 := by assumption
    exact bodyPost_ret (v := .tuple #[.agg #[.int .i64 lsn, .slice (some ⟨w1.heap.size, 0, none⟩) v m], .int .i64 0]) (by simp [results, Tryz.results63, go_sem, q0, q1]) rfl (ok_res (put_ok (x := ⟨false, ⟨#[]⟩⟩) (by simpa using HNG.out) (by show ¬ 200 < ByteArray.size ⟨#[]⟩; decide) (by rw [HTL.out]; omega)) HTL.out ((HS6.out.setCell _ (fun b off e _ => by cases e; have := HB1.out; omega)).setCell _ (fun b off e _ => by cases e; have := HB1.out; omega)) ((H5.b.setCell (p := ⟨w.heap.size + 2, 0, none⟩) (by simp) _).setCell (p := ⟨w.heap.size + 2, 1, none⟩) (by simp) _) (by have := HB1.out; omega))

theorem put_any (lsn : Int) (a : Option Addr) (n c : Nat) (zs : List Slot) (slot : Int) (u : Bool) (d : ByteArray) (w : World) (h : Slots w a n zs) (hn : n ≤ 1000000) (hd : d.size ≤ 140737488351232) :
    Calls Tryz.prog 63 #[.agg #[.int .i64 lsn, .slice a n c], .int .i64 slot, .agg #[.bool u, .string d]] w (PageRes (putN lsn zs slot ⟨u, d⟩) (putZ lsn zs slot ⟨u, d⟩) (putCode lsn zs slot ⟨u, d⟩) w) := by
  by_cases he : (goodB lsn zs = false ∨ slot < 0 ∨ 32 ≤ slot ∨ (u = false ∧ ¬ d.size = 0)) ∨ 200 < d.size
  · exact put_err lsn a n c zs slot u d w h hn hd he
  · rw [not_or, not_or, not_or, not_or] at he
    obtain ⟨⟨h1, h2, h3, h4⟩, h5⟩ := he
    have hg : goodB lsn zs = true := by simpa using h1
    obtain ⟨k, rfl⟩ := Int.eq_ofNat_of_zero_le (show 0 ≤ slot by omega)
    have hk : k < 32 := by omega
    cases u with
    | true =>
      by_cases hkn : k + 1 ≤ n
      · exact put_true_in lsn a n c zs k n d w h hg hk (by omega) ⟨hkn, Nat.le_refl _, Nat.le_refl _⟩
      · exact put_true_out lsn a n c zs k (k + 1) d w h hg hk (by omega) ⟨by omega, Nat.le_refl _, Nat.le_refl _⟩
    | false =>
      have h0 : d.size = 0 := by
        rcases Nat.eq_zero_or_pos d.size with h6 | h6
        · exact h6
        · exact absurd ⟨rfl, by omega⟩ h4
      obtain rfl := size_zero h0
      by_cases hkn : k + 1 ≤ n
      · exact put_false_in lsn a n c zs k n w h hg hk ⟨hkn, Nat.le_refl _, Nat.le_refl _⟩
      · exact put_false_out lsn a n c zs k (k + 1) w h hg hk ⟨by omega, Nat.le_refl _, Nat.le_refl _⟩
end Go.Proofs.YtkeocnhndnbamaaGreat.Slab
