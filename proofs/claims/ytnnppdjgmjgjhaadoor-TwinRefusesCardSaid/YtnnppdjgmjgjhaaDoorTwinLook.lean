/- The walks of look and copyOf: what a store reads. -/
import Derived.Test.YtnnppdjgmjgjhaaDoorTwinPage
namespace Go.Proofs.YtnnppdjgmjgjhaaDoor.Twin
set_option maxRecDepth 100000
open Go.RowKit Go.Sort
open Go.Proofs.YtnnppdjgmjgjhaaDoor.Mem
open Go.Proofs.YtnnppdjgmjgjhaaDoor.Plate

/-- all sectors have 256 bytes -/
structure Full (S : PS) : Prop where
  sec : ∀ k, k < S.N → (S.sec k).t = false → (S.sec k).d.size = 256
  q : ∀ x ∈ S.q, x.d.size = 256
theorem last_mem {n : Nat} {q : List Wr} {d : ByteArray} (h : lastOf n q = some d) : ∃ x ∈ q, x.n = n ∧ x.d = d := by
  induction q with
  | nil => cases h
  | cons x r ih =>
    rw [lastOf] at h
    cases hl : lastOf n r with
    | some d' =>
      rw [hl] at h
      cases h
      obtain ⟨y, hy, e⟩ := ih hl
      exact ⟨y, List.mem_cons_of_mem _ hy, e⟩
    | none =>
      rw [hl] at h
      simp only at h
      split at h
      · cases h; exact ⟨x, List.mem_cons_self, by assumption, rfl⟩
      · cases h
theorem Full.read {S : PS} (h : Full S) {n : Nat} (h0 : readE S (n : Int) = 0) : (readD S (n : Int)).size = 256 := by
  unfold readE at h0
  unfold readD
  cases ho : S.off with
  | true => simp [ho] at h0
  | false =>
    simp only [ho, Bool.false_eq_true, if_false] at h0 ⊢
    cases hi : inS S (n : Int) with
    | false => simp [hi] at h0
    | true =>
      simp only [hi, if_true, Int.toNat_natCast] at h0 ⊢
      cases hl : lastOf n S.q with
      | some d => obtain ⟨x, hx, -, e⟩ := last_mem hl; rw [← e]; exact h.q x hx
      | none =>
        rw [hl] at h0
        simp only at h0 ⊢
        have hn : n < S.N := by unfold inS at hi; simp at hi; exact hi
        cases ht : (S.sec n).t with
        | true => simp [ht] at h0
        | false => simpa [ht] using h.sec n hn ht
theorem readE_le (S : PS) (n : Int) : readE S n = 0 ∨ (readE S n = 1 ∨ readE S n = 10 ∨ readE S n = 20) := by
  unfold readE
  split
  · simp
  · split
    · split
      · simp
      · split <;> simp
    · simp
section
variable {M : Nat → Prop} {p s lf : Nat} {C : Cfg} {S : PS}
theorem pq_readB (w : World) (n : Int) (h : PQ w p M S) (hq : S.q.length ≤ 1000000) :
    Calls Tryd.prog 18 #[.pointer (some ⟨p, 0, none⟩), .int .i64 n] w fun e w' => e = .returned (.tuple #[.string (readD S n), .int .i64 (readE S n)]) ∧ Below w.heap.size w w' := by
  obtain ⟨sb, qv, h⟩ := h
  exact read_any w p sb qv M S n h hq
/-- a home's bytes, read in whatever order -/
theorem home_read {w : World} {n : Nat} (h : Sto M w s p C lf) (hp : PQ w p M S) (hc : C.small) (hn : n ≤ 1000000) (hq : S.q.length ≤ 1000000) :
    (∀ d os, Calls Tryd.prog 53 #[.pointer (some ⟨s, 0, none⟩), .int .i64 (n : Int)] (grow (redrawn w d) os) fun e w'' => e = .returned (.int .i64 (C.home n : Int)) ∧ ∃ q : Regrown, w'' = grow (redrawn w q.d) q.os) ∧
    (∀ d os, Calls Tryd.prog 18 #[.pointer (some ⟨p, 0, none⟩), .int .i64 (C.home n : Int)] (grow (redrawn w d) os) fun e w'' => e = .returned (.tuple #[.string (readD S (C.home n : Int)), .int .i64 (readE S (C.home n : Int))]) ∧ ∃ q : Regrown, w'' = grow (redrawn w q.d) q.os) :=
  ⟨fun d os => Calls.regrown_of (home_any _ n (h.keep (Keep.of_below (below_regrown w d os) hp.lt)) hc hn), fun d os => Calls.regrown_of (pq_readB _ _ (hp.below (below_regrown w d os)) hq)⟩
theorem twin_read {w : World} {n : Nat} (h : Sto M w s p C lf) (hp : PQ w p M S) (hc : C.small) (hn : n ≤ 1000000) (hq : S.q.length ≤ 1000000) :
    (∀ d os, Calls Tryd.prog 28 #[.pointer (some ⟨s, 0, none⟩), .int .i64 (n : Int)] (grow (redrawn w d) os) fun e w'' => e = .returned (.int .i64 (C.twin n : Int)) ∧ ∃ q : Regrown, w'' = grow (redrawn w q.d) q.os) ∧
    (∀ d os, Calls Tryd.prog 18 #[.pointer (some ⟨p, 0, none⟩), .int .i64 (C.twin n : Int)] (grow (redrawn w d) os) fun e w'' => e = .returned (.tuple #[.string (readD S (C.twin n : Int)), .int .i64 (readE S (C.twin n : Int))]) ∧ ∃ q : Regrown, w'' = grow (redrawn w q.d) q.os) :=
  ⟨fun d os => Calls.regrown_of (twin_any _ n (h.keep (Keep.of_below (below_regrown w d os) hp.lt)) hc hn), fun d os => Calls.regrown_of (pq_readB _ _ (hp.below (below_regrown w d os)) hq)⟩
theorem Sto.below {w w' : World} (h : Sto M w s p C lf) (hb : Below w.heap.size w w') (hp : PQ w p M S) : Sto M w' s p C lf := h.keep (Keep.of_below hb hp.lt)
set_option maxHeartbeats 1000000 in
theorem look_any (w : World) (n : Nat) (h : Sto M w s p C lf) (hp : PQ w p M S) (hc : C.small) (hn : n ≤ 65535) (hq : S.q.length ≤ 1000000) (hf : Full S) :
    Calls Tryd.prog 33 #[.pointer (some ⟨s, 0, none⟩), .int .i64 (n : Int)] w (Slab.PageRes (lookR C S n).1 (lookR C S n).2.1 (lookR C S n).2.2 w) := by
  have hb0 : Below w.heap.size w (w.alloc (.cells #[.int .i64 0, .slice none 0 0] 41)) := (Below.refl _ _).alloc (Nat.le_refl _) _
  have hB := Blk.new w 41 #[.int .i64 0, .slice none 0 0]
  have hlt : w.heap.size < (w.alloc (.cells #[.int .i64 0, .slice none 0 0] 41)).heap.size := by simp
  have h1 := h.below hb0 hp
  have hp1 := hp.below hb0
  obtain ⟨c0, -⟩ := h1.get
  have k0 := cell_regrown c0
  obtain ⟨cH, cR⟩ := home_read h1 hp1 hc (n := n) (by omega) hq
  by_cases he : readE S (C.home n : Int) = 0
  · have hsz := hf.read he
    have hl : lookR C S n = if zeroB (readD S (C.home n : Int)) then (0, [], 0) else ((pageR (readD S (C.home n : Int)) n).1, (pageR (readD S (C.home n : Int)) n).2.1, if (pageR (readD S (C.home n : Int)) n).2.2 then 0 else 4) := by unfold lookR; rw [if_pos he]
    rw [hl]
    rw [he] at cR
    clear hl he hf
    generalize readD S (C.home n : Int) = D at cR hsz ⊢
    generalize (C.home n : Int) = hm at cR cH
    have hTr := fun W => trim_any D W (by omega) (by omega)
    have htz := trim_zero D
    have hPg := fun W => pageOf_any D n W (by omega) hn
    cases hz : zeroB D with
    | true =>
      rw [hz] at htz
      rw [if_pos rfl]
      generalize leftT (rightT D) = tr at hTr htz
      have HTR := Lib.hid hTr
      clear hPg hTr h1 hp1 h hp hsz hz
      go_enter Tryd.func33, Tryd.ntmps33
      go_upto_region 1 with (fail)
      generalize hGen : w.alloc (.cells #[.int .i64 0, .slice none 0 0] 41) = W at c0 k0 cH cR hB hb0 hlt ⊢
      clear hGen
      refine wp_region_quiet_below (by kernel_rfl) (by kernel_rfl) ?_
      repeat (go_big_quiet_step ((first | with_reducible exact cH _ _ | with_reducible exact cR _ _)))
      refine wpQuiet_nil ?_
      intro _ hw'
      obtain ⟨⟨dq, osq⟩, hw''⟩ := hw'
      subst hw''
      have b1 := below_regrown W dq osq
      generalize grow (redrawn W dq) osq = W1 at b1 ⊢
      have B1 := hb0.trans (b1.mono hb0.size)
      have hB1 := hB.below b1 hlt
      clear b1 cH cR k0 c0 hb0
      go_wp2_with fail
      refine (HTR.out _).mono ?_
      rintro e w2 ⟨rfl, b2⟩
      have B2 := B1.trans (b2.mono B1.size)
      have hB2 := hB1.below b2 hB1.lt
      have q0 := hB2.cell 0
      have q1 := hB2.cell 1
      simp at q0 q1
      clear b2 hB hB1
      go_wp2
      exact bodyPost_ret (v := .tuple #[.agg #[.int .i64 0, .slice none 0 0], .int .i64 0]) (by simp [results, Tryd.results33, go_sem, q0, q1]) rfl ⟨none, 0, 0, rfl, Slab.Slots.nil _ _, B2, fun _ _ _ e => by cases e⟩
    | false =>
      rw [hz] at htz
      rw [if_neg (by decide)]
      generalize leftT (rightT D) = tr at hTr htz
      generalize pageR D n = R at hPg ⊢
      obtain ⟨l, z, ok⟩ := R
      simp only at hPg ⊢
      generalize hcd : (if ok = true then (0 : Int) else 4) = cd
      have HCD := Lib.hid hcd
      clear hcd
      have HTR := Lib.hid hTr
      have HPG := Lib.hid hPg
      clear hPg hTr h1 hp1 h hp hsz hz
      go_enter Tryd.func33, Tryd.ntmps33
      go_upto_region 1 with (fail)
      generalize hGen : w.alloc (.cells #[.int .i64 0, .slice none 0 0] 41) = W at c0 k0 cH cR hB hb0 hlt ⊢
      clear hGen
      refine wp_region_quiet_below (by kernel_rfl) (by kernel_rfl) ?_
      repeat (go_big_quiet_step ((first | with_reducible exact cH _ _ | with_reducible exact cR _ _)))
      refine wpQuiet_nil ?_
      intro _ hw'
      obtain ⟨⟨dq, osq⟩, hw''⟩ := hw'
      subst hw''
      have b1 := below_regrown W dq osq
      generalize grow (redrawn W dq) osq = W1 at b1 ⊢
      have B1 := hb0.trans (b1.mono hb0.size)
      have hB1 := hB.below b1 hlt
      clear b1 cH cR k0 c0 hb0
      go_wp2_with fail
      refine (HTR.out _).mono ?_
      rintro e w2 ⟨rfl, b2⟩
      have B2 := B1.trans (b2.mono B1.size)
      have hB2 := hB1.below b2 hB1.lt
      clear b2 hB hB1 B1
      go_wp2_with fail
      refine (HPG.out _).mono ?_
      rintro e w3 ⟨a, m, c, rfl, hS, b3, hnew⟩
      have B3 := B2.trans (b3.mono B2.size)
      have hwl : w.heap.size < w2.heap.size := hB2.lt
      have hB3 := hB2.below b3 hB2.lt
      obtain ⟨⟨s0, s1, s2, s3⟩, ⟨s4, s5, s6⟩, ⟨s7, s8, s9, s10⟩, hB4⟩ := page_store hB3 (.int .i64 l) (.slice a m c)
      have HS := Lib.hid hS
      have HN := Lib.hid hnew
      have HB := Lib.hid B3
      have HW := Lib.hid hwl
      clear hS hnew b3 hB2 B2 B3 hB3 hB4 hlt hwl
      cases ok
      · obtain rfl : cd = 4 := HCD.out.symm.trans (if_neg (by decide))
        go_wp2
        refine bodyPost_ret (v := .tuple #[.agg #[.int .i64 l, .slice a m c], .int .i64 4]) (by simp [results, Tryd.results33, go_sem, s7, s8]) rfl ⟨a, m, c, rfl, ?_, ?_, fun b off e h => by have := HN.out b off e h; have := HW.out; omega⟩
        · exact slots_set (slots_set HS.out HN.out HW.out _ _) HN.out HW.out _ _
        · exact (HB.out.setCell (p := ⟨w.heap.size, 0, none⟩) (Nat.le_refl _) _).setCell (p := ⟨w.heap.size, 1, none⟩) (Nat.le_refl _) _
      · obtain rfl : cd = 0 := HCD.out.symm.trans (if_pos rfl)
        go_wp2
        refine bodyPost_ret (v := .tuple #[.agg #[.int .i64 l, .slice a m c], .int .i64 0]) (by simp [results, Tryd.results33, go_sem, s7, s8]) rfl ⟨a, m, c, rfl, ?_, ?_, fun b off e h => by have := HN.out b off e h; have := HW.out; omega⟩
        · exact slots_set (slots_set HS.out HN.out HW.out _ _) HN.out HW.out _ _
        · exact (HB.out.setCell (p := ⟨w.heap.size, 0, none⟩) (Nat.le_refl _) _).setCell (p := ⟨w.heap.size, 1, none⟩) (Nat.le_refl _) _
  · have hl : lookR C S n = (0, [], readE S (C.home n : Int)) := by unfold lookR; rw [if_neg he]
    rw [hl]
    have he' : (readE S (C.home n : Int) != 0) = true := by rw [bne_iff_ne]; exact he
    clear hl he hf
    generalize readD S (C.home n : Int) = D at cR
    generalize readE S (C.home n : Int) = E at cR he' ⊢
    generalize (C.home n : Int) = hm at cR cH
    clear h1 hp1 h hp
    go_enter Tryd.func33, Tryd.ntmps33
    go_upto_region 1 with (fail)
    generalize hGen : w.alloc (.cells #[.int .i64 0, .slice none 0 0] 41) = W at c0 k0 cH cR hB hb0 hlt ⊢
    clear hGen
    refine wp_region_quiet_below (by kernel_rfl) (by kernel_rfl) ?_
    repeat (go_big_quiet_step ((first | with_reducible exact cH _ _ | with_reducible exact cR _ _)))
    refine wpQuiet_nil ?_
    intro _ hw'
    obtain ⟨⟨dq, osq⟩, hw''⟩ := hw'
    subst hw''
    have b1 := below_regrown W dq osq
    generalize grow (redrawn W dq) osq = W1 at b1 ⊢
    have B1 := hb0.trans (b1.mono hb0.size)
    have hB1 := hB.below b1 hlt
    have q0 := hB1.cell 0
    have q1 := hB1.cell 1
    simp at q0 q1
    clear b1 cH cR k0 c0 hb0
    go_wp2
    exact bodyPost_ret (v := .tuple #[.agg #[.int .i64 0, .slice none 0 0], .int .i64 E]) (by simp [results, Tryd.results33, go_sem, q0, q1]) rfl ⟨none, 0, 0, rfl, Slab.Slots.nil _ _, B1, fun _ _ _ e => by cases e⟩
end
end Go.Proofs.YtnnppdjgmjgjhaaDoor.Twin
