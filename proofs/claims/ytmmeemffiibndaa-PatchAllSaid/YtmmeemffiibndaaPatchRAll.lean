/- The walk of the document's own All. -/
import Derived.Test.YtmmeemffiibndaaPatchAll
import Derived.Test.YtmmeemffiibndaaPatchRRedo
import Derived.Test.YtmmeemffiibndaaSlabKeepsWalk
import Derived.Deep.CutRange
namespace Go.Proofs.Ytmmeemffiibndaa.Patch
open Go.RowKit Go.Sort
open Go.Proofs.Ytmmeemffiibndaa.Slab (Slot nos atL putN putZ putL putCode sameB Blk Slots ret_bool' box_elim_d box_fresh box_written)
open Go.Proofs.Ytmmeemffiibndaa.Ent (Ent noE longB SmallE Small ent_cells alloc_lt below_box Ents EntAt)
open Go.Proofs.Ytmmeemffiibndaa.Nib (below_next below_drew)
/-- a page and an error's number, wherever the slots lie -/
def PageAny (L : Int) (Z : List Slot) (code : Int) (w : World) (e : Ending) (w' : World) : Prop :=
  ∃ a n c, e = .returned (.tuple #[.agg #[.int .i64 L, .slice a n c], .int .i64 code]) ∧ Slots w' a n Z ∧ Below w.heap.size w w'
theorem any_res {page lsn : Int} {l : List Slot} {xs : List Ent} {L code : Int} {Z : List Slot} {w : World} {e : Ending} {w' : World} (hg : Slab.goodB lsn l = true) (h : allF page xs lsn l = (code, L, Z)) (hr : PageAny L Z code w e w') :
    PageAny (allR page lsn l xs).2.1 (allR page lsn l xs).2.2 (allR page lsn l xs).1 w e w' := by
  unfold allR; rw [if_pos hg, h]; exact hr
/-- the page at hand in the parameter's box, its slots beside it -/
structure QAt (w W : World) (L : Int) (a : Option Addr) (n c : Nat) (Z : List Slot) : Prop where
  q : Blk W w.heap.size 24 #[.int .i64 L, .slice a n c]
  r : Blk W (w.heap.size + 1) 24 #[.int .i64 0, .slice none 0 0]
  b : Below w.heap.size w W
  s : Slots W a n Z
  ne : ∀ b off, a = some ⟨b, off, none⟩ → 0 < n → b ≠ w.heap.size ∧ b ≠ w.heap.size + 1
  z : w.heap.size + 1 < W.heap.size
theorem QAt.next {w W W' : World} {L : Int} {a : Option Addr} {n c : Nat} {Z : List Slot} (h : QAt w W L a n c Z) (hb : Below W.heap.size W W') : QAt w W' L a n c Z :=
  ⟨h.q.below hb h.q.lt, h.r.below hb h.r.lt, below_next h.b hb, h.s.below hb, h.ne, Nat.lt_of_lt_of_le h.z hb.size⟩
theorem QAt.new {w W : World} {L L' : Int} {a a' : Option Addr} {n n' c c' : Nat} {Z Z' : List Slot} (h : QAt w W L a n c Z) (hs : Slots W a' n' Z') (hn : ∀ b off, a' = some ⟨b, off, none⟩ → 0 < n' → b ≠ w.heap.size ∧ b ≠ w.heap.size + 1) :
    QAt w ((W.setCell ⟨w.heap.size, 0, none⟩ (.int .i64 L')).setCell ⟨w.heap.size, 1, none⟩ (.slice a' n' c')) L' a' n' c' Z' := by
  refine ⟨?_, (h.r.far (by simp) _).far (by simp) _, (h.b.setCell (p := ⟨w.heap.size, 0, none⟩) (Nat.le_refl _) _).setCell (p := ⟨w.heap.size, 1, none⟩) (Nat.le_refl _) _, (hs.setCell _ ?_).setCell _ ?_, hn, by have := h.z; simpa using this⟩
  · have := (h.q.set_ 0 (.int .i64 L')).set_ 1 (.slice a' n' c')
    simpa using this
  · intro b off e h0; exact (hn b off e h0).1
  · intro b off e h0; exact (hn b off e h0).1

set_option maxRecDepth 100000 in
set_option maxHeartbeats 8000000 in
theorem rall_any (lsn : Int) (a : Option Addr) (n c : Nat) (zs : List Slot) (page : Int) (la : Option Addr) (ln lc : Nat) (xs : List Ent) (w : World) (h : Slots w a n zs) (hn : n ≤ 1000000) (hl : Ents w la ln xs) (hln : ln ≤ 1000000) :
    Calls Try.prog 28 #[.agg #[.int .i64 lsn, .slice a n c], .int .i64 page, .slice la ln lc] w (PageAny (allR page lsn zs xs).2.1 (allR page lsn zs xs).2.2 (allR page lsn zs xs).1 w) := by
  have hb0 : Below w.heap.size w ((w.alloc (.cells #[.int .i64 lsn, .slice a n c] 24)).alloc (.cells #[.int .i64 0, .slice none 0 0] 24)) := ((Below.refl _ _).alloc (Nat.le_refl _) _).alloc (by simp) _
  have hR := Blk.new (w.alloc (.cells #[.int .i64 lsn, .slice a n c] 24)) 24 #[.int .i64 0, .slice none 0 0]
  rw [World.size_alloc] at hR
  have H0 : QAt w ((w.alloc (.cells #[.int .i64 lsn, .slice a n c] 24)).alloc (.cells #[.int .i64 0, .slice none 0 0] 24)) lsn a n c zs := by
    refine ⟨(Blk.new w _ _).alloc _, hR, hb0, h.below hb0, fun b off e h0 => ?_, by simp⟩
    obtain ⟨b', off', e', hlt, _⟩ := h.2.2 h0
    rw [e] at e'; cases e'; omega
  have HS := Lib.hid h
  have HLS := Lib.hid hl
  clear h hl hR hb0
  cases hg : Slab.goodB lsn zs with
  | false =>
    have HA := Lib.hid (show allR page lsn zs xs = (1, 0, []) by unfold allR; rw [hg]; rfl)
    have HG := Lib.hid hg
    clear hg
    go_enter Try.func28, Try.ntmps28
    go_wp2_with fail
    generalize hGen : (w.alloc (.cells #[.int .i64 lsn, .slice a n c] 24)).alloc (.cells #[.int .i64 0, .slice none 0 0] 24) = W at H0 ⊢
    clear hGen
    refine (Slab.rgood_any lsn a n c zs _ H0.s (by omega)).mono ?_
    rw [HG.out]
    rintro e w1 ⟨rfl, b1⟩
    have H1 := H0.next b1
    have q0 := H1.r.cell 0
    have q1 := H1.r.cell 1
    have f0 := H1.r.frozen 0
    have f1 := H1.r.frozen 1
    go_wp2
    exact bodyPost_ret (v := .tuple #[.agg #[.int .i64 0, .slice none 0 0], .int .i64 1]) (by simp [results, Try.results28, go_sem, q0, q1]) rfl (by
      rw [HA.out]
      exact ⟨none, 0, 0, rfl, Slots.nil _ _, (H1.b.setCell (p := ⟨w.heap.size + 1, 0, none⟩) (by simp) _).setCell (p := ⟨w.heap.size + 1, 1, none⟩) (by simp) _⟩)
  | true =>
    have HG := Lib.hid hg
    clear hg
    go_enter Try.func28, Try.ntmps28
    go_wp2_with fail
    generalize hGen : (w.alloc (.cells #[.int .i64 lsn, .slice a n c] 24)).alloc (.cells #[.int .i64 0, .slice none 0 0] 24) = W at H0 ⊢
    clear hGen
    refine (Slab.rgood_any lsn a n c zs _ H0.s (by omega)).mono ?_
    rw [HG.out]
    rintro e w1 ⟨rfl, b1⟩
    have H1 := Lib.hid (H0.next b1)
    clear b1 H0
    go_wp2
    go_loopw [8] (fun i wr => ∃ (k : Nat) (L : Int) (a3 : Option Addr) (n3 cc3 : Nat) (Z : List Slot), k ≤ ln ∧ i = .int .i64 (k : Int) ∧ QAt w wr L a3 n3 cc3 Z ∧ Slab.goodB L Z = true ∧ allF page (xs.take k) lsn zs = (0, L, Z)) (fun i _ => ln - (intOf i).toNat)
    case atStart => exact ⟨0, lsn, a, n, c, zs, Nat.zero_le _, rfl, H1.out, HG.out, rfl⟩
    case round =>
      obtain ⟨k, L, a3, n3, cc3, Z, hk, rfl, hA, hgd, hF⟩ := hrel
      have HA := Lib.hid hA
      have HGD := Lib.hid hgd
      have HF := Lib.hid hF
      have hn3 : n3 ≤ 32 := by have h1 := hA.s.len; have h2 := (Slab.good_parts hgd).2.2.1; omega
      clear hA hgd hF
      by_cases hlt : k < ln
      · obtain ⟨z1, z2, z3⟩ := HLS.out
        obtain ⟨b, off, rfl, hbw, hat⟩ := z3 (by omega)
        have hAt := (hat k hlt).next HA.out.b hbw
        have hxk : xs[k]? = some (xs.getD k noE) := by simp [List.getD, show k < xs.length by omega]
        have hsm : SmallE (xs.getD k noE) := z2 _ (List.mem_of_getElem? hxk)
        have HXK := Lib.hid hxk
        clear z1 z2 z3 hat hxk
        generalize xs.getD k noE = x at hAt hsm HXK
        have HSM := Lib.hid hsm
        have HAT := Lib.hid hAt
        obtain ⟨c0, c1, c2, c3, c4, c5, c6, c7, c8, c9, c10, c11, c12⟩ := hAt.cells
        clear hsm hAt
        by_cases hkk : longB x.kind = true
        rotate_left
        · have HFK := Lib.hid (allF_skip HF.out HXK.out (fun h => hkk h.1))
          have t1 : (x.kind != 1) = true := by rw [bne_iff_ne]; intro h; exact hkk (decide_eq_true (.inl h))
          have t2 : (x.kind != 2) = true := by rw [bne_iff_ne]; intro h; exact hkk (decide_eq_true (.inr h))
          clear hkk
          go_wp2
          go_roundw
          case rel => exact ⟨k + 1, L, a3, n3, cc3, Z, by omega, by go_num, HA.out, HGD.out, HFK.out⟩
          case measure => simp [intOf]; omega
        have tk : ((x.kind != 1) = false) ∨ ((x.kind != 1) = true ∧ (x.kind != 2) = false) := by
          have h1 := of_decide_eq_true hkk
          by_cases h2 : x.kind = 1
          · left; rw [h2]; rfl
          · right; refine ⟨bne_iff_ne.2 h2, ?_⟩
            rcases h1 with h1 | h1
            · exact absurd h1 h2
            · rw [h1]; rfl
        by_cases hp : x.page = page
        rotate_left
        · have HFK := Lib.hid (allF_skip HF.out HXK.out (fun h => hp h.2))
          have tp : (x.page != page) = true := by rw [bne_iff_ne]; exact hp
          clear hkk hp
          rcases tk with t1 | ⟨t1, t2⟩
          all_goals
            go_wp2
            go_roundw
            case rel => exact ⟨k + 1, L, a3, n3, cc3, Z, by omega, by go_num, HA.out, HGD.out, HFK.out⟩
            case measure => simp [intOf]; omega
        have HPG := Lib.hid (show longB x.kind = true ∧ x.page = page from ⟨hkk, hp⟩)
        have tp : (x.page != page) = false := by rw [hp]; simp
        clear hkk hp
        have hpb : ∀ W, Below wr.heap.size wr W → Calls Try.prog 24 #[.agg #[.int .i64 L, .slice a3 n3 cc3], .agg #[.int .i64 x.kind, .int .i64 x.cl, .int .i64 x.ep, .int .i64 x.n, .int .i64 x.lsn, .int .i64 x.prev, .int .i64 x.page, .int .i64 x.slot, .bool x.wu, .string x.wd, .bool x.iu, .string x.id, .int .i64 x.next]] W (RedoRes2 a3 n3 (redoN L Z x) (redoZ L Z x) (redoD L Z x) (redoCode L Z x) W) := fun W hW =>
          rredo2_any L a3 n3 cc3 Z x W (HA.out.next hW).s (by omega) HSM.out
        have hok : redoCode L Z x = 0 → Slab.goodB (redoN L Z x) (redoZ L Z x) = true ∧ allF page (xs.take (k + 1)) lsn zs = (0, redoN L Z x, redoZ L Z x) := fun hc => ⟨(redo_good hc).1, allF_step HF.out HXK.out HPG.out hc⟩
        have hbad : redoCode L Z x ≠ 0 → allF page xs lsn zs = (redoCode L Z x, 0, []) := fun hc => allF_fail HF.out HXK.out HPG.out hc
        generalize redoN L Z x = N5 at hpb hok
        generalize redoZ L Z x = Z5 at hpb hok
        generalize redoD L Z x = D5 at hpb
        generalize redoCode L Z x = cd at hpb hok hbad
        have HPB := Lib.hid hpb
        have HOK := Lib.hid hok
        have HBAD := Lib.hid hbad
        have HOLD : Hid (∀ b off, a3 = some ⟨b, off, none⟩ → 0 < n3 → b < wr.heap.size) := Lib.hid fun b off e h0 => by
          obtain ⟨b', off', e', hlt', _⟩ := HA.out.s.2.2 h0
          rw [e] at e'; cases e'; exact hlt'
        have hwz : w.heap.size + 1 < wr.heap.size := HA.out.z
        have hwz0 : w.heap.size < wr.heap.size := by omega
        have hbz : b < wr.heap.size := by omega
        clear hpb hok hbad HGD HF
        go_upto_region 6 with (fail)
        go_cut [44] from 16 to 59 (fun v wx => v = .bool false ∧ wr = wx)
        case first =>
          rcases tk with t1 | ⟨t1, t2⟩
          all_goals
            go_wp2_with fail
            go_meet
            exact ⟨rfl, rfl⟩
        case rest =>
        obtain ⟨rfl, rfl⟩ := hcut
        clear tk tp
        go_upto_region 7 with (fail)
        have q0 := HA.out.q.cell 0
        have q1 := HA.out.q.cell 1
        go_region_with (first
          | (go_at_call 24
             (with_reducible refine (HPB.out _ ?_).mono ?_)
             · first
               | exact (Below.refl wr.heap.size wr).drew
               | exact ((Below.refl wr.heap.size wr).alloc (Nat.le_refl _) _).drew
             rintro e wP ⟨a5, n5, cc5, rfl, s5, b5, g5⟩
             have hz4 : Below wr.heap.size wr wP := by
               first
               | exact Slab.below_next' ((Below.refl wr.heap.size wr).drew) b5 (by simp)
               | exact Slab.below_next' (((Below.refl wr.heap.size wr).alloc (Nat.le_refl _) _).drew) b5 (by simp)
             have HNEW : Hid (∀ b off, a5 = some ⟨b, off, none⟩ → 0 < n5 → b ≠ w.heap.size ∧ b ≠ w.heap.size + 1) := Lib.hid fun b off e h0 => by
               rcases g5 with ⟨g5, g6⟩ | g5
               · subst g5 g6; exact HA.out.ne b off e h0
               · have h1 := g5 _ _ _ e; simp at h1; omega
             have HNB : Hid (∀ b off, a5 = some ⟨b, off, none⟩ → 0 < n5 → b < wr.heap.size ∨ (wr.heap.size ≤ b ∧ ∀ e, a5 = some ⟨b, off, e⟩ → wr.heap.size ≤ b)) := Lib.hid fun b off e h0 => by
               rcases g5 with ⟨g5, g6⟩ | g5
               · subst g5 g6; exact .inl (HOLD.out b off e h0)
               · have h1 := g5 _ _ _ e; simp at h1; exact .inr ⟨by omega, fun _ _ => by omega⟩
             first | (refine box_elim_d b5 ?_; rintro ⟨e0, e1, g0, g1⟩) | skip))
        all_goals
          first
          | ((with_reducible show Exit.then _ _ _ _ (wP.alloc (.cells #[.int .i64 N5, .slice a5 n5 cc5] 24)))
             obtain ⟨E0, E1⟩ : (wP.alloc (.cells #[.int .i64 N5, .slice a5 n5 cc5] 24)).cell? ⟨wP.heap.size, 0, none⟩ = some (.int .i64 N5) ∧ (wP.alloc (.cells #[.int .i64 N5, .slice a5 n5 cc5] 24)).cell? ⟨wP.heap.size, 1, none⟩ = some (.slice a5 n5 cc5) := box_fresh
             have S7 := Lib.hid (show Slots (wP.alloc (.cells #[.int .i64 N5, .slice a5 n5 cc5] 24)) a5 n5 Z5 from s5.below ((Below.refl _ _).alloc (Nat.le_refl _) _))
             have BZ : Below wr.heap.size wr (wP.alloc (.cells #[.int .i64 N5, .slice a5 n5 cc5] 24)) := hz4.alloc hz4.size _
             have hgz : wr.heap.size ≤ wP.heap.size := hz4.size
             clear b5 s5 g5 hz4 q0 q1 HNB
             generalize hGen : wP.alloc (.cells #[.int .i64 N5, .slice a5 n5 cc5] 24) = X at BZ E0 E1 S7 ⊢
             clear hGen
             generalize hGen : wP.heap.size = g at E0 E1 hgz ⊢
             clear hGen
             skip)
          | ((with_reducible show Exit.then _ _ _ _ ((wP.setCell ⟨wr.heap.size, 0, none⟩ (.int .i64 N5)).setCell ⟨wr.heap.size, 1, none⟩ (.slice a5 n5 cc5)))
             obtain ⟨E0, E1⟩ : ((wP.setCell ⟨wr.heap.size, 0, none⟩ (.int .i64 N5)).setCell ⟨wr.heap.size, 1, none⟩ (.slice a5 n5 cc5)).cell? ⟨wr.heap.size, 0, none⟩ = some (.int .i64 N5) ∧ ((wP.setCell ⟨wr.heap.size, 0, none⟩ (.int .i64 N5)).setCell ⟨wr.heap.size, 1, none⟩ (.slice a5 n5 cc5)).cell? ⟨wr.heap.size, 1, none⟩ = some (.slice a5 n5 cc5) := box_written e0 e1
             have HNX : ∀ b off, a5 = some ⟨b, off, none⟩ → 0 < n5 → b ≠ wr.heap.size := fun b off e h0 => by
               rcases g5 with ⟨g5, g6⟩ | g5
               · subst g5 g6; have := HOLD.out b off e h0; omega
               · have h1 := g5 _ _ _ e; simp at h1; omega
             have S7 := Lib.hid (show Slots ((wP.setCell ⟨wr.heap.size, 0, none⟩ (.int .i64 N5)).setCell ⟨wr.heap.size, 1, none⟩ (.slice a5 n5 cc5)) a5 n5 Z5 from (s5.setCell _ HNX).setCell _ HNX)
             have BZ : Below wr.heap.size wr ((wP.setCell ⟨wr.heap.size, 0, none⟩ (.int .i64 N5)).setCell ⟨wr.heap.size, 1, none⟩ (.slice a5 n5 cc5)) := (hz4.setCell (p := ⟨wr.heap.size, 0, none⟩) (by simp) _).setCell (p := ⟨wr.heap.size, 1, none⟩) (by simp) _
             have hgz : wr.heap.size ≤ wr.heap.size := Nat.le_refl _
             clear b5 s5 g5 hz4 q0 q1 HNB HNX
             generalize hGen : (wP.setCell ⟨wr.heap.size, 0, none⟩ (.int .i64 N5)).setCell ⟨wr.heap.size, 1, none⟩ (.slice a5 n5 cc5) = X at BZ E0 E1 S7 ⊢
             clear hGen
             generalize hGen : wr.heap.size = g at E0 E1 ⊢
             have hgz2 : wr.heap.size ≤ g := by omega
             clear hGen hgz
             skip)
          have HX := Lib.hid (HA.out.next BZ)
          have q0 := HX.out.q.cell 0
          have q1 := HX.out.q.cell 1
          have qf0 := HX.out.q.frozen 0
          have qf1 := HX.out.q.frozen 1
          clear BZ
          by_cases hc : cd = 0
          · obtain ⟨h5, h6⟩ := HOK.out hc
            have HGD5 := Lib.hid h5
            have HFK := Lib.hid h6
            subst hc
            have HX2 := Lib.hid (HX.out.new (L' := N5) (c' := cc5) S7.out HNEW.out)
            clear h5 h6
            go_wp2
            go_roundw
            case rel => exact ⟨k + 1, N5, a5, n5, cc5, Z5, by omega, by go_num, HX2.out, HGD5.out, HFK.out⟩
            case measure => simp [intOf]; omega
          · have HFF := Lib.hid (HBAD.out hc)
            have hne : (cd != 0) = true := by rw [bne_iff_ne]; exact hc
            have r0 := HX.out.r.cell 0
            have r1 := HX.out.r.cell 1
            have rf0 := HX.out.r.frozen 0
            have rf1 := HX.out.r.frozen 1
            clear hc
            go_wp2
            exact bodyPost_ret (v := .tuple #[.agg #[.int .i64 0, .slice none 0 0], .int .i64 cd]) (by simp [results, Try.results28, go_sem, r0, r1]) rfl (any_res HG.out HFF.out ⟨none, 0, 0, rfl, Slots.nil _ _, (HX.out.b.setCell (p := ⟨w.heap.size + 1, 0, none⟩) (by simp) _).setCell (p := ⟨w.heap.size + 1, 1, none⟩) (by simp) _⟩)
      · obtain rfl : ln = k := by omega
        have HFE := Lib.hid (show allF page xs lsn zs = (0, L, Z) by have := HF.out; rwa [List.take_of_length_le (by rw [HLS.out.1]; exact Nat.le_refl _)] at this)
        have q0 := HA.out.q.cell 0
        have q1 := HA.out.q.cell 1
        have r0 := HA.out.r.cell 0
        have r1 := HA.out.r.cell 1
        have rf0 := HA.out.r.frozen 0
        have rf1 := HA.out.r.frozen 1
        have HNE := Lib.hid (show ∀ b off, a3 = some ⟨b, off, none⟩ → 0 < n3 → b ≠ w.heap.size + 1 from fun b off e h => (HA.out.ne b off e h).2)
        clear HF
        go_wp2
        exact bodyPost_ret (v := .tuple #[.agg #[.int .i64 L, .slice a3 n3 cc3], .int .i64 0]) (by simp [results, Try.results28, go_sem, r0, r1]) rfl (any_res HG.out HFE.out ⟨a3, n3, cc3, rfl, (HA.out.s.setCell _ HNE.out).setCell _ HNE.out, (HA.out.b.setCell (p := ⟨w.heap.size + 1, 0, none⟩) (by simp) _).setCell (p := ⟨w.heap.size + 1, 1, none⟩) (by simp) _⟩)
end Go.Proofs.Ytmmeemffiibndaa.Patch
