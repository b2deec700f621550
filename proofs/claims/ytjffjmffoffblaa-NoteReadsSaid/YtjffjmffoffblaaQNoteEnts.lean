/- The walk of the reader's entries. -/
import Derived.Test.YtjffjmffoffblaaQNoteRead
import Derived.Test.YtjffjmffoffblaaQEntRowWalk
import Derived.Test.YtjffjmffoffblaaQMem
namespace Go.Proofs.Ytjffjmffoffblaa.Note
set_option maxRecDepth 100000
open Go.RowKit Go.Sort
open Go.Proofs.Ytjffjmffoffblaa.Nib (enc below_next below_drew Fits takeInt takeVal)
open Go.Proofs.Ytjffjmffoffblaa.Slab (Slot Slots Blk ret_bool' ret_int' PageRes own_below)
open Go.Proofs.Ytjffjmffoffblaa.Ent (Ent Ents EntAt SmallE withinB knownB noE entA below_box alloc_lt arr arr_list list_arr arr_size ent_cells Only arr_take decX decT decC cellsE cellsE_snoc cellsE_length infoE)

theorem entsL_snoc : ∀ (k : Nat) (s : List UInt8), entsL (k + 1) s = entsL k s ++ [decX (entsT k s)]
  | 0, _ => rfl
  | k + 1, s => by show decX s :: entsL (k + 1) (decT s) = _; rw [entsL_snoc k (decT s)]; rfl
theorem entsT_snoc : ∀ (k : Nat) (s : List UInt8), entsT (k + 1) s = decT (entsT k s)
  | 0, _ => rfl
  | k + 1, s => by show entsT (k + 1) (decT s) = _; rw [entsT_snoc k (decT s)]; rfl
theorem entsW_snoc : ∀ (k : Nat) (s : List UInt8) (b : Bool), entsW (k + 1) s b = (entsW k s b || !(decC (entsT k s) == 0))
  | 0, _, _ => rfl
  | k + 1, s, b => by show entsW (k + 1) (decT s) _ = _; rw [entsW_snoc k (decT s)]; rfl
theorem entsL_len : ∀ (k : Nat) (s : List UInt8), (entsL k s).length = k
  | 0, _ => rfl
  | k + 1, s => by simp [entsL, entsL_len k]
theorem decT_len (s : List UInt8) : (decT s).length ≤ s.length := by
  rcases Ent.dec_parts s with ⟨_, _, hs⟩ | ⟨_, _, h⟩
  · have := congrArg List.length hs
    rw [List.length_append] at this; omega
  · rw [h]; simp
theorem entsT_len : ∀ (k : Nat) (s : List UInt8), (entsT k s).length ≤ s.length
  | 0, _ => Nat.le_refl _
  | k + 1, s => Nat.le_trans (entsT_len k (decT s)) (decT_len s)
theorem decX_small (s : List UInt8) : SmallE (decX s) := by
  rcases Ent.dec_parts s with ⟨_, hg, _⟩ | ⟨_, h, _⟩
  · exact Ent.good_small hg
  · rw [h]; exact Ent.smallNo
theorem entsL_small : ∀ (k : Nat) (s : List UInt8), ∀ x ∈ entsL k s, SmallE x
  | 0, _, x, h => by simp [entsL] at h
  | k + 1, s, x, h => by
    simp only [entsL, List.mem_cons] at h
    rcases h with rfl | h
    · exact decX_small s
    · exact entsL_small k (decT s) x h
theorem ents_own {w : World} {base : Nat} {t : TypeId} {v : Value} {z : List Ent} (h : w.ownsRow base t 13 v z.length (cellsE z)) (hs : ∀ x ∈ z, SmallE x) :
    ∃ a c, v = .slice a z.length c ∧ Ents w a z.length z ∧ ∀ g off e, a = some ⟨g, off, e⟩ → base ≤ g := by
  obtain ⟨a, c, hv, hc⟩ := Ent.ents_of_own h
  have hnew : ∀ g off e, a = some ⟨g, off, e⟩ → base ≤ g := by
    intro g off e ha
    subst ha
    obtain ⟨hl, ⟨h0, _⟩ | ⟨g', cap, cur, h1, hg, _⟩⟩ := h
    · rw [hv] at h0; cases h0
    · rw [hv] at h1; cases h1; exact hg
  refine ⟨a, c, hv, ⟨rfl, hs, fun hn => ?_⟩, hnew⟩
  obtain ⟨g, ha, hlt, hcell⟩ := hc hn
  refine ⟨g, 0, ha, hlt, fun i hi => ?_⟩
  have e : z[i]? = some (z.getD i noE) := by simp [List.getD, hi]
  have := hcell i _ e
  rwa [Nat.zero_add]
theorem own_only {b : Nat} {w w' : World} {base n size : Nat} {t : TypeId} {v : Value} {xs : List Value} (h : w.ownsRow base t size v n xs) (o : Only b w w') (hb : b < base) : w'.ownsRow base t size v n xs :=
  Mem.own_same h fun g hg => o.2.2.2.2 g (Mem.own_lt h hg) (by
    have := Slab.own_block_ge h hg
    omega)
/-- entries are handed back, in new memory -/
def EntsRes (b : Nat) (s : List UInt8) (bad : Bool) (w : World) (e : Ending) (w' : World) : Prop :=
  ∃ a n c, e = .returned (.slice a n c) ∧ Ents w' a n (esL s) ∧ (∀ g off e, a = some ⟨g, off, e⟩ → w.heap.size ≤ g) ∧ Rd w' b (esT s) (esW s bad) ∧ Only b w w'
theorem only_grown {b : Nat} {w w' w'' : World} {row : Option Nat} (h : Only b w w') (hg : w'.grownBy w'' row) (hr : ∀ k, row = some k → w.heap.size ≤ k) : Only b w w'' :=
  ⟨hg.os.trans h.1, hg.tape.trans h.2.1, hg.output.trans h.2.2.1, Nat.le_trans h.size hg.size, fun k hk hn => (hg.block k (Nat.lt_of_lt_of_le hk h.size) (fun e => by have := hr k e.symm; omega)).trans (h.2.2.2.2 k hk hn)⟩
theorem rd_grown {b : Nat} {w w' : World} {row : Option Nat} {s : List UInt8} {bad : Bool} (h : Rd w b s bad) (hg : w.grownBy w' row) (hr : row ≠ some b) : Rd w' b s bad :=
  (hg.block b h.lt (fun e => hr e.symm)).trans h

set_option maxRecDepth 100000 in
set_option maxHeartbeats 4000000 in
theorem entries_any (b : Nat) (s : List UInt8) (bad : Bool) (w : World) (h : Rd w b s bad) (hs : s.length ≤ 140737488351232) :
    Calls Try.prog 29 #[.pointer (some ⟨b, 0, none⟩)] w (EntsRes b s bad w) := by
  have hlt := h.lt
  have HN := Lib.hid (number_any b s bad w h (by omega))
  have hnx : (nx s).length ≤ 140737488351232 := Nat.le_trans (Nib.takeInt_len s) hs
  obtain ⟨i0, hi, hz0, hz1, hz2⟩ := info_parts infoE
  clear h
  go_enter Try.func29, Try.ntmps29
  go_wp2_with fail
  refine HN.out.mono ?_
  rintro e w1 ⟨rfl, h1, o1⟩
  have H1 := Lib.hid h1
  have O1 := Lib.hid o1
  have hsz1 := o1.size
  clear h1 o1 HN
  by_cases hbig : 16 < vl s
  · have HE := Lib.hid (show esL s = [] ∧ esT s = nx s ∧ esW s bad = true from by unfold esL esT esW esN; rw [if_pos hbig]; exact ⟨rfl, rfl, by rw [if_pos hbig]⟩)
    obtain ⟨c0, c1, f0, f1⟩ := H1.out.get
    generalize vl s = V at hbig ⊢
    go_wp2
    go_ret
    refine ⟨none, 0, 0, rfl, ?_, by simp, ?_, O1.out.set_ _ _⟩
    · rw [HE.out.1]; exact ⟨rfl, by simp, fun h => absurd h (Nat.lt_irrefl 0)⟩
    · rw [HE.out.2.1, HE.out.2.2]; exact H1.out.set1
  · have HE := Lib.hid (show esL s = entsL (vl s).toNat (nx s) ∧ esT s = entsT (vl s).toNat (nx s) ∧ esW s bad = entsW (vl s).toNat (nx s) (bad || wr s) from by unfold esL esT esW esN; rw [if_neg hbig]; exact ⟨rfl, rfl, by rw [if_neg hbig]⟩)
    obtain ⟨N, hN⟩ : ∃ N, N = (vl s).toNat := ⟨_, rfl⟩
    rw [← hN] at HE
    have hN16 : N ≤ 16 := by omega
    have hNV : ∀ k : Nat, k < N ↔ (k : Int) < vl s := fun k => by omega
    generalize nx s = t at H1 HE hnx
    generalize (bad || wr s) = bd at H1 HE
    generalize vl s = V at hbig hNV hN ⊢
    have HNV := Lib.hid hNV
    clear hNV hN
    go_wp2
    go_loopw [4] (fun v wr => ∃ k : Nat, k ≤ N ∧ Hid (wr.ownsRow w.heap.size 56 13 v k (cellsE (entsL k t))) ∧ Hid (Rd wr b (entsT k t) (entsW k t bd)) ∧ Hid (Only b w wr)) (fun v _ => N - Slab.lenV v)
    case atStart => exact ⟨0, by omega, Lib.hid (Mem.own_nil _ _ _ _), H1, O1⟩
    case round =>
      obtain ⟨k, hk, HO, HR, HON⟩ := hrel
      obtain ⟨a, c, rfl⟩ := Mem.own_shape HO.out
      have hszr := HON.out.size
      by_cases hlt2 : k < N
      · have hV := (HNV.out k).1 hlt2
        obtain ⟨c0, c1, f0, f1⟩ := HR.out.get
        have HD := Lib.hid (fun w => Ent.decode_is (s := arr (entsT k t)) (x := decX (entsT k t)) (t := arr (decT (entsT k t))) (c := decC (entsT k t)) (by rw [arr_list, arr_list]; exact ⟨rfl, rfl, rfl⟩) w (by rw [arr_size]; have := entsT_len k t; omega))
        have HSN := Lib.hid (And.intro (entsL_snoc k t) (And.intro (entsT_snoc k t) (entsW_snoc k t bd)))
        generalize decX (entsT k t) = X at HD HSN
        generalize decT (entsT k t) = T at HD HSN
        generalize decC (entsT k t) = C at HD HSN
        go_wp2_with fail
        refine (HD.out _).mono ?_
        rintro e w2 ⟨rfl, b2⟩
        have R2 := Lib.hid (HR.out.below b2)
        have O2 := Lib.hid (HON.out.trans (Only.of_below b2))
        have W2 := Lib.hid (own_below HO.out b2)
        have hs2 := Nat.le_trans hszr b2.size
        clear c0 c1 f0 f1 b2
        go_upto_region 8 with (fail)
        have R3 := Lib.hid (R2.out.alloc (.cells #[.int .i64 X.kind, .int .i64 X.cl, .int .i64 X.ep, .int .i64 X.n, .int .i64 X.lsn, .int .i64 X.prev, .int .i64 X.page, .int .i64 X.slot, .bool X.wu, .string X.wd, .bool X.iu, .string X.id, .int .i64 X.next] 56))
        have hX3 := Blk.new w2 56 #[.int .i64 X.kind, .int .i64 X.cl, .int .i64 X.ep, .int .i64 X.n, .int .i64 X.lsn, .int .i64 X.prev, .int .i64 X.page, .int .i64 X.slot, .bool X.wu, .string X.wd, .bool X.iu, .string X.id, .int .i64 X.next]
        have O3 := Lib.hid (O2.out.trans (Only.of_below (below_box w2 (.cells #[.int .i64 X.kind, .int .i64 X.cl, .int .i64 X.ep, .int .i64 X.n, .int .i64 X.lsn, .int .i64 X.prev, .int .i64 X.page, .int .i64 X.slot, .bool X.wu, .string X.wd, .bool X.iu, .string X.id, .int .i64 X.next] 56))))
        have W3 := Lib.hid (own_below W2.out (below_box w2 (.cells #[.int .i64 X.kind, .int .i64 X.cl, .int .i64 X.ep, .int .i64 X.n, .int .i64 X.lsn, .int .i64 X.prev, .int .i64 X.page, .int .i64 X.slot, .bool X.wu, .string X.wd, .bool X.iu, .string X.id, .int .i64 X.next] 56)))
        have hg3 := alloc_lt w2 (.cells #[.int .i64 X.kind, .int .i64 X.cl, .int .i64 X.ep, .int .i64 X.n, .int .i64 X.lsn, .int .i64 X.prev, .int .i64 X.page, .int .i64 X.slot, .bool X.wu, .string X.wd, .bool X.iu, .string X.id, .int .i64 X.next] 56)
        generalize hGen : w2.alloc (.cells #[.int .i64 X.kind, .int .i64 X.cl, .int .i64 X.ep, .int .i64 X.n, .int .i64 X.lsn, .int .i64 X.prev, .int .i64 X.page, .int .i64 X.slot, .bool X.wu, .string X.wd, .bool X.iu, .string X.id, .int .i64 X.next] 56) = W at R3 hX3 O3 W3 hg3 ⊢
        clear hGen
        generalize hGen : w2.heap.size = gx at hX3 hg3 hs2 ⊢
        clear hGen
        have X3 := Lib.hid hX3
        obtain ⟨c0, c1, f0, f1⟩ := R3.out.get
        have HGO := Lib.hid (went_any b (entsT k t) T (entsW k t bd) (C == 0) W R3.out)
        clear hX3
        go_wp2_with fail
        refine HGO.out.mono ?_
        rintro e w4 ⟨rfl, h4, o4⟩
        have hX4 := o4.blk X3.out (by omega)
        have R4 := Lib.hid h4
        have O4 := Lib.hid (O3.out.trans o4)
        have W4 := Lib.hid (own_only W3.out o4 hlt)
        have hs4 := Nat.lt_of_lt_of_le hg3 o4.size
        clear c0 c1 f0 f1 h4 o4
        obtain ⟨x0, x1, x2, x3, x4, x5, x6, x7, x8, x9, x10, x11, x12⟩ := ent_cells hX4
        go_wp2_with (at_builtin; refine wpList_append_own _ rfl _ _ 28 rfl w.heap.size 56 i0 (.agg #[.int .i64 0, .int .i64 0, .int .i64 0, .int .i64 0, .int .i64 0, .int .i64 0, .int .i64 0, .int .i64 0, .bool false, .string ⟨#[]⟩, .bool false, .string ⟨#[]⟩, .int .i64 0]) 13 120 Try.underlying28 hi hz0 hz1 hz2 rfl (by decide) _ k (cellsE (entsL k t)) rfl (own_below W4.out (below_box _ _)) ⟨w4.heap.size, 0, none⟩ 1 1 (entA X).toList rfl rfl ?c1 ?c2 ?c3 ?c4 ?c5 ?_)
        case c1 =>
          intro j u hj
          rw [Ent.add_at, (Blk.new w4 56 #[.int .i64 X.kind, .int .i64 X.cl, .int .i64 X.ep, .int .i64 X.n, .int .i64 X.lsn, .int .i64 X.prev, .int .i64 X.page, .int .i64 X.slot, .bool X.wu, .string X.wd, .bool X.iu, .string X.id, .int .i64 X.next]).cell j]
          simpa [entA] using hj
        case c2 => intro u hu; simp [entA] at hu; rcases hu with rfl | rfl | rfl | rfl | rfl | rfl | rfl | rfl | rfl | rfl | rfl | rfl | rfl <;> rfl
        case c3 => unfold maxLen; omega
        case c4 => omega
        case c5 => simp; omega
        intro v' w6 hown6 hgrow6 _
        rw [cellsE_snoc, ← HSN.out.1] at hown6
        have W6 := Lib.hid hown6
        have hbo : ∀ j, Value.ownBlock (.slice a k c) = some j → w.heap.size ≤ j := fun j hj => Slab.own_block_ge W4.out hj
        have O6 := Lib.hid (only_grown (O4.out.trans (Only.of_below (below_box w4 (.cells (entA X) 56)))) hgrow6 hbo)
        have R6 := Lib.hid (show Rd w6 b (entsT (k + 1) t) (entsW (k + 1) t bd) from by
          rw [HSN.out.2.1, HSN.out.2.2]
          exact rd_grown (R4.out.alloc (.cells (entA X) 56)) hgrow6 (fun e => by have := hbo b e; omega))
        obtain ⟨a', c', rfl⟩ := Mem.own_shape W6.out
        clear hown6 hgrow6 hbo x0 x1 x2 x3 x4 x5 x6 x7 x8 x9 x10 x11 x12 hX4
        go_wp2
        go_roundw
        case rel => exact ⟨k + 1, by omega, W6, R6, O6⟩
        case measure => simp [Slab.lenV]; omega
      · have hV : ¬ ((k : Int) < V) := fun h => hlt2 ((HNV.out k).2 h)
        obtain rfl : N = k := by omega
        go_wp2
        go_ret
        have hw : wr.ownsRow w.heap.size 56 13 (.slice a N c) (entsL N t).length (cellsE (entsL N t)) := by rw [entsL_len]; exact HO.out
        obtain ⟨a2, c2, hv, hE, hnew⟩ := ents_own hw (entsL_small N t)
        rw [entsL_len] at hv hE
        cases hv
        refine ⟨a, N, c, rfl, ?_, hnew, ?_, HON.out⟩
        · rw [HE.out.1]; exact hE
        · rw [HE.out.2.1, HE.out.2.2]; exact HR.out
end Go.Proofs.Ytjffjmffoffblaa.Note
