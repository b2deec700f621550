/- The work of undoing, in memory. M: the blocks that nobody changes any more (the list's entries, its trail, the places, the losers' row, the pages' images). A loser waits for its next one to be undone. -/
import Derived.Test.YtkeocnhndnbamaaGreatQMendRedo
import Derived.Test.YtkeocnhndnbamaaGreatQBook20
import Derived.Test.YtkeocnhndnbamaaGreatQBook18
import Derived.Test.YtkeocnhndnbamaaGreatQBook15
namespace Go.Proofs.YtkeocnhndnbamaaGreat.Mend
set_option maxRecDepth 100000
open Go.RowKit Go.Sort
open Go.Proofs.YtkeocnhndnbamaaGreat.Mem
open Go.Proofs.YtkeocnhndnbamaaGreat.Slab (Slot Slots)
open Go.Proofs.YtkeocnhndnbamaaGreat.Ent (Ent goodB Ents EntAt SmallE entA cellsE)
open Go.Proofs.YtkeocnhndnbamaaGreat.Past (T3 AppRes cellsG)
open Go.Proofs.YtkeocnhndnbamaaGreat.Latch (MapN)
/-- a loser -/
structure LZ where
  b : Nat
  t : T3
  last : Int
  nx : Ent
  at_ : Int
def loserA (z : LZ) : Array Value := #[.int .i64 z.t.cl, .int .i64 z.t.ep, .int .i64 z.t.n, .int .i64 z.last, .int .i64 z.nx.kind, .int .i64 z.nx.cl, .int .i64 z.nx.ep, .int .i64 z.nx.n, .int .i64 z.nx.lsn, .int .i64 z.nx.prev, .int .i64 z.nx.page, .int .i64 z.nx.slot,
  .bool z.nx.wu, .string z.nx.wd, .bool z.nx.iu, .string z.nx.id, .int .i64 z.nx.next, .int .i64 z.at_]
/-- where the work's own things lie -/
structure WD where
  a : Option Addr
  n : Nat
  c : Nat
  ml : Nat
  mf : Nat
  mp : Nat
  pv : Value
  lv : Value
  qv : Value
  av : Value
def workA (D : WD) : Array Value := #[.slice D.a D.n D.c, .map (some D.ml), .map (some D.mf), D.pv, .map (some D.mp), D.lv, D.qv, D.av]
def bsOf (Z : List LZ) : List Nat := Z.map (·.b)
theorem bs_set {Z : List LZ} {i : Nat} {z z' : LZ} (hz : Z[i]? = some z) (hb : z'.b = z.b) : bsOf (Z.set i z') = bsOf Z := by
  unfold bsOf
  rw [List.map_set, hb]
  refine List.ext_getElem? fun j => ?_
  rw [List.getElem?_set]
  by_cases e : i = j
  · subst e
    rw [if_pos rfl, List.getElem?_map, hz, List.length_map, if_pos (List.getElem?_eq_some_iff.1 hz).1]; rfl
  · rw [if_neg e]
/-- what stays as it is -/
structure WR (w : World) (B : Nat) (M : Nat → Prop) (D : WD) (L : List Ent) (ls : List Lf) (bs : List Nat) : Prop where
  tr : TR w B D.ml D.mf D.n L
  en : Ents w D.a D.n L
  me : M D.ml ∧ M D.mf ∧ M D.mp ∧ ∀ b off e, D.a = some ⟨b, off, e⟩ → 0 < D.n → M b
  pl : ∃ k, MapN w D.mp k (plF ls)
  lo : w.ownsRow B 124 1 D.lv bs.length (bs.map ptrV)
  mlo : ∀ g, D.lv.ownBlock = some g → M g
  mlt : ∀ k, M k → k < w.heap.size
section
variable {w w' : World} {B u : Nat} {M : Nat → Prop} {D : WD} {L : List Ent} {ls : List Lf} {bs : List Nat}
theorem ents_keep {a : Option Addr} {n : Nat} (h : Ents w a n L) (hk : Keep M w w') (hm : ∀ b off e, a = some ⟨b, off, e⟩ → 0 < n → M b) : Ents w' a n L := by
  obtain ⟨h1, h2, h3⟩ := h
  refine ⟨h1, h2, fun hn => ?_⟩
  obtain ⟨b, off, ha, hlt, hc⟩ := h3 hn
  exact ⟨b, off, ha, Nat.lt_of_lt_of_le hlt hk.size, fun i hi j v hv => (hk.cell (p := ⟨b, off + i * 13 + j, none⟩) (hm b off none ha hn)).trans (hc i hi j v hv)⟩
theorem WR.keep (h : WR w B M D L ls bs) (hk : Keep M w w') : WR w' B M D L ls bs :=
  ⟨h.tr.same (hk.block _ h.me.1) (hk.block _ h.me.2.1), ents_keep h.en hk h.me.2.2.2, h.me, h.pl.imp fun _ hm => hm.same (hk.block _ h.me.2.2.1), own_same h.lo fun g hg => hk.block g (h.mlo g hg), h.mlo, fun k hm => Nat.lt_of_lt_of_le (h.mlt k hm) hk.size⟩
end
structure WM (w : World) (B u : Nat) (M : Nat → Prop) (D : WD) (L : List Ent) (ls : List Lf) (P : List Ro) (Z : List LZ) (Q : List Nat) (A : List Ent) : Prop where
  rest : WR w B M D L ls (bsOf Z)
  blk : Blk w u 92 (workA D)
  bu : B ≤ u
  mu : ¬ M u
  pg : w.ownsRow B 54 3 D.pv P.length (cellsG lrV P)
  sl : ∀ y ∈ P, SlotsM M w y.a y.n y.x.z
  mpg : ∀ g, D.pv.ownBlock = some g → ¬ M g
  lz : ∀ z ∈ Z, Blk w z.b 126 (loserA z) ∧ B ≤ z.b ∧ ¬ M z.b
  zn : (bsOf Z).Nodup
  qu : w.ownsRow B 124 1 D.qv Q.length (Q.map ptrV)
  mq : ∀ g, D.qv.ownBlock = some g → ¬ M g
  ql : ∀ q ∈ Q, q ∈ bsOf Z
  ad : w.ownsRow B 58 13 D.av A.length (cellsE A)
  mad : ∀ g, D.av.ownBlock = some g → ¬ M g
section
variable {w w' : World} {B u : Nat} {M : Nat → Prop} {D : WD} {L : List Ent} {ls : List Lf} {P : List Ro} {Z : List LZ} {Q : List Nat} {A : List Ent}
theorem blk_ne {g k : Nat} {t t' : TypeId} {cs cs' : Array Value} (h : Blk w g t cs) (h' : Blk w k t' cs') (hne : t ≠ t') : g ≠ k := fun e => by
  subst e
  unfold Blk at h h'
  rw [h] at h'
  cases h'
  exact hne rfl
theorem set_mem {Z : List LZ} {i : Nat} {z' y : LZ} (hy : y ∈ Z.set i z') (hn : (bsOf Z).Nodup) {z : LZ} (hz : Z[i]? = some z) : y = z' ∨ (y ∈ Z ∧ y.b ≠ z.b) := by
  obtain ⟨j, hj⟩ := List.mem_iff_getElem?.1 hy
  rw [List.getElem?_set] at hj
  by_cases e : i = j
  · rw [if_pos e] at hj
    split at hj
    · injection hj with hj; exact .inl hj.symm
    · cases hj
  · rw [if_neg e] at hj
    refine .inr ⟨List.mem_of_getElem? hj, fun hb => e ?_⟩
    have h1 : (bsOf Z)[i]? = some z.b := by unfold bsOf; rw [List.getElem?_map, hz]; rfl
    have h2 : (bsOf Z)[j]? = some y.b := by unfold bsOf; rw [List.getElem?_map, hj]; rfl
    obtain ⟨l1, e1⟩ := List.getElem?_eq_some_iff.1 h1
    obtain ⟨l2, e2⟩ := List.getElem?_eq_some_iff.1 h2
    have hp := List.pairwise_iff_getElem.1 hn
    rcases Nat.lt_trichotomy i j with h | h | h
    · exact absurd (by rw [e1, e2, hb]) (hp i j l1 l2 h)
    · exact h
    · exact absurd (by rw [e1, e2, hb]) (hp j i l2 l1 h)
/-- nothing old has changed -/
theorem WM.below (h : WM w B u M D L ls P Z Q A) (hb : Below w.heap.size w w') : WM w' B u M D L ls P Z Q A := by
  have hk : Keep M w w' := Keep.of_below hb h.rest.mlt
  exact ⟨h.rest.keep hk, h.blk.below hb h.blk.lt, h.bu, h.mu, own_below h.pg hb, fun y hy => (h.sl y hy).keep hk, h.mpg, fun z hz => ⟨(h.lz z hz).1.below hb (h.lz z hz).1.lt, (h.lz z hz).2⟩, h.zn, own_below h.qu hb, h.mq, h.ql, own_below h.ad hb, h.mad⟩
/-- an entry is added, and is its loser's last -/
theorem WM.added (h : WM w B u M D L ls P Z Q A) {i : Nat} {z : LZ} (hz : Z[i]? = some z) {x : Ent} {wa w5 : World} {v5 : Value} (hb : Below w.heap.size w wa) (hA : AppRes wa w5 B 58 13 D.av v5 (A ++ [x]).length (cellsE (A ++ [x]))) :
    (w5.cell? ⟨u, 7, none⟩ = some D.av ∧ w5.frozen? ⟨u, 7, none⟩ = false) ∧
    ((w5.setCell ⟨u, 7, none⟩ v5).cell? ⟨z.b, 3, none⟩ = some (.int .i64 z.last) ∧ (w5.setCell ⟨u, 7, none⟩ v5).frozen? ⟨z.b, 3, none⟩ = false) ∧
    WM ((w5.setCell ⟨u, 7, none⟩ v5).setCell ⟨z.b, 3, none⟩ (.int .i64 x.lsn)) B u M { D with av := v5 } L ls P (Z.set i { z with last := x.lsn }) Q (A ++ [x]) ∧ Below B w ((w5.setCell ⟨u, 7, none⟩ v5).setCell ⟨z.b, 3, none⟩ (.int .i64 x.lsn)) := by
  obtain ⟨h1, h2, h3⟩ := hA
  have hzm := List.mem_of_getElem? hz
  obtain ⟨hzb, hzB, hzM⟩ := h.lz z hzm
  have hblk : ∀ k, k < w.heap.size → some k ≠ D.av.ownBlock → w5.heap[k]? = w.heap[k]? := fun k hk hne => (h2.block k (Nat.lt_of_lt_of_le hk hb.size) hne).trans (hb.block k hk)
  have hs : w.heap.size ≤ w5.heap.size := Nat.le_trans hb.size h2.size
  have hav : ∀ (k : Nat) (t : TypeId) (cs : Array Value), Blk w k t cs → t ≠ 58 → some k ≠ D.av.ownBlock := fun k t cs hk hne e => own_ty h.ad hk hne e.symm
  have hu5 : Blk w5 u 92 (workA D) := (hblk u h.blk.lt (hav _ _ _ h.blk (by decide))).trans h.blk
  have hz5 : Blk w5 z.b 126 (loserA z) := (hblk z.b hzb.lt (hav _ _ _ hzb (by decide))).trans hzb
  have huz : u ≠ z.b := blk_ne h.blk hzb (by decide)
  have hz6 : Blk (w5.setCell ⟨u, 7, none⟩ v5) z.b 126 (loserA z) := hz5.far (p := ⟨u, 7, none⟩) huz.symm v5
  have hu6 : Blk (w5.setCell ⟨u, 7, none⟩ v5) u 92 (workA { D with av := v5 }) := hu5.set_ 7 v5
  have h7 : ∀ k, k ≠ u → k ≠ z.b → ((w5.setCell ⟨u, 7, none⟩ v5).setCell ⟨z.b, 3, none⟩ (.int .i64 x.lsn)).heap[k]? = w5.heap[k]? := fun k h8 h9 => (Below.heap_setCell _ ⟨z.b, 3, none⟩ _ k h9).trans (Below.heap_setCell _ ⟨u, 7, none⟩ _ k h8)
  have hk7 : Keep M w ((w5.setCell ⟨u, 7, none⟩ v5).setCell ⟨z.b, 3, none⟩ (.int .i64 x.lsn)) := ⟨h2.os.trans hb.os, h2.tape.trans hb.tape, h2.output.trans hb.output, by simpa using hs, fun k hk => (h7 k (fun e => h.mu (e ▸ hk)) fun e => hzM (e ▸ hk)).trans (hblk k (h.rest.mlt k hk) fun e => h.mad k e.symm hk)⟩
  have hown : ∀ {t : TypeId} {size n : Nat} {v : Value} {xs : List Value}, w.ownsRow B t size v n xs → t ≠ 58 → t ≠ 92 → t ≠ 126 → ((w5.setCell ⟨u, 7, none⟩ v5).setCell ⟨z.b, 3, none⟩ (.int .i64 x.lsn)).ownsRow B t size v n xs := fun {t size n v xs} ho n1 n2 n3 =>
    own_same ho fun g hg => (h7 g (fun e => own_ty ho h.blk n2.symm (by rw [hg, e])) fun e => own_ty ho hzb n3.symm (by rw [hg, e])).trans (hblk g (own_lt ho hg) fun e => own_own h.ad ho n1 g e.symm hg)
  refine ⟨⟨hu5.cell 7, hu5.frozen 7⟩, ⟨hz6.cell 3, hz6.frozen 3⟩, ?_, ⟨hk7.os, hk7.tape, hk7.output, hk7.size, fun k hk => (h7 k (fun e => by have := h.bu; omega) fun e => by omega).trans (hblk k (by have := h.bu; have := h.blk.lt; omega) fun e => by have := Past.own_ge h.ad e.symm; omega)⟩⟩
  refine ⟨?_, hu6.far (p := ⟨z.b, 3, none⟩) huz _, h.bu, h.mu, hown h.pg (by decide) (by decide) (by decide), fun y hy => (h.sl y hy).keep hk7, h.mpg, fun y hy => ?_, ?_, hown h.qu (by decide) (by decide) (by decide), h.mq, ?_, ?_, fun g hg hm => ?_⟩
  · have hbs := bs_set (z' := { z with last := x.lsn }) hz rfl
    have r := h.rest.keep hk7
    rw [← hbs] at r
    exact ⟨r.tr, r.en, r.me, r.pl, r.lo, r.mlo, r.mlt⟩
  · rcases set_mem hy h.zn hz with rfl | ⟨hy, hne⟩
    · exact ⟨hz6.set_ 3 _, hzB, hzM⟩
    · obtain ⟨y1, y2, y3⟩ := h.lz y hy
      exact ⟨(h7 y.b (blk_ne h.blk y1 (by decide)).symm hne).trans ((hblk y.b y1.lt (hav _ _ _ y1 (by decide))).trans y1), y2, y3⟩
  · rw [bs_set (z' := { z with last := x.lsn }) hz rfl]; exact h.zn
  · rw [bs_set (z' := { z with last := x.lsn }) hz rfl]; exact h.ql
  · exact own_set (own_set h1 (own_ty h1 hu5 (by decide)) 7 v5) (fun e => own_ty h1 hz5 (by decide) e) 3 _
  · rcases h3 with e3 | e3
    · exact h.mad g (e3.symm.trans hg) hm
    · rw [e3] at hg; injection hg with hg; have := h.rest.mlt g hm; have := hb.size; omega
set_option maxRecDepth 100000 in
set_option maxHeartbeats 8000000 in
theorem wadd_any (h : WM w B u M D L ls P Z Q A) {i : Nat} {z : LZ} (hz : Z[i]? = some z) (x : Ent) (hA : A.length ≤ 900000) (hB : B ≤ w.heap.size) :
    Calls Tryz.prog 52 #[.pointer (some ⟨u, 0, none⟩), .pointer (some ⟨z.b, 0, none⟩), .agg #[.int .i64 x.kind, .int .i64 x.cl, .int .i64 x.ep, .int .i64 x.n, .int .i64 x.lsn, .int .i64 x.prev, .int .i64 x.page, .int .i64 x.slot, .bool x.wu, .string x.wd, .bool x.iu, .string x.id, .int .i64 x.next]] w fun e w' => e = .returned (.tuple #[]) ∧ ∃ v', WM w' B u M { D with av := v' } L ls P (Z.set i { z with last := x.lsn }) Q (A ++ [x]) ∧ Below B w w' := by
  have hbx := Ent.below_box w (.cells #[.int .i64 x.kind, .int .i64 x.cl, .int .i64 x.ep, .int .i64 x.n, .int .i64 x.lsn, .int .i64 x.prev, .int .i64 x.page, .int .i64 x.slot, .bool x.wu, .string x.wd, .bool x.iu, .string x.id, .int .i64 x.next] 58)
  have hX := Blk.new w 58 #[.int .i64 x.kind, .int .i64 x.cl, .int .i64 x.ep, .int .i64 x.n, .int .i64 x.lsn, .int .i64 x.prev, .int .i64 x.page, .int .i64 x.slot, .bool x.wu, .string x.wd, .bool x.iu, .string x.id, .int .i64 x.next]
  have FIN := Lib.hid (show ∀ (wa w5 : World) (v5 : Value), Below (w.alloc (.cells #[.int .i64 x.kind, .int .i64 x.cl, .int .i64 x.ep, .int .i64 x.n, .int .i64 x.lsn, .int .i64 x.prev, .int .i64 x.page, .int .i64 x.slot, .bool x.wu, .string x.wd, .bool x.iu, .string x.id, .int .i64 x.next] 58)).heap.size (w.alloc (.cells #[.int .i64 x.kind, .int .i64 x.cl, .int .i64 x.ep, .int .i64 x.n, .int .i64 x.lsn, .int .i64 x.prev, .int .i64 x.page, .int .i64 x.slot, .bool x.wu, .string x.wd, .bool x.iu, .string x.id, .int .i64 x.next] 58)) wa → AppRes wa w5 B 58 13 D.av v5 (A ++ [x]).length (cellsE (A ++ [x])) →
      ((w5.cell? ⟨u, 7, none⟩ = some D.av ∧ w5.frozen? ⟨u, 7, none⟩ = false) ∧ ((w5.setCell ⟨u, 7, none⟩ v5).cell? ⟨z.b, 3, none⟩ = some (.int .i64 z.last) ∧ (w5.setCell ⟨u, 7, none⟩ v5).frozen? ⟨z.b, 3, none⟩ = false) ∧
      WM ((w5.setCell ⟨u, 7, none⟩ v5).setCell ⟨z.b, 3, none⟩ (.int .i64 x.lsn)) B u M { D with av := v5 } L ls P (Z.set i { z with last := x.lsn }) Q (A ++ [x]) ∧ Below B w ((w5.setCell ⟨u, 7, none⟩ v5).setCell ⟨z.b, 3, none⟩ (.int .i64 x.lsn))) ∧ (w5.setCell ⟨u, 7, none⟩ v5).cell? ⟨w.heap.size, 4, none⟩ = some (.int .i64 x.lsn) from fun wa w5 v5 hb hA => by
    refine ⟨WM.added h hz (below_go hbx hb) hA, ?_⟩
    have h1 : Blk wa w.heap.size 58 #[.int .i64 x.kind, .int .i64 x.cl, .int .i64 x.ep, .int .i64 x.n, .int .i64 x.lsn, .int .i64 x.prev, .int .i64 x.page, .int .i64 x.slot, .bool x.wu, .string x.wd, .bool x.iu, .string x.id, .int .i64 x.next] := hX.below hb hX.lt
    have h2 : Blk w5 w.heap.size 58 #[.int .i64 x.kind, .int .i64 x.cl, .int .i64 x.ep, .int .i64 x.n, .int .i64 x.lsn, .int .i64 x.prev, .int .i64 x.page, .int .i64 x.slot, .bool x.wu, .string x.wd, .bool x.iu, .string x.id, .int .i64 x.next] := h1.grown hA.2.1 fun e => absurd (own_lt h.ad e.symm) (by omega)
    exact (h2.far (p := ⟨u, 7, none⟩) (fun e => by have := h.blk.lt; have e : w.heap.size = u := e; omega) v5).cell 4)
  have HO := Lib.hid (own_below h.ad hbx)
  have u1' := (h.blk.below hbx h.blk.lt).cell 7
  have g1 := (h.blk.below hbx h.blk.lt).frozen 7
  have hbx2 := Ent.below_box (w.alloc (.cells #[.int .i64 x.kind, .int .i64 x.cl, .int .i64 x.ep, .int .i64 x.n, .int .i64 x.lsn, .int .i64 x.prev, .int .i64 x.page, .int .i64 x.slot, .bool x.wu, .string x.wd, .bool x.iu, .string x.id, .int .i64 x.next] 58)) (.cells #[.int .i64 x.kind, .int .i64 x.cl, .int .i64 x.ep, .int .i64 x.n, .int .i64 x.lsn, .int .i64 x.prev, .int .i64 x.page, .int .i64 x.slot, .bool x.wu, .string x.wd, .bool x.iu, .string x.id, .int .i64 x.next] 58)
  have u2' := (h.blk.below (below_go hbx hbx2) h.blk.lt).cell 7
  have hX2 := Blk.new (w.alloc (.cells #[.int .i64 x.kind, .int .i64 x.cl, .int .i64 x.ep, .int .i64 x.n, .int .i64 x.lsn, .int .i64 x.prev, .int .i64 x.page, .int .i64 x.slot, .bool x.wu, .string x.wd, .bool x.iu, .string x.id, .int .i64 x.next] 58)) 58 #[.int .i64 x.kind, .int .i64 x.cl, .int .i64 x.ep, .int .i64 x.n, .int .i64 x.lsn, .int .i64 x.prev, .int .i64 x.page, .int .i64 x.slot, .bool x.wu, .string x.wd, .bool x.iu, .string x.id, .int .i64 x.next]
  have hBB : B ≤ (w.alloc (.cells #[.int .i64 x.kind, .int .i64 x.cl, .int .i64 x.ep, .int .i64 x.n, .int .i64 x.lsn, .int .i64 x.prev, .int .i64 x.page, .int .i64 x.slot, .bool x.wu, .string x.wd, .bool x.iu, .string x.id, .int .i64 x.next] 58)).heap.size := by simp; omega
  obtain ⟨av, cv, hv⟩ := own_shape h.ad
  rw [hv] at FIN HO
  have u1 : (w.alloc (.cells #[.int .i64 x.kind, .int .i64 x.cl, .int .i64 x.ep, .int .i64 x.n, .int .i64 x.lsn, .int .i64 x.prev, .int .i64 x.page, .int .i64 x.slot, .bool x.wu, .string x.wd, .bool x.iu, .string x.id, .int .i64 x.next] 58)).cell? ⟨u, 7, none⟩ = some (.slice av A.length cv) := by rw [← hv]; exact u1'
  have u2 : ((w.alloc (.cells #[.int .i64 x.kind, .int .i64 x.cl, .int .i64 x.ep, .int .i64 x.n, .int .i64 x.lsn, .int .i64 x.prev, .int .i64 x.page, .int .i64 x.slot, .bool x.wu, .string x.wd, .bool x.iu, .string x.id, .int .i64 x.next] 58)).alloc (.cells #[.int .i64 x.kind, .int .i64 x.cl, .int .i64 x.ep, .int .i64 x.n, .int .i64 x.lsn, .int .i64 x.prev, .int .i64 x.page, .int .i64 x.slot, .bool x.wu, .string x.wd, .bool x.iu, .string x.id, .int .i64 x.next] 58)).cell? ⟨u, 7, none⟩ = some (.slice av A.length cv) := by rw [← hv]; exact u2'
  clear h hz hv hbx u1' u2'
  go_enter Tryz.func52, Tryz.ntmps52
  go_upto_region 1 with (fail)
  obtain ⟨g5, hg5⟩ : ∃ g5, w.heap.size = g5 := ⟨_, rfl⟩
  rw [hg5] at FIN hX
  try rw [hg5]
  clear hg5 hB
  generalize hGen : w.alloc (.cells #[.int .i64 x.kind, .int .i64 x.cl, .int .i64 x.ep, .int .i64 x.n, .int .i64 x.lsn, .int .i64 x.prev, .int .i64 x.page, .int .i64 x.slot, .bool x.wu, .string x.wd, .bool x.iu, .string x.id, .int .i64 x.next] 58) = W1 at FIN HO u1 g1 u2 hX hX2 hbx2 hBB ⊢
  clear hGen
  obtain ⟨c0, c1, c2, c3, c4, c5, c6, c7, c8, c9, c10, c11, c12⟩ := Ent.ent_cells hX
  have hX2 := Lib.hid hX2
  have hbx2 := Lib.hid hbx2
  clear hX
  go_region_law (refine step_ent (wr := W1) rfl (.tmp 10) (.tmp 12) rfl B (.slice av A.length cv) A (by simp [Act.eval]) W1.heap.size x (by simp [Act.eval]) ?hp HO.out hBB hA ?_; (case hp => first | exact ⟨hbx2.out.drew, hX2.out⟩ | exact ⟨hbx2.out, hX2.out⟩); intro v5 w5 hb5 hA5; have HE := Lib.hid (FIN.out _ _ _ hb5 hA5); obtain ⟨a5, c5', e5⟩ := own_shape hA5.1; rw [List.length_append, List.length_singleton] at e5; subst e5; have k5 := HE.out.1.1.1; have f5 := HE.out.1.1.2; clear hb5 hA5)
  all_goals
    have z1 := HE.out.1.2.1.1
    have z2 := HE.out.1.2.1.2
    have z3 := HE.out.2
    go_wp2
    go_end0
    exact ⟨rfl, _, HE.out.1.2.2⟩
end
end Go.Proofs.YtkeocnhndnbamaaGreat.Mend
namespace Go.Proofs.YtkeocnhndnbamaaGreat.Mend
set_option maxRecDepth 100000
open Go.RowKit Go.Sort
open Go.Proofs.YtkeocnhndnbamaaGreat.Mem
open Go.Proofs.YtkeocnhndnbamaaGreat.Ent (Ent goodB Ents EntAt SmallE entA cellsE)
open Go.Proofs.YtkeocnhndnbamaaGreat.Past (T3 txE AppRes cellsG)
/-- only one block has changed -/
structure Onl (g : Nat) (w w' : World) : Prop where
  os : w'.os = w.os
  tape : w'.tape = w.tape
  output : w'.output = w.output
  size : w'.heap.size = w.heap.size
  block : ∀ k, k ≠ g → w'.heap[k]? = w.heap[k]?
theorem Onl.refl (g : Nat) (w : World) : Onl g w w := ⟨rfl, rfl, rfl, rfl, fun _ _ => rfl⟩
theorem Onl.set_ {g : Nat} {w w' : World} (h : Onl g w w') (i : Nat) (v : Value) : Onl g w (w'.setCell ⟨g, i, none⟩ v) :=
  ⟨h.os, h.tape, h.output, by simpa using h.size, fun k hk => (Below.heap_setCell w' ⟨g, i, none⟩ v k hk).trans (h.block k hk)⟩
theorem Onl.drew {g : Nat} {w w' : World} (h : Onl g w w') : Onl g w w'.drew := ⟨h.os, h.tape, h.output, h.size, h.block⟩
theorem onl14 (W : World) (g : Nat) (v0 v1 v2 v3 v4 v5 v6 v7 v8 v9 v10 v11 v12 v13 : Value) : Onl g W ((((((((((((((W.setCell ⟨g, 4, none⟩ v0).setCell ⟨g, 5, none⟩ v1).setCell ⟨g, 6, none⟩ v2).setCell ⟨g, 7, none⟩ v3).setCell ⟨g, 8, none⟩ v4).setCell ⟨g, 9, none⟩ v5).setCell ⟨g, 10, none⟩ v6).setCell ⟨g, 11, none⟩ v7).setCell ⟨g, 12, none⟩ v8).setCell ⟨g, 13, none⟩ v9).setCell ⟨g, 14, none⟩ v10).setCell ⟨g, 15, none⟩ v11).setCell ⟨g, 16, none⟩ v12).setCell ⟨g, 17, none⟩ v13) := ((((((((((((((Onl.refl g W).set_ 4 v0).set_ 5 v1).set_ 6 v2).set_ 7 v3).set_ 8 v4).set_ 9 v5).set_ 10 v6).set_ 11 v7).set_ 12 v8).set_ 13 v9).set_ 14 v10).set_ 15 v11).set_ 16 v12).set_ 17 v13
theorem blk14 {W : World} {z : LZ} (h : Blk W z.b 126 (loserA z)) (x : Ent) (a : Int) : Blk ((((((((((((((W.setCell ⟨z.b, 4, none⟩ (.int .i64 x.kind)).setCell ⟨z.b, 5, none⟩ (.int .i64 x.cl)).setCell ⟨z.b, 6, none⟩ (.int .i64 x.ep)).setCell ⟨z.b, 7, none⟩ (.int .i64 x.n)).setCell ⟨z.b, 8, none⟩ (.int .i64 x.lsn)).setCell ⟨z.b, 9, none⟩ (.int .i64 x.prev)).setCell ⟨z.b, 10, none⟩ (.int .i64 x.page)).setCell ⟨z.b, 11, none⟩ (.int .i64 x.slot)).setCell ⟨z.b, 12, none⟩ (.bool x.wu)).setCell ⟨z.b, 13, none⟩ (.string x.wd)).setCell ⟨z.b, 14, none⟩ (.bool x.iu)).setCell ⟨z.b, 15, none⟩ (.string x.id)).setCell ⟨z.b, 16, none⟩ (.int .i64 x.next)).setCell ⟨z.b, 17, none⟩ (.int .i64 a)) z.b 126 (loserA { z with nx := x, at_ := a }) := by
  have h0 : Blk (W.setCell ⟨z.b, 4, none⟩ (.int .i64 x.kind)) z.b 126 #[.int .i64 z.t.cl, .int .i64 z.t.ep, .int .i64 z.t.n, .int .i64 z.last, .int .i64 x.kind, .int .i64 z.nx.cl, .int .i64 z.nx.ep, .int .i64 z.nx.n, .int .i64 z.nx.lsn, .int .i64 z.nx.prev, .int .i64 z.nx.page, .int .i64 z.nx.slot, .bool z.nx.wu, .string z.nx.wd, .bool z.nx.iu, .string z.nx.id, .int .i64 z.nx.next, .int .i64 z.at_] := h.set_ 4 (.int .i64 x.kind)
  have h1 : Blk ((W.setCell ⟨z.b, 4, none⟩ (.int .i64 x.kind)).setCell ⟨z.b, 5, none⟩ (.int .i64 x.cl)) z.b 126 #[.int .i64 z.t.cl, .int .i64 z.t.ep, .int .i64 z.t.n, .int .i64 z.last, .int .i64 x.kind, .int .i64 x.cl, .int .i64 z.nx.ep, .int .i64 z.nx.n, .int .i64 z.nx.lsn, .int .i64 z.nx.prev, .int .i64 z.nx.page, .int .i64 z.nx.slot, .bool z.nx.wu, .string z.nx.wd, .bool z.nx.iu, .string z.nx.id, .int .i64 z.nx.next, .int .i64 z.at_] := h0.set_ 5 (.int .i64 x.cl)
  have h2 : Blk (((W.setCell ⟨z.b, 4, none⟩ (.int .i64 x.kind)).setCell ⟨z.b, 5, none⟩ (.int .i64 x.cl)).setCell ⟨z.b, 6, none⟩ (.int .i64 x.ep)) z.b 126 #[.int .i64 z.t.cl, .int .i64 z.t.ep, .int .i64 z.t.n, .int .i64 z.last, .int .i64 x.kind, .int .i64 x.cl, .int .i64 x.ep, .int .i64 z.nx.n, .int .i64 z.nx.lsn, .int .i64 z.nx.prev, .int .i64 z.nx.page, .int .i64 z.nx.slot, .bool z.nx.wu, .string z.nx.wd, .bool z.nx.iu, .string z.nx.id, .int .i64 z.nx.next, .int .i64 z.at_] := h1.set_ 6 (.int .i64 x.ep)
  have h3 : Blk ((((W.setCell ⟨z.b, 4, none⟩ (.int .i64 x.kind)).setCell ⟨z.b, 5, none⟩ (.int .i64 x.cl)).setCell ⟨z.b, 6, none⟩ (.int .i64 x.ep)).setCell ⟨z.b, 7, none⟩ (.int .i64 x.n)) z.b 126 #[.int .i64 z.t.cl, .int .i64 z.t.ep, .int .i64 z.t.n, .int .i64 z.last, .int .i64 x.kind, .int .i64 x.cl, .int .i64 x.ep, .int .i64 x.n, .int .i64 z.nx.lsn, .int .i64 z.nx.prev, .int .i64 z.nx.page, .int .i64 z.nx.slot, .bool z.nx.wu, .string z.nx.wd, .bool z.nx.iu, .string z.nx.id, .int .i64 z.nx.next, .int .i64 z.at_] := h2.set_ 7 (.int .i64 x.n)
  have h4 : Blk (((((W.setCell ⟨z.b, 4, none⟩ (.int .i64 x.kind)).setCell ⟨z.b, 5, none⟩ (.int .i64 x.cl)).setCell ⟨z.b, 6, none⟩ (.int .i64 x.ep)).setCell ⟨z.b, 7, none⟩ (.int .i64 x.n)).setCell ⟨z.b, 8, none⟩ (.int .i64 x.lsn)) z.b 126 #[.int .i64 z.t.cl, .int .i64 z.t.ep, .int .i64 z.t.n, .int .i64 z.last, .int .i64 x.kind, .int .i64 x.cl, .int .i64 x.ep, .int .i64 x.n, .int .i64 x.lsn, .int .i64 z.nx.prev, .int .i64 z.nx.page, .int .i64 z.nx.slot, .bool z.nx.wu, .string z.nx.wd, .bool z.nx.iu, .string z.nx.id, .int .i64 z.nx.next, .int .i64 z.at_] := h3.set_ 8 (.int .i64 x.lsn)
  have h5 : Blk ((((((W.setCell ⟨z.b, 4, none⟩ (.int .i64 x.kind)).setCell ⟨z.b, 5, none⟩ (.int .i64 x.cl)).setCell ⟨z.b, 6, none⟩ (.int .i64 x.ep)).setCell ⟨z.b, 7, none⟩ (.int .i64 x.n)).setCell ⟨z.b, 8, none⟩ (.int .i64 x.lsn)).setCell ⟨z.b, 9, none⟩ (.int .i64 x.prev)) z.b 126 #[.int .i64 z.t.cl, .int .i64 z.t.ep, .int .i64 z.t.n, .int .i64 z.last, .int .i64 x.kind, .int .i64 x.cl, .int .i64 x.ep, .int .i64 x.n, .int .i64 x.lsn, .int .i64 x.prev, .int .i64 z.nx.page, .int .i64 z.nx.slot, .bool z.nx.wu, .string z.nx.wd, .bool z.nx.iu, .string z.nx.id, .int .i64 z.nx.next, .int .i64 z.at_] := h4.set_ 9 (.int .i64 x.prev)
  have h6 : Blk (((((((W.setCell ⟨z.b, 4, none⟩ (.int .i64 x.kind)).setCell ⟨z.b, 5, none⟩ (.int .i64 x.cl)).setCell ⟨z.b, 6, none⟩ (.int .i64 x.ep)).setCell ⟨z.b, 7, none⟩ (.int .i64 x.n)).setCell ⟨z.b, 8, none⟩ (.int .i64 x.lsn)).setCell ⟨z.b, 9, none⟩ (.int .i64 x.prev)).setCell ⟨z.b, 10, none⟩ (.int .i64 x.page)) z.b 126 #[.int .i64 z.t.cl, .int .i64 z.t.ep, .int .i64 z.t.n, .int .i64 z.last, .int .i64 x.kind, .int .i64 x.cl, .int .i64 x.ep, .int .i64 x.n, .int .i64 x.lsn, .int .i64 x.prev, .int .i64 x.page, .int .i64 z.nx.slot, .bool z.nx.wu, .string z.nx.wd, .bool z.nx.iu, .string z.nx.id, .int .i64 z.nx.next, .int .i64 z.at_] := h5.set_ 10 (.int .i64 x.page)
  have h7 : Blk ((((((((W.setCell ⟨z.b, 4, none⟩ (.int .i64 x.kind)).setCell ⟨z.b, 5, none⟩ (.int .i64 x.cl)).setCell ⟨z.b, 6, none⟩ (.int .i64 x.ep)).setCell ⟨z.b, 7, none⟩ (.int .i64 x.n)).setCell ⟨z.b, 8, none⟩ (.int .i64 x.lsn)).setCell ⟨z.b, 9, none⟩ (.int .i64 x.prev)).setCell ⟨z.b, 10, none⟩ (.int .i64 x.page)).setCell ⟨z.b, 11, none⟩ (.int .i64 x.slot)) z.b 126 #[.int .i64 z.t.cl, .int .i64 z.t.ep, .int .i64 z.t.n, .int .i64 z.last, .int .i64 x.kind, .int .i64 x.cl, .int .i64 x.ep, .int .i64 x.n, .int .i64 x.lsn, .int .i64 x.prev, .int .i64 x.page, .int .i64 x.slot, .bool z.nx.wu, .string z.nx.wd, .bool z.nx.iu, .string z.nx.id, .int .i64 z.nx.next, .int .i64 z.at_] := h6.set_ 11 (.int .i64 x.slot)
  have h8 : Blk (((((((((W.setCell ⟨z.b, 4, none⟩ (.int .i64 x.kind)).setCell ⟨z.b, 5, none⟩ (.int .i64 x.cl)).setCell ⟨z.b, 6, none⟩ (.int .i64 x.ep)).setCell ⟨z.b, 7, none⟩ (.int .i64 x.n)).setCell ⟨z.b, 8, none⟩ (.int .i64 x.lsn)).setCell ⟨z.b, 9, none⟩ (.int .i64 x.prev)).setCell ⟨z.b, 10, none⟩ (.int .i64 x.page)).setCell ⟨z.b, 11, none⟩ (.int .i64 x.slot)).setCell ⟨z.b, 12, none⟩ (.bool x.wu)) z.b 126 #[.int .i64 z.t.cl, .int .i64 z.t.ep, .int .i64 z.t.n, .int .i64 z.last, .int .i64 x.kind, .int .i64 x.cl, .int .i64 x.ep, .int .i64 x.n, .int .i64 x.lsn, .int .i64 x.prev, .int .i64 x.page, .int .i64 x.slot, .bool x.wu, .string z.nx.wd, .bool z.nx.iu, .string z.nx.id, .int .i64 z.nx.next, .int .i64 z.at_] := h7.set_ 12 (.bool x.wu)
  have h9 : Blk ((((((((((W.setCell ⟨z.b, 4, none⟩ (.int .i64 x.kind)).setCell ⟨z.b, 5, none⟩ (.int .i64 x.cl)).setCell ⟨z.b, 6, none⟩ (.int .i64 x.ep)).setCell ⟨z.b, 7, none⟩ (.int .i64 x.n)).setCell ⟨z.b, 8, none⟩ (.int .i64 x.lsn)).setCell ⟨z.b, 9, none⟩ (.int .i64 x.prev)).setCell ⟨z.b, 10, none⟩ (.int .i64 x.page)).setCell ⟨z.b, 11, none⟩ (.int .i64 x.slot)).setCell ⟨z.b, 12, none⟩ (.bool x.wu)).setCell ⟨z.b, 13, none⟩ (.string x.wd)) z.b 126 #[.int .i64 z.t.cl, .int .i64 z.t.ep, .int .i64 z.t.n, .int .i64 z.last, .int .i64 x.kind, .int .i64 x.cl, .int .i64 x.ep, .int .i64 x.n, .int .i64 x.lsn, .int .i64 x.prev, .int .i64 x.page, .int .i64 x.slot, .bool x.wu, .string x.wd, .bool z.nx.iu, .string z.nx.id, .int .i64 z.nx.next, .int .i64 z.at_] := h8.set_ 13 (.string x.wd)
  have h10 : Blk (((((((((((W.setCell ⟨z.b, 4, none⟩ (.int .i64 x.kind)).setCell ⟨z.b, 5, none⟩ (.int .i64 x.cl)).setCell ⟨z.b, 6, none⟩ (.int .i64 x.ep)).setCell ⟨z.b, 7, none⟩ (.int .i64 x.n)).setCell ⟨z.b, 8, none⟩ (.int .i64 x.lsn)).setCell ⟨z.b, 9, none⟩ (.int .i64 x.prev)).setCell ⟨z.b, 10, none⟩ (.int .i64 x.page)).setCell ⟨z.b, 11, none⟩ (.int .i64 x.slot)).setCell ⟨z.b, 12, none⟩ (.bool x.wu)).setCell ⟨z.b, 13, none⟩ (.string x.wd)).setCell ⟨z.b, 14, none⟩ (.bool x.iu)) z.b 126 #[.int .i64 z.t.cl, .int .i64 z.t.ep, .int .i64 z.t.n, .int .i64 z.last, .int .i64 x.kind, .int .i64 x.cl, .int .i64 x.ep, .int .i64 x.n, .int .i64 x.lsn, .int .i64 x.prev, .int .i64 x.page, .int .i64 x.slot, .bool x.wu, .string x.wd, .bool x.iu, .string z.nx.id, .int .i64 z.nx.next, .int .i64 z.at_] := h9.set_ 14 (.bool x.iu)
  have h11 : Blk ((((((((((((W.setCell ⟨z.b, 4, none⟩ (.int .i64 x.kind)).setCell ⟨z.b, 5, none⟩ (.int .i64 x.cl)).setCell ⟨z.b, 6, none⟩ (.int .i64 x.ep)).setCell ⟨z.b, 7, none⟩ (.int .i64 x.n)).setCell ⟨z.b, 8, none⟩ (.int .i64 x.lsn)).setCell ⟨z.b, 9, none⟩ (.int .i64 x.prev)).setCell ⟨z.b, 10, none⟩ (.int .i64 x.page)).setCell ⟨z.b, 11, none⟩ (.int .i64 x.slot)).setCell ⟨z.b, 12, none⟩ (.bool x.wu)).setCell ⟨z.b, 13, none⟩ (.string x.wd)).setCell ⟨z.b, 14, none⟩ (.bool x.iu)).setCell ⟨z.b, 15, none⟩ (.string x.id)) z.b 126 #[.int .i64 z.t.cl, .int .i64 z.t.ep, .int .i64 z.t.n, .int .i64 z.last, .int .i64 x.kind, .int .i64 x.cl, .int .i64 x.ep, .int .i64 x.n, .int .i64 x.lsn, .int .i64 x.prev, .int .i64 x.page, .int .i64 x.slot, .bool x.wu, .string x.wd, .bool x.iu, .string x.id, .int .i64 z.nx.next, .int .i64 z.at_] := h10.set_ 15 (.string x.id)
  have h12 : Blk (((((((((((((W.setCell ⟨z.b, 4, none⟩ (.int .i64 x.kind)).setCell ⟨z.b, 5, none⟩ (.int .i64 x.cl)).setCell ⟨z.b, 6, none⟩ (.int .i64 x.ep)).setCell ⟨z.b, 7, none⟩ (.int .i64 x.n)).setCell ⟨z.b, 8, none⟩ (.int .i64 x.lsn)).setCell ⟨z.b, 9, none⟩ (.int .i64 x.prev)).setCell ⟨z.b, 10, none⟩ (.int .i64 x.page)).setCell ⟨z.b, 11, none⟩ (.int .i64 x.slot)).setCell ⟨z.b, 12, none⟩ (.bool x.wu)).setCell ⟨z.b, 13, none⟩ (.string x.wd)).setCell ⟨z.b, 14, none⟩ (.bool x.iu)).setCell ⟨z.b, 15, none⟩ (.string x.id)).setCell ⟨z.b, 16, none⟩ (.int .i64 x.next)) z.b 126 #[.int .i64 z.t.cl, .int .i64 z.t.ep, .int .i64 z.t.n, .int .i64 z.last, .int .i64 x.kind, .int .i64 x.cl, .int .i64 x.ep, .int .i64 x.n, .int .i64 x.lsn, .int .i64 x.prev, .int .i64 x.page, .int .i64 x.slot, .bool x.wu, .string x.wd, .bool x.iu, .string x.id, .int .i64 x.next, .int .i64 z.at_] := h11.set_ 16 (.int .i64 x.next)
  have h13 : Blk ((((((((((((((W.setCell ⟨z.b, 4, none⟩ (.int .i64 x.kind)).setCell ⟨z.b, 5, none⟩ (.int .i64 x.cl)).setCell ⟨z.b, 6, none⟩ (.int .i64 x.ep)).setCell ⟨z.b, 7, none⟩ (.int .i64 x.n)).setCell ⟨z.b, 8, none⟩ (.int .i64 x.lsn)).setCell ⟨z.b, 9, none⟩ (.int .i64 x.prev)).setCell ⟨z.b, 10, none⟩ (.int .i64 x.page)).setCell ⟨z.b, 11, none⟩ (.int .i64 x.slot)).setCell ⟨z.b, 12, none⟩ (.bool x.wu)).setCell ⟨z.b, 13, none⟩ (.string x.wd)).setCell ⟨z.b, 14, none⟩ (.bool x.iu)).setCell ⟨z.b, 15, none⟩ (.string x.id)).setCell ⟨z.b, 16, none⟩ (.int .i64 x.next)).setCell ⟨z.b, 17, none⟩ (.int .i64 a)) z.b 126 #[.int .i64 z.t.cl, .int .i64 z.t.ep, .int .i64 z.t.n, .int .i64 z.last, .int .i64 x.kind, .int .i64 x.cl, .int .i64 x.ep, .int .i64 x.n, .int .i64 x.lsn, .int .i64 x.prev, .int .i64 x.page, .int .i64 x.slot, .bool x.wu, .string x.wd, .bool x.iu, .string x.id, .int .i64 x.next, .int .i64 a] := h12.set_ 17 (.int .i64 a)
  exact h13
section
variable {w w' : World} {B u : Nat} {M : Nat → Prop} {D : WD} {L : List Ent} {ls : List Lf} {P : List Ro} {Z : List LZ} {Q : List Nat} {A : List Ent}
/-- a loser has changed -/
theorem WM.lset (h : WM w B u M D L ls P Z Q A) {i : Nat} {z z' : LZ} (hz : Z[i]? = some z) (hb : z'.b = z.b) (ho : Onl z.b w w') (hB : Blk w' z.b 126 (loserA z')) : WM w' B u M D L ls P (Z.set i z') Q A := by
  have hzm := List.mem_of_getElem? hz
  obtain ⟨hzb, hzB, hzM⟩ := h.lz z hzm
  have hk : Keep M w w' := ⟨ho.os, ho.tape, ho.output, Nat.le_of_eq ho.size.symm, fun k hk => ho.block k fun e => hzM (e ▸ hk)⟩
  have hown : ∀ {t : TypeId} {size n : Nat} {v : Value} {xs : List Value}, w.ownsRow B t size v n xs → t ≠ 126 → w'.ownsRow B t size v n xs := fun {t size n v xs} h1 hne => own_same h1 fun g hg => ho.block g fun e => own_ty h1 hzb hne.symm (by rw [hg, e])
  have hbs := bs_set hz hb
  refine ⟨by rw [hbs]; exact h.rest.keep hk, (ho.block u (blk_ne h.blk hzb (by decide))).trans h.blk, h.bu, h.mu, hown h.pg (by decide), fun y hy => (h.sl y hy).keep hk, h.mpg, fun y hy => ?_, by rw [hbs]; exact h.zn, hown h.qu (by decide), h.mq, by rw [hbs]; exact h.ql, hown h.ad (by decide), h.mad⟩
  rcases set_mem hy h.zn hz with rfl | ⟨hy, hne⟩
  · rw [hb]; exact ⟨hB, hzB, hzM⟩
  · obtain ⟨y1, y2, y3⟩ := h.lz y hy
    exact ⟨(ho.block y.b hne).trans y1, y2, y3⟩
/-- the queue, as heap's calls want it -/
theorem WM.qv (h : WM w B u M D L ls P Z Q A) : QV w B u D.qv Q := by
  have hq : ∀ q ∈ Q, ∃ z ∈ Z, z.b = q := fun q hq => by
    have := h.ql q hq
    unfold bsOf at this
    obtain ⟨z, hz, e⟩ := List.mem_map.1 this
    exact ⟨z, hz, e⟩
  refine ⟨h.blk.cell 6, h.blk.frozen 6, h.qu, fun q hm => ?_, fun q hm g hg => ?_, fun q hm => ?_, fun g hg e => own_ty h.qu h.blk (by decide) (by rw [hg, e]), h.blk.lt⟩
  · obtain ⟨z, hz, rfl⟩ := hq q hm
    exact ⟨z.at_, (h.lz z hz).1.cell 17⟩
  · obtain ⟨z, hz, rfl⟩ := hq q hm
    exact fun e => own_ty h.qu (h.lz z hz).1 (by decide) (by rw [hg, e])
  · obtain ⟨z, hz, rfl⟩ := hq q hm
    exact (h.lz z hz).1.lt
theorem QC.grown {W : World} {v v' : Value} {g : Nat} (h : QC w W u v v') (hg : W.grownBy w' (some g)) (hv : v'.ownBlock = some g) (hu : u ≠ g) : QC w w' u v v' := by
  refine ⟨hg.os.trans h.os, hg.tape.trans h.tape, hg.output.trans h.output, Nat.le_trans h.size hg.size, fun k hk h1 h2 => ?_, fun T cs hB => (h.own T cs hB).grown hg fun e => hu (by injection e), h.row⟩
  refine (hg.block k (Nat.lt_of_lt_of_le hk h.size) fun e => ?_).trans (h.block k hk h1 h2)
  injection e with e
  subst e
  rcases h.row with e | ⟨g', e, hg'⟩
  · exact h2 (by rw [← e, hv])
  · rw [hv] at e; injection e with e; omega
/-- the queue has changed -/
theorem WM.requeue (h : WM w B u M D L ls P Z Q A) {v' : Value} {Q' : List Nat} (hc : QC w w' u D.qv v') (hr : w'.ownsRow B 124 1 v' Q'.length (Q'.map ptrV)) (hQ : ∀ q ∈ Q', q ∈ bsOf Z) : WM w' B u M { D with qv := v' } L ls P Z Q' A := by
  have hqv : ∀ (k : Nat) (t : TypeId) (cs : Array Value), Blk w k t cs → t ≠ 124 → some k ≠ D.qv.ownBlock := fun k t cs hk hne e => own_ty h.qu hk hne e.symm
  have hk : Keep M w w' := ⟨hc.os, hc.tape, hc.output, hc.size, fun k hk => hc.block k (h.rest.mlt k hk) (fun e => h.mu (e ▸ hk)) fun e => h.mq k e.symm hk⟩
  have hown : ∀ {t : TypeId} {size n : Nat} {v : Value} {xs : List Value}, w.ownsRow B t size v n xs → t ≠ 124 → t ≠ 92 → w'.ownsRow B t size v n xs := fun {t size n v xs} ho n1 n2 =>
    own_same ho fun g hg => hc.block g (own_lt ho hg) (fun e => own_ty ho h.blk n2.symm (by rw [hg, e])) fun e => own_own h.qu ho n1 g e.symm hg
  have r := h.rest.keep hk
  refine ⟨⟨r.tr, r.en, r.me, r.pl, r.lo, r.mlo, r.mlt⟩, hc.own _ _ h.blk, h.bu, h.mu, hown h.pg (by decide) (by decide), fun y hy => (h.sl y hy).keep hk, h.mpg, fun y hy => ?_, h.zn, hr, fun g hg hm => ?_, hQ, hown h.ad (by decide) (by decide), h.mad⟩
  · obtain ⟨y1, y2, y3⟩ := h.lz y hy
    exact ⟨(hc.block y.b y1.lt (blk_ne h.blk y1 (by decide)).symm (hqv _ _ _ y1 (by decide))).trans y1, y2, y3⟩
  · rcases hc.row with e | ⟨g', e, hg'⟩
    · exact h.mq g (e.symm.trans hg) hm
    · rw [e] at hg; injection hg with hg; have := h.rest.mlt g hm; omega
end
end Go.Proofs.YtkeocnhndnbamaaGreat.Mend
