/- slices.Sorted(maps.Keys(m)) at a map of pages: the numbers, rising. Memory that only grows. The walks of entry's small functions: within, Known, fits, changes, Good. The document's own Known, slot, Good of an entry. -/
import Derived.Test.YtkeocnhndnbamaaGreatQLatchMap
import Derived.Test.YtkeocnhndnbamaaGreatShelf4
import Derived.Test.YtkeocnhndnbamaaGreatRows
import Derived.WalkKit
import Derived.WalkSmall
import Derived.Test.YtkeocnhndnbamaaGreatQBook4
import Derived.Test.YtkeocnhndnbamaaGreatQSlabPut
import Derived.Deep.Cut
namespace Go.Proofs.YtkeocnhndnbamaaGreat.Mend
set_option maxRecDepth 100000
open Go.RowKit Go.Sort Go.Maps Go.Shelf
open Go.Proofs.YtkeocnhndnbamaaGreat.Mem
theorem sortsG (m : Nat) : AnyZI.SortsIn Tryz.prog Tryz.sortedI_ren Fence.wide m :=
  ⟨fun blk off cap ss W hH hblk hsz => callsIn_wide.2 (AnyM.slices_Sort_int Tryz.sortI blk off cap ss W hH hblk hsz),
   fun p cap W => callsIn_wide.2 (AnyM.slices_Sort_int_none Tryz.sortI p cap W)⟩
theorem keysG_any (mb : Option Nat) (W : World) : Calls Tryz.prog 39 #[.map mb] W fun e w' =>
    e = .returned (.func (.func 66) #[] #[.pointer (some ⟨W.heap.size, 0, none⟩)]) ∧ w' = W.alloc (.cells #[.map mb] 99) :=
  (callsIn_wide (n := 5)).1 (AnyZI.keys_in Tryz.keysG Fence.wide 5 trivial rfl mb W)
/-- the keys of a map, as an own row -/
def KeysG (ks : List Int) (w : World) (e : Ending) (w' : World) : Prop :=
  ∃ v, e = .returned v ∧ w'.ownsRow w.heap.size 3 1 v ks.length (ks.map (Value.int .i64)) ∧ Below w.heap.size w w'
open Go.Proofs.YtkeocnhndnbamaaGreat.Latch in
theorem sortedG_any {w : World} {b n : Nat} {f : Int → Option Value} {ks : List Int} (h : MapN w b n f) (hn : n ≤ 1000000) (hu : ks.Pairwise (fun x y => x < y)) (hk : ∀ x, x ∈ ks ↔ f x ≠ none) :
    Calls Tryz.prog 38 #[.func (.func 66) #[] #[.pointer (some ⟨w.heap.size, 0, none⟩)]] (w.alloc (.cells #[.map (some b)] 99)) (KeysG ks (w.alloc (.cells #[.map (some b)] 99))) := by
  obtain ⟨D0, hown, h2, h3⟩ := h
  have hbl := hown.lt
  have hsz := hown.size_le
  have hmax : Maps.size D0 ≤ maxLen := by unfold maxLen; omega
  have hbytes : Maps.size D0 * 8 ≤ 140737488355328 := by omega
  have hseq : SeqGives Fence.wide 2 Tryz.prog 66 #[.pointer (some ⟨w.heap.size, 0, none⟩)] encZ (fun ss => ss.Perm (intKeys D0)) (Maps.size D0) (w.alloc (.cells #[.map (some b)] 99)) :=
    AnyZI.keys_gives (ρ := Tryz.keysG_ren) { Tryz.keysG with } Fence.wide _ trivial rfl (by omega) w.heap.size b n D0 _ (by simp) (by simp) (by
      obtain ⟨es, clock, hb, Ft, hs, hD⟩ := hown
      exact ⟨es, clock, (Below.heap_alloc _ _ b hbl).trans hb, Ft, hs, hD⟩)
  have cS := AnyZI.sorted_in Tryz.sortedI Fence.wide 5 trivial trivial trivial trivial rfl (by omega) (sortsG _) (enters_of Tryz.func65 (by kernel_rfl) rfl) 66 #[.pointer (some ⟨w.heap.size, 0, none⟩)] trivial (enters_of Tryz.func66 (by kernel_rfl) rfl) _ _ hmax hbytes _ hseq
  change CallsIn _ _ Tryz.prog 38 _ _ _ at cS
  refine ((callsIn_wide (n := 5)).1 cS).mono ?_
  rintro e w' ⟨v, ss, rfl, hS, hrow, _, hb⟩
  obtain ⟨i1, i2, _⟩ := owns_ints hown
  have hm := merge_eq (ss := ss) (ks := ks) (hS.nodup_iff.2 i1) hu fun x => by
    rw [hS.mem_iff, i2, hk]
    constructor
    · rintro ⟨s, hh⟩ e
      rw [(h2 x s).1, e] at hh
      cases hh
    · intro hx
      refine ⟨h3 x hx, ?_⟩
      rw [(h2 x (h3 x hx)).1]
      cases e : f x with
      | none => exact absurd e hx
      | some _ => rfl
  have hl : ss.length = ks.length := by rw [← hm]; simp
  rw [hm, hl] at hrow
  exact ⟨v, rfl, hrow, hb⟩
end Go.Proofs.YtkeocnhndnbamaaGreat.Mend
namespace Go.Proofs.YtkeocnhndnbamaaGreat.Nib
set_option maxRecDepth 100000
open Go.RowKit
theorem below_next {W w w' : World} (h : Below W.heap.size W w) (h' : Below w.heap.size w w') : Below W.heap.size W w' := h.trans (h'.mono h.size)
theorem below_drew {W w : World} (h : Below W.heap.size W w) (q : Nat) : Below W.heap.size W (w.drewN q) := below_drewN h q
end Go.Proofs.YtkeocnhndnbamaaGreat.Nib
namespace Go.Proofs.YtkeocnhndnbamaaGreat.Ent
set_option maxRecDepth 100000
open Go.RowKit
open Go.Proofs.YtkeocnhndnbamaaGreat.Slab (Blk Slots PageRes putN putZ putCode page_cells ret_bool' ret_int')
open Go.Proofs.YtkeocnhndnbamaaGreat.Nib (below_next below_drew)

theorem ent_cells {w : World} {g : Nat} {t : TypeId} {x : Ent} (h : Blk w g t #[.int .i64 x.kind, .int .i64 x.cl, .int .i64 x.ep, .int .i64 x.n, .int .i64 x.lsn, .int .i64 x.prev, .int .i64 x.page, .int .i64 x.slot, .bool x.wu, .string x.wd, .bool x.iu, .string x.id, .int .i64 x.next]) :
    w.cell? ⟨g, 0, none⟩ = some (.int .i64 x.kind) ∧ w.cell? ⟨g, 1, none⟩ = some (.int .i64 x.cl) ∧ w.cell? ⟨g, 2, none⟩ = some (.int .i64 x.ep) ∧ w.cell? ⟨g, 3, none⟩ = some (.int .i64 x.n) ∧
    w.cell? ⟨g, 4, none⟩ = some (.int .i64 x.lsn) ∧ w.cell? ⟨g, 5, none⟩ = some (.int .i64 x.prev) ∧ w.cell? ⟨g, 6, none⟩ = some (.int .i64 x.page) ∧ w.cell? ⟨g, 7, none⟩ = some (.int .i64 x.slot) ∧
    w.cell? ⟨g, 8, none⟩ = some (.bool x.wu) ∧ w.cell? ⟨g, 9, none⟩ = some (.string x.wd) ∧ w.cell? ⟨g, 10, none⟩ = some (.bool x.iu) ∧ w.cell? ⟨g, 11, none⟩ = some (.string x.id) ∧ w.cell? ⟨g, 12, none⟩ = some (.int .i64 x.next) :=
  ⟨h.cell 0, h.cell 1, h.cell 2, h.cell 3, h.cell 4, h.cell 5, h.cell 6, h.cell 7, h.cell 8, h.cell 9, h.cell 10, h.cell 11, h.cell 12⟩
theorem alloc_lt (w : World) (o : Obj) : w.heap.size < (w.alloc o).heap.size := by simp
theorem below_box (w : World) (o : Obj) : Below w.heap.size w (w.alloc o) := (Below.refl _ _).alloc (Nat.le_refl _) _
theorem three_cells (w : World) (x y z : Value) (T : TypeId) : (w.alloc (.cells #[x, y, z] T)).cell? ⟨w.heap.size, 0, none⟩ = some x ∧ (w.alloc (.cells #[x, y, z] T)).cell? ⟨w.heap.size, 1, none⟩ = some y ∧ (w.alloc (.cells #[x, y, z] T)).cell? ⟨w.heap.size, 2, none⟩ = some z :=
  ⟨(Blk.new w T #[x, y, z]).cell 0, (Blk.new w T #[x, y, z]).cell 1, (Blk.new w T #[x, y, z]).cell 2⟩

/-- a slot as a size alone: what memory can hold -/
def Small (x : Ent) : Prop := x.wd.size ≤ 140737488351232 ∧ x.id.size ≤ 140737488351232

set_option maxRecDepth 100000 in
theorem within_any (a lo hi : Int) (w : World) :
    Calls Tryz.prog 59 #[.int .i64 a, .int .i64 lo, .int .i64 hi] w fun e w' => e = .returned (.bool (withinB a lo hi)) ∧ w = w' := by
  by_cases h1 : lo ≤ a
  · by_cases h2 : a ≤ hi
    · have H := Lib.hid (show withinB a lo hi = true from decide_eq_true ⟨h1, h2⟩)
      go_enter Tryz.func59, Tryz.ntmps59
      go_wp2
      go_ret
      exact ⟨ret_bool' H.out.symm, rfl⟩
    · have H := Lib.hid (show withinB a lo hi = false from decide_eq_false fun h => h2 h.2)
      go_enter Tryz.func59, Tryz.ntmps59
      go_wp2
      go_ret
      exact ⟨ret_bool' H.out.symm, rfl⟩
  · have H := Lib.hid (show withinB a lo hi = false from decide_eq_false fun h => h1 h.1)
    go_enter Tryz.func59, Tryz.ntmps59
    go_wp2
    go_ret
    exact ⟨ret_bool' H.out.symm, rfl⟩

set_option maxRecDepth 100000 in
theorem known_any (c ep n : Int) (w : World) :
    Calls Tryz.prog 58 #[.agg #[.int .i64 c, .int .i64 ep, .int .i64 n]] w fun e w' => e = .returned (.bool (knownB c ep n)) ∧ Below w.heap.size w w' := by
  have hb := below_box w (.cells #[.int .i64 c, .int .i64 ep, .int .i64 n] 56)
  obtain ⟨c0, c1, c2⟩ := three_cells w (.int .i64 c) (.int .i64 ep) (.int .i64 n) 56
  cases h1 : withinB c 1 8 with
  | false =>
    have H := Lib.hid (show knownB c ep n = false by unfold knownB; rw [h1]; rfl)
    have H1 := Lib.hid h1
    clear h1
    go_enter Tryz.func58, Tryz.ntmps58
    go_wp2_with fail
    refine (within_any c 1 8 _).mono ?_
    rw [H1.out]
    rintro e w1 ⟨rfl, rfl⟩
    go_wp2
    go_ret
    exact ⟨ret_bool' H.out.symm, hb⟩
  | true =>
    have H1 := Lib.hid h1
    cases h2 : withinB ep 1 1073741824 with
    | false =>
      have H := Lib.hid (show knownB c ep n = false by unfold knownB; rw [h1, h2]; rfl)
      have H2 := Lib.hid h2
      clear h1 h2
      go_enter Tryz.func58, Tryz.ntmps58
      go_wp2_with fail
      refine (within_any c 1 8 _).mono ?_
      rw [H1.out]
      rintro e w1 ⟨rfl, rfl⟩
      go_wp2_with fail
      refine (within_any ep 1 1073741824 _).mono ?_
      rw [H2.out]
      rintro e w1 ⟨rfl, rfl⟩
      go_wp2
      go_ret
      exact ⟨ret_bool' H.out.symm, hb⟩
    | true =>
      have H := Lib.hid (show knownB c ep n = withinB n 1 1073741824 by unfold knownB; rw [h1, h2]; rfl)
      have H2 := Lib.hid h2
      clear h1 h2
      go_enter Tryz.func58, Tryz.ntmps58
      go_wp2_with fail
      refine (within_any c 1 8 _).mono ?_
      rw [H1.out]
      rintro e w1 ⟨rfl, rfl⟩
      go_wp2_with fail
      refine (within_any ep 1 1073741824 _).mono ?_
      rw [H2.out]
      rintro e w1 ⟨rfl, rfl⟩
      go_wp2_with fail
      refine (within_any n 1 1073741824 _).mono ?_
      rintro e w1 ⟨rfl, rfl⟩
      go_wp2
      go_ret
      exact ⟨ret_bool' H.out.symm, hb⟩

theorem put_first (u : Bool) (d : ByteArray) : decide (putCode 0 [] 0 ⟨u, d⟩ = 0) = fitsB u d := by
  have hg : Slab.goodB 0 [] = true := by decide
  unfold fitsB putCode
  rw [hg]
  by_cases h1 : u = false ∧ ¬ d.size = 0
  · rw [if_pos (.inr (.inr (.inr h1)))]
    rw [decide_eq_false (by omega), decide_eq_false]
    rintro ⟨_, h⟩
    rcases h with h | h
    · rw [h1.1] at h; exact absurd h (by simp)
    · exact h1.2 h
  · rw [if_neg (by rintro (h | h | h | h); exact absurd h (by simp); omega; omega; exact h1 h)]
    have hu : u = true ∨ d.size = 0 := by
      cases u with
      | true => exact .inl rfl
      | false => right; rcases Nat.eq_zero_or_pos d.size with h | h; exact h; exact absurd ⟨rfl, by omega⟩ h1
    by_cases h2 : 200 < d.size
    · rw [if_pos h2, decide_eq_false (by omega), decide_eq_false (by omega)]
    · rw [if_neg h2]
      have h3 : Slab.sz (Slab.putL [] (0 : Int).toNat ⟨u, d⟩) ≤ 1 + d.size := by
        unfold Slab.putL
        refine Nat.le_trans (Slab.sz_take_le _ _) ?_
        simp [Slab.padL, Slab.sz]
      rw [if_neg (by omega)]
      rw [decide_eq_true rfl, decide_eq_true ⟨by omega, hu⟩]
theorem code_beq (u : Bool) (d : ByteArray) : (putCode 0 [] 0 ⟨u, d⟩ == 0) = fitsB u d := by
  rw [← put_first]; rfl
set_option maxRecDepth 100000 in
theorem fits_any (u : Bool) (d : ByteArray) (w : World) (hd : d.size ≤ 140737488351232) :
    Calls Tryz.prog 79 #[.agg #[.bool u, .string d]] w fun e w' => e = .returned (.bool (fitsB u d)) ∧ Below w.heap.size w w' := by
  have hb := below_box w (.cells #[.bool u, .string d] 41)
  obtain ⟨c0, c1⟩ := page_cells w (.bool u) (.string d) 41
  have HC := Lib.hid (code_beq u d)
  go_enter Tryz.func79, Tryz.ntmps79
  go_wp2_with fail
  refine (Slab.put_any 0 none 0 0 [] 0 u d _ (Slots.nil _ _) (by omega) hd).mono ?_
  rintro e w1 ⟨a, n, c, rfl, _, b1, _⟩
  generalize putCode 0 [] 0 ⟨u, d⟩ = C at HC ⊢
  generalize putN 0 [] 0 ⟨u, d⟩ = L
  go_wp2
  go_ret
  exact ⟨ret_bool' HC.out, below_next (below_next hb b1) (below_box _ _)⟩
theorem ch_eq (x : Ent) : chB x = (withinB x.page 0 1023 && (withinB x.slot 0 31 && (fitsB x.wu x.wd && fitsB x.iu x.id))) := by
  unfold chB; simp only [Bool.and_assoc]
set_option maxRecDepth 100000 in
set_option maxHeartbeats 800000 in
theorem changes_any (x : Ent) (w : World) (hx : Small x) :
    Calls Tryz.prog 60 #[.agg #[.int .i64 x.kind, .int .i64 x.cl, .int .i64 x.ep, .int .i64 x.n, .int .i64 x.lsn, .int .i64 x.prev, .int .i64 x.page, .int .i64 x.slot, .bool x.wu, .string x.wd, .bool x.iu, .string x.id, .int .i64 x.next]] w fun e w' => e = .returned (.bool (chB x)) ∧ Below w.heap.size w w' := by
  have hb := below_box w (.cells #[.int .i64 x.kind, .int .i64 x.cl, .int .i64 x.ep, .int .i64 x.n, .int .i64 x.lsn, .int .i64 x.prev, .int .i64 x.page, .int .i64 x.slot, .bool x.wu, .string x.wd, .bool x.iu, .string x.id, .int .i64 x.next] 58)
  have hg := alloc_lt w (.cells #[.int .i64 x.kind, .int .i64 x.cl, .int .i64 x.ep, .int .i64 x.n, .int .i64 x.lsn, .int .i64 x.prev, .int .i64 x.page, .int .i64 x.slot, .bool x.wu, .string x.wd, .bool x.iu, .string x.id, .int .i64 x.next] 58)
  have hB := Blk.new w 58 #[.int .i64 x.kind, .int .i64 x.cl, .int .i64 x.ep, .int .i64 x.n, .int .i64 x.lsn, .int .i64 x.prev, .int .i64 x.page, .int .i64 x.slot, .bool x.wu, .string x.wd, .bool x.iu, .string x.id, .int .i64 x.next]
  have HE := Lib.hid (ch_eq x)
  have hd1 := hx.1
  have hd2 := hx.2
  clear hx
  go_enter Tryz.func60, Tryz.ntmps60
  go_wp2_with fail
  generalize hGen : w.alloc (.cells #[.int .i64 x.kind, .int .i64 x.cl, .int .i64 x.ep, .int .i64 x.n, .int .i64 x.lsn, .int .i64 x.prev, .int .i64 x.page, .int .i64 x.slot, .bool x.wu, .string x.wd, .bool x.iu, .string x.id, .int .i64 x.next] 58) = W at hb hg hB ⊢
  clear hGen
  obtain ⟨c0, c1, c2, c3, c4, c5, c6, c7, c8, c9, c10, c11, c12⟩ := ent_cells hB
  go_wp2_with fail
  refine (within_any x.page 0 1023 _).mono ?_
  rintro e w1 ⟨rfl, rfl⟩
  cases h1 : withinB x.page 0 1023 with
  | false =>
    have H1 := Lib.hid h1
    clear h1
    go_wp2
    go_ret
    exact ⟨ret_bool' (by rw [HE.out, H1.out]; rfl), hb⟩
  | true =>
    have H1 := Lib.hid h1
    clear h1
    go_wp2_with fail
    refine (within_any x.slot 0 31 _).mono ?_
    rintro e w1 ⟨rfl, rfl⟩
    cases h2 : withinB x.slot 0 31 with
    | false =>
      have H2 := Lib.hid h2
      clear h2
      go_wp2
      go_ret
      exact ⟨ret_bool' (by rw [HE.out, H1.out, H2.out]; rfl), hb⟩
    | true =>
      have H2 := Lib.hid h2
      clear h2
      go_wp2_with fail
      refine (fits_any x.wu x.wd _ hd1).mono ?_
      rintro e w1 ⟨rfl, b1⟩
      have hB1 := hB.below b1 hg
      obtain ⟨d0, d1, d2, d3, d4, d5, d6, d7, d8, d9, d10, d11, d12⟩ := ent_cells hB1
      cases h3 : fitsB x.wu x.wd with
      | false =>
        have H3 := Lib.hid h3
        clear h3
        go_wp2
        go_ret
        exact ⟨ret_bool' (by rw [HE.out, H1.out, H2.out, H3.out]; rfl), below_next hb b1⟩
      | true =>
        have H3 := Lib.hid h3
        clear h3
        go_wp2_with fail
        refine (fits_any x.iu x.id _ hd2).mono ?_
        rintro e w2 ⟨rfl, b2⟩
        go_wp2
        go_ret
        exact ⟨ret_bool' (by rw [HE.out, H1.out, H2.out, H3.out]; rfl), below_next (below_next hb b1) b2⟩

/-- Go's '==' on entries -/
def sameE (x y : Ent) : Bool := (x.kind == y.kind) && ((x.cl == y.cl) && ((x.ep == y.ep) && ((x.n == y.n) && ((x.lsn == y.lsn) && ((x.prev == y.prev) && ((x.page == y.page) && ((x.slot == y.slot) && ((x.wu == y.wu) && ((x.wd.toList == y.wd.toList) && ((x.iu == y.iu) && ((x.id.toList == y.id.toList) && (x.next == y.next))))))))))))
theorem sameE_iff (x y : Ent) : sameE x y = true ↔ x = y := by
  obtain ⟨a1, a2, a3, a4, a5, a6, a7, a8, a9, a10, a11, a12, a13⟩ := x
  obtain ⟨b1, b2, b3, b4, b5, b6, b7, b8, b9, b10, b11, b12, b13⟩ := y
  simp only [sameE, Bool.and_eq_true, beq_iff_eq, Ent.mk.injEq]
  exact ⟨fun ⟨h1, h2, h3, h4, h5, h6, h7, h8, h9, h10, h11, h12, h13⟩ => ⟨h1, h2, h3, h4, h5, h6, h7, h8, h9, Slab.list_inj h10, h11, Slab.list_inj h12, h13⟩,
    fun ⟨h1, h2, h3, h4, h5, h6, h7, h8, h9, h10, h11, h12, h13⟩ => ⟨h1, h2, h3, h4, h5, h6, h7, h8, h9, by rw [h10], h11, by rw [h12], h13⟩⟩
theorem sameE_refl (x : Ent) : sameE x x = true := (sameE_iff x x).2 rfl
theorem sameE_not {x y : Ent} (h : ¬ x = y) : sameE x y = false := by
  cases hs : sameE x y with
  | true => exact absurd ((sameE_iff x y).1 hs) h
  | false => rfl
theorem eqIn_slot (D : Nat) (u v : Bool) (d e : ByteArray) (w : World) : (Op.equalIn (D + 2) 41 (.agg #[.bool u, .string d]) (.agg #[.bool v, .string e])).run Tryz.prog w = .ok ((u == v) && (d.toList == e.toList)) w := by
  have u3 := Tryz.underlying4
  have u9 := Tryz.underlying9
  have a3 := Tryz.isAgg4
  have z3 := Tryz.sizeOf4
  have a9 := Tryz.isAgg9
  have z9 := Tryz.sizeOf9
  have hS : Tryz.prog.underlying 41 = some (.struct (Tryz.prog.fieldsOf 41)) := by kernel_rfl
  have hp : Tryz.prog.stoodInHeld 41 = false := by kernel_rfl
  rw [run_equalIn_agg w (D + 1) 41 _ _ hS hp]
  clear hS hp
  simp only [Program.fieldsOf, Tryz.underlying41]
  go_simp
  by_cases hde : d.toList = e.toList <;> cases u <;> cases v <;> simp [hde]
theorem eqIn_txn (D : Nat) (a b c a' b' c' : Int) (w : World) : (Op.equalIn (D + 2) 56 (.agg #[.int .i64 a, .int .i64 b, .int .i64 c]) (.agg #[.int .i64 a', .int .i64 b', .int .i64 c'])).run Tryz.prog w = .ok ((a == a') && ((b == b') && (c == c'))) w := by
  have u4 := Tryz.underlying3
  have a4 := Tryz.isAgg3
  have z4 := Tryz.sizeOf3
  have hS : Tryz.prog.underlying 56 = some (.struct (Tryz.prog.fieldsOf 56)) := by kernel_rfl
  have hp : Tryz.prog.stoodInHeld 56 = false := by kernel_rfl
  rw [run_equalIn_agg w (D + 1) 56 _ _ hS hp]
  clear hS hp
  simp only [Program.fieldsOf, Tryz.underlying56]
  go_simp
  by_cases h1 : a = a' <;> by_cases h2 : b = b' <;> by_cases h3 : c = c' <;> simp [h1, h2, h3]
set_option maxRecDepth 100000 in
set_option maxHeartbeats 800000 in
theorem run_eq_ent (x y : Ent) (w : World) : (binOp .eql 58 (.agg #[.int .i64 x.kind, .int .i64 x.cl, .int .i64 x.ep, .int .i64 x.n, .int .i64 x.lsn, .int .i64 x.prev, .int .i64 x.page, .int .i64 x.slot, .bool x.wu, .string x.wd, .bool x.iu, .string x.id, .int .i64 x.next]) (.agg #[.int .i64 y.kind, .int .i64 y.cl, .int .i64 y.ep, .int .i64 y.n, .int .i64 y.lsn, .int .i64 y.prev, .int .i64 y.page, .int .i64 y.slot, .bool y.wu, .string y.wd, .bool y.iu, .string y.id, .int .i64 y.next])).run Tryz.prog w = .ok (.bool (sameE x y)) w := by
  have u4 := Tryz.underlying3
  have a4 := Tryz.isAgg3
  have z4 := Tryz.sizeOf3
  have a5 := Tryz.isAgg56
  have z5 := Tryz.sizeOf56
  have a6 := Tryz.isAgg41
  have z6 := Tryz.sizeOf41
  have hS : Tryz.prog.underlying 58 = some (.struct (Tryz.prog.fieldsOf 58)) := by kernel_rfl
  have hp : Tryz.prog.stoodInHeld 58 = false := by kernel_rfl
  have e1 := fun (u v : Bool) (d e : ByteArray) (w : World) => eqIn_slot 9997 u v d e w
  have e2 := fun (a b c a' b' c' : Int) (w : World) => eqIn_txn 9997 a b c a' b' c' w
  rw [run_eql_struct, show (10000 : Nat) = 9999 + 1 from rfl, run_equalIn_agg w 9999 58 _ _ hS hp]
  clear hS hp
  simp only [Program.fieldsOf, Tryz.underlying58]
  go_simp
  unfold sameE
  by_cases h0 : x.kind = y.kind
  rotate_left
  · simp [h0]
  by_cases h1 : x.cl = y.cl
  rotate_left
  · simp [h0, h1]
  by_cases h2 : x.ep = y.ep
  rotate_left
  · simp [h0, h1, h2]
  by_cases h3 : x.n = y.n
  rotate_left
  · simp [h0, h1, h2, h3]
  by_cases h4 : x.lsn = y.lsn
  rotate_left
  · simp [h0, h1, h2, h3, h4]
  by_cases h5 : x.prev = y.prev
  rotate_left
  · simp [h0, h1, h2, h3, h4, h5]
  by_cases h6 : x.page = y.page
  rotate_left
  · simp [h0, h1, h2, h3, h4, h5, h6]
  by_cases h7 : x.slot = y.slot
  rotate_left
  · simp [h0, h1, h2, h3, h4, h5, h6, h7]
  by_cases h8 : x.wu = y.wu
  rotate_left
  · simp [h0, h1, h2, h3, h4, h5, h6, h7, h8]
  by_cases h9 : x.wd.toList = y.wd.toList
  rotate_left
  · simp [h0, h1, h2, h3, h4, h5, h6, h7, h8, h9]
  by_cases h10 : x.iu = y.iu
  rotate_left
  · simp [h0, h1, h2, h3, h4, h5, h6, h7, h8, h9, h10]
  by_cases h11 : x.id.toList = y.id.toList
  rotate_left
  · simp [h0, h1, h2, h3, h4, h5, h6, h7, h8, h9, h10, h11]
  by_cases h12 : x.next = y.next
  rotate_left
  · simp [h0, h1, h2, h3, h4, h5, h6, h7, h8, h9, h10, h11, h12]
  simp [h0, h1, h2, h3, h4, h5, h6, h7, h8, h9, h10, h11, h12]
theorem run_guard_ent (op : BinOp) (A B : Operand) (xs ys : Array Value) (w : World) : (eqGuard op 58 A B (.agg xs) (.agg ys)).run Tryz.prog w = .ok () w := run_eqGuard_agg w op 58 A B xs ys (by kernel_rfl)

/-- an entry that names no place -/
def bare (x : Ent) : Ent := ⟨x.kind, x.cl, x.ep, x.n, x.lsn, x.prev, 0, 0, false, ⟨#[]⟩, false, ⟨#[]⟩, 0⟩
theorem bare_is (x : Ent) : sameE x (bare x) = bareB x := by
  cases h : bareB x with
  | true =>
    obtain ⟨b1, b2, b3, b4, b5, b6, b7⟩ := of_decide_eq_true h
    rw [sameE_iff]
    obtain ⟨kind, cl, ep, n, lsn, prev, page, slot, wu, wd, iu, id, next⟩ := x
    simp only at b1 b2 b3 b4 b5 b6 b7
    subst b1 b2 b3 b5 b7
    unfold bare
    rw [show wd = ⟨#[]⟩ from size_zero b4, show id = ⟨#[]⟩ from size_zero b6]
  | false =>
    apply sameE_not
    intro e
    apply of_decide_eq_false h
    have e6 := congrArg Ent.page e
    have e7 := congrArg Ent.slot e
    have e8 := congrArg Ent.wu e
    have e9 := congrArg Ent.wd e
    have e10 := congrArg Ent.iu e
    have e11 := congrArg Ent.id e
    have e12 := congrArg Ent.next e
    simp only [bare] at e6 e7 e8 e9 e10 e11 e12
    exact ⟨e6, e7, e8, by rw [e9]; rfl, e10, by rw [e11]; rfl, e12⟩
theorem prev_eq (x : Ent) : decide (0 ≤ x.prev ∧ x.prev < x.lsn) = withinB x.prev 0 (x.lsn - 1) := by
  unfold withinB; rw [decide_eq_decide]; omega

theorem not_eq_of {a b : Int} (h : ¬ a = b) : (a == b) = false := by simpa using h

set_option maxRecDepth 100000 in
set_option maxHeartbeats 2000000 in
theorem good_any (x : Ent) (w : World) (hx : Small x) :
    Calls Tryz.prog 35 #[.agg #[.int .i64 x.kind, .int .i64 x.cl, .int .i64 x.ep, .int .i64 x.n, .int .i64 x.lsn, .int .i64 x.prev, .int .i64 x.page, .int .i64 x.slot, .bool x.wu, .string x.wd, .bool x.iu, .string x.id, .int .i64 x.next]] w fun e w' => e = .returned (.bool (goodB x)) ∧ Below w.heap.size w w' := by
  have hb := below_box w (.cells #[.int .i64 x.kind, .int .i64 x.cl, .int .i64 x.ep, .int .i64 x.n, .int .i64 x.lsn, .int .i64 x.prev, .int .i64 x.page, .int .i64 x.slot, .bool x.wu, .string x.wd, .bool x.iu, .string x.id, .int .i64 x.next] 58)
  have hg := alloc_lt w (.cells #[.int .i64 x.kind, .int .i64 x.cl, .int .i64 x.ep, .int .i64 x.n, .int .i64 x.lsn, .int .i64 x.prev, .int .i64 x.page, .int .i64 x.slot, .bool x.wu, .string x.wd, .bool x.iu, .string x.id, .int .i64 x.next] 58)
  have hB := Blk.new w 58 #[.int .i64 x.kind, .int .i64 x.cl, .int .i64 x.ep, .int .i64 x.n, .int .i64 x.lsn, .int .i64 x.prev, .int .i64 x.page, .int .i64 x.slot, .bool x.wu, .string x.wd, .bool x.iu, .string x.id, .int .i64 x.next]
  have HS := Lib.hid hx
  clear hx
  go_enter Tryz.func35, Tryz.ntmps35
  go_wp2_with fail
  generalize hGen : w.alloc (.cells #[.int .i64 x.kind, .int .i64 x.cl, .int .i64 x.ep, .int .i64 x.n, .int .i64 x.lsn, .int .i64 x.prev, .int .i64 x.page, .int .i64 x.slot, .bool x.wu, .string x.wd, .bool x.iu, .string x.id, .int .i64 x.next] 58) = W at hb hg hB ⊢
  clear hGen
  obtain ⟨c0, c1, c2, c3, c4, c5, c6, c7, c8, c9, c10, c11, c12⟩ := ent_cells hB
  go_wp2_with fail
  refine (known_any x.cl x.ep x.n _).mono ?_
  rintro e w1 ⟨rfl, b1⟩
  have hB1 := hB.below b1 hg
  have hb1 := below_next hb b1
  obtain ⟨d0, d1, d2, d3, d4, d5, d6, d7, d8, d9, d10, d11, d12⟩ := ent_cells hB1
  clear c0 c1 c2 c3 c4 c5 c6 c7 c8 c9 c10 c11 c12 hB hb
  cases h1 : knownB x.cl x.ep x.n with
  | false =>
    have H := Lib.hid (show goodB x = false by unfold goodB headB; rw [h1]; rfl)
    clear h1
    go_wp2
    go_ret
    exact ⟨ret_bool' H.out.symm, hb1⟩
  | true =>
    have H1 := Lib.hid h1
    clear h1
    go_wp2_with fail
    refine (within_any x.lsn 1 1099511627776 _).mono ?_
    rintro e w2 ⟨rfl, rfl⟩
    cases h2 : withinB x.lsn 1 1099511627776 with
    | false =>
      have H := Lib.hid (show goodB x = false by unfold goodB headB; rw [H1.out, h2]; rfl)
      clear h2
      go_wp2
      go_ret
      exact ⟨ret_bool' H.out.symm, hb1⟩
    | true =>
      have H2 := Lib.hid h2
      obtain ⟨l1, l2⟩ := of_decide_eq_true h2
      clear h2
      go_wp2_with fail
      refine (within_any x.prev 0 (x.lsn - 1) _).mono ?_
      rintro e w2 ⟨rfl, rfl⟩
      cases h3 : withinB x.prev 0 (x.lsn - 1) with
      | false =>
        have H := Lib.hid (show goodB x = false by unfold goodB headB; rw [H1.out, H2.out, prev_eq, h3]; rfl)
        clear h3
        go_wp2
        go_ret
        exact ⟨ret_bool' H.out.symm, hb1⟩
      | true =>
        have H3 := Lib.hid (show headB x = true by unfold headB; rw [H1.out, H2.out, prev_eq, h3]; rfl)
        clear h3
        by_cases k1 : x.kind = 1
        · have t1 : (x.kind == 1) = true := by simpa using k1
          have HK := Lib.hid (show goodB x = (decide (x.next = 0) && chB x) by unfold goodB; rw [H3.out, if_pos k1]; rfl)
          clear k1
          by_cases n0 : x.next = 0
          · have t2 : (x.next == 0) = true := by simpa using n0
            have H := Lib.hid (show goodB x = chB x by rw [HK.out, decide_eq_true n0]; rfl)
            clear n0
            go_wp2_with fail
            refine (changes_any x _ HS.out).mono ?_
            rintro e w3 ⟨rfl, b3⟩
            go_wp2
            go_ret
            exact ⟨ret_bool' H.out.symm, below_next hb1 b3⟩
          · have t2 := not_eq_of n0
            have H := Lib.hid (show goodB x = false by rw [HK.out, decide_eq_false n0]; rfl)
            clear n0
            go_wp2
            go_ret
            exact ⟨ret_bool' H.out.symm, hb1⟩
        · have t1 := not_eq_of k1
          by_cases k2 : x.kind = 2
          · have t3 : (x.kind == 2) = true := by simpa using k2
            have HK := Lib.hid (show goodB x = (withinB x.next 0 x.prev && chB x) by unfold goodB; rw [H3.out, if_neg k1, if_pos k2]; rfl)
            clear k1 k2
            go_wp2_with fail
            refine (within_any x.next 0 x.prev _).mono ?_
            rintro e w2 ⟨rfl, rfl⟩
            cases h4 : withinB x.next 0 x.prev with
            | false =>
              have H := Lib.hid (show goodB x = false by rw [HK.out, h4]; rfl)
              clear h4
              go_wp2
              go_ret
              exact ⟨ret_bool' H.out.symm, hb1⟩
            | true =>
              have H := Lib.hid (show goodB x = chB x by rw [HK.out, h4]; rfl)
              clear h4
              go_wp2_with fail
              refine (changes_any x _ HS.out).mono ?_
              rintro e w3 ⟨rfl, b3⟩
              go_wp2
              go_ret
              exact ⟨ret_bool' H.out.symm, below_next hb1 b3⟩
          · have t3 := not_eq_of k2
            by_cases k3 : x.kind = 3 ∨ x.kind = 4
            · have H := Lib.hid (show goodB x = sameE x (bare x) by unfold goodB; rw [H3.out, if_neg k1, if_neg k2, if_pos k3, bare_is]; rfl)
              have hq : ∀ w, (binOp .eql 58 (.agg #[.int .i64 x.kind, .int .i64 x.cl, .int .i64 x.ep, .int .i64 x.n, .int .i64 x.lsn, .int .i64 x.prev, .int .i64 x.page, .int .i64 x.slot, .bool x.wu, .string x.wd, .bool x.iu, .string x.id, .int .i64 x.next]) (.agg #[.int .i64 x.kind, .int .i64 x.cl, .int .i64 x.ep, .int .i64 x.n, .int .i64 x.lsn, .int .i64 x.prev, .int .i64 0, .int .i64 0, .bool false, .string ⟨#[]⟩, .bool false, .string ⟨#[]⟩, .int .i64 0])).run Tryz.prog w = .ok (.bool (sameE x (bare x))) w := fun w => run_eq_ent x (bare x) w
              have hgd := fun (A B : Operand) xs ys w => run_guard_ent .eql A B xs ys w
              rcases k3 with k3 | k3
              · have t4 : (x.kind == 3) = true := by simpa using k3
                clear k1 k2 k3
                go_wp2
                go_ret
                exact ⟨ret_bool' H.out.symm, hb1⟩
              · have t4 : (x.kind == 3) = false := by rw [k3]; rfl
                have t5 : (x.kind == 4) = true := by simpa using k3
                clear k1 k2 k3
                go_wp2
                go_ret
                exact ⟨ret_bool' H.out.symm, hb1⟩
            · have t4 : (x.kind == 3) = false := not_eq_of fun h => k3 (.inl h)
              have t5 : (x.kind == 4) = false := not_eq_of fun h => k3 (.inr h)
              have H := Lib.hid (show goodB x = false by unfold goodB; rw [H3.out, if_neg k1, if_neg k2, if_neg k3]; rfl)
              clear k1 k2 k3
              go_wp2
              go_ret
              exact ⟨ret_bool' H.out.symm, hb1⟩
end Go.Proofs.YtkeocnhndnbamaaGreat.Ent
