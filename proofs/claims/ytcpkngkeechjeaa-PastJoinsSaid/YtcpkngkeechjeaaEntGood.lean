/- The walks of entry's small functions: within, Known, fits, changes, Good. -/
import Derived.Test.YtcpkngkeechjeaaEntMath
import Derived.Test.YtcpkngkeechjeaaSlabPut
import Derived.Test.YtcpkngkeechjeaaNibBelow
namespace Go.Proofs.Ytcpkngkeechjeaa.Ent
set_option maxRecDepth 100000
open Go.RowKit
open Go.Proofs.Ytcpkngkeechjeaa.Slab (Blk Slots PageRes putN putZ putCode page_cells ret_bool' ret_int')
open Go.Proofs.Ytcpkngkeechjeaa.Nib (below_next below_drew)

theorem ent_cells {w : World} {g : Nat} {t : TypeId} {x : Ent} (h : Blk w g t #[.int .i64 x.kind, .int .i64 x.cl, .int .i64 x.ep, .int .i64 x.n, .int .i64 x.lsn, .int .i64 x.prev, .int .i64 x.page, .int .i64 x.slot, .bool x.wu, .string x.wd, .bool x.iu, .string x.id, .int .i64 x.next]) :
    w.cell? ⟨g, 0, none⟩ = some (.int .i64 x.kind) ∧ w.cell? ⟨g, 1, none⟩ = some (.int .i64 x.cl) ∧ w.cell? ⟨g, 2, none⟩ = some (.int .i64 x.ep) ∧ w.cell? ⟨g, 3, none⟩ = some (.int .i64 x.n) ∧
    w.cell? ⟨g, 4, none⟩ = some (.int .i64 x.lsn) ∧ w.cell? ⟨g, 5, none⟩ = some (.int .i64 x.prev) ∧ w.cell? ⟨g, 6, none⟩ = some (.int .i64 x.page) ∧ w.cell? ⟨g, 7, none⟩ = some (.int .i64 x.slot) ∧
    w.cell? ⟨g, 8, none⟩ = some (.bool x.wu) ∧ w.cell? ⟨g, 9, none⟩ = some (.string x.wd) ∧ w.cell? ⟨g, 10, none⟩ = some (.bool x.iu) ∧ w.cell? ⟨g, 11, none⟩ = some (.string x.id) ∧ w.cell? ⟨g, 12, none⟩ = some (.int .i64 x.next) :=
  ⟨h.cell 0, h.cell 1, h.cell 2, h.cell 3, h.cell 4, h.cell 5, h.cell 6, h.cell 7, h.cell 8, h.cell 9, h.cell 10, h.cell 11, h.cell 12⟩
theorem alloc_lt (w : World) (o : Obj) : w.heap.size < (w.alloc o).heap.size := by simp
theorem below_box (w : World) (o : Obj) : Below w.heap.size w (w.alloc o) := (Below.refl _ _).alloc (Nat.le_refl _) _
theorem three_cells (w : World) (x y z : Value) (T : TypeId) : (w.alloc (.cells #[x, y, z] T)).cell? ⟨w.heap.size, 0, none⟩ = some x ∧ (w.alloc (.cells #[x, y, z] T)).cell? ⟨w.heap.size, 1, none⟩ = some y ∧ (w.alloc (.cells #[x, y, z] T)).cell? ⟨w.heap.size, 2, none⟩ = some z :=
  ⟨(Blk.new w T #[x, y, z]).cell 0, (Blk.new w T #[x, y, z]).cell 1, (Blk.new w T #[x, y, z]).cell 2⟩

/-- a slot as a size alone: what memory can hold -/
def Small (x : Ent) : Prop := x.wd.size ≤ 140737488351232 ∧ x.id.size ≤ 140737488351232

set_option maxRecDepth 100000 in
theorem within_any (a lo hi : Int) (w : World) :
    Calls Try.prog 31 #[.int .i64 a, .int .i64 lo, .int .i64 hi] w fun e w' => e = .returned (.bool (withinB a lo hi)) ∧ w = w' := by
  by_cases h1 : lo ≤ a
  · by_cases h2 : a ≤ hi
    · have H := Lib.hid (show withinB a lo hi = true from decide_eq_true ⟨h1, h2⟩)
      go_enter Try.func31, Try.ntmps31
      go_wp2
      go_ret
      exact ⟨ret_bool' H.out.symm, rfl⟩
    · have H := Lib.hid (show withinB a lo hi = false from decide_eq_false fun h => h2 h.2)
      go_enter Try.func31, Try.ntmps31
      go_wp2
      go_ret
      exact ⟨ret_bool' H.out.symm, rfl⟩
  · have H := Lib.hid (show withinB a lo hi = false from decide_eq_false fun h => h1 h.1)
    go_enter Try.func31, Try.ntmps31
    go_wp2
    go_ret
    exact ⟨ret_bool' H.out.symm, rfl⟩

set_option maxRecDepth 100000 in
theorem known_any (c ep n : Int) (w : World) :
    Calls Try.prog 30 #[.agg #[.int .i64 c, .int .i64 ep, .int .i64 n]] w fun e w' => e = .returned (.bool (knownB c ep n)) ∧ Below w.heap.size w w' := by
  have hb := below_box w (.cells #[.int .i64 c, .int .i64 ep, .int .i64 n] 24)
  obtain ⟨c0, c1, c2⟩ := three_cells w (.int .i64 c) (.int .i64 ep) (.int .i64 n) 24
  cases h1 : withinB c 1 8 with
  | false =>
    have H := Lib.hid (show knownB c ep n = false by unfold knownB; rw [h1]; rfl)
    have H1 := Lib.hid h1
    clear h1
    go_enter Try.func30, Try.ntmps30
    go_wp2_with fail
    refine (within_any c 1 8 _).mono ?_
    rw [H1.out]
    rintro e w1 ⟨rfl, rfl⟩
    go_wp2
    go_ret
    exact ⟨ret_bool' H.out.symm, hb⟩
  | true =>
    have H1 := Lib.hid h1
    cases h2 : withinB ep 1 1073741824 with
    | false =>
      have H := Lib.hid (show knownB c ep n = false by unfold knownB; rw [h1, h2]; rfl)
      have H2 := Lib.hid h2
      clear h1 h2
      go_enter Try.func30, Try.ntmps30
      go_wp2_with fail
      refine (within_any c 1 8 _).mono ?_
      rw [H1.out]
      rintro e w1 ⟨rfl, rfl⟩
      go_wp2_with fail
      refine (within_any ep 1 1073741824 _).mono ?_
      rw [H2.out]
      rintro e w1 ⟨rfl, rfl⟩
      go_wp2
      go_ret
      exact ⟨ret_bool' H.out.symm, hb⟩
    | true =>
      have H := Lib.hid (show knownB c ep n = withinB n 1 1073741824 by unfold knownB; rw [h1, h2]; rfl)
      have H2 := Lib.hid h2
      clear h1 h2
      go_enter Try.func30, Try.ntmps30
      go_wp2_with fail
      refine (within_any c 1 8 _).mono ?_
      rw [H1.out]
      rintro e w1 ⟨rfl, rfl⟩
      go_wp2_with fail
      refine (within_any ep 1 1073741824 _).mono ?_
      rw [H2.out]
      rintro e w1 ⟨rfl, rfl⟩
      go_wp2_with fail
      refine (within_any n 1 1073741824 _).mono ?_
      rintro e w1 ⟨rfl, rfl⟩
      go_wp2
      go_ret
      exact ⟨ret_bool' H.out.symm, hb⟩

theorem take_len_le (l : List Slab.Slot) (k : Nat) : Slab.sz (l.take k) ≤ Slab.sz l := Slab.sz_take_le l k
theorem put_first (u : Bool) (d : ByteArray) : decide (putCode 0 [] 0 ⟨u, d⟩ = 0) = fitsB u d := by
  have hg : Slab.goodB 0 [] = true := by decide
  unfold fitsB putCode
  rw [hg]
  by_cases h1 : u = false ∧ ¬ d.size = 0
  · rw [if_pos (.inr (.inr (.inr h1)))]
    rw [decide_eq_false (by omega), decide_eq_false]
    rintro ⟨_, h⟩
    rcases h with h | h
    · rw [h1.1] at h; exact absurd h (by simp)
    · exact h1.2 h
  · rw [if_neg (by rintro (h | h | h | h); exact absurd h (by simp); omega; omega; exact h1 h)]
    have hu : u = true ∨ d.size = 0 := by
      cases u with
      | true => exact .inl rfl
      | false => right; rcases Nat.eq_zero_or_pos d.size with h | h; exact h; exact absurd ⟨rfl, by omega⟩ h1
    by_cases h2 : 200 < d.size
    · rw [if_pos h2, decide_eq_false (by omega), decide_eq_false (by omega)]
    · rw [if_neg h2]
      have h3 : Slab.sz (Slab.putL [] (0 : Int).toNat ⟨u, d⟩) ≤ 1 + d.size := by
        unfold Slab.putL
        refine Nat.le_trans (Slab.sz_take_le _ _) ?_
        simp [Slab.padL, Slab.sz]
      rw [if_neg (by omega)]
      rw [decide_eq_true rfl, decide_eq_true ⟨by omega, hu⟩]
theorem code_beq (u : Bool) (d : ByteArray) : (putCode 0 [] 0 ⟨u, d⟩ == 0) = fitsB u d := by
  rw [← put_first]; rfl
set_option maxRecDepth 100000 in
theorem fits_any (u : Bool) (d : ByteArray) (w : World) (hd : d.size ≤ 140737488351232) :
    Calls Try.prog 44 #[.agg #[.bool u, .string d]] w fun e w' => e = .returned (.bool (fitsB u d)) ∧ Below w.heap.size w w' := by
  have hb := below_box w (.cells #[.bool u, .string d] 29)
  obtain ⟨c0, c1⟩ := page_cells w (.bool u) (.string d) 29
  have HC := Lib.hid (code_beq u d)
  go_enter Try.func44, Try.ntmps44
  go_wp2_with fail
  refine (Slab.put_any 0 none 0 0 [] 0 u d _ (Slots.nil _ _) (by omega) hd).mono ?_
  rintro e w1 ⟨a, n, c, rfl, _, b1, _⟩
  generalize putCode 0 [] 0 ⟨u, d⟩ = C at HC ⊢
  generalize putN 0 [] 0 ⟨u, d⟩ = L
  go_wp2
  go_ret
  exact ⟨ret_bool' HC.out, below_next (below_next hb b1) (below_box _ _)⟩
theorem ch_eq (x : Ent) : chB x = (withinB x.page 0 1023 && (withinB x.slot 0 31 && (fitsB x.wu x.wd && fitsB x.iu x.id))) := by
  unfold chB; simp only [Bool.and_assoc]
set_option maxRecDepth 100000 in
set_option maxHeartbeats 800000 in
theorem changes_any (x : Ent) (w : World) (hx : Small x) :
    Calls Try.prog 32 #[.agg #[.int .i64 x.kind, .int .i64 x.cl, .int .i64 x.ep, .int .i64 x.n, .int .i64 x.lsn, .int .i64 x.prev, .int .i64 x.page, .int .i64 x.slot, .bool x.wu, .string x.wd, .bool x.iu, .string x.id, .int .i64 x.next]] w fun e w' => e = .returned (.bool (chB x)) ∧ Below w.heap.size w w' := by
  have hb := below_box w (.cells #[.int .i64 x.kind, .int .i64 x.cl, .int .i64 x.ep, .int .i64 x.n, .int .i64 x.lsn, .int .i64 x.prev, .int .i64 x.page, .int .i64 x.slot, .bool x.wu, .string x.wd, .bool x.iu, .string x.id, .int .i64 x.next] 31)
  have hg := alloc_lt w (.cells #[.int .i64 x.kind, .int .i64 x.cl, .int .i64 x.ep, .int .i64 x.n, .int .i64 x.lsn, .int .i64 x.prev, .int .i64 x.page, .int .i64 x.slot, .bool x.wu, .string x.wd, .bool x.iu, .string x.id, .int .i64 x.next] 31)
  have hB := Blk.new w 31 #[.int .i64 x.kind, .int .i64 x.cl, .int .i64 x.ep, .int .i64 x.n, .int .i64 x.lsn, .int .i64 x.prev, .int .i64 x.page, .int .i64 x.slot, .bool x.wu, .string x.wd, .bool x.iu, .string x.id, .int .i64 x.next]
  have HE := Lib.hid (ch_eq x)
  have hd1 := hx.1
  have hd2 := hx.2
  clear hx
  go_enter Try.func32, Try.ntmps32
  go_wp2_with fail
  generalize hGen : w.alloc (.cells #[.int .i64 x.kind, .int .i64 x.cl, .int .i64 x.ep, .int .i64 x.n, .int .i64 x.lsn, .int .i64 x.prev, .int .i64 x.page, .int .i64 x.slot, .bool x.wu, .string x.wd, .bool x.iu, .string x.id, .int .i64 x.next] 31) = W at hb hg hB ⊢
  clear hGen
  obtain ⟨c0, c1, c2, c3, c4, c5, c6, c7, c8, c9, c10, c11, c12⟩ := ent_cells hB
  go_wp2_with fail
  refine (within_any x.page 0 1023 _).mono ?_
  rintro e w1 ⟨rfl, rfl⟩
  cases h1 : withinB x.page 0 1023 with
  | false =>
    have H1 := Lib.hid h1
    clear h1
    go_wp2
    go_ret
    exact ⟨ret_bool' (by rw [HE.out, H1.out]; rfl), hb⟩
  | true =>
    have H1 := Lib.hid h1
    clear h1
    go_wp2_with fail
    refine (within_any x.slot 0 31 _).mono ?_
    rintro e w1 ⟨rfl, rfl⟩
    cases h2 : withinB x.slot 0 31 with
    | false =>
      have H2 := Lib.hid h2
      clear h2
      go_wp2
      go_ret
      exact ⟨ret_bool' (by rw [HE.out, H1.out, H2.out]; rfl), hb⟩
    | true =>
      have H2 := Lib.hid h2
      clear h2
      go_wp2_with fail
      refine (fits_any x.wu x.wd _ hd1).mono ?_
      rintro e w1 ⟨rfl, b1⟩
      have hB1 := hB.below b1 hg
      obtain ⟨d0, d1, d2, d3, d4, d5, d6, d7, d8, d9, d10, d11, d12⟩ := ent_cells hB1
      cases h3 : fitsB x.wu x.wd with
      | false =>
        have H3 := Lib.hid h3
        clear h3
        go_wp2
        go_ret
        exact ⟨ret_bool' (by rw [HE.out, H1.out, H2.out, H3.out]; rfl), below_next hb b1⟩
      | true =>
        have H3 := Lib.hid h3
        clear h3
        go_wp2_with fail
        refine (fits_any x.iu x.id _ hd2).mono ?_
        rintro e w2 ⟨rfl, b2⟩
        go_wp2
        go_ret
        exact ⟨ret_bool' (by rw [HE.out, H1.out, H2.out, H3.out]; rfl), below_next (below_next hb b1) b2⟩

/-- Go's '==' on entries -/
def sameE (x y : Ent) : Bool := (x.kind == y.kind) && ((x.cl == y.cl) && ((x.ep == y.ep) && ((x.n == y.n) && ((x.lsn == y.lsn) && ((x.prev == y.prev) && ((x.page == y.page) && ((x.slot == y.slot) && ((x.wu == y.wu) && ((x.wd.toList == y.wd.toList) && ((x.iu == y.iu) && ((x.id.toList == y.id.toList) && (x.next == y.next))))))))))))
theorem sameE_iff (x y : Ent) : sameE x y = true ↔ x = y := by
  obtain ⟨a1, a2, a3, a4, a5, a6, a7, a8, a9, a10, a11, a12, a13⟩ := x
  obtain ⟨b1, b2, b3, b4, b5, b6, b7, b8, b9, b10, b11, b12, b13⟩ := y
  simp only [sameE, Bool.and_eq_true, beq_iff_eq, Ent.mk.injEq]
  exact ⟨fun ⟨h1, h2, h3, h4, h5, h6, h7, h8, h9, h10, h11, h12, h13⟩ => ⟨h1, h2, h3, h4, h5, h6, h7, h8, h9, Slab.list_inj h10, h11, Slab.list_inj h12, h13⟩,
    fun ⟨h1, h2, h3, h4, h5, h6, h7, h8, h9, h10, h11, h12, h13⟩ => ⟨h1, h2, h3, h4, h5, h6, h7, h8, h9, by rw [h10], h11, by rw [h12], h13⟩⟩
theorem sameE_refl (x : Ent) : sameE x x = true := (sameE_iff x x).2 rfl
theorem sameE_not {x y : Ent} (h : ¬ x = y) : sameE x y = false := by
  cases hs : sameE x y with
  | true => exact absurd ((sameE_iff x y).1 hs) h
  | false => rfl
theorem eqIn_slot (D : Nat) (u v : Bool) (d e : ByteArray) (w : World) : (Op.equalIn (D + 2) 29 (.agg #[.bool u, .string d]) (.agg #[.bool v, .string e])).run Try.prog w = .ok ((u == v) && (d.toList == e.toList)) w := by
  have u3 := Try.underlying4
  have u9 := Try.underlying9
  have a3 := Try.isAgg4
  have z3 := Try.sizeOf4
  have a9 := Try.isAgg9
  have z9 := Try.sizeOf9
  have hS : Try.prog.underlying 29 = some (.struct (Try.prog.fieldsOf 29)) := by kernel_rfl
  have hp : Try.prog.stoodInHeld 29 = false := by kernel_rfl
  rw [run_equalIn_agg w (D + 1) 29 _ _ hS hp]
  clear hS hp
  simp only [Program.fieldsOf, Try.underlying29]
  go_simp
  by_cases hde : d.toList = e.toList <;> cases u <;> cases v <;> simp [hde]
theorem eqIn_txn (D : Nat) (a b c a' b' c' : Int) (w : World) : (Op.equalIn (D + 2) 24 (.agg #[.int .i64 a, .int .i64 b, .int .i64 c]) (.agg #[.int .i64 a', .int .i64 b', .int .i64 c'])).run Try.prog w = .ok ((a == a') && ((b == b') && (c == c'))) w := by
  have u4 := Try.underlying3
  have a4 := Try.isAgg3
  have z4 := Try.sizeOf3
  have hS : Try.prog.underlying 24 = some (.struct (Try.prog.fieldsOf 24)) := by kernel_rfl
  have hp : Try.prog.stoodInHeld 24 = false := by kernel_rfl
  rw [run_equalIn_agg w (D + 1) 24 _ _ hS hp]
  clear hS hp
  simp only [Program.fieldsOf, Try.underlying24]
  go_simp
  by_cases h1 : a = a' <;> by_cases h2 : b = b' <;> by_cases h3 : c = c' <;> simp [h1, h2, h3]
set_option maxRecDepth 100000 in
set_option maxHeartbeats 800000 in
theorem run_eq_ent (x y : Ent) (w : World) : (binOp .eql 31 (.agg #[.int .i64 x.kind, .int .i64 x.cl, .int .i64 x.ep, .int .i64 x.n, .int .i64 x.lsn, .int .i64 x.prev, .int .i64 x.page, .int .i64 x.slot, .bool x.wu, .string x.wd, .bool x.iu, .string x.id, .int .i64 x.next]) (.agg #[.int .i64 y.kind, .int .i64 y.cl, .int .i64 y.ep, .int .i64 y.n, .int .i64 y.lsn, .int .i64 y.prev, .int .i64 y.page, .int .i64 y.slot, .bool y.wu, .string y.wd, .bool y.iu, .string y.id, .int .i64 y.next])).run Try.prog w = .ok (.bool (sameE x y)) w := by
  have u4 := Try.underlying3
  have a4 := Try.isAgg3
  have z4 := Try.sizeOf3
  have a5 := Try.isAgg24
  have z5 := Try.sizeOf24
  have a6 := Try.isAgg29
  have z6 := Try.sizeOf29
  have hS : Try.prog.underlying 31 = some (.struct (Try.prog.fieldsOf 31)) := by kernel_rfl
  have hp : Try.prog.stoodInHeld 31 = false := by kernel_rfl
  have e1 := fun (u v : Bool) (d e : ByteArray) (w : World) => eqIn_slot 9997 u v d e w
  have e2 := fun (a b c a' b' c' : Int) (w : World) => eqIn_txn 9997 a b c a' b' c' w
  rw [run_eql_struct, show (10000 : Nat) = 9999 + 1 from rfl, run_equalIn_agg w 9999 31 _ _ hS hp]
  clear hS hp
  simp only [Program.fieldsOf, Try.underlying31]
  go_simp
  unfold sameE
  by_cases h0 : x.kind = y.kind
  rotate_left
  · simp [h0]
  by_cases h1 : x.cl = y.cl
  rotate_left
  · simp [h0, h1]
  by_cases h2 : x.ep = y.ep
  rotate_left
  · simp [h0, h1, h2]
  by_cases h3 : x.n = y.n
  rotate_left
  · simp [h0, h1, h2, h3]
  by_cases h4 : x.lsn = y.lsn
  rotate_left
  · simp [h0, h1, h2, h3, h4]
  by_cases h5 : x.prev = y.prev
  rotate_left
  · simp [h0, h1, h2, h3, h4, h5]
  by_cases h6 : x.page = y.page
  rotate_left
  · simp [h0, h1, h2, h3, h4, h5, h6]
  by_cases h7 : x.slot = y.slot
  rotate_left
  · simp [h0, h1, h2, h3, h4, h5, h6, h7]
  by_cases h8 : x.wu = y.wu
  rotate_left
  · simp [h0, h1, h2, h3, h4, h5, h6, h7, h8]
  by_cases h9 : x.wd.toList = y.wd.toList
  rotate_left
  · simp [h0, h1, h2, h3, h4, h5, h6, h7, h8, h9]
  by_cases h10 : x.iu = y.iu
  rotate_left
  · simp [h0, h1, h2, h3, h4, h5, h6, h7, h8, h9, h10]
  by_cases h11 : x.id.toList = y.id.toList
  rotate_left
  · simp [h0, h1, h2, h3, h4, h5, h6, h7, h8, h9, h10, h11]
  by_cases h12 : x.next = y.next
  rotate_left
  · simp [h0, h1, h2, h3, h4, h5, h6, h7, h8, h9, h10, h11, h12]
  simp [h0, h1, h2, h3, h4, h5, h6, h7, h8, h9, h10, h11, h12]
theorem run_ne_ent (x y : Ent) (w : World) : (binOp .neq 31 (.agg #[.int .i64 x.kind, .int .i64 x.cl, .int .i64 x.ep, .int .i64 x.n, .int .i64 x.lsn, .int .i64 x.prev, .int .i64 x.page, .int .i64 x.slot, .bool x.wu, .string x.wd, .bool x.iu, .string x.id, .int .i64 x.next]) (.agg #[.int .i64 y.kind, .int .i64 y.cl, .int .i64 y.ep, .int .i64 y.n, .int .i64 y.lsn, .int .i64 y.prev, .int .i64 y.page, .int .i64 y.slot, .bool y.wu, .string y.wd, .bool y.iu, .string y.id, .int .i64 y.next])).run Try.prog w = .ok (.bool (!sameE x y)) w := by
  have h := run_eq_ent x y w
  simp only [binOp] at h ⊢
  simp only [Sem.run_bind] at h ⊢
  generalize (Op.equal 31 (.agg #[.int .i64 x.kind, .int .i64 x.cl, .int .i64 x.ep, .int .i64 x.n, .int .i64 x.lsn, .int .i64 x.prev, .int .i64 x.page, .int .i64 x.slot, .bool x.wu, .string x.wd, .bool x.iu, .string x.id, .int .i64 x.next]) (.agg #[.int .i64 y.kind, .int .i64 y.cl, .int .i64 y.ep, .int .i64 y.n, .int .i64 y.lsn, .int .i64 y.prev, .int .i64 y.page, .int .i64 y.slot, .bool y.wu, .string y.wd, .bool y.iu, .string y.id, .int .i64 y.next])).run Try.prog w = r at h ⊢
  cases r with
  | ok b w1 => simp at h ⊢; obtain ⟨rfl, rfl⟩ := h; exact ⟨rfl, rfl⟩
  | halt x w1 => simp at h
theorem run_guard_ent (op : BinOp) (A B : Operand) (xs ys : Array Value) (w : World) : (eqGuard op 31 A B (.agg xs) (.agg ys)).run Try.prog w = .ok () w := run_eqGuard_agg w op 31 A B xs ys (by kernel_rfl)

/-- an entry that names no place -/
def bare (x : Ent) : Ent := ⟨x.kind, x.cl, x.ep, x.n, x.lsn, x.prev, 0, 0, false, ⟨#[]⟩, false, ⟨#[]⟩, 0⟩
theorem bare_is (x : Ent) : sameE x (bare x) = bareB x := by
  cases h : bareB x with
  | true =>
    obtain ⟨b1, b2, b3, b4, b5, b6, b7⟩ := of_decide_eq_true h
    rw [sameE_iff]
    obtain ⟨kind, cl, ep, n, lsn, prev, page, slot, wu, wd, iu, id, next⟩ := x
    simp only at b1 b2 b3 b4 b5 b6 b7
    subst b1 b2 b3 b5 b7
    unfold bare
    rw [show wd = ⟨#[]⟩ from size_zero b4, show id = ⟨#[]⟩ from size_zero b6]
  | false =>
    apply sameE_not
    intro e
    apply of_decide_eq_false h
    have e6 := congrArg Ent.page e
    have e7 := congrArg Ent.slot e
    have e8 := congrArg Ent.wu e
    have e9 := congrArg Ent.wd e
    have e10 := congrArg Ent.iu e
    have e11 := congrArg Ent.id e
    have e12 := congrArg Ent.next e
    simp only [bare] at e6 e7 e8 e9 e10 e11 e12
    exact ⟨e6, e7, e8, by rw [e9]; rfl, e10, by rw [e11]; rfl, e12⟩
theorem prev_eq (x : Ent) : decide (0 ≤ x.prev ∧ x.prev < x.lsn) = withinB x.prev 0 (x.lsn - 1) := by
  unfold withinB; rw [decide_eq_decide]; omega

theorem not_eq_of {a b : Int} (h : ¬ a = b) : (a == b) = false := by simpa using h

set_option maxRecDepth 100000 in
set_option maxHeartbeats 2000000 in
theorem good_any (x : Ent) (w : World) (hx : Small x) :
    Calls Try.prog 18 #[.agg #[.int .i64 x.kind, .int .i64 x.cl, .int .i64 x.ep, .int .i64 x.n, .int .i64 x.lsn, .int .i64 x.prev, .int .i64 x.page, .int .i64 x.slot, .bool x.wu, .string x.wd, .bool x.iu, .string x.id, .int .i64 x.next]] w fun e w' => e = .returned (.bool (goodB x)) ∧ Below w.heap.size w w' := by
  have hb := below_box w (.cells #[.int .i64 x.kind, .int .i64 x.cl, .int .i64 x.ep, .int .i64 x.n, .int .i64 x.lsn, .int .i64 x.prev, .int .i64 x.page, .int .i64 x.slot, .bool x.wu, .string x.wd, .bool x.iu, .string x.id, .int .i64 x.next] 31)
  have hg := alloc_lt w (.cells #[.int .i64 x.kind, .int .i64 x.cl, .int .i64 x.ep, .int .i64 x.n, .int .i64 x.lsn, .int .i64 x.prev, .int .i64 x.page, .int .i64 x.slot, .bool x.wu, .string x.wd, .bool x.iu, .string x.id, .int .i64 x.next] 31)
  have hB := Blk.new w 31 #[.int .i64 x.kind, .int .i64 x.cl, .int .i64 x.ep, .int .i64 x.n, .int .i64 x.lsn, .int .i64 x.prev, .int .i64 x.page, .int .i64 x.slot, .bool x.wu, .string x.wd, .bool x.iu, .string x.id, .int .i64 x.next]
  have HS := Lib.hid hx
  clear hx
  go_enter Try.func18, Try.ntmps18
  go_wp2_with fail
  generalize hGen : w.alloc (.cells #[.int .i64 x.kind, .int .i64 x.cl, .int .i64 x.ep, .int .i64 x.n, .int .i64 x.lsn, .int .i64 x.prev, .int .i64 x.page, .int .i64 x.slot, .bool x.wu, .string x.wd, .bool x.iu, .string x.id, .int .i64 x.next] 31) = W at hb hg hB ⊢
  clear hGen
  obtain ⟨c0, c1, c2, c3, c4, c5, c6, c7, c8, c9, c10, c11, c12⟩ := ent_cells hB
  go_wp2_with fail
  refine (known_any x.cl x.ep x.n _).mono ?_
  rintro e w1 ⟨rfl, b1⟩
  have hB1 := hB.below b1 hg
  have hb1 := below_next hb b1
  obtain ⟨d0, d1, d2, d3, d4, d5, d6, d7, d8, d9, d10, d11, d12⟩ := ent_cells hB1
  clear c0 c1 c2 c3 c4 c5 c6 c7 c8 c9 c10 c11 c12 hB hb
  cases h1 : knownB x.cl x.ep x.n with
  | false =>
    have H := Lib.hid (show goodB x = false by unfold goodB headB; rw [h1]; rfl)
    clear h1
    go_wp2
    go_ret
    exact ⟨ret_bool' H.out.symm, hb1⟩
  | true =>
    have H1 := Lib.hid h1
    clear h1
    go_wp2_with fail
    refine (within_any x.lsn 1 1099511627776 _).mono ?_
    rintro e w2 ⟨rfl, rfl⟩
    cases h2 : withinB x.lsn 1 1099511627776 with
    | false =>
      have H := Lib.hid (show goodB x = false by unfold goodB headB; rw [H1.out, h2]; rfl)
      clear h2
      go_wp2
      go_ret
      exact ⟨ret_bool' H.out.symm, hb1⟩
    | true =>
      have H2 := Lib.hid h2
      obtain ⟨l1, l2⟩ := of_decide_eq_true h2
      clear h2
      go_wp2_with fail
      refine (within_any x.prev 0 (x.lsn - 1) _).mono ?_
      rintro e w2 ⟨rfl, rfl⟩
      cases h3 : withinB x.prev 0 (x.lsn - 1) with
      | false =>
        have H := Lib.hid (show goodB x = false by unfold goodB headB; rw [H1.out, H2.out, prev_eq, h3]; rfl)
        clear h3
        go_wp2
        go_ret
        exact ⟨ret_bool' H.out.symm, hb1⟩
      | true =>
        have H3 := Lib.hid (show headB x = true by unfold headB; rw [H1.out, H2.out, prev_eq, h3]; rfl)
        clear h3
        by_cases k1 : x.kind = 1
        · have t1 : (x.kind == 1) = true := by simpa using k1
          have HK := Lib.hid (show goodB x = (decide (x.next = 0) && chB x) by unfold goodB; rw [H3.out, if_pos k1]; rfl)
          clear k1
          by_cases n0 : x.next = 0
          · have t2 : (x.next == 0) = true := by simpa using n0
            have H := Lib.hid (show goodB x = chB x by rw [HK.out, decide_eq_true n0]; rfl)
            clear n0
            go_wp2_with fail
            refine (changes_any x _ HS.out).mono ?_
            rintro e w3 ⟨rfl, b3⟩
            go_wp2
            go_ret
            exact ⟨ret_bool' H.out.symm, below_next hb1 b3⟩
          · have t2 := not_eq_of n0
            have H := Lib.hid (show goodB x = false by rw [HK.out, decide_eq_false n0]; rfl)
            clear n0
            go_wp2
            go_ret
            exact ⟨ret_bool' H.out.symm, hb1⟩
        · have t1 := not_eq_of k1
          by_cases k2 : x.kind = 2
          · have t3 : (x.kind == 2) = true := by simpa using k2
            have HK := Lib.hid (show goodB x = (withinB x.next 0 x.prev && chB x) by unfold goodB; rw [H3.out, if_neg k1, if_pos k2]; rfl)
            clear k1 k2
            go_wp2_with fail
            refine (within_any x.next 0 x.prev _).mono ?_
            rintro e w2 ⟨rfl, rfl⟩
            cases h4 : withinB x.next 0 x.prev with
            | false =>
              have H := Lib.hid (show goodB x = false by rw [HK.out, h4]; rfl)
              clear h4
              go_wp2
              go_ret
              exact ⟨ret_bool' H.out.symm, hb1⟩
            | true =>
              have H := Lib.hid (show goodB x = chB x by rw [HK.out, h4]; rfl)
              clear h4
              go_wp2_with fail
              refine (changes_any x _ HS.out).mono ?_
              rintro e w3 ⟨rfl, b3⟩
              go_wp2
              go_ret
              exact ⟨ret_bool' H.out.symm, below_next hb1 b3⟩
          · have t3 := not_eq_of k2
            by_cases k3 : x.kind = 3 ∨ x.kind = 4
            · have H := Lib.hid (show goodB x = sameE x (bare x) by unfold goodB; rw [H3.out, if_neg k1, if_neg k2, if_pos k3, bare_is]; rfl)
              have hq : ∀ w, (binOp .eql 31 (.agg #[.int .i64 x.kind, .int .i64 x.cl, .int .i64 x.ep, .int .i64 x.n, .int .i64 x.lsn, .int .i64 x.prev, .int .i64 x.page, .int .i64 x.slot, .bool x.wu, .string x.wd, .bool x.iu, .string x.id, .int .i64 x.next]) (.agg #[.int .i64 x.kind, .int .i64 x.cl, .int .i64 x.ep, .int .i64 x.n, .int .i64 x.lsn, .int .i64 x.prev, .int .i64 0, .int .i64 0, .bool false, .string ⟨#[]⟩, .bool false, .string ⟨#[]⟩, .int .i64 0])).run Try.prog w = .ok (.bool (sameE x (bare x))) w := fun w => run_eq_ent x (bare x) w
              have hgd := fun (A B : Operand) xs ys w => run_guard_ent .eql A B xs ys w
              rcases k3 with k3 | k3
              · have t4 : (x.kind == 3) = true := by simpa using k3
                clear k1 k2 k3
                go_wp2
                go_ret
                exact ⟨ret_bool' H.out.symm, hb1⟩
              · have t4 : (x.kind == 3) = false := by rw [k3]; rfl
                have t5 : (x.kind == 4) = true := by simpa using k3
                clear k1 k2 k3
                go_wp2
                go_ret
                exact ⟨ret_bool' H.out.symm, hb1⟩
            · have t4 : (x.kind == 3) = false := not_eq_of fun h => k3 (.inl h)
              have t5 : (x.kind == 4) = false := not_eq_of fun h => k3 (.inr h)
              have H := Lib.hid (show goodB x = false by unfold goodB; rw [H3.out, if_neg k1, if_neg k2, if_neg k3]; rfl)
              clear k1 k2 k3
              go_wp2
              go_ret
              exact ⟨ret_bool' H.out.symm, hb1⟩
end Go.Proofs.Ytcpkngkeechjeaa.Ent
