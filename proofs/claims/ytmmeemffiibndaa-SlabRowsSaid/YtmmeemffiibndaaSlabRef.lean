/- The walks of great, of the document's own size and Good, and of both Sizes. -/
import Derived.Test.YtmmeemffiibndaaSlabGood
namespace Go.Proofs.Ytmmeemffiibndaa.Slab
open Go.RowKit Go.Sort

def bigB (x : Slot) : Bool := decide (4096 < x.d.size)
def greatB (l : List Slot) : Bool := decide (100 < l.length) || l.any bigB
theorem any_mem_hit {p : Slot → Bool} {l : List Slot} {k : Nat} {x : Slot} (h : l[k]? = some x) (hp : p x = true) : l.any p = true := by
  obtain ⟨hl, rfl⟩ := List.getElem?_eq_some_iff.1 h
  exact List.any_eq_true.2 ⟨_, List.getElem_mem hl, hp⟩
set_option maxRecDepth 100000 in
set_option maxHeartbeats 1000000 in
theorem great_any (lsn : Int) (a : Option Addr) (n c : Nat) (zs : List Slot) (w : World) (h : Slots w a n zs) :
    Calls Try.prog 12 #[.agg #[.int .i64 lsn, .slice a n c]] w fun e w' => e = .returned (.bool (greatB zs)) ∧ Below w.heap.size w w' := by
  have hb0 : Below w.heap.size w (w.alloc (.cells #[.int .i64 lsn, .slice a n c] 24)) := (Below.refl _ _).alloc (Nat.le_refl _) _
  have HZ := Lib.hid h.len
  have HS := Lib.hid (h.below hb0)
  clear h
  by_cases h1 : 100 < n
  · go_enter Try.func12, Try.ntmps12
    go_wp2
    go_ret
    exact ⟨ret_bool' (by have := HZ.out; simp [greatB]; omega), hb0⟩
  · obtain ⟨c0, c1⟩ := page_cells w (.int .i64 lsn) (.slice a n c) 24
    go_enter Try.func12, Try.ntmps12
    go_wp2
    generalize hGen : w.alloc (.cells #[.int .i64 lsn, .slice a n c] 24) = W at c0 c1 hb0 HS ⊢
    clear hGen
    go_loop [3] (fun i => ∃ k : Nat, k ≤ n ∧ i = .int .i64 k ∧ Hid ((zs.take k).any bigB = false)) (fun i => n - (intOf i).toNat)
    case atStart => exact ⟨0, Nat.zero_le _, rfl, Lib.hid rfl⟩
    case round =>
      obtain ⟨k, hk, rfl, h0⟩ := hrel
      by_cases hlt : k < n
      · obtain ⟨b, off, u, d, rfl, hb1, hg, c2, c3, hd⟩ := HS.out.at_ hlt
        have HG := Lib.hid hg
        clear hg c2 hb1
        by_cases hbig : 4096 < d.size
        · go_wp2
          go_ret
          exact ⟨ret_bool' (by unfold greatB; rw [any_mem_hit HG.out (by simp [bigB, hbig])]; simp), hb0⟩
        · go_wp2
          go_round
          case rel => exact ⟨k + 1, by omega, by go_num, Lib.hid (by rw [any_take_next HG.out h0.out]; simp [bigB]; omega)⟩
          case measure => simp [intOf]; omega
      · obtain rfl : k = n := by omega
        go_wp2
        go_ret
        refine ⟨ret_bool' ?_, hb0⟩
        have := h0.out
        rw [take_all HZ.out] at this
        unfold greatB
        rw [this, HZ.out]
        simp; omega

/-- the document's own size: at most 33 slots, at most 1000 bytes of each -/
def rsz : List Slot → Nat
  | [] => 0
  | x :: r => 1 + min x.d.size 1000 + rsz r
theorem rsz_append (l m : List Slot) : rsz (l ++ m) = rsz l + rsz m := by
  induction l with
  | nil => simp [rsz]
  | cons x r ih => simp only [List.cons_append, rsz, ih]; omega
theorem rsz_next {l : List Slot} {k : Nat} {x : Slot} (h : l[k]? = some x) : rsz (l.take (k + 1)) = rsz (l.take k) + (1 + min x.d.size 1000) := by
  rw [take_next h, rsz_append]; simp [rsz]
theorem rsz_le (l : List Slot) : rsz l ≤ 1001 * l.length := by
  induction l with
  | nil => simp [rsz]
  | cons x r ih => simp only [rsz, List.length_cons]; omega
theorem rsz_eq {l : List Slot} (h : l.any wrongB = false) : rsz l = sz l := by
  induction l with
  | nil => rfl
  | cons x r ih =>
    simp only [List.any_cons, Bool.or_eq_false_iff] at h
    have h2 : x.d.size ≤ 200 := by have := h.1; simp [wrongB] at this; omega
    simp only [rsz, sz, ih h.2]; omega
set_option maxRecDepth 100000 in
set_option maxHeartbeats 1000000 in
theorem rsize_any (lsn : Int) (a : Option Addr) (n c : Nat) (zs : List Slot) (w : World) (h : Slots w a n zs) (hn : n ≤ 32) :
    Calls Try.prog 35 #[.agg #[.int .i64 lsn, .slice a n c]] w fun e w' => e = .returned (.int .i64 ((9 + rsz zs : Nat) : Int)) ∧ Below w.heap.size w w' := by
  have hb0 : Below w.heap.size w (w.alloc (.cells #[.int .i64 lsn, .slice a n c] 24)) := (Below.refl _ _).alloc (Nat.le_refl _) _
  have HZ := Lib.hid h.len
  have HS := Lib.hid (h.below hb0)
  clear h
  obtain ⟨c0, c1⟩ := page_cells w (.int .i64 lsn) (.slice a n c) 24
  go_enter Try.func35, Try.ntmps35
  go_wp2
  generalize hGen : w.alloc (.cells #[.int .i64 lsn, .slice a n c] 24) = W at c0 c1 hb0 HS ⊢
  clear hGen
  go_loop [3, 4] (fun t i => ∃ k : Nat, k ≤ n ∧ i = .int .i64 k ∧ t = .int .i64 ((9 + rsz (zs.take k) : Nat) : Int)) (fun _ i => n - (intOf i).toNat)
  case atStart => exact ⟨0, Nat.zero_le _, rfl, rfl⟩
  case round =>
    obtain ⟨k, hk, rfl, rfl⟩ := hrel
    by_cases hlt : k < n
    · obtain ⟨b, off, u, d, rfl, hb1, hg, c2, c3, hd⟩ := HS.out.at_ hlt
      have HN := Lib.hid (rsz_next hg)
      have hle := rsz_le (zs.take k)
      have hle2 : rsz (zs.take k) ≤ 40000 := by have := List.length_take_le k zs; omega
      clear hg c2 hb1 hle
      generalize hs : rsz (zs.take k) = s at hle2
      have HS2 := Lib.hid hs
      clear hs
      have hk33 : (k : Int) < 33 := by omega
      go_wp2
      all_goals
        go_round
        case rel => exact ⟨k + 1, by omega, by go_num, by rw [HN.out, HS2.out]; dsimp only; congr 1; omega⟩
        case measure => simp [intOf]; omega
    · obtain rfl : k = n := by omega
      go_wp2
      go_ret
      exact ⟨ret_int' (by rw [take_all HZ.out]), hb0⟩
end Go.Proofs.Ytmmeemffiibndaa.Slab
