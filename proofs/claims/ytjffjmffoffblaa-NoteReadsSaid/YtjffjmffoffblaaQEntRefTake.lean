/- The document's own take, and plain facts for its Decode. -/
import Derived.Test.YtjffjmffoffblaaQEntRefEnc
import Derived.Test.YtjffjmffoffblaaQEntDec
import Derived.Test.YtjffjmffoffblaaQSlabBookC
import Derived.StillTailTactics
import Derived.Deep.RegionHeld3
namespace Go.Proofs.Ytjffjmffoffblaa.Ent
set_option maxRecDepth 100000
open Go.RowKit Go.Sort
open Go.Proofs.Ytjffjmffoffblaa.Slab (Blk page_cells ret_bool' ret_int' own_below)
open Go.Proofs.Ytjffjmffoffblaa.Nib (below_next below_drew takeInt takeStr takeVal takeStrVal)

/-- what the document's take answers -/
def rtake (s : List UInt8) : Bool × List UInt8 × List UInt8 × Bool :=
  if (takeInt s).2.2 = false ∨ (takeInt s).1 = 0 then (false, [], (takeInt s).2.1, (takeInt s).2.2)
  else (true, (takeStr (takeInt s).2.1 200).1, (takeStr (takeInt s).2.1 200).2.1, (takeStr (takeInt s).2.1 200).2.2 && ((takeInt s).1 == 1))
theorem rtake_ok (s : List UInt8) : (rtake s).2.2.2 = (slotR s).2.2.2 ∧ ((slotR s).2.2.2 = true → rtake s = slotR s) := by
  unfold rtake
  cases hok : (takeInt s).2.2 with
  | false =>
    have h0 := Nib.takeInt_no hok
    rw [if_pos (.inl rfl), slotR_zero (by rw [h0]), hok]
    exact ⟨rfl, fun h => by cases h⟩
  | true =>
    by_cases c0 : (takeInt s).1 = 0
    · rw [if_pos (.inr c0), slotR_zero c0, hok]; exact ⟨rfl, fun _ => rfl⟩
    · rw [if_neg (by rintro (h | h); exact absurd h (by simp); exact c0 h)]
      by_cases c1 : (takeInt s).1 = 1
      · rw [slotR_one c1, hok, c1]
        simp
      · rw [slotR_else c0 c1, not_eq_of c1]
        simp
set_option maxRecDepth 100000 in
set_option maxHeartbeats 1000000 in
theorem rtake_any (s : ByteArray) (w : World) (hs : s.size ≤ 9223372036854775807) :
    Calls Try.prog 32 #[.string s] w fun e w' => e = .returned (.tuple #[.agg #[.bool (rtake s.data.toList).1, .string (arr (rtake s.data.toList).2.1)], .string (arr (rtake s.data.toList).2.2.1), .bool (rtake s.data.toList).2.2.2]) ∧ Below w.heap.size w w' := by
  have hT := fun w => Nib.refTakeInt s w hs
  rw [arr_take] at hT
  have hl : (arr (takeInt s.data.toList).2.1).size ≤ 9223372036854775807 := by
    have := Nib.takeInt_len s.data.toList
    rw [arr_size]
    have h2 : s.data.toList.length = s.size := by simp
    omega
  have hU := fun w => Nib.refTakeStr (arr (takeInt s.data.toList).2.1) 200 w hl
  rw [arr_takeStr] at hU
  simp only [arr_list] at hU
  have hb := below_box w (.cells #[.bool false, .string ⟨#[]⟩] 54)
  have hB := Blk.new w 54 #[.bool false, .string ⟨#[]⟩]
  have hR : rtake s.data.toList = if (takeInt s.data.toList).2.2 = false ∨ (takeInt s.data.toList).1 = 0 then (false, [], (takeInt s.data.toList).2.1, (takeInt s.data.toList).2.2)
    else (true, (takeStr (takeInt s.data.toList).2.1 200).1, (takeStr (takeInt s.data.toList).2.1 200).2.1, (takeStr (takeInt s.data.toList).2.1 200).2.2 && ((takeInt s.data.toList).1 == 1)) := rfl
  generalize rtake s.data.toList = RT at hR ⊢
  generalize (takeStr (takeInt s.data.toList).2.1 200).1 = D at hU hR
  generalize (takeStr (takeInt s.data.toList).2.1 200).2.2 = k2 at hU hR
  generalize (takeStr (takeInt s.data.toList).2.1 200).2.1 = R2 at hU hR
  generalize (takeInt s.data.toList).2.2 = k1 at hT hR
  generalize (takeInt s.data.toList).2.1 = R1 at hT hU hR
  generalize (takeInt s.data.toList).1 = n at hT hR
  have HT := Lib.hid hT
  have HU := Lib.hid hU
  clear hT hU hl
  have main : ∀ (u : Bool) (d r : ByteArray) (k : Bool), RT.1 = u → arr RT.2.1 = d → arr RT.2.2.1 = r → RT.2.2.2 = k →
      Calls Try.prog 32 #[.string s] w (fun e w' => e = .returned (.tuple #[.agg #[.bool u, .string d], .string r, .bool k]) ∧ Below w.heap.size w w') →
      Calls Try.prog 32 #[.string s] w (fun e w' => e = .returned (.tuple #[.agg #[.bool RT.1, .string (arr RT.2.1)], .string (arr RT.2.2.1), .bool RT.2.2.2]) ∧ Below w.heap.size w w') := by
    intro u d r k h1 h2 h3 h4 h
    rw [h1, h2, h3, h4]; exact h
  cases k1 with
  | false =>
    rw [if_pos (.inl rfl)] at hR
    refine main false ⟨#[]⟩ (arr R1) false (by rw [hR]) (by rw [hR]; rfl) (by rw [hR]) (by rw [hR]) ?_
    clear main hR
    go_enter Try.func32, Try.ntmps32
    go_upto_region 1 with (fail)
    generalize hGen : w.alloc (.cells #[.bool false, .string ⟨#[]⟩] 54) = W at hb hB ⊢
    clear hGen
    go_wp2_with fail
    refine (HT.out _).mono ?_
    rintro e w1 ⟨rfl, q, rfl⟩
    have d0 := Blk.cell hB 0
    have d1 := Blk.cell hB 1
    have g0 := Blk.frozen hB 0
    have g1 := Blk.frozen hB 1
    go_wp2
    refine bodyPost_ret (v := .tuple #[.agg #[.bool false, .string ⟨#[]⟩], .string (arr R1), .bool false]) (by simp [results, Try.results32, go_sem, d0, d1]) rfl ?_
    exact ⟨rfl, ((below_drew hb _).setCell (p := ⟨w.heap.size, 0, none⟩) (Nat.le_refl _) _).setCell (p := ⟨w.heap.size, 1, none⟩) (Nat.le_refl _) _⟩
  | true =>
    by_cases c0 : n = 0
    · rw [if_pos (.inr c0)] at hR
      refine main false ⟨#[]⟩ (arr R1) true (by rw [hR]) (by rw [hR]; rfl) (by rw [hR]) (by rw [hR]) ?_
      have t0 : (n == 0) = true := by simpa using c0
      clear main hR c0
      go_enter Try.func32, Try.ntmps32
      go_upto_region 1 with (fail)
      generalize hGen : w.alloc (.cells #[.bool false, .string ⟨#[]⟩] 54) = W at hb hB ⊢
      clear hGen
      go_wp2_with fail
      refine (HT.out _).mono ?_
      rintro e w1 ⟨rfl, q, rfl⟩
      have d0 := Blk.cell hB 0
      have d1 := Blk.cell hB 1
      have g0 := Blk.frozen hB 0
      have g1 := Blk.frozen hB 1
      go_wp2
      refine bodyPost_ret (v := .tuple #[.agg #[.bool false, .string ⟨#[]⟩], .string (arr R1), .bool true]) (by simp [results, Try.results32, go_sem, d0, d1]) rfl ?_
      exact ⟨rfl, ((below_drew hb _).setCell (p := ⟨w.heap.size, 0, none⟩) (Nat.le_refl _) _).setCell (p := ⟨w.heap.size, 1, none⟩) (Nat.le_refl _) _⟩
    · rw [if_neg (by rintro (h | h); exact absurd h (by simp); exact c0 h)] at hR
      refine main true (arr D) (arr R2) (k2 && (n == 1)) (by rw [hR]) (by rw [hR]) (by rw [hR]) (by rw [hR]) ?_
      have t0 := not_eq_of c0
      clear main hR c0
      cases k2 with
      | false =>
        go_enter Try.func32, Try.ntmps32
        go_upto_region 1 with (fail)
        generalize hGen : w.alloc (.cells #[.bool false, .string ⟨#[]⟩] 54) = W at hb hB ⊢
        clear hGen
        go_wp2_with fail
        refine (HT.out _).mono ?_
        rintro e w1 ⟨rfl, q, rfl⟩
        go_wp2_with fail
        refine (HU.out _).mono ?_
        rintro e w1 ⟨rfl, q2, rfl⟩
        have d0 := Blk.cell hB 0
        have d1 := Blk.cell hB 1
        have g0 := Blk.frozen hB 0
        have g1 := Blk.frozen hB 1
        go_wp2
        refine bodyPost_ret (v := .tuple #[.agg #[.bool true, .string (arr D)], .string (arr R2), .bool false]) (by simp [results, Try.results32, go_sem, d0, d1]) rfl ?_
        exact ⟨rfl, by first | exact ((below_drew hb _).setCell (p := ⟨w.heap.size, 0, none⟩) (Nat.le_refl _) _).setCell (p := ⟨w.heap.size, 1, none⟩) (Nat.le_refl _) _ | exact ((below_drew (below_drew hb _) _).setCell (p := ⟨w.heap.size, 0, none⟩) (Nat.le_refl _) _).setCell (p := ⟨w.heap.size, 1, none⟩) (Nat.le_refl _) _⟩
      | true =>
        go_enter Try.func32, Try.ntmps32
        go_upto_region 1 with (fail)
        generalize hGen : w.alloc (.cells #[.bool false, .string ⟨#[]⟩] 54) = W at hb hB ⊢
        clear hGen
        go_wp2_with fail
        refine (HT.out _).mono ?_
        rintro e w1 ⟨rfl, q, rfl⟩
        go_wp2_with fail
        refine (HU.out _).mono ?_
        rintro e w1 ⟨rfl, q2, rfl⟩
        have d0 := Blk.cell hB 0
        have d1 := Blk.cell hB 1
        have g0 := Blk.frozen hB 0
        have g1 := Blk.frozen hB 1
        go_wp2
        refine bodyPost_ret (v := .tuple #[.agg #[.bool true, .string (arr D)], .string (arr R2), .bool (n == 1)]) (by simp [results, Try.results32, go_sem, d0, d1]) rfl ?_
        exact ⟨by simp, by first | exact ((below_drew hb _).setCell (p := ⟨w.heap.size, 0, none⟩) (Nat.le_refl _) _).setCell (p := ⟨w.heap.size, 1, none⟩) (Nat.le_refl _) _ | exact ((below_drew (below_drew hb _) _).setCell (p := ⟨w.heap.size, 0, none⟩) (Nat.le_refl _) _).setCell (p := ⟨w.heap.size, 1, none⟩) (Nat.le_refl _) _⟩

def wantN (lg : Bool) (k : Nat) : Nat := if 1 ≤ k ∧ lg = true then 9 else 6
def valsV (k : Nat) (L : List UInt8) : List Value := (List.range k).map fun i => .int .i64 (valN i L)
theorem valsV_snoc (k : Nat) (L : List UInt8) : valsV k L ++ [.int .i64 (valN k L)] = valsV (k + 1) L := by unfold valsV; rw [List.range_succ]; simp
theorem valsV_get {m k : Nat} (h : k < m) (L : List UInt8) : (valsV m L)[k]? = some (.int .i64 (valN k L)) := by unfold valsV; simp [h]
def lenV : Value → Nat
  | .slice _ n _ => n
  | _ => 0
theorem wr_stop {L : List UInt8} {k : Nat} (hk : k < wantN (longB (valN 0 L)) k) (h : wrN (k + 1) L = true) : decB L = false := by
  have hw : readW L = true := by
    unfold readW
    unfold wantN at hk
    cases hl : longB (valN 0 L) with
    | true =>
      rw [hl] at hk
      have : wrN 9 L = true := wrN_mono L (by split at hk <;> omega) h
      rw [this]; rfl
    | false =>
      rw [hl] at hk
      have hk6 : k < 6 := by
        split at hk
        · rename_i h5; exact absurd h5.2 (by simp)
        · exact hk
      have : wrN 6 L = true := wrN_mono L hk6 h
      simpa using this
  unfold decB; rw [hw]; rfl
theorem rnum (k : Nat) (L : List UInt8) (w : World) (hl : L.length ≤ 9223372036854775807) :
    Calls Try.prog 30 #[.string (arr (restN k L))] w fun e w' => e = .returned (.tuple #[.int .i64 (valN k L), .string (arr (restN (k + 1) L)), .bool (takeInt (restN k L)).2.2]) ∧ ∃ q, w' = w.drewN q := by
  have := Nib.refTakeInt (arr (restN k L)) w (by have := restN_len k L; rw [arr_size]; omega)
  rw [arr_take, arr_list] at this
  exact this

theorem dec_none {L : List UInt8} (h : decB L = false) : decX L = noE ∧ decT L = [] ∧ decC L = 4 := by unfold decX decT decC; rw [h]; exact ⟨rfl, rfl, rfl⟩
theorem want_le (lg : Bool) (k : Nat) : wantN lg k ≤ 9 := by unfold wantN; split <;> omega
theorem want_next (lg : Bool) (k : Nat) : wantN lg (k + 1) = if lg then 9 else 6 := by unfold wantN; cases lg <;> simp
theorem held6 {w w' : World} {g : Nat} {L : List UInt8} (h : w.cell? ⟨g, 0, none⟩ = some (.int .i64 (valN 0 L)) ∧ w.cell? ⟨g, 1, none⟩ = some (.int .i64 (valN 1 L)) ∧ w.cell? ⟨g, 2, none⟩ = some (.int .i64 (valN 2 L)) ∧ w.cell? ⟨g, 3, none⟩ = some (.int .i64 (valN 3 L)) ∧ w.cell? ⟨g, 4, none⟩ = some (.int .i64 (valN 4 L)) ∧ w.cell? ⟨g, 5, none⟩ = some (.int .i64 (valN 5 L))) (hb : Below w.heap.size w w') : w'.cell? ⟨g, 0, none⟩ = some (.int .i64 (valN 0 L)) ∧ w'.cell? ⟨g, 1, none⟩ = some (.int .i64 (valN 1 L)) ∧ w'.cell? ⟨g, 2, none⟩ = some (.int .i64 (valN 2 L)) ∧ w'.cell? ⟨g, 3, none⟩ = some (.int .i64 (valN 3 L)) ∧ w'.cell? ⟨g, 4, none⟩ = some (.int .i64 (valN 4 L)) ∧ w'.cell? ⟨g, 5, none⟩ = some (.int .i64 (valN 5 L)) :=
  have hg := World.block_lt_of_cell? _ _ h.1
  ⟨(hb.cell (p := ⟨g, 0, none⟩) hg).trans h.1, (hb.cell (p := ⟨g, 1, none⟩) hg).trans h.2.1, (hb.cell (p := ⟨g, 2, none⟩) hg).trans h.2.2.1, (hb.cell (p := ⟨g, 3, none⟩) hg).trans h.2.2.2.1, (hb.cell (p := ⟨g, 4, none⟩) hg).trans h.2.2.2.2.1, (hb.cell (p := ⟨g, 5, none⟩) hg).trans h.2.2.2.2.2⟩
end Go.Proofs.Ytjffjmffoffblaa.Ent
