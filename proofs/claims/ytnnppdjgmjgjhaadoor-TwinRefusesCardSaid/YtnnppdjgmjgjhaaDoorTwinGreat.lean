/- The walk of the statements' great; pages that came in. -/
import Derived.Test.YtnnppdjgmjgjhaaDoorTwinBook
namespace Go.Proofs.YtnnppdjgmjgjhaaDoor.Twin
set_option maxRecDepth 100000
open Go.RowKit Go.Sort Go.Joins Go.ChangeShapes Go.WideShapes Go.Deep
open Go.Proofs.YtnnppdjgmjgjhaaDoor.Mem
open Go.Proofs.YtnnppdjgmjgjhaaDoor.Plate

/-- a row of pages that came in -/
def LeavesI (w : World) (a : Option Addr) (n : Nat) (ls : List Lf) : Prop :=
  ls.length = n ∧ (∀ x ∈ ls, -9223372036854775808 ≤ x.n ∧ x.n ≤ 9223372036854775807) ∧ (0 < n → ∃ b off, a = some ⟨b, off, none⟩ ∧ b < w.heap.size ∧ ∀ i, i < n → ∃ a' n' c', w.cell? ⟨b, off + i * 3, none⟩ = some (.int .i64 (ls.getD i lf0).n) ∧ w.cell? ⟨b, off + i * 3 + 1, none⟩ = some (.int .i64 (ls.getD i lf0).l) ∧
    w.cell? ⟨b, off + i * 3 + 2, none⟩ = some (.slice a' n' c') ∧ Slab.Slots w a' n' (ls.getD i lf0).z ∧ n' ≤ maxLen)
section
variable {w w' : World} {a : Option Addr} {n : Nat} {ls : List Lf}
theorem LeavesI.below (h : LeavesI w a n ls) (hb : Below w.heap.size w w') : LeavesI w' a n ls := by
  obtain ⟨h1, h2, h3⟩ := h
  refine ⟨h1, h2, fun hn => ?_⟩
  obtain ⟨b, off, ha, hlt, hc⟩ := h3 hn
  refine ⟨b, off, ha, Nat.lt_of_lt_of_le hlt hb.size, fun i hi => ?_⟩
  obtain ⟨a', n', c', c1, c2, c3, hs, hm⟩ := hc i hi
  exact ⟨a', n', c', (hb.cell (p := ⟨b, off + i * 3, none⟩) hlt).trans c1, (hb.cell (p := ⟨b, off + i * 3 + 1, none⟩) hlt).trans c2, (hb.cell (p := ⟨b, off + i * 3 + 2, none⟩) hlt).trans c3, hs.below hb, hm⟩
theorem LeavesI.at_ (h : LeavesI w a n ls) {i : Nat} (hi : i < n) : ∃ b off a' n' c' x, a = some ⟨b, off, none⟩ ∧ b < w.heap.size ∧ ls[i]? = some x ∧ w.cell? ⟨b, off + i * 3, none⟩ = some (.int .i64 x.n) ∧ w.cell? ⟨b, off + i * 3 + 1, none⟩ = some (.int .i64 x.l) ∧
    w.cell? ⟨b, off + i * 3 + 2, none⟩ = some (.slice a' n' c') ∧ Slab.Slots w a' n' x.z ∧ n' ≤ maxLen := by
  obtain ⟨h1, h2, h3⟩ := h
  obtain ⟨b, off, ha, hlt, hc⟩ := h3 (by omega)
  obtain ⟨a', n', c', c1, c2, c3, hs, hm⟩ := hc i hi
  have hl : i < ls.length := by omega
  have e : ls.getD i lf0 = ls[i] := by simp [List.getD, hl]
  rw [e] at c1 c2 hs
  exact ⟨b, off, a', n', c', _, ha, hlt, List.getElem?_eq_getElem hl, c1, c2, c3, hs, hm⟩
theorem LeavesI.leaves (h : LeavesI w a n ls) {M : Nat → Prop} (hM : ∀ k, k < w.heap.size → M k) (hs : ∀ x ∈ ls, x.z.length ≤ 50) : Leaves M w a n ls := by
  obtain ⟨h1, h2, h3⟩ := h
  refine ⟨h1, h2, fun hn => ?_⟩
  obtain ⟨b, off, ha, hlt, hc⟩ := h3 hn
  refine ⟨b, off, ha, hM b hlt, hlt, fun i hi => ?_⟩
  obtain ⟨a', n', c', c1, c2, c3, hsl, -⟩ := hc i hi
  have hl : i < ls.length := by omega
  have e : ls.getD i lf0 = ls[i] := by simp [List.getD, hl]
  have hz := hs ls[i] (List.getElem_mem hl)
  rw [e] at hsl c1 c2
  have hsm : SlotsM M w a' n' ls[i].z := ⟨hsl, by have := hsl.len; omega, fun b off e' he h0 => by
    obtain ⟨b', off', e'', hlt', -⟩ := hsl.2.2 h0
    rw [he] at e''
    cases e''
    exact hM b hlt'⟩
  exact ⟨a', n', c', by rw [e]; exact c1, by rw [e]; exact c2, c3, by rw [e]; exact hsm⟩
end
/-- the calls that great looks at: where their lists lie -/
structure AL where
  a : Option Addr
  n : Nat
  c : Nat
  ls : List Lf
def SmallL (x : AL) : Prop := x.n ≤ 20 ∧ ∀ y ∈ x.ls, y.z.length ≤ 50
def GreatRes (n : Nat) (L : Nat → AL) (w : World) (e : Ending) (w' : World) : Prop := ∃ b : Bool, e = .returned (.bool b) ∧ w = w' ∧ (b = false → ∀ i, i < n → SmallL (L i))
theorem take_ok {l : List Lf} {k : Nat} {x : Lf} (h : l[k]? = some x) (h0 : ∀ y ∈ l.take k, y.z.length ≤ 50) (hx : x.z.length ≤ 50) : ∀ y ∈ l.take (k + 1), y.z.length ≤ 50 := by
  obtain ⟨hl, rfl⟩ := List.getElem?_eq_some_iff.1 h
  rw [List.take_succ_eq_append_getElem hl]
  intro y hy
  rcases List.mem_append.1 hy with h1 | h1
  · exact h0 y h1
  · simp at h1; subst h1; exact hx
set_option maxHeartbeats 4000000 in
theorem great_any (g n c : Nat) (L : Nat → AL) (w : World) (hn : n ≤ 2) (h : ∀ i, i < n → w.cell? ⟨g, i * 5 + 3, none⟩ = some (.slice (L i).a (L i).n (L i).c) ∧ w.cell? ⟨g, i * 5 + 4, none⟩ = some (.slice none 0 0) ∧ LeavesI w (L i).a (L i).n (L i).ls ∧ (L i).n ≤ maxLen) :
    Calls Tryd.prog 15 #[.slice (some ⟨g, 0, none⟩) n c] w (GreatRes n L w) := by
  have H := Lib.hid h
  clear h
  go_enter Tryd.func15, Tryd.ntmps15
  go_wp2_with fail
  go_loopw [3] (fun iv wr => ∃ i : Nat, i ≤ n ∧ iv = .int .i64 (i : Int) ∧ Hid (∀ j, j < i → SmallL (L j)) ∧ wr = w) (fun iv _ => n - (intOf iv).toNat)
  case atStart => exact ⟨0, Nat.zero_le _, rfl, Lib.hid (fun j hj => absurd hj (Nat.not_lt_zero _)), rfl⟩
  case round =>
    obtain ⟨i, hi, rfl, HD, rfl⟩ := hrel
    by_cases hlt : i < n
    · obtain ⟨c3, c4, hL, hLn⟩ := H.out i hlt
      have HLI := Lib.hid hL
      have HSM : Hid (SmallL (L i) → ∀ j, j < i + 1 → SmallL (L j)) := Lib.hid fun h j hj => by
        by_cases e : j = i
        · subst e; exact h
        · exact HD.out j (by omega)
      have HS2 : Hid (∀ (_ : (L i).n ≤ 20) (_ : ∀ y ∈ (L i).ls, y.z.length ≤ 50), SmallL (L i)) := Lib.hid fun h1 h2 => ⟨h1, h2⟩
      have HLN := Lib.hid hL.1
      obtain ⟨la, hla⟩ : ∃ la, la = (L i).a := ⟨_, rfl⟩
      obtain ⟨ln, hln⟩ : ∃ ln, ln = (L i).n := ⟨_, rfl⟩
      obtain ⟨lc, hlc⟩ : ∃ lc, lc = (L i).c := ⟨_, rfl⟩
      obtain ⟨ls, hls⟩ : ∃ ls, ls = (L i).ls := ⟨_, rfl⟩
      rw [← hla, ← hln, ← hlc] at c3
      rw [← hla, ← hln, ← hls] at HLI
      rw [← hln, ← hls] at HS2 HLN
      rw [← hln] at hLn
      unfold maxLen at hLn
      clear hL hla hln hlc hls
      by_cases h20 : 20 < ln
      · go_wp2
        go_ret
        exact ⟨_, rfl, rfl, fun h => by cases h⟩
      · go_wp2_with fail
        go_loopw [4] (fun kv wr2 => ∃ k : Nat, k ≤ ln ∧ kv = .int .i64 (k : Int) ∧ Hid (∀ y ∈ ls.take k, y.z.length ≤ 50) ∧ wr2 = wr) (fun kv _ => ln - (intOf kv).toNat)
        case atStart => exact ⟨0, Nat.zero_le _, rfl, Lib.hid (fun y hy => by simp at hy), rfl⟩
        case round =>
          obtain ⟨k, hk, rfl, HK, rfl⟩ := hrel
          by_cases hkl : k < ln
          · obtain ⟨lb, lo, a', n', c', x, rfl, hlb, hg, d1, d2, d3, hS, hm⟩ := HLI.out.at_ hkl
            have HG := Lib.hid hg
            have HSS := Lib.hid hS
            unfold maxLen at hm
            clear hg hS
            by_cases h50 : 50 < n'
            · go_wp2
              go_ret
              exact ⟨_, rfl, rfl, fun h => by cases h⟩
            · have HKN := Lib.hid (take_ok HG.out HK.out (by have := HSS.out.len; omega))
              go_wp2_with fail
              go_loopw [5] (fun jv wr3 => ∃ j : Nat, j ≤ n' ∧ jv = .int .i64 (j : Int) ∧ wr3 = wr) (fun jv _ => n' - (intOf jv).toNat)
              case atStart => exact ⟨0, Nat.zero_le _, rfl, rfl⟩
              case round =>
                obtain ⟨j, hj, rfl, rfl⟩ := hrel
                by_cases hjl : j < n'
                · obtain ⟨sb, so, u, d, rfl, hsb, hgs, e1, e2, hd⟩ := HSS.out.at_ hjl
                  clear hgs
                  by_cases hbig : 1000 < d.size
                  · go_wp2
                    go_ret
                    exact ⟨_, rfl, rfl, fun h => by cases h⟩
                  · go_wp2
                    go_roundw
                    case rel => exact ⟨j + 1, by omega, by go_num, trivial⟩
                    case measure => simp [intOf]; omega
                · go_wp2
                  go_roundw
                  case rel => exact ⟨k + 1, by omega, by go_num, HKN, trivial⟩
                  case measure => simp [intOf]; omega
          · obtain rfl : k = ln := by omega
            have hall := HK.out
            rw [← HLN.out, List.take_length] at hall
            have HNX := Lib.hid (HSM.out (HS2.out (by omega) hall))
            clear hall
            go_wp2
            go_roundw
            case rel => exact ⟨i + 1, by omega, by go_num, HNX, trivial⟩
            case measure => simp [intOf]; omega
    · obtain rfl : i = n := by omega
      go_wp2
      go_ret
      exact ⟨_, rfl, rfl, fun _ => HD.out⟩
end Go.Proofs.YtnnppdjgmjgjhaaDoor.Twin
