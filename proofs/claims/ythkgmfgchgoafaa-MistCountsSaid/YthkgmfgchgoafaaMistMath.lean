/- The document's net, as plain data. -/
import Derived.Test.YthkgmfgchgoafaaCordGrams
namespace Go.Proofs.Ythkgmfgchgoafaa.Mist
set_option maxRecDepth 100000
open Go.Proofs.Ythkgmfgchgoafaa.CordG
/-- on a way -/
def onW (c : Int) (u : Bool) (g : Gr) : Bool := (g.cl == c) && (g.up == u)
def onX (c : Int) (u : Bool) (x : Gr × Nat) : Bool := onW c u x.1
/-- a way's datagrams, each with its place -/
def wayL (L : List Gr) (c : Int) (u : Bool) : List (Gr × Nat) := L.zipIdx.filter (onX c u)
def countL (L : List Gr) (c : Int) (u : Bool) : Nat := (L.filter (onW c u)).length
theorem map_way (L : List Gr) (c : Int) (u : Bool) : (wayL L c u).map (·.1) = L.filter (onW c u) := by
  unfold wayL
  have h := List.filter_map (f := fun x : Gr × Nat => x.1) (p := onW c u) (l := L.zipIdx)
  have e : L.zipIdx.map (fun x : Gr × Nat => x.1) = L := List.zipIdx_map_fst 0 L
  rw [e] at h
  rw [h]
  rfl
theorem way_len (L : List Gr) (c : Int) (u : Bool) : (wayL L c u).length = countL L c u := by
  rw [← List.length_map (f := fun x : Gr × Nat => x.1), map_way]; rfl
theorem count_le (L : List Gr) (c : Int) (u : Bool) : countL L c u ≤ L.length := List.length_filter_le _ _
theorem way_get {L : List Gr} {c : Int} {u : Bool} {k : Nat} {x : Gr × Nat} (h : (wayL L c u)[k]? = some x) : L[x.2]? = some x.1 ∧ onW c u x.1 = true := by
  have hm : x ∈ wayL L c u := List.mem_of_getElem? h
  obtain ⟨h1, h2⟩ := List.mem_filter.1 hm
  refine ⟨?_, h2⟩
  obtain ⟨g, i⟩ := x
  have := List.mem_zipIdx_iff_getElem?.1 h1
  simpa using this
/-- where the datagram at stands -/
def findN (L : List Gr) (c : Int) (u : Bool) (at_ : Int) : Option (Gr × Nat) := if at_ < 0 then none else (wayL L c u)[at_.toNat]?
def findI (L : List Gr) (c : Int) (u : Bool) (at_ : Int) : Int := match findN L c u at_ with | some x => (x.2 : Int) | none => -1
theorem findN_get {L : List Gr} {c : Int} {u : Bool} {at_ : Int} {x : Gr × Nat} (h : findN L c u at_ = some x) : L[x.2]? = some x.1 ∧ onW c u x.1 = true := by
  unfold findN at h
  split at h
  · cases h
  · exact way_get h
theorem findN_none {L : List Gr} {c : Int} {u : Bool} {at_ : Int} : findN L c u at_ = none ↔ at_ < 0 ∨ (countL L c u : Int) ≤ at_ := by
  unfold findN
  split
  · simp; omega
  · rw [List.getElem?_eq_none_iff, way_len]; omega
/-- a datagram's cells -/
def gv (x : Gr) : Array Value := #[.int .i64 x.cl, .bool x.up, .int .i64 x.ep, .int .i64 x.sq, .int .i64 x.ak, .string x.bd]
def gramsV (l : List Gr) : List Value := l.flatMap fun g => (gv g).toList
theorem grams_len : ∀ l : List Gr, (gramsV l).length = l.length * 6
  | [] => rfl
  | g :: r => by
    have := grams_len r
    unfold gramsV at this ⊢
    rw [List.flatMap_cons, List.length_append, this, List.length_cons]; simp [gv]; omega
theorem grams_app (a b : List Gr) : gramsV (a ++ b) = gramsV a ++ gramsV b := by simp [gramsV]
theorem grams_one (g : Gr) : gramsV [g] = (gv g).toList := by simp [gramsV]
theorem grams_at : ∀ (l : List Gr) (i : Nat) (g : Gr), l[i]? = some g → ∀ j, j < 6 → (gramsV l)[i * 6 + j]? = (gv g).toList[j]?
  | [], i, g, h, j, hj => by simp at h
  | y :: r, 0, g, h, j, hj => by
    obtain rfl : y = g := by simpa using h
    unfold gramsV
    rw [List.flatMap_cons, List.getElem?_append_left (by simp [gv]; omega)]; congr 1; omega
  | y :: r, i + 1, g, h, j, hj => by
    have := grams_at r i g (by simpa using h) j hj
    unfold gramsV at this ⊢
    rw [List.flatMap_cons, List.getElem?_append_right (by simp [gv]; omega), ← this]
    congr 1; simp [gv]; omega
theorem grams_cell (l : List Gr) : ∀ v ∈ gramsV l, v.oneCell' = true := by
  intro v hv
  obtain ⟨x, _, hx⟩ := List.mem_flatMap.1 hv
  simp [gv] at hx
  rcases hx with rfl | rfl | rfl | rfl | rfl | rfl <;> rfl
theorem grams_take (L : List Gr) (i : Nat) : (gramsV L).take (i * 6) = gramsV (L.take i) := by
  by_cases hi : i ≤ L.length
  · have h := grams_app (L.take i) (L.drop i)
    rw [List.take_append_drop] at h
    have hl : (gramsV (L.take i)).length = i * 6 := by rw [grams_len, List.length_take]; omega
    rw [h, List.take_append_of_le_length (by omega), List.take_of_length_le (by omega)]
  · rw [List.take_of_length_le (by rw [grams_len]; omega), List.take_of_length_le (by omega)]
theorem grams_drop (L : List Gr) (i : Nat) : (gramsV L).drop (i * 6) = gramsV (L.drop i) := by
  by_cases hi : i ≤ L.length
  · have h := grams_app (L.take i) (L.drop i)
    rw [List.take_append_drop] at h
    have hl : (gramsV (L.take i)).length = i * 6 := by rw [grams_len, List.length_take]; omega
    rw [h, ← hl, List.drop_left]
  · rw [List.drop_of_length_le (by rw [grams_len]; omega), List.drop_of_length_le (by omega)]; rfl
theorem info_gram : (Try.prog.info? 29).map (fun i => (i.zero, i.size, i.bytes)) = some (some (.agg #[.int .i64 0, .bool false, .int .i64 0, .int .i64 0, .int .i64 0, .string .empty]), 6, 56) := by kernel_rfl
end Go.Proofs.Ythkgmfgchgoafaa.Mist
