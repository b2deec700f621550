/- Rows of entries of a call's own. -/
import Derived.Test.YtcpkngkeechjeaaPastNames
namespace Go.Proofs.Ytcpkngkeechjeaa.Past
set_option maxRecDepth 100000
open Go.RowKit
open Go.Proofs.Ytcpkngkeechjeaa.Mem
open Go.Proofs.Ytcpkngkeechjeaa.Ent (Ent goodB Ents EntAt SmallE noE entA cellsE cellsE_snoc cellsE_length cellsE_get)
theorem infoE : (Try.prog.info? 31).map (fun i => (i.zero, i.size, i.bytes)) = some (some (.agg #[.int .i64 0, .int .i64 0, .int .i64 0, .int .i64 0, .int .i64 0, .int .i64 0, .int .i64 0, .int .i64 0, .bool false, .string ⟨#[]⟩, .bool false, .string ⟨#[]⟩, .int .i64 0]), 13, 120) := by kernel_rfl
theorem ents_own {w : World} {base : Nat} {t : TypeId} {v : Value} {z : List Ent} (h : w.ownsRow base t 13 v z.length (cellsE z)) (hs : ∀ x ∈ z, SmallE x) :
    ∃ a c, v = .slice a z.length c ∧ Ents w a z.length z ∧ ∀ g off e, a = some ⟨g, off, e⟩ → base ≤ g := by
  obtain ⟨hl, ⟨rfl, h0⟩ | ⟨g, cap, cur, rfl, hg, hb, hn, hc, hcs, ht⟩⟩ := h
  · have hz : z = [] := List.eq_nil_of_length_eq_zero h0
    subst hz
    exact ⟨none, 0, rfl, ⟨rfl, hs, fun h => absurd h (Nat.lt_irrefl 0)⟩, fun _ _ _ e => by cases e⟩
  · refine ⟨_, cap, rfl, ⟨rfl, hs, fun hp => ⟨g, 0, rfl, (Array.getElem?_eq_some_iff.1 hb).1, fun i hi j v hv => ?_⟩⟩, fun b off e he => by cases he; exact hg⟩
    have hx : z[i]? = some (z.getD i noE) := by simp [List.getD, hi]
    have h1 := cellsE_get hx j v hv
    have : w.cell? ⟨g, 0 + i * 13 + j, none⟩ = cur[i * 13 + j]? := by simp [World.cell?, hb]
    rw [this]
    rw [← ht] at h1
    have hlt := (List.getElem?_eq_some_iff.1 h1).1
    rw [List.length_take] at hlt
    rw [List.getElem?_take_of_lt (by omega)] at h1
    simpa using h1
theorem own_new (w : World) (t : TypeId) (size : Nat) : (w.alloc (.cells #[] t)).ownsRow w.heap.size t size (.slice (some ⟨w.heap.size, 0, none⟩) 0 0) 0 [] :=
  ⟨by simp, .inr ⟨w.heap.size, 0, #[], rfl, Nat.le_refl _, World.alloc_heap_new _ _, Nat.le_refl _, by decide, by simp, by simp⟩⟩
theorem own_ge {w : World} {base n size k : Nat} {t : TypeId} {v : Value} {xs : List Value} (h : w.ownsRow base t size v n xs) (hk : v.ownBlock = some k) : base ≤ k := by
  obtain ⟨_, ⟨rfl, _⟩ | ⟨g', cap, cur, rfl, hg', _⟩⟩ := h
  · cases hk
  · simp [Value.ownBlock] at hk; omega
theorem own_base {w : World} {B base n size : Nat} {t : TypeId} {v : Value} {xs : List Value} (h : w.ownsRow base t size v n xs) (hB : B ≤ base) : w.ownsRow B t size v n xs := by
  obtain ⟨hl, h0 | ⟨g, cap, cur, rfl, hg, h1⟩⟩ := h
  · exact ⟨hl, .inl h0⟩
  · exact ⟨hl, .inr ⟨g, cap, cur, rfl, by omega, h1⟩⟩
theorem below_grown {B : Nat} {w w' w'' : World} {row : Option Nat} (h : Below B w w') (hB : B ≤ w'.heap.size) (hg : w'.grownBy w'' row) (hr : ∀ k, row = some k → B ≤ k) : Below B w w'' :=
  ⟨hg.os.trans h.os, hg.tape.trans h.tape, hg.output.trans h.output, Nat.le_trans h.size hg.size, fun k hk => (hg.block k (by omega) (fun e => by have := hr k e.symm; omega)).trans (h.block k hk)⟩
theorem ents_mem {w : World} {a : Option Addr} {n : Nat} {L : List Ent} (h : Ents w a n L) {i : Nat} {x : Ent} (hi : L[i]? = some x) :
    ∃ b off, a = some ⟨b, off, none⟩ ∧ b < w.heap.size ∧ EntAt w b (off + i * 13) x ∧ SmallE x ∧ i < n := by
  obtain ⟨h1, h2, h3⟩ := h
  have hlt := (List.getElem?_eq_some_iff.1 hi).1
  obtain ⟨b, off, e, hb, hc⟩ := h3 (by omega)
  have hx : L.getD i noE = x := by simp [List.getD, hi]
  have := hc i (by omega)
  rw [hx] at this
  exact ⟨b, off, e, hb, this, h2 x (List.mem_of_getElem? hi), by omega⟩
theorem of_next {L : List Ent} {i : Nat} {x : Ent} (t : T3) (h : L[i]? = some x) : ofL (L.take (i + 1)) t = if isT t x = true then ofL (L.take i) t ++ [x] else ofL (L.take i) t := by
  rw [take_next h, of_snoc]
theorem of_len (L : List Ent) (t : T3) : (ofL L t).length ≤ L.length := List.length_filter_le _ _
theorem of_small {L : List Ent} {t : T3} (h : ∀ x ∈ L, SmallE x) : ∀ x ∈ ofL L t, SmallE x := fun x hx => h x (List.mem_filter.1 hx).1
end Go.Proofs.Ytcpkngkeechjeaa.Past
