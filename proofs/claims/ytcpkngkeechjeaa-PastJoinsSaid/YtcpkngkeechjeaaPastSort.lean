/- slices.SortedFunc(maps.Keys(m), compare): the names, rising; slices.Sorted(maps.Keys(m)): the pages, rising. -/
import Derived.Test.YtcpkngkeechjeaaPastCollect
import Derived.Test.YtcpkngkeechjeaaShelf2
import Derived.Test.YtcpkngkeechjeaaShelf4
import Derived.Test.YtcpkngkeechjeaaLatchMap
namespace Go.Proofs.Ytcpkngkeechjeaa.Past
set_option maxRecDepth 100000
open Go.RowKit Go.Sort Go.Maps Go.Shelf
open Go.Proofs.Ytcpkngkeechjeaa.Mem
instance : Inhabited T3 := ⟨⟨0, 0, 0⟩⟩
theorem swoT : Go.Sort.SWO (ltOf cmpT) where
  irrefl x := by show decide (cmpT x x < 0) = false; rw [cmpT_lt]; exact order_less.irr x
  trans x y z h1 h2 := by
    have h1 : decide (cmpT x y < 0) = true := h1
    have h2 : decide (cmpT y z < 0) = true := h2
    show decide (cmpT x z < 0) = true
    rw [cmpT_lt] at *
    exact order_less.tra _ _ _ h1 h2
  ntrans x y z h1 h2 := by
    have h1 : decide (cmpT x y < 0) = false := h1
    have h2 : decide (cmpT y z < 0) = false := h2
    show decide (cmpT x z < 0) = false
    rw [cmpT_lt] at *
    have n1 : ¬ lessT x y = true := by rw [h1]; simp
    have n2 : ¬ lessT y z = true := by rw [h2]; simp
    cases h3 : lessT x z with
    | false => rfl
    | true =>
      rw [less_iff] at n1 n2 h3
      omega
theorem isAggT (w : World) : (isAgg 24).run Try.prog w = .ok true w := by kernel_rfl
theorem sizeOfT (w : World) : (Go.sizeOf 24).run Try.prog w = .ok 3 w := by kernel_rfl
/-- a row that is worked on in place -/
def RwT (w : World) (g c : Nat) (A : List T3) : Prop := ∃ cur, Blk w g 24 cur ∧ cur.size = c * 3 ∧ A.length ≤ c ∧ cur.toList.take (A.length * 3) = cellsG txV A
theorem RwT.lt {w : World} {g c : Nat} {A : List T3} (h : RwT w g c A) : g < w.heap.size := by obtain ⟨cur, h1, _⟩ := h; exact h1.lt
theorem tx_len (x : T3) : (txV x).length = 3 := rfl
theorem flatT_get (L : List T3) (t : Nat) (ht : t < L.length * 3) : (Go.Sort.flatK txV 3 L.toArray)[t]? = (cellsG txV L)[t]? := by
  have h2 : t / 3 < L.length := by omega
  have hx : L[t / 3]? = some L[t / 3] := List.getElem?_eq_getElem h2
  have hj := cellsG_at (f := txV) (m := 3) tx_len L (t / 3) _ hx (t % 3) (by omega)
  have e : t / 3 * 3 + t % 3 = t := by omega
  rw [e] at hj
  rw [hj]
  simp only [Go.Sort.flatK, Array.getElem?_map]
  have hr : (Array.range (L.toArray.size * 3))[t]? = some t := by simp [ht]
  rw [hr]
  simp only [Option.map_some]
  have hi : L.toArray[t / 3]! = L[t / 3] := by simp [h2]
  rw [hi]
  generalize L[t / 3] = x
  rcases (show t % 3 = 0 ∨ t % 3 = 1 ∨ t % 3 = 2 by omega) with h | h | h <;> rw [h] <;> simp [txV]
theorem flatT_list (L : List T3) : (Go.Sort.flatK txV 3 L.toArray).toList = cellsG txV L := by
  apply List.ext_getElem?
  intro t
  by_cases ht : t < L.length * 3
  · rw [Array.getElem?_toList, flatT_get L t ht]
  · rw [List.getElem?_eq_none (by simp; omega), List.getElem?_eq_none (by rw [cellsG_len (m := 3) tx_len]; omega)]
theorem holdsT {w : World} {g c : Nat} {L : List T3} (h : RwT w g c L) : Go.Sort.HoldsK txV 3 w g 0 L.toArray := by
  obtain ⟨cur, h1, h2, h3, h4⟩ := h
  intro j hj
  have hj' : j < L.length * 3 := by simpa using hj
  refine ⟨?_, h1.frozen _⟩
  have e : (Go.Sort.flatK txV 3 L.toArray)[j]! = (Go.Sort.flatK txV 3 L.toArray)[j]'hj := getElem!_pos (Go.Sort.flatK txV 3 L.toArray) j hj
  rw [Nat.zero_add, h1.cell, ← Array.getElem?_toList, e]
  have h5 : (cur.toList.take (L.length * 3))[j]? = (cellsG txV L)[j]? := by rw [h4]
  rw [List.getElem?_take_of_lt hj'] at h5
  rw [h5, ← flatT_get L j hj', Array.getElem?_eq_getElem hj]
  rfl
theorem sortedT_row {w : World} {g c n : Nat} {L L' : List T3} {os : Array Obj} (h : RwT w g c L) (hl : L'.length = L.length) : RwT (sortWorldK txV 3 w g 0 n L'.toArray os) g c L' := by
  obtain ⟨cur, h1, h2, h3, h4⟩ := h
  refine ⟨Go.Sort.putCells id 0 (Go.Sort.flatK txV 3 L'.toArray) cur, ?_, by simpa [Go.Sort.putCells] using h2, by omega, ?_⟩
  · unfold Blk sortWorldK
    rw [Go.Sort.heap_grow_old _ _ (by simpa [Go.Sort.putRowK, Go.Sort.putRow, Go.Sort.mapBlock, Go.Sort.ahead] using h1.lt)]
    simp [Go.Sort.putRowK, Go.Sort.putRow, Go.Sort.mapBlock, Go.Sort.ahead, Array.getElem?_modify, show w.heap[g]? = _ from h1, Go.Sort.onCells]
  · rw [← flatT_list L']
    apply List.ext_getElem?
    intro j
    by_cases hj : j < L'.length * 3
    · rw [List.getElem?_take_of_lt hj, Array.getElem?_toList, Array.getElem?_toList]
      simp [Go.Sort.putCells, show j < cur.size by omega, hj]
    · rw [List.getElem?_take_eq_none (by omega), List.getElem?_eq_none (by simp; omega)]
theorem sortedT_grown {w : World} {g n : Nat} {L' : List T3} {os : Array Obj} : w.grownBy (sortWorldK txV 3 w g 0 n L'.toArray os) (some g) := by
  refine ⟨rfl, rfl, rfl, by simp [sortWorldK, Go.Sort.putRowK, Go.Sort.putRow, Go.Sort.mapBlock, Go.Sort.ahead, Go.Sort.grow], fun k hk hne => ?_⟩
  unfold sortWorldK
  rw [Go.Sort.heap_grow_old _ _ (by simpa [Go.Sort.putRowK, Go.Sort.putRow, Go.Sort.mapBlock, Go.Sort.ahead] using hk)]
  have : g ≠ k := fun e => hne (by rw [e])
  simp [Go.Sort.putRowK, Go.Sort.putRow, Go.Sort.mapBlock, Go.Sort.ahead, Array.getElem?_modify, this]
theorem cmpLaysT (blk off size : Nat) (w : World) : CmpLays Try.prog 25 #[] txV 3 cmpT blk off size w := fun _ _ _ _ x y => compare_any x y _
def SortTRes (B : Nat) (L : List T3) (v : Value) (w : World) (e : Ending) (w' : World) : Prop :=
  e = .returned (.tuple #[]) ∧ ∃ L' : List T3, L'.length = L.length ∧ (∀ x, x ∈ L' ↔ x ∈ L) ∧ L'.Nodup ∧ L'.Pairwise (fun a b => lessT a b = true) ∧ w'.ownsRow B 24 3 v L'.length (cellsG txV L') ∧ Below B w w'
theorem sortT_any (B : Nat) (v : Value) (L : List T3) (w : World) (h : w.ownsRow B 24 3 v L.length (cellsG txV L)) (hl : L.length ≤ 1000000) (hnd : L.Nodup) :
    Calls Try.prog 37 #[v, .func (.func 25) #[] #[]] w (SortTRes B L v w) := by
  rcases h.2 with ⟨rfl, h0⟩ | ⟨g, cap, cur, rfl, hbase, hb, h1, h2, h3, h4⟩
  · obtain rfl := List.eq_nil_of_length_eq_zero h0
    refine (Try.sortE_none none 0 _ w).mono ?_
    rintro e w' ⟨rfl, rfl⟩
    exact ⟨rfl, [], rfl, fun x => Iff.rfl, List.nodup_nil, List.Pairwise.nil, own_nil _ _ _ _, Below.refl _ _⟩
  · have hR : RwT w g cap L := ⟨cur, hb, h3, h1, h4⟩
    have eg : ∀ args w, (callFunc 25 args).run Try.prog w = .ok (.enter 25 args) w := enters_of Try.func25 (by kernel_rfl) rfl
    have hcon := AnyQ.slices_SortFunc Try.sortE 3 isAggT sizeOfT txV tx_len (fun x v hv => by simp [txV] at hv; rcases hv with rfl | rfl | rfl <;> rfl) cmpT swoT 25 #[] g 0 cap L.toArray w eg (cmpLaysT _ _ _ _) (holdsT hR) hR.lt (by simp; omega)
    refine Calls.mono hcon ?_
    rintro e w' ⟨rfl, d', n, os, hp, hs, rfl⟩
    have hsz : d'.toList.length = L.length := by simpa using hp.1
    have hd : d' = d'.toList.toArray := by simp
    have hRow := sortedT_row (n := n) (os := os) hR hsz
    have hG := sortedT_grown (w := w) (g := g) (n := n) (L' := d'.toList) (os := os)
    rw [← hd] at hRow hG
    have hperm : d'.toList.Perm L := by
      have h5 := hp.2.2
      have e1 : d'.extract 0 L.toArray.size = d' := by
        apply Array.ext_getElem?; intro i
        rw [Array.getElem?_extract]
        by_cases hi : i < L.length
        · rw [if_pos (by rw [hp.1]; simpa using hi)]; simp
        · rw [if_neg (by rw [hp.1]; simpa using hi), Array.getElem?_eq_none (by rw [hp.1]; simpa using hi)]
      have e2 : L.toArray.extract 0 L.toArray.size = L.toArray := by simp
      rw [e1, e2] at h5
      exact h5
    have hnd' : d'.toList.Nodup := hperm.nodup_iff.2 hnd
    have hrise : d'.toList.Pairwise (fun a b => lessT a b = true) := by
      rw [List.pairwise_iff_getElem]
      intro i j hi hj hij
      have h6 := hs i j (Nat.zero_le _) hij (by simpa [hsz] using hj)
      have g1 : d'[i]! = d'.toList[i] := by simp [getElem!_pos, show i < d'.size by simpa using hi]
      have g2 : d'[j]! = d'.toList[j] := by simp [getElem!_pos, show j < d'.size by simpa using hj]
      rw [g1, g2] at h6
      have h6 : decide (cmpT d'.toList[j] d'.toList[i] < 0) = false := h6
      rw [cmpT_lt] at h6
      have hne : d'.toList[i] ≠ d'.toList[j] := by
        have := (List.pairwise_iff_getElem.1 hnd') i j hi hj hij
        exact this
      rcases order_less.tri d'.toList[i] d'.toList[j] with h7 | h7 | h7
      · exact h7
      · exact absurd h7 hne
      · rw [h6] at h7; cases h7
    refine ⟨rfl, d'.toList, hsz, fun x => hperm.mem_iff, hnd', hrise, ?_, ⟨hG.os, hG.tape, hG.output, Nat.le_trans (Nat.le_refl _) hG.size, fun k hk => ?_⟩⟩
    · obtain ⟨cur', hc1, hc2, hc3, hc4⟩ := hRow
      exact ⟨cellsG_len (m := 3) tx_len _, .inr ⟨g, cap, cur', by rw [hsz], hbase, hc1, hc3, h2, hc2, hc4⟩⟩
    · exact hG.block k (by have := hR.lt; omega) (fun e => by injection e with e; omega)
/-- a row of names that rises, of a call's own -/
def TxRes (f : T3 → Option Value) (w : World) (e : Ending) (w' : World) : Prop :=
  ∃ v ss, e = .returned v ∧ (∀ x, x ∈ ss ↔ f x ≠ none) ∧ ss.Pairwise (fun a b => lessT a b = true) ∧ w'.ownsRow w.heap.size 24 3 v ss.length (cellsG txV ss) ∧ Below w.heap.size w w'
theorem sameT_lit {a b : T3} (h : (litT a).sameKey (litT b) = true) : litT a = litT b := by
  unfold litT at h ⊢
  generalize keyBytes [.int .i64 a.cl, .int .i64 a.ep, .int .i64 a.n] = x at h ⊢
  generalize keyBytes [.int .i64 b.cl, .int .i64 b.ep, .int .i64 b.n] = y at h ⊢
  simp only [Lit.sameKey] at h
  rw [eq_of_beq h]
open Classical in
theorem nodup_le : ∀ (xs ks : List Lit), xs.Nodup → (∀ x ∈ xs, x ∈ ks) → xs.length ≤ ks.length
  | [], ks, _, _ => Nat.zero_le _
  | x :: xs, ks, hn, hb => by
    obtain ⟨h1, h2⟩ := List.nodup_cons.1 hn
    have hx := hb x List.mem_cons_self
    have h := nodup_le xs (ks.erase x) h2 (fun y hy => by
      have h3 : y ≠ x := fun e => h1 (e ▸ hy)
      exact (List.mem_erase_of_ne h3).2 (hb y (List.mem_cons_of_mem _ hy)))
    rw [List.length_erase, if_pos (by simpa using hx)] at h
    have := List.length_pos_of_mem hx
    simp only [List.length_cons]
    omega
set_option maxHeartbeats 1000000 in
theorem namesT_len {f : T3 → Option Value} {ss : List T3} {w : World} {b n : Nat} (h : MapT w b n f) (hs : Names f ss) : ss.length ≤ n := by
  obtain ⟨D, hown, h2, h3⟩ := h
  obtain ⟨es, clock, hb, Ft, hsz, hD⟩ := hown
  have hk : ∀ x ∈ ss, litT x ∈ ((es.toList.map (WideElems.rg Try.prog 24 RVT)).foldr DataW.insert []).map (·.1) := fun x hx => by
    have hf := (hs.2 x).1 hx
    have h4 := (h2 x (h3 x hf)).1
    rw [hD] at h4
    have h5 : (f x).isSome = true := by cases e : f x with
      | none => exact absurd e hf
      | some _ => rfl
    rw [h5] at h4
    obtain ⟨p, hp, hq⟩ := List.any_eq_true.1 h4
    refine List.mem_map.2 ⟨p, hp, ?_⟩
    have hp2 := mem_sorted.1 hp
    obtain ⟨y, hy, rfl⟩ := List.mem_map.1 hp2
    obtain ⟨z, hz⟩ := Ft.reads y hy
    obtain ⟨t, _, _, ht⟩ := keyT_inv (WideElems.rd_key hz)
    have e : (WideElems.rg Try.prog 24 RVT y).1 = litT t := by rw [WideElems.rg_of hz]; exact ht
    rw [e] at hq ⊢
    exact sameT_lit hq
  have hnd : (ss.map litT).Nodup := by
    unfold List.Nodup
    rw [List.pairwise_map]
    exact hs.1.imp_of_mem fun {a c} ha hc hne e => hne (litT_inj (h3 a ((hs.2 a).1 ha)) (h3 c ((hs.2 c).1 hc)) e)
  have h6 := nodup_le (ss.map litT) _ hnd (fun l hl => by obtain ⟨x, hx, rfl⟩ := List.mem_map.1 hl; exact hk x hx)
  rw [List.length_map, List.length_map, length_sorted, List.length_map] at h6
  rw [Array.length_toList] at h6
  exact Nat.le_trans h6 hsz
set_option maxRecDepth 100000 in
set_option maxHeartbeats 1000000 in
theorem sortedT_any (b nn : Nat) {f : T3 → Option Value} (w : World) (h : MapT w b nn f) (hn : nn ≤ 1000000) :
    Calls Try.prog 23 #[.func (.func 38) #[] #[.pointer (some ⟨w.heap.size, 0, none⟩)], .func (.func 25) #[] #[]] (w.alloc (.cells #[.map (some b)] 53)) (TxRes f (w.alloc (.cells #[.map (some b)] 53))) := by
  have hb := Ent.below_box w (.cells #[.map (some b)] 53)
  have hM := h.same (hb.block b h.lt)
  have hc := (Blk.new w 53 #[.map (some b)]).cell 0
  have hl := Ent.alloc_lt w (.cells #[.map (some b)] 53)
  generalize w.alloc (.cells #[.map (some b)] 53) = W at hM hc hl ⊢
  generalize w.heap.size = Bm at hc hl ⊢
  have HA := Lib.hid (appendSeqT_any Bm b nn W hM hl hc hn)
  have HL := Lib.hid (fun ss => namesT_len (ss := ss) hM)
  clear hM hc h hb
  have HC : Hid (Calls Try.prog 36 #[.func (.func 38) #[] #[.pointer (some ⟨Bm, 0, none⟩)]] W (NamesRes f W)) := by
    refine Lib.hid ?_
    go_enter Try.func36, Try.ntmps36
    go_wp2_with fail
    refine HA.out.mono ?_
    rintro e w1 ⟨v, ss, rfl, h1, h2, h3⟩
    obtain ⟨a, c, rfl⟩ := own_shape h2
    have H := Lib.hid (show NamesRes f W (.returned (.slice a ss.length c)) w1 from ⟨_, ss, rfl, h1, h2, h3⟩)
    clear h1 h2 h3
    go_wp2
    go_ret
    exact H.out
  clear HA
  go_enter Try.func23, Try.ntmps23
  go_wp2_with fail
  refine HC.out.mono ?_
  rintro e w1 ⟨v, ss, rfl, h1, h2, h3⟩
  have hlen := HL.out ss h1
  have HS := Lib.hid (sortT_any W.heap.size v ss w1 h2 (by omega) h1.1)
  have HM := Lib.hid h1.2
  have HB := Lib.hid h3
  obtain ⟨a, c, rfl⟩ := own_shape h2
  clear h1 h2 h3 HC HL hlen
  go_wp2_with fail
  refine HS.out.mono ?_
  rintro e w2 ⟨rfl, L', s1, s2, s3, s4, s5, s6⟩
  have H := Lib.hid (show TxRes f W (.returned (.slice a ss.length c)) w2 from ⟨_, L', rfl, fun x => (s2 x).trans (HM.out x), s4, by exact s5, HB.out.trans s6⟩)
  clear s1 s2 s3 s4 s5 s6 HS
  go_wp2
  go_ret
  exact H.out
/-! ### pages -/
theorem sortsI (m : Nat) : AnyZI.SortsIn Try.prog Try.sortedI_ren Fence.wide m :=
  ⟨fun blk off cap ss W hH hblk hsz => callsIn_wide.2 (AnyM.slices_Sort_int Try.sortI blk off cap ss W hH hblk hsz),
   fun p cap W => callsIn_wide.2 (AnyM.slices_Sort_int_none Try.sortI p cap W)⟩
theorem keysP_any (mb : Option Nat) (W : World) : Calls Try.prog 27 #[.map mb] W fun e w' =>
    e = .returned (.func (.func 43) #[] #[.pointer (some ⟨W.heap.size, 0, none⟩)]) ∧ w' = W.alloc (.cells #[.map mb] 54) :=
  (callsIn_wide (n := 5)).1 (AnyZI.keys_in Try.keysH Fence.wide 5 trivial rfl mb W)
/-- the keys of a map, as an own row -/
def KeysRes (ks : List Int) (w : World) (e : Ending) (w' : World) : Prop :=
  ∃ v, e = .returned v ∧ w'.ownsRow w.heap.size 3 1 v ks.length (ks.map (Value.int .i64)) ∧ Below w.heap.size w w'
open Go.Proofs.Ytcpkngkeechjeaa.Latch in
theorem sortedP_any {w : World} {b n : Nat} {f : Int → Option Value} {ks : List Int} (h : MapN w b n f) (hn : n ≤ 1000000) (hu : ks.Pairwise (fun x y => x < y)) (hk : ∀ x, x ∈ ks ↔ f x ≠ none) :
    Calls Try.prog 26 #[.func (.func 43) #[] #[.pointer (some ⟨w.heap.size, 0, none⟩)]] (w.alloc (.cells #[.map (some b)] 54)) (KeysRes ks (w.alloc (.cells #[.map (some b)] 54))) := by
  obtain ⟨D0, hown, h2, h3⟩ := h
  have hbl := hown.lt
  have hsz := hown.size_le
  have hmax : Maps.size D0 ≤ maxLen := by unfold maxLen; omega
  have hbytes : Maps.size D0 * 8 ≤ 140737488355328 := by omega
  have hseq : SeqGives Fence.wide 2 Try.prog 43 #[.pointer (some ⟨w.heap.size, 0, none⟩)] encZ (fun ss => ss.Perm (intKeys D0)) (Maps.size D0) (w.alloc (.cells #[.map (some b)] 54)) :=
    AnyZI.keys_gives (ρ := Try.keysH_ren) { Try.keysH with } Fence.wide _ trivial rfl (by omega) w.heap.size b n D0 _ (by simp) (by simp) (by
      obtain ⟨es, clock, hb, Ft, hs, hD⟩ := hown
      exact ⟨es, clock, (Below.heap_alloc _ _ b hbl).trans hb, Ft, hs, hD⟩)
  have cS := AnyZI.sorted_in Try.sortedI Fence.wide 5 trivial trivial trivial trivial rfl (by omega) (sortsI _) (enters_of Try.func42 (by kernel_rfl) rfl) 43 #[.pointer (some ⟨w.heap.size, 0, none⟩)] trivial (enters_of Try.func43 (by kernel_rfl) rfl) _ _ hmax hbytes _ hseq
  change CallsIn _ _ Try.prog 26 _ _ _ at cS
  refine ((callsIn_wide (n := 5)).1 cS).mono ?_
  rintro e w' ⟨v, ss, rfl, hS, hrow, _, hb⟩
  obtain ⟨i1, i2, _⟩ := owns_ints hown
  have hm := merge_eq (ss := ss) (ks := ks) (hS.nodup_iff.2 i1) hu fun x => by
    rw [hS.mem_iff, i2, hk]
    constructor
    · rintro ⟨s, hh⟩ e
      rw [(h2 x s).1, e] at hh
      cases hh
    · intro hx
      refine ⟨h3 x hx, ?_⟩
      rw [(h2 x (h3 x hx)).1]
      cases e : f x with
      | none => exact absurd e hx
      | some _ => rfl
  have hl : ss.length = ks.length := by rw [← hm]; simp
  rw [hm, hl] at hrow
  exact ⟨v, rfl, hrow, hb⟩
end Go.Proofs.Ytcpkngkeechjeaa.Past
