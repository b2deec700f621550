/- The walks of the document's own Good and of both Sizes. The walks of slab.At and of the document's own At. Go's == on slots, and the walk of Same. copy between slices whose elements have k cells (Derived.Laws.CopyOwn has it for one cell). What comes of a put, on lists; a row of slots as cells. A row of slots of the call's own; append of nothing. The walk of slices.Clone at slots. -/
import Derived.Test.YtkeocnhndnbamaaGreatQBook1
import Derived.Laws.StructEq
import Derived.Test.YtkeocnhndnbamaaGreatRows
import Derived.Laws.CopyOwn
import Derived.OwnWalk
import Derived.Laws.AppendOwn
import Derived.Laws.OwnMore
import Derived.Tactics
namespace Go.Proofs.YtkeocnhndnbamaaGreat.Slab
set_option maxRecDepth 100000
open Go.RowKit Go.Sort

/-- a block that is known whole -/
def Blk (w : World) (g : Nat) (t : TypeId) (cs : Array Value) : Prop := w.heap[g]? = some (.cells cs t (0, 0))
section
variable {w w' : World} {g : Nat} {t : TypeId} {cs : Array Value}
theorem Blk.lt (h : Blk w g t cs) : g < w.heap.size := (Array.getElem?_eq_some_iff.1 h).1
theorem Blk.cell (h : Blk w g t cs) (i : Nat) : w.cell? ⟨g, i, none⟩ = cs[i]? := by unfold Blk at h; simp [World.cell?, h]
theorem Blk.frozen (h : Blk w g t cs) (i : Nat) : w.frozen? ⟨g, i, none⟩ = false := by unfold Blk at h; simp [World.frozen?, h]
theorem Blk.new (w : World) (t : TypeId) (cs : Array Value) : Blk (w.alloc (.cells cs t)) w.heap.size t cs := World.alloc_heap_new w _
theorem Blk.alloc (h : Blk w g t cs) (o : Obj) : Blk (w.alloc o) g t cs := (Below.heap_alloc w o g h.lt).trans h
theorem Blk.below {B : Nat} (h : Blk w g t cs) (hb : Below B w w') (hg : g < B) : Blk w' g t cs := (hb.block g hg).trans h
end
def slotV (x : Slot) : Value := .agg #[.bool x.u, .string x.d]
def atL (lsn : Int) (l : List Slot) (slot : Int) : Slot := if goodB lsn l then (if 0 ≤ slot ∧ slot < l.length then l.getD slot.toNat nos else nos) else nos
theorem atL_bad {lsn slot : Int} {l : List Slot} (h : goodB lsn l = false) : atL lsn l slot = nos := by unfold atL; rw [h]; rfl
theorem atL_out {lsn slot : Int} {l : List Slot} (h : slot < 0 ∨ (l.length : Int) ≤ slot) : atL lsn l slot = nos := by
  unfold atL; split
  · rw [if_neg (by omega)]
  · rfl
theorem atL_in {lsn : Int} {l : List Slot} {k : Nat} {x : Slot} (h : goodB lsn l = true) (hx : l[k]? = some x) : atL lsn l (k : Int) = x := by
  obtain ⟨hk, rfl⟩ := List.getElem?_eq_some_iff.1 hx
  unfold atL
  rw [h, if_pos rfl, if_pos (by omega)]
  simp [List.getD, hk]

set_option maxRecDepth 100000 in
set_option maxHeartbeats 2000000 in
theorem at_any (lsn : Int) (a : Option Addr) (n c : Nat) (zs : List Slot) (slot : Int) (w : World) (h : Slots w a n zs) (hn : n ≤ 1000000) :
    Calls Tryz.prog 16 #[.agg #[.int .i64 lsn, .slice a n c], .int .i64 slot] w fun e w' => e = .returned (slotV (atL lsn zs slot)) ∧ Below w.heap.size w w' := by
  have hb0 : Below w.heap.size w ((w.alloc (.cells #[.int .i64 lsn, .slice a n c] 52)).alloc (.cells #[.bool false, .string ⟨#[]⟩] 41)) := ((Below.refl _ _).alloc (Nat.le_refl _) _).alloc (by simp) _
  have HZ := Lib.hid h.len
  have HS := Lib.hid (h.below hb0)
  clear h
  have hsz : w.heap.size + 1 < ((w.alloc (.cells #[.int .i64 lsn, .slice a n c] 52)).alloc (.cells #[.bool false, .string ⟨#[]⟩] 41)).heap.size := by simp
  have c0 : ((w.alloc (.cells #[.int .i64 lsn, .slice a n c] 52)).alloc (.cells #[.bool false, .string ⟨#[]⟩] 41)).cell? ⟨w.heap.size, 0, none⟩ = some (.int .i64 lsn) := by rw [World.cell?_alloc_lt _ _ _ (by simp)]; exact (page_cells w _ _ _).1
  have c1 : ((w.alloc (.cells #[.int .i64 lsn, .slice a n c] 52)).alloc (.cells #[.bool false, .string ⟨#[]⟩] 41)).cell? ⟨w.heap.size, 1, none⟩ = some (.slice a n c) := by rw [World.cell?_alloc_lt _ _ _ (by simp)]; exact (page_cells w _ _ _).2
  have r : Blk ((w.alloc (.cells #[.int .i64 lsn, .slice a n c] 52)).alloc (.cells #[.bool false, .string ⟨#[]⟩] 41)) (w.heap.size + 1) 41 #[.bool false, .string ⟨#[]⟩] := by have := Blk.new (w.alloc (.cells #[.int .i64 lsn, .slice a n c] 52)) 41 #[.bool false, .string ⟨#[]⟩]; rwa [World.size_alloc] at this
  cases hg : goodB lsn zs with
  | false =>
    have HA := Lib.hid (atL_bad (slot := slot) (l := zs) hg)
    have HG := Lib.hid hg
    clear hg
    go_enter Tryz.func16, Tryz.ntmps16
    go_wp2_with fail
    generalize hGen : (w.alloc (.cells #[.int .i64 lsn, .slice a n c] 52)).alloc (.cells #[.bool false, .string ⟨#[]⟩] 41) = W at c0 c1 r hb0 HS hsz ⊢
    clear hGen
    refine (good_any lsn a n c zs _ HS.out (by omega)).mono ?_
    rw [HG.out]
    rintro e w1 ⟨rfl, b1⟩
    have c1' := (b1.cell (p := ⟨w.heap.size, 1, none⟩) (by simp; omega)).trans c1
    have r1 := r.below b1 (by omega)
    have hb1 := hb0.trans (b1.mono hb0.size)
    have HS1 := HS.out.below b1
    have f0 := r1.frozen 0
    have f1 := r1.frozen 1
    have q0 := r1.cell 0
    have q1 := r1.cell 1
    go_wp2
    exact bodyPost_ret (v := .agg #[.bool false, .string ⟨#[]⟩]) (by simp [results, Tryz.results16, go_sem, q0, q1]) rfl ⟨by rw [HA.out]; rfl, (hb1.setCell (p := ⟨w.heap.size + 1, 0, none⟩) (by simp) _).setCell (p := ⟨w.heap.size + 1, 1, none⟩) (by simp) _⟩
  | true =>
    have HG := Lib.hid hg
    clear hg
    by_cases s0 : slot < 0
    · have HA := Lib.hid (atL_out (lsn := lsn) (slot := slot) (l := zs) (.inl s0))
      go_enter Tryz.func16, Tryz.ntmps16
      go_wp2_with fail
      generalize hGen : (w.alloc (.cells #[.int .i64 lsn, .slice a n c] 52)).alloc (.cells #[.bool false, .string ⟨#[]⟩] 41) = W at c0 c1 r hb0 HS hsz ⊢
      clear hGen
      refine (good_any lsn a n c zs _ HS.out (by omega)).mono ?_
      rw [HG.out]
      rintro e w1 ⟨rfl, b1⟩
      have c1' := (b1.cell (p := ⟨w.heap.size, 1, none⟩) (by simp; omega)).trans c1
      have r1 := r.below b1 (by omega)
      have hb1 := hb0.trans (b1.mono hb0.size)
      have HS1 := HS.out.below b1
      have f0 := r1.frozen 0
      have f1 := r1.frozen 1
      have q0 := r1.cell 0
      have q1 := r1.cell 1
      go_wp2
      exact bodyPost_ret (v := .agg #[.bool false, .string ⟨#[]⟩]) (by simp [results, Tryz.results16, go_sem, q0, q1]) rfl ⟨by rw [HA.out]; rfl, (hb1.setCell (p := ⟨w.heap.size + 1, 0, none⟩) (by simp) _).setCell (p := ⟨w.heap.size + 1, 1, none⟩) (by simp) _⟩
    · by_cases s1 : slot < n
      · obtain ⟨k, rfl⟩ := Int.eq_ofNat_of_zero_le (show 0 ≤ slot by omega)
        have hk : k < n := by omega
        go_enter Tryz.func16, Tryz.ntmps16
        go_wp2_with fail
        generalize hGen : (w.alloc (.cells #[.int .i64 lsn, .slice a n c] 52)).alloc (.cells #[.bool false, .string ⟨#[]⟩] 41) = W at c0 c1 r hb0 HS hsz ⊢
        clear hGen
        refine (good_any lsn a n c zs _ HS.out (by omega)).mono ?_
        rw [HG.out]
        rintro e w1 ⟨rfl, b1⟩
        have c1' := (b1.cell (p := ⟨w.heap.size, 1, none⟩) (by simp; omega)).trans c1
        have r1 := r.below b1 (by omega)
        have hb1 := hb0.trans (b1.mono hb0.size)
        have HS1 := HS.out.below b1
        have f0 := r1.frozen 0
        have f1 := r1.frozen 1
        have q0 := r1.cell 0
        have q1 := r1.cell 1
        obtain ⟨b, off, u, d, rfl, hbl, hx, c2, c3, hd⟩ := HS1.at_ hk
        have HA := Lib.hid (atL_in (lsn := lsn) HG.out hx)
        clear hx hbl
        go_wp2
        exact bodyPost_ret (v := .agg #[.bool u, .string d]) (by simp [results, Tryz.results16, go_sem, q0, q1]) rfl ⟨by rw [HA.out]; rfl, (hb1.setCell (p := ⟨w.heap.size + 1, 0, none⟩) (by simp) _).setCell (p := ⟨w.heap.size + 1, 1, none⟩) (by simp) _⟩
      · have HA := Lib.hid (atL_out (lsn := lsn) (slot := slot) (l := zs) (.inr (by rw [HZ.out]; omega)))
        have s2 : (n : Int) ≤ slot := by omega
        go_enter Tryz.func16, Tryz.ntmps16
        go_wp2_with fail
        generalize hGen : (w.alloc (.cells #[.int .i64 lsn, .slice a n c] 52)).alloc (.cells #[.bool false, .string ⟨#[]⟩] 41) = W at c0 c1 r hb0 HS hsz ⊢
        clear hGen
        refine (good_any lsn a n c zs _ HS.out (by omega)).mono ?_
        rw [HG.out]
        rintro e w1 ⟨rfl, b1⟩
        have c1' := (b1.cell (p := ⟨w.heap.size, 1, none⟩) (by simp; omega)).trans c1
        have r1 := r.below b1 (by omega)
        have hb1 := hb0.trans (b1.mono hb0.size)
        have HS1 := HS.out.below b1
        have f0 := r1.frozen 0
        have f1 := r1.frozen 1
        have q0 := r1.cell 0
        have q1 := r1.cell 1
        go_wp2
        exact bodyPost_ret (v := .agg #[.bool false, .string ⟨#[]⟩]) (by simp [results, Tryz.results16, go_sem, q0, q1]) rfl ⟨by rw [HA.out]; rfl, (hb1.setCell (p := ⟨w.heap.size + 1, 0, none⟩) (by simp) _).setCell (p := ⟨w.heap.size + 1, 1, none⟩) (by simp) _⟩

end Go.Proofs.YtkeocnhndnbamaaGreat.Slab
namespace Go.Proofs.YtkeocnhndnbamaaGreat.Slab
set_option maxRecDepth 100000
open Go.RowKit Go.Sort

def sameB (x y : Slot) : Bool := (x.u == y.u) && (x.d.toList == y.d.toList)
theorem str_inj {a b : ByteArray} (h : a.data.toList = b.data.toList) : a = b := ByteArray.ext (Array.toList_inj.1 h)
theorem list_inj {a b : ByteArray} (h : a.toList = b.toList) : a = b := by
  rw [ByteArray.toList_eq, ByteArray.toList_eq] at h; exact str_inj h
theorem sameB_iff (x y : Slot) : sameB x y = true ↔ x = y := by
  obtain ⟨u, d⟩ := x
  obtain ⟨v, e⟩ := y
  simp only [sameB, Bool.and_eq_true, beq_iff_eq, Slot.mk.injEq]
  exact ⟨fun ⟨h1, h2⟩ => ⟨h1, list_inj h2⟩, fun ⟨h1, h2⟩ => ⟨h1, by rw [h2]⟩⟩
theorem sameB_refl (x : Slot) : sameB x x = true := (sameB_iff x x).2 rfl
theorem run_eq_slot (u v : Bool) (d e : ByteArray) (w : World) : (binOp .eql 41 (.agg #[.bool u, .string d]) (.agg #[.bool v, .string e])).run Tryz.prog w = .ok (.bool (sameB ⟨u, d⟩ ⟨v, e⟩)) w := by
  have u3 := Tryz.underlying4
  have u9 := Tryz.underlying9
  have a3 := Tryz.isAgg4
  have z3 := Tryz.sizeOf4
  have a9 := Tryz.isAgg9
  have z9 := Tryz.sizeOf9
  have hS : Tryz.prog.underlying 41 = some (.struct (Tryz.prog.fieldsOf 41)) := by kernel_rfl
  have hp : Tryz.prog.stoodInHeld 41 = false := by kernel_rfl
  rw [run_eql_struct, show (10000 : Nat) = 9999 + 1 from rfl, run_equalIn_agg w 9999 41 _ _ hS hp]
  simp only [Program.fieldsOf, Tryz.underlying41]
  go_simp
  unfold sameB
  by_cases hde : d.toList = e.toList <;> cases u <;> cases v <;> simp [hde]
theorem run_ne_slot (u v : Bool) (d e : ByteArray) (w : World) : (binOp .neq 41 (.agg #[.bool u, .string d]) (.agg #[.bool v, .string e])).run Tryz.prog w = .ok (.bool (!sameB ⟨u, d⟩ ⟨v, e⟩)) w := by
  have h := run_eq_slot u v d e w
  simp only [binOp] at h ⊢
  simp only [Sem.run_bind] at h ⊢
  generalize (Op.equal 41 (.agg #[.bool u, .string d]) (.agg #[.bool v, .string e])).run Tryz.prog w = r at h ⊢
  cases r with
  | ok b w1 => simp at h ⊢; obtain ⟨rfl, rfl⟩ := h; exact ⟨rfl, rfl⟩
  | halt x w1 => simp at h
theorem run_guard_slot (op : BinOp) (A B : Operand) (xs ys : Array Value) (w : World) : (eqGuard op 41 A B (.agg xs) (.agg ys)).run Tryz.prog w = .ok () w := run_eqGuard_agg w op 41 A B xs ys (by kernel_rfl)

theorem two_cells (w : World) (x y x' y' : Value) (T T' : TypeId) :
    ((w.alloc (.cells #[x, y] T)).alloc (.cells #[x', y'] T')).cell? ⟨w.heap.size, 0, none⟩ = some x ∧ ((w.alloc (.cells #[x, y] T)).alloc (.cells #[x', y'] T')).cell? ⟨w.heap.size, 1, none⟩ = some y ∧
    ((w.alloc (.cells #[x, y] T)).alloc (.cells #[x', y'] T')).cell? ⟨w.heap.size + 1, 0, none⟩ = some x' ∧ ((w.alloc (.cells #[x, y] T)).alloc (.cells #[x', y'] T')).cell? ⟨w.heap.size + 1, 1, none⟩ = some y' := by
  have h1 := page_cells w x y T
  have h2 := page_cells (w.alloc (.cells #[x, y] T)) x' y' T'
  rw [World.size_alloc] at h2
  exact ⟨by rw [World.cell?_alloc_lt _ _ _ (by simp)]; exact h1.1, by rw [World.cell?_alloc_lt _ _ _ (by simp)]; exact h1.2, h2.1, h2.2⟩
end Go.Proofs.YtkeocnhndnbamaaGreat.Slab
namespace Go.Proofs.YtkeocnhndnbamaaGreat
set_option maxRecDepth 100000
open Go.RowKit
theorem run_copy_rowK {P : Program} (w : World) (dT sT ty elem : TypeId) (k g o dLen dCap : Nat) (a : Addr) (sLen sCap : Nat) (cur : Array Value) (t : TypeId) (cs : List Value)
    (hu : P.underlying dT = some (.slice elem)) (hs : (P.info? elem).map (·.size) = some k)
    (hg : w.heap[g]? = some (.cells cur t (0, 0))) (hn : cs.length = Nat.min sLen dLen * k)
    (hsrc : ∀ j v, cs[j]? = some v → w.cell? (a.add j) = some v) (hfit : o + cs.length ≤ cur.size) (h1 : ∀ v ∈ cs, v.oneCell' = true) :
    (Builtin.copy_ #[dT, sT] ty #[.slice (some ⟨g, o, none⟩) dLen dCap, .slice (some a) sLen sCap]).run P w =
      .ok (goInt (Nat.min sLen dLen : Nat)) (w.setRow g (cur.toList.take o ++ cs ++ cur.toList.drop (o + cs.length)).toArray) := by
  have hl := run_loadCells_list (P := P) w a cs hsrc
  have hst := run_storeCells_at P g o t cs 0 cur w hg (by simpa using hfit) h1
  cases hq : P.info? elem with
  | none => simp [hq] at hs
  | some i =>
    have hi : i.size = k := by simpa [hq] using hs
    rw [hn] at hl
    simp [Builtin.copy_, run_underlying hu, Builtin.lenOf, Builtin.firstCells, sizeOf, typeInfo, hq, hi, hl, hst]
theorem run_copy_noneK {P : Program} (w : World) (dT sT ty elem : TypeId) (k : Nat) (d a : Option Addr) (dLen dCap sLen sCap : Nat) (hu : P.underlying dT = some (.slice elem)) (hs : (P.info? elem).map (·.size) = some k) (hn : Nat.min sLen dLen = 0) :
    (Builtin.copy_ #[dT, sT] ty #[.slice d dLen dCap, .slice a sLen sCap]).run P w = .ok (goInt 0) w := by
  cases hq : P.info? elem with
  | none => simp [hq] at hs
  | some i =>
    have hl : ∀ (x : Addr), (loadCells x 0).run P w = .ok #[] w := fun x => by simpa using run_loadCells_list (P := P) w x [] (by simp)
    cases d <;> cases a <;> simp [Builtin.copy_, run_underlying hu, Builtin.lenOf, Builtin.firstCells, sizeOf, typeInfo, hq, hn, storeCells, hl]
theorem wpList_copy_spliceK {P : Program} {w : World} {ops : Array Oper} {rest : List Oper} {o : Oper} {a : Act} {Q : Exit → Act → World → Prop} (hgd : o.guard = none) (d s : Operand) (dT sT : TypeId)
    (ho : o.op = .call { callee := .builtin .copy, args := #[d, s], argTypes := #[dT, sT] }) (elem : TypeId) (k : Nat) (hu : P.underlying dT = some (.slice elem)) (hsz : (P.info? elem).map (·.size) = some k) (hk : 0 < k)
    (dp sp : Option Addr) (dLen dCap sLen sCap : Nat) (hd : a.eval d = .slice dp dLen dCap) (hs : a.eval s = .slice sp sLen sCap)
    (g off : Nat) (cur : List Value) (t : TypeId) (hg : w.heap[g]? = some (.cells cur.toArray t (0, 0))) (cs : List Value) (hn : cs.length = Nat.min sLen dLen * k)
    (hpos : 0 < cs.length → dp = some ⟨g, off, none⟩ ∧ ∃ ad, sp = some ad ∧ ∀ j v, cs[j]? = some v → w.cell? (ad.add j) = some v)
    (hfit : off + cs.length ≤ cur.length) (h1 : ∀ v ∈ cs, v.oneCell' = true) (B : Nat) (w0 : World) (hb : Below B w0 w) (hBg : B ≤ g)
    (h : ∀ w', Hid (w'.heap[g]? = some (.cells (splice cur off cs).toArray t (0, 0))) → Below B w0 w' → w.grownBy w' (some g) → wpList P ops Q rest (a.put o.dst (goInt (Nat.min sLen dLen : Nat))) w') :
    wpList P ops Q (o :: rest) a w := by
  refine wpList_plain hgd fun K hK => ?_
  by_cases h0 : cs.length = 0
  · obtain rfl : cs = [] := List.eq_nil_of_length_eq_zero h0
    have h00 : Nat.min sLen dLen = 0 := by
      rcases Nat.eq_zero_or_pos (Nat.min sLen dLen) with hz | hz
      · exact hz
      · have := Nat.mul_pos hz hk; simp at hn; omega
    have hrun := run_copy_noneK (P := P) w dT sT o.type elem k dp sp dLen dCap sLen sCap hu hsz h00
    unfold Oper.wp
    simp only [execOp, ho, resolve, invoke, builtin, hd, hs, hrun, Sem.run_bind, Sem.run_pure, Result.andThen_ok, List.map_toArray, List.map_cons, List.map_nil]
    have := h w (show _ = _ by simpa [splice] using hg) hb ⟨rfl, rfl, rfl, Nat.le_refl _, fun _ _ _ => rfl⟩
    rw [h00] at this
    exact hK _ _ this
  · obtain ⟨rfl, ad, rfl, hsrc⟩ := hpos (by omega)
    have hrun := run_copy_rowK (P := P) w dT sT o.type elem k g off dLen dCap ad sLen sCap cur.toArray t cs hu hsz hg hn hsrc (by simpa using hfit) h1
    unfold Oper.wp
    simp only [execOp, ho, resolve, invoke, builtin, hd, hs, hrun, Sem.run_bind, Sem.run_pure, Result.andThen_ok, List.map_toArray, List.map_cons, List.map_nil]
    refine hK _ _ (h _ (show _ = _ by simpa [splice] using setRow_heap w g _ _ t _ hg) (below_setRow hb hBg _) ⟨rfl, rfl, rfl, by simp [World.setRow], fun j _ hj => setRow_other w g j _ (fun e => hj (by rw [e]))⟩)
end Go.Proofs.YtkeocnhndnbamaaGreat
namespace Go.Proofs.YtkeocnhndnbamaaGreat.Slab
set_option maxRecDepth 100000
open Go.RowKit Go.Sort

def padL (l : List Slot) (m : Nat) : List Slot := l ++ List.replicate (m - l.length) nos
/-- the slots behind a put -/
def putL (l : List Slot) (k : Nat) (x : Slot) : List Slot :=
  let g := (padL l (max l.length (k + 1))).set k x
  g.take (usedN g)
def putCode (lsn : Int) (l : List Slot) (slot : Int) (x : Slot) : Int :=
  if goodB lsn l = false ∨ slot < 0 ∨ 32 ≤ slot ∨ (x.u = false ∧ ¬ x.d.size = 0) then 1
  else if 200 < x.d.size then 5
  else if 240 < 9 + sz (putL l slot.toNat x) then 22 else 0
def putZ (lsn : Int) (l : List Slot) (slot : Int) (x : Slot) : List Slot := if putCode lsn l slot x = 0 then putL l slot.toNat x else []
def putN (lsn : Int) (l : List Slot) (slot : Int) (x : Slot) : Int := if putCode lsn l slot x = 0 then lsn else 0
/-- a page and an error's number are handed back, in new memory -/
def PageRes (l : Int) (z : List Slot) (code : Int) (w : World) (e : Ending) (w' : World) : Prop :=
  ∃ a n c, e = .returned (.tuple #[.agg #[.int .i64 l, .slice a n c], .int .i64 code]) ∧ Slots w' a n z ∧ Below w.heap.size w w' ∧ ∀ b off e, a = some ⟨b, off, e⟩ → w.heap.size ≤ b

def encS (x : Slot) : List Value := [.bool x.u, .string x.d]
def cellsOf (l : List Slot) : List Value := l.flatMap encS
theorem cellsOf_append (l m : List Slot) : cellsOf (l ++ m) = cellsOf l ++ cellsOf m := by simp [cellsOf]
theorem cellsOf_length (l : List Slot) : (cellsOf l).length = l.length * 2 := by
  induction l with
  | nil => rfl
  | cons x r ih => simp only [cellsOf, List.flatMap_cons, List.length_append, List.length_cons] at ih ⊢; rw [ih]; simp [encS]; omega
theorem cellsOf_get {l : List Slot} {k : Nat} {x : Slot} (h : l[k]? = some x) : (cellsOf l)[k * 2]? = some (.bool x.u) ∧ (cellsOf l)[k * 2 + 1]? = some (.string x.d) := by
  induction l generalizing k with
  | nil => simp at h
  | cons y r ih =>
    cases k with
    | zero => simp at h; subst h; simp [cellsOf, encS]
    | succ k =>
      have := ih (k := k) (by simpa using h)
      have e : (k + 1) * 2 = k * 2 + 1 + 1 := by omega
      rw [e]
      simpa [cellsOf, encS] using this
theorem cellsOf_set {l : List Slot} {k : Nat} (x : Slot) (h : k < l.length) : ((cellsOf l).set (k * 2) (.bool x.u)).set (k * 2 + 1) (.string x.d) = cellsOf (l.set k x) := by
  induction l generalizing k with
  | nil => simp at h
  | cons y r ih =>
    cases k with
    | zero => simp [cellsOf, encS]
    | succ k =>
      have := ih (k := k) (by simpa using h)
      have e : (k + 1) * 2 = k * 2 + 1 + 1 := by omega
      rw [e]
      simpa [cellsOf, encS] using this
theorem cellsOf_one (l : List Slot) : ∀ v ∈ cellsOf l, v.oneCell' = true := by
  intro v hv
  simp only [cellsOf, List.mem_flatMap, encS, List.mem_cons, List.not_mem_nil, or_false] at hv
  obtain ⟨x, _, rfl | rfl⟩ := hv <;> rfl
theorem slots_of_blk {w : World} {g : Nat} {t : TypeId} {l r : List Slot} (h : Blk w g t (cellsOf (l ++ r)).toArray) (hs : ∀ x ∈ l, x.d.size ≤ 140737488351232) : Slots w (some ⟨g, 0, none⟩) l.length l := by
  refine ⟨rfl, hs, fun _ => ⟨g, 0, rfl, h.lt, fun i hi => ?_⟩⟩
  have hg : (l ++ r)[i]? = some (l.getD i nos) := by rw [List.getElem?_append_left hi]; simp [List.getD, hi]
  obtain ⟨c1, c2⟩ := cellsOf_get hg
  rw [h.cell, h.cell]
  simpa using ⟨c1, c2⟩
theorem slots_src {w : World} {a : Option Addr} {n : Nat} {zs : List Slot} (h : Slots w a n zs) (hn : 0 < n) : ∃ ad, a = some ad ∧ ∀ j v, (cellsOf zs)[j]? = some v → w.cell? (ad.add j) = some v := by
  obtain ⟨b, off, ha, _, hc⟩ := h.2.2 hn
  refine ⟨_, ha, fun j v hv => ?_⟩
  have hj : j < n * 2 := by
    have := (List.getElem?_eq_some_iff.1 hv).1
    rw [cellsOf_length, h.1] at this; exact this
  have hk : j / 2 < zs.length := by rw [h.1]; omega
  have hg : zs[j / 2]? = some (zs.getD (j / 2) nos) := by simp [List.getD, hk]
  obtain ⟨c1, c2⟩ := cellsOf_get hg
  obtain ⟨d1, d2⟩ := hc (j / 2) (by omega)
  have ea : (Addr.add ⟨b, off, none⟩ j) = ⟨b, off + j, none⟩ := by unfold Addr.add; split <;> simp_all
  rw [ea]
  rcases Nat.mod_two_eq_zero_or_one j with hm | hm
  · have e : j = j / 2 * 2 := by omega
    rw [e] at hv ⊢
    rw [c1] at hv; injection hv with hv; rw [← hv]; exact d1
  · have e : j = j / 2 * 2 + 1 := by omega
    rw [e] at hv ⊢
    rw [c2] at hv; injection hv with hv; rw [← hv]; exact d2
theorem zero_cells (m : Nat) : madeCells #[.bool false, .string ⟨#[]⟩] (m * 2) = (cellsOf (List.replicate m nos)).toArray := by
  apply Array.ext
  · simp [size_madeCells, cellsOf_length]
  · intro i h1 h2
    rw [size_madeCells] at h1
    have hk : (List.replicate m nos)[i / 2]? = some nos := by rw [List.getElem?_replicate]; rw [if_pos (by omega)]
    obtain ⟨c1, c2⟩ := cellsOf_get hk
    simp only [madeCells, Array.getElem_map, Array.getElem_range, List.getElem_toArray]
    rcases Nat.mod_two_eq_zero_or_one i with hm | hm
    · have e : i / 2 * 2 = i := by omega
      rw [e] at c1
      rw [(List.getElem?_eq_some_iff.1 c1).2]
      simp [hm, nos]
    · have e : i / 2 * 2 + 1 = i := by omega
      rw [e] at c2
      rw [(List.getElem?_eq_some_iff.1 c2).2]
      simp [hm, nos]
theorem splice_pad (l : List Slot) (m : Nat) (h : l.length ≤ m) : splice (cellsOf (List.replicate m nos)) 0 (cellsOf l) = cellsOf (padL l m) := by
  unfold splice padL
  rw [cellsOf_append, List.take_zero, List.nil_append, Nat.zero_add, cellsOf_length]
  congr 1
  have e : List.replicate m nos = List.replicate l.length nos ++ List.replicate (m - l.length) nos := by rw [List.replicate_append_replicate]; congr 1; omega
  rw [e, cellsOf_append, List.drop_append_of_le_length (by rw [cellsOf_length]; simp), List.drop_of_length_le (by rw [cellsOf_length]; simp), List.nil_append]
theorem padL_length (l : List Slot) (m : Nat) (h : l.length ≤ m) : (padL l m).length = m := by simp [padL]; omega
theorem padL_sizes {l : List Slot} {m B : Nat} (h : ∀ x ∈ l, x.d.size ≤ B) : ∀ x ∈ padL l m, x.d.size ≤ B := by
  intro x hx
  rcases List.mem_append.1 hx with h1 | h1
  · exact h x h1
  · obtain rfl := (List.mem_replicate.1 h1).2
    exact Nat.zero_le _
theorem set_sizes {l : List Slot} {k B : Nat} {y : Slot} (h : ∀ x ∈ l, x.d.size ≤ B) (hy : y.d.size ≤ B) : ∀ x ∈ l.set k y, x.d.size ≤ B := by
  intro x hx
  rcases List.mem_or_eq_of_mem_set hx with h1 | h1
  · exact h x h1
  · rw [h1]; exact hy
theorem sz_bound {l : List Slot} {B : Nat} (h : ∀ x ∈ l, x.d.size ≤ B) : sz l ≤ (B + 1) * l.length := by
  induction l with
  | nil => simp [sz]
  | cons x r ih =>
    have := ih fun y hy => h y (List.mem_cons_of_mem _ hy)
    have := h x List.mem_cons_self
    simp only [sz, List.length_cons, Nat.mul_add]; omega
theorem Blk.set_ {w : World} {g : Nat} {t : TypeId} {cs : Array Value} (h : Blk w g t cs) (i : Nat) (u : Value) : Blk (w.setCell ⟨g, i, none⟩ u) g t (cs.setIfInBounds i u) := by
  unfold Blk at h ⊢
  simp [World.setCell, Array.getElem?_modify, h]
theorem Blk.far {w : World} {g : Nat} {t : TypeId} {cs : Array Value} (h : Blk w g t cs) {p : Addr} (hp : g ≠ p.block) (u : Value) : Blk (w.setCell p u) g t cs := (Below.heap_setCell w p u g hp).trans h
theorem Blk.drew {w : World} {g : Nat} {t : TypeId} {cs : Array Value} (h : Blk w g t cs) (n : Nat) : Blk (w.drewN n) g t cs := h
theorem Blk.grown {w w' : World} {g : Nat} {t : TypeId} {cs : Array Value} {row : Option Nat} (h : Blk w g t cs) (hb : w.grownBy w' row) (hg : some g ≠ row) : Blk w' g t cs := (hb.block g h.lt hg).trans h
/-- a slot is stored into a row of slots -/
theorem Blk.put_slot {w : World} {g : Nat} {t : TypeId} {l : List Slot} {k : Nat} (h : Blk w g t (cellsOf l).toArray) (hk : k < l.length) (u : Bool) (d : ByteArray) :
    Blk ((w.setCell ⟨g, k * 2, none⟩ (.bool u)).setCell ⟨g, k * 2 + 1, none⟩ (.string d)) g t (cellsOf (l.set k ⟨u, d⟩)).toArray := by
  have := (h.set_ (k * 2) (.bool u)).set_ (k * 2 + 1) (.string d)
  rw [← cellsOf_set ⟨u, d⟩ hk]
  simpa using this
theorem Slots.grown {w w' : World} {a : Option Addr} {n : Nat} {zs : List Slot} (h : Slots w a n zs) (hk : ∀ p : Addr, p.block < w.heap.size → w'.cell? p = w.cell? p) (hs : w.heap.size ≤ w'.heap.size) : Slots w' a n zs := by
  obtain ⟨h1, h2, h3⟩ := h
  refine ⟨h1, h2, fun hn => ?_⟩
  obtain ⟨b, off, ha, hlt, hc⟩ := h3 hn
  exact ⟨b, off, ha, Nat.lt_of_lt_of_le hlt hs, fun i hi => ⟨(hk ⟨b, off + i * 2, none⟩ hlt).trans (hc i hi).1, (hk ⟨b, off + i * 2 + 1, none⟩ hlt).trans (hc i hi).2⟩⟩
/-- a store into a block that the row does not lie in -/
theorem Slots.setCell {w : World} {a : Option Addr} {n : Nat} {zs : List Slot} (h : Slots w a n zs) {g i : Nat} (v : Value) (hne : ∀ b off, a = some ⟨b, off, none⟩ → 0 < n → b ≠ g) : Slots (w.setCell ⟨g, i, none⟩ v) a n zs := by
  obtain ⟨h1, h2, h3⟩ := h
  refine ⟨h1, h2, fun hn => ?_⟩
  obtain ⟨b, off, ha, hlt, hc⟩ := h3 hn
  have hb := hne b off ha hn
  refine ⟨b, off, ha, by simpa using hlt, fun i hi => ?_⟩
  rw [World.cell?_setCell_other _ _ _ _ (fun e => hb (by cases e; rfl)), World.cell?_setCell_other _ _ _ _ (fun e => hb (by cases e; rfl))]
  exact hc i hi
end Go.Proofs.YtkeocnhndnbamaaGreat.Slab
namespace Go.Proofs.YtkeocnhndnbamaaGreat.Slab
set_option maxRecDepth 100000
open Go.RowKit Go.Sort

theorem slots_of_own {w : World} {base : Nat} {t : TypeId} {v : Value} {z : List Slot} (h : w.ownsRow base t 2 v z.length (cellsOf z)) (hs : ∀ x ∈ z, x.d.size ≤ 140737488351232) :
    ∃ a c, v = .slice a z.length c ∧ Slots w a z.length z ∧ ∀ b off e, a = some ⟨b, off, e⟩ → base ≤ b := by
  obtain ⟨hl, ⟨rfl, h0⟩ | ⟨g, cap, cur, rfl, hg, hb, hn, hc, hcs, ht⟩⟩ := h
  · have : z = [] := List.eq_nil_of_length_eq_zero h0
    subst this
    exact ⟨none, 0, rfl, Slots.nil _ _, fun _ _ _ e => by cases e⟩
  · refine ⟨_, cap, rfl, ⟨rfl, hs, fun hp => ⟨g, 0, rfl, (Array.getElem?_eq_some_iff.1 hb).1, fun i hi => ?_⟩⟩, fun b off e he => by cases he; exact hg⟩
    have hcell : ∀ j, j < z.length * 2 → w.cell? ⟨g, j, none⟩ = (cellsOf z)[j]? := fun j hj => by
      have : w.cell? ⟨g, j, none⟩ = cur[j]? := by simp [World.cell?, hb]
      rw [this, ← ht, List.getElem?_take_of_lt hj]
      simp
    have hz : z[i]? = some (z.getD i nos) := by simp [List.getD, hi]
    obtain ⟨e1, e2⟩ := cellsOf_get hz
    rw [Nat.zero_add]
    exact ⟨(hcell _ (by omega)).trans e1, (hcell _ (by omega)).trans e2⟩
theorem own_below {w w' : World} {base n size : Nat} {t : TypeId} {v : Value} {xs : List Value} (h : w.ownsRow base t size v n xs) (hb : Below w.heap.size w w') : w'.ownsRow base t size v n xs := by
  obtain ⟨hl, h0 | ⟨g, cap, cur, rfl, hg, hc, h1⟩⟩ := h
  · exact ⟨hl, .inl h0⟩
  · exact ⟨hl, .inr ⟨g, cap, cur, rfl, hg, (hb.block g (Array.getElem?_eq_some_iff.1 hc).1).trans hc, h1⟩⟩
theorem own_block_ge {w : World} {base n size k : Nat} {t : TypeId} {v : Value} {xs : List Value} (h : w.ownsRow base t size v n xs) (hk : v.ownBlock = some k) : base ≤ k := by
  obtain ⟨_, ⟨rfl, _⟩ | ⟨g', cap, cur, rfl, hg', _⟩⟩ := h
  · cases hk
  · simp [Value.ownBlock] at hk; omega
theorem info_slot2 : (Tryz.prog.info? 41).map (fun i => (i.zero, i.size, i.bytes)) = some (some (.agg #[.bool false, .string ⟨#[]⟩]), 2, 24) := by kernel_rfl
theorem run_append_zero {P : Program} {w : World} (base : Nat) (t ty e : TypeId) (i : TypeInfo) (size : Nat) (ht : P.underlying t = some (.slice e)) (hi : P.info? e = some i)
    (v : Value) (n : Nat) (xs : List Value) (hown : w.ownsRow base e size v n xs) (a : Option Addr) (c : Nat) :
    (Builtin.append_ #[t, t] ty #[v, .slice a 0 c]).run P w = .ok v w := by
  rcases hown.2 with ⟨rfl, rfl⟩ | ⟨g, cap, cur, rfl, _, _, hnc, _⟩
  · cases a <;> simp [Builtin.append_, run_underlying ht, sizeOf, typeInfo, hi, Builtin.lenOf, Builtin.firstCells, loadCells, loadCellsFrom]
  · cases a <;> simp [Builtin.append_, run_underlying ht, sizeOf, typeInfo, hi, Builtin.lenOf, Builtin.firstCells, hnc, storeCells, loadCells, loadCellsFrom]
theorem wpList_append_zero {P : Program} {w : World} {ops : Array Oper} {rest : List Oper} {o : Oper} {a : Act} {Q : Exit → Act → World → Prop} (hgd : o.guard = none) (s x : Operand) (t : TypeId)
    (ho : o.op = .call { callee := .builtin .append, args := #[s, x], argTypes := #[t, t] })
    (base : Nat) (e : TypeId) (i : TypeInfo) (size : Nat) (ht : P.underlying t = some (.slice e)) (hi : P.info? e = some i)
    (v : Value) (n : Nat) (xs : List Value) (hs : a.eval s = v) (hown : w.ownsRow base e size v n xs) (ad : Option Addr) (c : Nat) (hx : a.eval x = .slice ad 0 c)
    (h : wpList P ops Q rest (a.put o.dst v) w) : wpList P ops Q (o :: rest) a w := by
  refine wpList_plain hgd fun K hK => ?_
  have hrun := run_append_zero (P := P) (w := w) base t o.type e i size ht hi v n xs hown ad c
  unfold Oper.wp
  simp [execOp, ho, resolve, invoke, builtin, hs, hx, hrun, Result.andThen]
  exact hK _ _ h
theorem own_new (w : World) (t : TypeId) (size : Nat) : (w.alloc (.cells #[] t)).ownsRow w.heap.size t size (.slice (some ⟨w.heap.size, 0, none⟩) 0 0) 0 [] :=
  ⟨by simp, .inr ⟨w.heap.size, 0, #[], rfl, Nat.le_refl _, World.alloc_heap_new _ _, Nat.le_refl _, by decide, by simp, by simp⟩⟩
/-- slots appended to an own row, whatever their source -/
theorem wpList_append_slots {w : World} {ops : Array Oper} {rest : List Oper} {o : Oper} {a : Act} {Q : Exit → Act → World → Prop} (hgd : o.guard = none) (s x : Operand)
    (ho : o.op = .call { callee := .builtin .append, args := #[s, x], argTypes := #[50, 50] }) (base : Nat)
    (v : Value) (n : Nat) (xs : List Value) (hs : a.eval s = v) (hown : w.ownsRow base 41 2 v n xs) (ad : Option Addr) (m c : Nat) (zs : List Slot) (hx : a.eval x = .slice ad m c)
    (hS : Slots w ad m zs) (hn : n + m ≤ 1000000) (hbase : base ≤ w.heap.size)
    (h : ∀ v' w', w'.ownsRow base 41 2 v' (n + m) (xs ++ cellsOf zs) → Below base w w' → wpList Tryz.prog ops Q rest (a.put o.dst v') w') : wpList Tryz.prog ops Q (o :: rest) a w := by
  obtain ⟨i0, hi, hz0, hz1, hz2⟩ := info_parts info_slot2
  by_cases h0 : m = 0
  · subst h0
    obtain rfl := hS.zero
    refine wpList_append_zero hgd s x 50 ho base 41 i0 2 Tryz.underlying50 hi v n xs hs hown ad c hx ?_
    exact h v w (by simpa [cellsOf] using hown) (Below.refl _ _)
  · obtain ⟨ad', rfl, hc⟩ := slots_src hS (by omega)
    refine wpList_append_own w hgd s x 50 ho base 41 i0 (.agg #[.bool false, .string ⟨#[]⟩]) 2 24 Tryz.underlying50 hi hz0 hz1 hz2 rfl (by decide) v n xs hs hown ad' m c (cellsOf zs) hx (by rw [cellsOf_length, hS.len]) hc (cellsOf_one zs) (by unfold maxLen; omega) (by omega) hbase ?_
    intro v' w' h1 h2 _
    exact h v' w' h1 ((Below.refl base w).grown h2 hbase (fun k hk => own_block_ge hown hk))
theorem Slots.take {w : World} {a : Option Addr} {n j : Nat} {zs : List Slot} (h : Slots w a n zs) (hj : j ≤ n) : Slots w a j (zs.take j) := by
  obtain ⟨h1, h2, h3⟩ := h
  refine ⟨by rw [List.length_take, h1]; omega, fun x hx => h2 x (List.mem_of_mem_take hx), fun hp => ?_⟩
  obtain ⟨b, off, ha, hb, hc⟩ := h3 (by omega)
  refine ⟨b, off, ha, hb, fun i hi => ?_⟩
  have e : (zs.take j).getD i nos = zs.getD i nos := by simp [List.getD, hi]
  rw [e]
  exact hc i (by omega)
theorem own_cap {w : World} {base g n cap size : Nat} {t : TypeId} {xs : List Value} (h : w.ownsRow base t size (.slice (some ⟨g, 0, none⟩) n cap) n xs) : n ≤ cap ∧ base ≤ g ∧ g < w.heap.size := by
  rcases h.2 with ⟨h', _⟩ | ⟨g', cap', cur, h', hb, hg, hnc, _⟩
  · simp at h'
  · simp only [Value.slice.injEq, Option.some.injEq, Addr.mk.injEq, and_true, true_and] at h'
    obtain ⟨rfl, rfl⟩ := h'
    exact ⟨hnc, hb, (Array.getElem?_eq_some_iff.1 hg).1⟩
theorem own_pos {w : World} {base n size : Nat} {t : TypeId} {v : Value} {xs : List Value} (h : w.ownsRow base t size v n xs) (hn : 0 < n) : ∃ g cap, v = .slice (some ⟨g, 0, none⟩) n cap := by
  rcases h.2 with ⟨rfl, rfl⟩ | ⟨g, cap, cur, rfl, _⟩
  · omega
  · exact ⟨g, cap, rfl⟩
/-- an own row has an address, or is nil -/
theorem own_shape {w : World} {base n size : Nat} {t : TypeId} {v : Value} {xs : List Value} (h : w.ownsRow base t size v n xs) : ∃ a c, v = .slice a n c := by
  rcases h.2 with ⟨rfl, rfl⟩ | ⟨g, cap, cur, rfl, _⟩
  · exact ⟨none, 0, rfl⟩
  · exact ⟨_, cap, rfl⟩
end Go.Proofs.YtkeocnhndnbamaaGreat.Slab
namespace Go.Proofs.YtkeocnhndnbamaaGreat.Slab
set_option maxRecDepth 100000
open Go.RowKit Go.Sort
/-- slots handed back in new memory -/
def SlotsRes (z : List Slot) (n : Nat) (w : World) (e : Ending) (w' : World) : Prop :=
  ∃ a c, e = .returned (.slice a n c) ∧ Slots w' a n z ∧ Below w.heap.size w w' ∧ ∀ b off e, a = some ⟨b, off, e⟩ → w.heap.size ≤ b
set_option maxRecDepth 100000 in
set_option maxHeartbeats 1000000 in
theorem clone_any (a : Option Addr) (n c : Nat) (zs : List Slot) (w : World) (h : Slots w a n zs) (hn : n ≤ 1000000) :
    Calls Tryz.prog 46 #[.slice a n c] w (SlotsRes zs n w) := by
  have q22 : ∀ (w : World) (a : Option Addr) (n c n' c' : Nat), (binOp .eql 50 (.slice a n c) (.slice none n' c')).run Tryz.prog w = .ok (.bool a.isNone) w := fun w a n c n' c' => Lib.run_eql_slice_nil w _ _ a n c n' c' Tryz.underlying50
  cases a with
  | none =>
    have h0 : n = 0 := by
      rcases Nat.eq_zero_or_pos n with h0 | h0
      · exact h0
      · obtain ⟨b, off, e, _⟩ := h.2.2 h0; cases e
    subst h0
    obtain rfl := h.zero
    clear h
    go_enter Tryz.func46, Tryz.ntmps46
    go_wp2
    go_ret
    exact ⟨none, 0, rfl, Slots.nil _ _, Below.refl _ _, fun _ _ _ e => by cases e⟩
  | some ad =>
    have HS := Lib.hid h
    have HL := Lib.hid h.len
    clear h
    go_enter Tryz.func46, Tryz.ntmps46
    go_wp2_with (at_builtin; refine wpList_append_slots rfl _ _ rfl w.heap.size _ 0 [] rfl (own_new w _ 2) (some ad) n c zs rfl ?c1 ?c2 ?c3 ?_)
    case c1 => exact HS.out.below ((Below.refl w.heap.size w).alloc (Nat.le_refl _) _)
    case c2 => omega
    case c3 => simp
    intro v' w1 hown hb
    have hown2 : w1.ownsRow w.heap.size 41 2 v' zs.length (cellsOf zs) := by rw [HL.out]; simpa using hown
    obtain ⟨a', c', hv, hsl, hnw⟩ := slots_of_own hown2 HS.out.2.1
    rw [HL.out] at hv hsl
    have hb2 : Below w.heap.size w w1 := ((Below.refl w.heap.size w).alloc (Nat.le_refl _) (.cells #[] 41)).trans hb
    rw [hv]
    go_wp2
    go_ret
    exact ⟨a', c', rfl, hsl, hb2, hnw⟩
end Go.Proofs.YtkeocnhndnbamaaGreat.Slab
