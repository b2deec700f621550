/- The walk of the statement EntryRow. -/
import Derived.Test.YtjaafdkmhkhehaaEntLaws
import Derived.Test.YtjaafdkmhkhehaaEntOpen
import Derived.Test.YtjaafdkmhkhehaaSlabDecode
namespace Go.Proofs.Ytjaafdkmhkhehaa.Ent
open Go.RowKit Go.Joins Go.ChangeShapes Go.WideShapes Go.Deep Go.Sort
open Go.Proofs.Ytjaafdkmhkhehaa.Slab (Blk ret_int' ret_bool' weights_all_mem own_below)
open Go.Proofs.Ytjaafdkmhkhehaa.Nib (below_next below_drew)
instance : Inhabited Ent := ⟨noE⟩
/-- an entry's cells from o on -/
def EntAt (w : World) (b o : Nat) (x : Ent) : Prop := ∀ (j : Nat) (v : Value), (entA x)[j]? = some v → w.cell? ⟨b, o + j, none⟩ = some v
def Ents (w : World) (a : Option Addr) (n : Nat) (zs : List Ent) : Prop :=
  zs.length = n ∧ (∀ x ∈ zs, SmallE x) ∧ (0 < n → ∃ b off, a = some ⟨b, off, none⟩ ∧ b < w.heap.size ∧ ∀ i, i < n → EntAt w b (off + i * 13) (zs.getD i noE))
theorem EntAt.next {w w' : World} {b o B : Nat} {x : Ent} (h : EntAt w b o x) (hb : Below B w w') (hB : b < B) : EntAt w' b o x := fun j v hv =>
  (hb.cell (p := ⟨b, o + j, none⟩) hB).trans (h j v hv)
theorem EntAt.cells {w : World} {b o : Nat} {x : Ent} (h : EntAt w b o x) :
    w.cell? ⟨b, o, none⟩ = some (.int .i64 x.kind) ∧ w.cell? ⟨b, o + 1, none⟩ = some (.int .i64 x.cl) ∧ w.cell? ⟨b, o + 2, none⟩ = some (.int .i64 x.ep) ∧ w.cell? ⟨b, o + 3, none⟩ = some (.int .i64 x.n) ∧
    w.cell? ⟨b, o + 4, none⟩ = some (.int .i64 x.lsn) ∧ w.cell? ⟨b, o + 5, none⟩ = some (.int .i64 x.prev) ∧ w.cell? ⟨b, o + 6, none⟩ = some (.int .i64 x.page) ∧ w.cell? ⟨b, o + 7, none⟩ = some (.int .i64 x.slot) ∧
    w.cell? ⟨b, o + 8, none⟩ = some (.bool x.wu) ∧ w.cell? ⟨b, o + 9, none⟩ = some (.string x.wd) ∧ w.cell? ⟨b, o + 10, none⟩ = some (.bool x.iu) ∧ w.cell? ⟨b, o + 11, none⟩ = some (.string x.id) ∧ w.cell? ⟨b, o + 12, none⟩ = some (.int .i64 x.next) :=
  ⟨h 0 _ rfl, h 1 _ rfl, h 2 _ rfl, h 3 _ rfl, h 4 _ rfl, h 5 _ rfl, h 6 _ rfl, h 7 _ rfl, h 8 _ rfl, h 9 _ rfl, h 10 _ rfl, h 11 _ rfl, h 12 _ rfl⟩
section
variable {H : Type} {enc : TypeId × Value → H} {w : World} {base : Nat} {spare : Nat → Bool} {held : Bool}
theorem open_ents_cells {fuel : Nat} {cs : List Value} {x : DataW H × List MemPlace} (h : DataW.trod enc Try.prog w base spare held fuel 57 cs = some x) (hw : ∀ n ∈ x.1.weights Try.prog 57, n ≤ reachBytes) :
    ∃ a n c zs, cs = [.slice a n c] ∧ Ents w a n zs := by
  rcases open_slice Try.underlying57 h with ⟨rfl, _⟩ | ⟨a, len, cap, m, n, D, Pl, hcs, hb, hl, hm, hmm, hx, hi⟩
  · exact ⟨none, 0, 0, [], rfl, rfl, by simp, fun h => absurd h (Nat.lt_irrefl 0)⟩
  · have hml : len ≤ m := by rw [hmm]; split <;> omega
    have hone : ∀ i, i < len → ∃ e : Ent, w.cells? base (a.add (i * 13)) 13 = some (entA e).toList ∧ SmallE e := by
      intro i hil
      obtain ⟨cs', hc, ht⟩ := hi i (by omega)
      have k2 : Try.prog.cellsOf 47 = 13 := by kernel_rfl
      rw [k2] at hc
      obtain ⟨s, rfl, hs⟩ := open_ent_cells ht (fun n hn => hw n (by
        rw [hx]
        simp only [DataW.weights, Try.underlying57]
        refine List.mem_cons_of_mem _ (List.mem_append.2 (.inl (weights_all_mem (d := D i) ?_ n hn)))
        exact List.mem_map.2 ⟨i, List.mem_range.2 hil, rfl⟩))
      exact ⟨s, hc, hs⟩
    obtain ⟨f, hf⟩ := choose_lt hone
    refine ⟨some a, len, cap, (List.range len).map f, hcs, by simp, ?_, fun hn => ?_⟩
    · intro y hy
      obtain ⟨i, hir, rfl⟩ := List.mem_map.1 hy
      exact (hf i (List.mem_range.1 hir)).2
    · obtain ⟨b, off, spot⟩ := a
      have hcell : ∀ i, i < len → ∀ (j : Nat) (v : Value), (entA (f i))[j]? = some v → w.cell? ((Addr.mk b off spot).add (i * 13 + j)) = some v := by
        intro i hil j v hv
        obtain ⟨_, _, hat⟩ := World.cells?_some (hf i hil).1
        have hj : j < (entA (f i)).toList.length := by
          have := (Array.getElem?_eq_some_iff.1 hv).1
          simpa using this
        have h0 := hat j hj
        rw [add_add] at h0
        rw [h0]
        rw [← hv]
        simp
      have hc0 := hcell 0 hn 0 _ rfl
      have hspot : spot = none := by
        have := World.cell?_spot hc0
        simpa [Addr.add] using this
      subst hspot
      refine ⟨b, off, rfl, ?_, fun i hil => ?_⟩
      · have := World.block_lt_of_cell? w _ hc0
        simpa [Addr.add] using this
      · have e : ((List.range len).map f).getD i noE = f i := by simp [List.getD, hil]
        rw [e]
        have ea : ∀ j, (Addr.mk b off none).add j = ⟨b, off + j, none⟩ := fun j => by unfold Addr.add; split <;> simp_all
        intro j v hv
        have := hcell i hil j v hv
        rw [ea, ← Nat.add_assoc] at this
        exact this
set_option maxRecDepth 100000 in
theorem open_ents {r : Reach} {b0 : Nat} {v : Value} {d : DataW H} {p : List MemPlace} (_hv : Value.okWide Try.prog w r b0 57 v) (h : DataW.Trod enc Try.prog w base spare held 57 v d p) (hw : ∀ n ∈ d.weights Try.prog 57, n ≤ reachBytes) :
    ∃ a n c zs, v = .slice a n c ∧ Ents w a n zs := by
  obtain ⟨a0, n0, c0, hv0⟩ := okWide_slice Try.underlying57 _hv
  obtain ⟨fuel, hf⟩ := h
  subst hv0
  obtain ⟨a, n, c, zs, he, hz⟩ := open_ents_cells (x := (d, p)) (by simpa [Value.cells] using hf) hw
  simp only [List.cons.injEq, and_true] at he
  exact ⟨a, n, c, zs, he, hz⟩
end
def cellsE (l : List Ent) : List Value := l.flatMap fun x => (entA x).toList
theorem cellsE_snoc (z : List Ent) (x : Ent) : cellsE z ++ (entA x).toList = cellsE (z ++ [x]) := by simp [cellsE]
theorem cellsE_length (l : List Ent) : (cellsE l).length = l.length * 13 := by
  induction l with
  | nil => rfl
  | cons x r ih => simp only [cellsE, List.flatMap_cons, List.length_append] at ih ⊢; rw [ih]; simp [entA]; omega
theorem cellsE_get : ∀ {l : List Ent} {i : Nat} {x : Ent}, l[i]? = some x → ∀ (j : Nat) (v : Value), (entA x)[j]? = some v → (cellsE l)[i * 13 + j]? = some v
  | y :: r, 0, x, h, j, v, hv => by
    simp at h; subst h
    have hj := (Array.getElem?_eq_some_iff.1 hv).1
    simp only [cellsE, List.flatMap_cons, Nat.zero_mul, Nat.zero_add]
    rw [List.getElem?_append_left (by simpa using hj)]
    simpa using hv
  | y :: r, i + 1, x, h, j, v, hv => by
    have ih := cellsE_get (l := r) (i := i) (by simpa using h) j v hv
    simp only [cellsE, List.flatMap_cons] at ih ⊢
    rw [List.getElem?_append_right (by simp [entA]; omega)]
    have e : (i + 1) * 13 + j - (entA y).toList.length = i * 13 + j := by simp [entA]; omega
    rw [e]; exact ih
theorem ents_of_own {w : World} {base : Nat} {t : TypeId} {v : Value} {z : List Ent} (h : w.ownsRow base t 13 v z.length (cellsE z)) :
    ∃ a c, v = .slice a z.length c ∧ (0 < z.length → ∃ g, a = some ⟨g, 0, none⟩ ∧ g < w.heap.size ∧ ∀ i x, z[i]? = some x → EntAt w g (i * 13) x) := by
  obtain ⟨hl, ⟨rfl, h0⟩ | ⟨g, cap, cur, rfl, hg, hb, hn, hc, hcs, ht⟩⟩ := h
  · exact ⟨none, 0, by rw [h0], fun h => absurd h (by omega)⟩
  · refine ⟨_, cap, rfl, fun _ => ⟨g, rfl, (Array.getElem?_eq_some_iff.1 hb).1, fun i x hx j v hv => ?_⟩⟩
    have h1 := cellsE_get hx j v hv
    have : w.cell? ⟨g, i * 13 + j, none⟩ = cur[i * 13 + j]? := by simp [World.cell?, hb]
    rw [this]
    rw [← ht] at h1
    have hlt := (List.getElem?_eq_some_iff.1 h1).1
    rw [List.length_take] at hlt
    rw [List.getElem?_take_of_lt (by omega)] at h1
    simpa using h1
/-- the bytes of good entries in a row -/
def rowL (l : List Ent) : List UInt8 := l.flatMap rawL
theorem rowL_snoc (z : List Ent) (x : Ent) : rowL z ++ rawL x = rowL (z ++ [x]) := by simp [rowL]
theorem rowL_len {l : List Ent} (h : ∀ x ∈ l, goodB x = true) : (rowL l).length ≤ 464 * l.length := by
  induction l with
  | nil => simp [rowL]
  | cons x r ih =>
    have h1 := (raw_len (h x List.mem_cons_self)).2
    have h2 := ih (fun y hy => h y (List.mem_cons_of_mem _ hy))
    simp only [rowL, List.flatMap_cons, List.length_append, List.length_cons] at h2 ⊢
    omega
theorem filt_next {zs : List Ent} {k : Nat} {x : Ent} (h : zs[k]? = some x) : (zs.take (k + 1)).filter goodB = (zs.take k).filter goodB ++ (if goodB x then [x] else []) := by
  obtain ⟨hl, rfl⟩ := List.getElem?_eq_some_iff.1 h
  rw [List.take_succ_eq_append_getElem hl, List.filter_append]
  congr 1
  cases hg : goodB zs[k] with
  | true => simp [hg]
  | false => simp [hg]
theorem filt_all {zs : List Ent} {G : List Ent} {k : Nat} (h : G = (zs.take k).filter goodB) : (∀ x ∈ G, goodB x = true) ∧ G.length ≤ k := by
  subst h
  refine ⟨fun x hx => (List.mem_filter.1 hx).2, ?_⟩
  exact Nat.le_trans (List.length_filter_le _ _) (List.length_take_le _ _)
theorem infoE : (Try.prog.info? 47).map (fun i => (i.zero, i.size, i.bytes)) = some (some (.agg #[.int .i64 0, .int .i64 0, .int .i64 0, .int .i64 0, .int .i64 0, .int .i64 0, .int .i64 0, .int .i64 0, .bool false, .string ⟨#[]⟩, .bool false, .string ⟨#[]⟩, .int .i64 0]), 13, 120) := by kernel_rfl

set_option maxRecDepth 100000 in
set_option maxHeartbeats 8000000 in
theorem row_walk (a : Option Addr) (n c : Nat) (zs : List Ent) (w : World) (hz : Ents w a n zs) :
    Calls Try.prog 11 #[.slice a n c] w fun e w' => e = .returned (.bool true) ∧ Below w.heap.size w w' := by
  by_cases hbig : (40 : Int) < (n : Int)
  · go_enter Try.func11, Try.ntmps11
    go_wp2_with fail
    refine (awake_any _).mono ?_
    rintro e w1 ⟨rfl, b1⟩
    go_wp2
    go_ret
    exact ⟨rfl, b1⟩
  · have HZ := Lib.hid hz
    clear hz
    obtain ⟨i0, hi, hz0, hz1, hz2⟩ := info_parts infoE
    go_enter Try.func11, Try.ntmps11
    go_wp2_with fail
    refine (awake_any _).mono ?_
    rintro e w1 ⟨rfl, b1⟩
    have HB1 := Lib.hid b1
    have hs1 := b1.size
    clear b1
    go_wp2
    go_loopw [3, 4, 5] (fun s v i wr => ∃ (k : Nat) (G : List Ent), k ≤ n ∧ i = .int .i64 (k : Int) ∧ Hid (G = (zs.take k).filter goodB) ∧ s = .string (arr (rowL G)) ∧ wr.ownsRow w1.heap.size 47 13 v G.length (cellsE G) ∧ Below w1.heap.size w1 wr) (fun _ _ i _ => n - (intOf i).toNat)
    case atStart => exact ⟨0, [], by omega, rfl, Lib.hid rfl, rfl, ⟨rfl, .inr ⟨w1.heap.size, 0, #[], rfl, Nat.le_refl _, World.alloc_heap_new _ _, Nat.le_refl _, by decide, rfl, rfl⟩⟩, below_box _ _⟩
    case round =>
      obtain ⟨k, G, hk, rfl, HG, rfl, hown, hbel⟩ := hrel
      have HOWN := Lib.hid hown
      have HBL := Lib.hid hbel
      obtain ⟨hga, hgl⟩ := filt_all HG.out
      have hrl := rowL_len hga
      have HGA := Lib.hid hga
      clear hown hbel hga
      by_cases hlt : k < n
      · obtain ⟨z1, z2, z3⟩ := HZ.out
        obtain ⟨b, off, rfl, hbw, hat⟩ := z3 (by omega)
        have hAt := (hat k hlt).next HB1.out hbw
        have hxk : zs[k]? = some (zs.getD k noE) := by simp [List.getD, show k < zs.length by omega]
        have hsm : SmallE (zs.getD k noE) := z2 _ (List.mem_of_getElem? hxk)
        have HF := Lib.hid (filt_next hxk)
        clear z1 z2 z3 hat hxk
        generalize zs.getD k noE = x at hAt hsm HF
        have HSM := Lib.hid (show Small x from hsm)
        have hb1 : b < w1.heap.size := by omega
        have hAr := hAt.next HBL.out hb1
        obtain ⟨c0, c1, c2, c3, c4, c5, c6, c7, c8, c9, c10, c11, c12⟩ := hAr.cells
        clear hsm
        go_wp2_with fail
        refine (great_any x _ HSM.out).mono ?_
        rintro e w4 ⟨rfl, b4⟩
        have HB4 := Lib.hid (HBL.out.trans (b4.mono HBL.out.size))
        have HO4 := Lib.hid (own_below HOWN.out b4)
        clear b4 c0 c1 c2 c3 c4 c5 c6 c7 c8 c9 c10 c11 c12
        cases hgr : greatB x with
        | true =>
          clear hgr
          go_wp2
          go_ret
          exact ⟨rfl, below_next HB1.out HB4.out⟩
        | false =>
          clear hgr
          obtain ⟨c0, c1, c2, c3, c4, c5, c6, c7, c8, c9, c10, c11, c12⟩ := (hAt.next HB4.out hb1).cells
          have hE := fun w => encode_any x w HSM.out
          cases hgd : goodB x with
          | false =>
            have e2 : encE x = ⟨#[]⟩ ∧ codeE x = 1 := by unfold encE codeE; rw [hgd]; exact ⟨rfl, rfl⟩
            rw [e2.1, e2.2] at hE
            have HE := Lib.hid hE
            have HFK := Lib.hid (show G = (zs.take (k + 1)).filter goodB by rw [HF.out, hgd, ← HG.out]; simp)
            clear hE e2 hgd
            go_wp2_with fail
            refine (HE.out _).mono ?_
            rintro e w5 ⟨rfl, b5⟩
            have HB5 := Lib.hid (HB4.out.trans (b5.mono HB4.out.size))
            have HO5 := Lib.hid (own_below HO4.out b5)
            clear b5 c0 c1 c2 c3 c4 c5 c6 c7 c8 c9 c10 c11 c12
            go_wp2
            go_roundw
            case rel => exact ⟨k + 1, G, by omega, by go_num, HFK, rfl, HO5.out, HB5.out⟩
            case measure => simp [intOf]; omega
          | true =>
            have e2 : encE x = arr (rawL x) ∧ codeE x = 0 := by unfold encE codeE; rw [hgd]; exact ⟨rfl, rfl⟩
            rw [e2.1, e2.2] at hE
            have hr1 : (arr (rawL x)).size ≤ 464 := raw_size hgd
            have hr2 : (arr (rowL G)).size ≤ 18560 := by rw [arr_size]; omega
            have HCAT := Lib.hid (show arr (rowL G) ++ arr (rawL x) = arr (rowL (G ++ [x])) by rw [← rowL_snoc]; apply ByteArray.ext; apply Array.toList_inj.1; rw [app_list]; simp [arr])
            have HFK := Lib.hid (show G ++ [x] = (zs.take (k + 1)).filter goodB by rw [HF.out, hgd, ← HG.out]; simp)
            generalize arr (rawL x) = R at hE hr1 HCAT
            have HE := Lib.hid hE
            clear hE e2 hgd
            go_wp2_with fail
            refine (HE.out _).mono ?_
            rintro e w5 ⟨rfl, b5⟩
            have HB5 := Lib.hid (HB4.out.trans (b5.mono HB4.out.size))
            have HO5 := Lib.hid (own_below HO4.out b5)
            clear b5 c0 c1 c2 c3 c4 c5 c6 c7 c8 c9 c10 c11 c12
            obtain ⟨c0, c1, c2, c3, c4, c5, c6, c7, c8, c9, c10, c11, c12⟩ := (hAt.next HB5.out hb1).cells
            generalize arr (rowL G) = S at hr2 HCAT ⊢
            go_wp2_with (at_builtin; refine wpList_append_own _ rfl _ _ 57 rfl w1.heap.size 47 i0 (.agg #[.int .i64 0, .int .i64 0, .int .i64 0, .int .i64 0, .int .i64 0, .int .i64 0, .int .i64 0, .int .i64 0, .bool false, .string ⟨#[]⟩, .bool false, .string ⟨#[]⟩, .int .i64 0]) 13 120 Try.underlying57 hi hz0 hz1 hz2 rfl (by decide) _ G.length (cellsE G) rfl (own_below HO5.out (below_box _ _)) ⟨w5.heap.size, 0, none⟩ 1 1 (entA x).toList rfl rfl ?c1 ?c2 ?c3 ?c4 ?c5 ?_)
            case c1 =>
              intro j u hj
              rw [add_at, (Blk.new w5 47 #[.int .i64 x.kind, .int .i64 x.cl, .int .i64 x.ep, .int .i64 x.n, .int .i64 x.lsn, .int .i64 x.prev, .int .i64 x.page, .int .i64 x.slot, .bool x.wu, .string x.wd, .bool x.iu, .string x.id, .int .i64 x.next]).cell j]
              simpa [entA] using hj
            case c2 => intro u hu; simp [entA] at hu; rcases hu with rfl | rfl | rfl | rfl | rfl | rfl | rfl | rfl | rfl | rfl | rfl | rfl | rfl <;> rfl
            case c3 => unfold maxLen; omega
            case c4 => omega
            case c5 => have := HB5.out.size; simp; omega
            intro v' w6 hown6 hgrow6 _
            rw [cellsE_snoc] at hown6
            have HO6 := Lib.hid (show w6.ownsRow w1.heap.size 47 13 v' (G ++ [x]).length (cellsE (G ++ [x])) by rw [List.length_append]; exact hown6)
            have HB6 := Lib.hid ((HB5.out.alloc HB5.out.size (.cells (entA x) 47)).grown hgrow6 (by have := HB5.out.size; simp; omega) (fun j hj => Slab.own_block_ge HO5.out hj))
            clear hown6 hgrow6 c0 c1 c2 c3 c4 c5 c6 c7 c8 c9 c10 c11 c12
            go_wp2
            go_roundw
            case rel => exact ⟨k + 1, G ++ [x], by omega, by go_num, HFK, by rw [HCAT.out], HO6.out, HB6.out⟩
            case measure => simp [intOf]; omega
      · obtain rfl : k = n := by omega
        obtain ⟨ag, cg, rfl, hgs⟩ := ents_of_own HOWN.out
        have HGS := Lib.hid hgs
        have HBW := Lib.hid (below_next HB1.out HBL.out)
        clear hgs HOWN
        go_wp2
        go_loopw [3, 8] (fun s i wq => ∃ (j : Nat), j ≤ G.length ∧ i = .int .i64 (j : Int) ∧ s = .string (arr (rowL (G.drop j))) ∧ Below wr.heap.size wr wq) (fun _ i _ => G.length - (intOf i).toNat)
        case atStart => exact ⟨0, by omega, rfl, by simp, Below.refl _ _⟩
        case round =>
          clear hrl
          obtain ⟨j, hj, rfl, rfl, hbel⟩ := hrel
          have HBQ := Lib.hid hbel
          clear hbel
          by_cases hlt : j < G.length
          · obtain ⟨x, hx⟩ : ∃ x, G[j]? = some x := ⟨_, List.getElem?_eq_getElem hlt⟩
            obtain ⟨g, rfl, hgw, hat⟩ := HGS.out (by omega)
            have hAt := hat j x hx
            have hgx := HGA.out x (List.mem_of_getElem? hx)
            have hdr : rowL (G.drop j) = rawL x ++ rowL (G.drop (j + 1)) := by
              obtain ⟨h1, rfl⟩ := List.getElem?_eq_some_iff.1 hx
              rw [List.drop_eq_getElem_cons h1]; rfl
            have hsz : (arr (rowL (G.drop j))).size ≤ 140737488351232 := by
              rw [arr_size]
              have h1 := rowL_len (l := G.drop j) (fun y hy => HGA.out y (List.mem_of_mem_drop hy))
              have h2 := (filt_all HG.out).2
              rw [List.length_drop] at h1
              omega
            have HD := Lib.hid (fun w => decode_is (x := x) (t := arr (rowL (G.drop (j + 1)))) (c := 0) (by rw [arr_list, arr_list, hdr]; exact dec_back hgx _) w hsz)
            clear hat hx hgx hdr hsz
            go_wp2_with fail
            refine (HD.out _).mono ?_
            rintro e w7 ⟨rfl, b7⟩
            have hb7 := below_next (below_next HBQ.out b7) (below_box w7 (.cells #[.int .i64 x.kind, .int .i64 x.cl, .int .i64 x.ep, .int .i64 x.n, .int .i64 x.lsn, .int .i64 x.prev, .int .i64 x.page, .int .i64 x.slot, .bool x.wu, .string x.wd, .bool x.iu, .string x.id, .int .i64 x.next] 47))
            have hX7 := Blk.new w7 47 #[.int .i64 x.kind, .int .i64 x.cl, .int .i64 x.ep, .int .i64 x.n, .int .i64 x.lsn, .int .i64 x.prev, .int .i64 x.page, .int .i64 x.slot, .bool x.wu, .string x.wd, .bool x.iu, .string x.id, .int .i64 x.next]
            have hA7 := hAt.next hb7 hgw
            clear b7
            go_upto_region 20 with (fail)
            generalize hGen : w7.alloc (.cells #[.int .i64 x.kind, .int .i64 x.cl, .int .i64 x.ep, .int .i64 x.n, .int .i64 x.lsn, .int .i64 x.prev, .int .i64 x.page, .int .i64 x.slot, .bool x.wu, .string x.wd, .bool x.iu, .string x.id, .int .i64 x.next] 47) = W7 at hb7 hX7 hA7 ⊢
            clear hGen
            generalize hGen : w7.heap.size = g7 at hX7 ⊢
            clear hGen
            have HB7 := Lib.hid hb7
            obtain ⟨c0, c1, c2, c3, c4, c5, c6, c7, c8, c9, c10, c11, c12⟩ := ent_cells hX7
            obtain ⟨d0, d1, d2, d3, d4, d5, d6, d7, d8, d9, d10, d11, d12⟩ := hA7.cells
            have hq := fun w => run_ne_ent x x w
            simp only [sameE_refl, Bool.not_true] at hq
            have hgd := fun (A B : Operand) xs ys w => run_guard_ent .neq A B xs ys w
            have hi1 : (j : Int) < (G.length : Int) := by omega
            have hi0 : (0 : Int) ≤ (j : Int) := by omega
            clear hb7
            go_quiet (fail)
            go_wp2
            go_roundw
            case rel => exact ⟨j + 1, by omega, by go_num, rfl, below_drew HB7.out _⟩
            case measure => simp [intOf]; omega
          · obtain rfl : j = G.length := by omega
            have he : arr (rowL (G.drop G.length)) = ⟨#[]⟩ := by rw [List.drop_length]; rfl
            rw [he]
            clear he
            go_wp2
            go_ret
            exact ⟨rfl, below_next HBW.out HBQ.out⟩
end Go.Proofs.Ytjaafdkmhkhehaa.Ent
