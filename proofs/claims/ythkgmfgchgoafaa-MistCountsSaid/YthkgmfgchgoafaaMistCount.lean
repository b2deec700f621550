/- list, way, Count, find: of a net or of none. -/
import Derived.Test.YthkgmfgchgoafaaMistWay
namespace Go.Proofs.Ythkgmfgchgoafaa.Mist
set_option maxRecDepth 100000
open Go.RowKit Go.Shelf
open Go.Proofs.Ythkgmfgchgoafaa.Mem Go.Proofs.Ythkgmfgchgoafaa.CordG
attribute [local go_sem] Oper.semAt_some
/-- a net, or none, and its row -/
def NP (w : World) (po : Option Addr) (v : Value) (L : List Gr) : Prop :=
  Src w v L ∧ ((po = none ∧ v = .slice none 0 0) ∨ ∃ p, po = some ⟨p, 0, none⟩ ∧ Blk w p 69 #[v])
theorem NP.below {w w' : World} {po : Option Addr} {v : Value} {L : List Gr} (h : NP w po v L) (hb : Below w.heap.size w w') : NP w' po v L :=
  ⟨h.1.below hb, h.2.imp id fun ⟨p, e, h⟩ => ⟨p, e, h.below hb h.lt⟩⟩
theorem np_none (w : World) : NP w none (.slice none 0 0) [] := ⟨.inl ⟨rfl, rfl⟩, .inl ⟨rfl, rfl⟩⟩
theorem NP.own {w : World} {po : Option Addr} {v : Value} {L : List Gr} (h : NP w po v L) {b : Nat} (hb : w.heap.size ≤ b) : v.ownBlock ≠ some b := by
  rcases h.1 with ⟨rfl, _⟩ | ⟨g, c, cur, rfl, hg, _⟩
  · simp [Value.ownBlock]
  · intro e
    have e2 : g = b := by simpa [Value.ownBlock] using e
    have := hg.lt
    omega
theorem run_nilp (w : World) : (binOp .eql 24 (.pointer none) (.pointer none)).run Try.prog w = .ok (.bool true) w := by kernel_rfl
set_option maxRecDepth 100000 in
theorem list_any (po : Option Addr) (v : Value) (L : List Gr) (w : World) (h : NP w po v L) :
    Calls Try.prog 47 #[.pointer po] w fun e w' => e = .returned v ∧ w = w' := by
  have hn := run_nilp
  rcases h.2 with ⟨rfl, rfl⟩ | ⟨p, rfl, hp⟩
  · go_enter Try.func47, Try.ntmps47
    go_wp2
    go_ret
    exact ⟨rfl, rfl⟩
  · have p0 := hp.cell 0
    obtain ⟨a, c, rfl⟩ := h.1.shape
    go_enter Try.func47, Try.ntmps47
    go_wp2
    go_ret
    exact ⟨rfl, rfl⟩
/-- the iterator of a way -/
def WayRes (b : Nat) (v : Value) (L : List Gr) (c : Int) (u : Bool) (w : World) (e : Ending) (w' : World) : Prop :=
  ∃ B1 B2 B3 C U, e = .returned (.func (.func 68) #[] #[.pointer (some ⟨B2, 0, none⟩), .pointer (some ⟨B3, 0, none⟩)]) ∧ WB w' b B1 B2 B3 C U v L c u ∧ Below w.heap.size w w'
theorem hmakef : ∀ (fn : Fn) (first cap : Array Value) (w : World), (Instr.makeFunc fn first cap).run Try.prog w = .ok (.func fn first cap) w := fun _ _ _ _ => rfl
set_option maxRecDepth 100000 in
theorem sall_any (v : Value) (w : World) (a : Option Addr) (n c : Nat) (hv : v = .slice a n c) : Calls Try.prog 50 #[v] w fun e w' =>
    e = .returned (.func (.func 69) #[] #[.pointer (some ⟨w.heap.size, 0, none⟩)]) ∧ w' = w.alloc (.cells #[v] 67) := by
  subst hv
  have hmf := hmakef
  go_enter Try.func50, Try.ntmps50
  go_wp2
  go_ret
  exact ⟨rfl, rfl⟩
set_option maxRecDepth 100000 in
theorem only_any (f g : Value) (F G : Fn) (x y s t : Array Value) (w : World) (hf : f = .func F x y) (hg : g = .func G s t) : Calls Try.prog 49 #[f, g] w fun e w' =>
    e = .returned (.func (.func 68) #[] #[.pointer (some ⟨w.heap.size, 0, none⟩), .pointer (some ⟨w.heap.size + 1, 0, none⟩)]) ∧ w' = (w.alloc (.cells #[f] 73)).alloc (.cells #[g] 101) := by
  subst hf; subst hg
  have hmf := hmakef
  go_enter Try.func49, Try.ntmps49
  go_wp2
  go_ret
  exact ⟨by simp, rfl⟩
set_option maxRecDepth 100000 in
theorem way_any (b : Nat) (po : Option Addr) (v : Value) (L : List Gr) (c : Int) (u : Bool) (w : World) (h : NP w po v L) (hb : b < w.heap.size) (hvb : v.ownBlock ≠ some b) :
    Calls Try.prog 30 #[.pointer po, .int .i64 c, .bool u] w (WayRes b v L c u w) := by
  have hmf := hmakef
  have hb1 := ((Below.refl w.heap.size w).alloc (Nat.le_refl _) (.cells #[.int .i64 c] 3)).alloc (by simp) (.cells #[.bool u] 4)
  have hC := (Blk.new w 3 #[.int .i64 c]).alloc (.cells #[.bool u] 4)
  have hU := Blk.new (w.alloc (.cells #[.int .i64 c] 3)) 4 #[.bool u]
  rw [World.size_alloc] at hU
  have h1 := h.below hb1
  have hsz : ((w.alloc (.cells #[.int .i64 c] 3)).alloc (.cells #[.bool u] 4)).heap.size = w.heap.size + 1 + 1 := by simp
  obtain ⟨a, cv, rfl⟩ := h.1.shape
  have H1 := Lib.hid h1
  have HB1 := Lib.hid hb1
  have HC := Lib.hid hC
  have HU := Lib.hid hU
  have HZ := Lib.hid hsz
  clear h h1 hb1 hC hU hsz
  go_enter Try.func30, Try.ntmps30
  go_wp2_with fail
  generalize hGen : (w.alloc (.cells #[.int .i64 c] 3)).alloc (.cells #[.bool u] 4) = W1 at H1 HB1 HC HU HZ ⊢
  clear hGen
  refine (list_any po _ L W1 H1.out).mono ?_
  rintro e W2 ⟨rfl, rfl⟩
  go_wp2_with fail
  refine (sall_any _ W1 a _ cv rfl).mono ?_
  rintro e W2 ⟨rfl, rfl⟩
  go_wp2_with fail
  refine (only_any _ _ _ _ _ _ _ _ _ rfl rfl).mono ?_
  rintro e W3 ⟨rfl, hW3⟩
  have hb3 : Below W1.heap.size W1 W3 := by
    rw [hW3]
    exact (((Below.refl _ W1).alloc (Nat.le_refl _) _).alloc (by simp) _).alloc (by simp; omega) _
  have hn1 : Blk W3 W1.heap.size 67 #[.slice a L.length cv] := by
    rw [hW3]
    exact ((Blk.new W1 _ _).alloc _).alloc _
  have hn2 : Blk W3 (W1.heap.size + 1) 73 #[.func (.func 69) #[] #[.pointer (some ⟨W1.heap.size, 0, none⟩)]] := by
    rw [hW3]
    have := (Blk.new (W1.alloc (.cells #[.slice a L.length cv] 67)) 73 #[.func (.func 69) #[] #[.pointer (some ⟨W1.heap.size, 0, none⟩)]]).alloc (.cells #[.func (.func 51) #[] #[.pointer (some ⟨w.heap.size, 0, none⟩), .pointer (some ⟨w.heap.size + 1, 0, none⟩)]] 101)
    rw [World.size_alloc] at this
    exact this
  have hn3 : Blk W3 (W1.heap.size + 1 + 1) 101 #[.func (.func 51) #[] #[.pointer (some ⟨w.heap.size, 0, none⟩), .pointer (some ⟨w.heap.size + 1, 0, none⟩)]] := by
    rw [hW3]
    have := Blk.new ((W1.alloc (.cells #[.slice a L.length cv] 67)).alloc (.cells #[.func (.func 69) #[] #[.pointer (some ⟨W1.heap.size, 0, none⟩)]] 73)) 101 #[.func (.func 51) #[] #[.pointer (some ⟨w.heap.size, 0, none⟩), .pointer (some ⟨w.heap.size + 1, 0, none⟩)]]
    rw [World.size_alloc, World.size_alloc] at this
    exact this
  have FIN : Hid (WayRes b (.slice a L.length cv) L c u w (.returned (.func (.func 68) #[] #[.pointer (some ⟨W1.heap.size + 1, 0, none⟩), .pointer (some ⟨W1.heap.size + 1 + 1, 0, none⟩)])) W3) := by
    have hz := HZ.out
    exact Lib.hid ⟨W1.heap.size, W1.heap.size + 1, W1.heap.size + 1 + 1, w.heap.size, w.heap.size + 1, rfl,
      ⟨(H1.out.1.below hb3), hvb, hn1, hn2, hn3, HC.out.below hb3 HC.out.lt, HU.out.below hb3 HU.out.lt, by omega, by omega, by omega, by omega, by omega⟩, HB1.out.trans (hb3.mono HB1.out.size)⟩
  have hs : (W1.alloc (.cells #[.slice a L.length cv] 67)).heap.size = W1.heap.size + 1 := by simp
  clear hb3 hn1 hn2 hn3 hW3
  go_wp2
  go_ret
  simpa using FIN.out
theorem blk_grows {w w' : World} {row : Option Nat} {g : Nat} {T : TypeId} {cs : Array Value} (h : Blk w g T cs) (hg : w.grownBy w' row) (hr : ∀ r, row = some r → ∃ o : Obj, w.heap[r]? = some o ∧ o.isCells = false) : Blk w' g T cs :=
  h.grown hg (fun e => by
    obtain ⟨o, h1, h2⟩ := hr g e.symm
    unfold Blk at h
    rw [h] at h1; cases h1; cases h2)
set_option maxHeartbeats 2000000 in
set_option maxRecDepth 100000 in
theorem count_any (po : Option Addr) (v : Value) (L : List Gr) (c : Int) (u : Bool) (w : World) (h : NP w po v L) (hlen : L.length ≤ 1000000) :
    Calls Try.prog 14 #[.pointer po, .int .i64 c, .bool u] w fun e w' => e = .returned (.int .i64 (countL L c u : Int)) ∧ Below w.heap.size w w' := by
  have hB := Blk.new w 3 #[.int .i64 0]
  have hb := (Below.refl w.heap.size w).alloc (Nat.le_refl _) (.cells #[.int .i64 0] 3)
  have HWAY := Lib.hid (way_any w.heap.size po v L c u _ (h.below hb) hB.lt (h.own (Nat.le_refl _)))
  have HCL := Lib.hid (count_le L c u)
  have HLB := Lib.hid hB
  have HBB := Lib.hid hb
  clear h hB hb
  refine (callsIn_wide (n := 6)).1 ?_
  refine callsIn_of_wp_marks Try.func14 rfl trivial ?_ rfl
  refine wpIn_wide.2 ?_
  simp only [Try.ntmps14, List.size_toArray, List.length_cons, List.length_nil, Nat.reduceAdd, Nat.reduceSub, Array.replicate_succ, Array.replicate_zero, List.push_toArray, List.append_toArray, List.nil_append, List.cons_append]
  go_wp2_with fail
  generalize hGen : w.alloc (.cells #[.int .i64 0] 3) = W0 at HWAY HLB HBB ⊢
  clear hGen
  refine HWAY.out.mono ?_
  rintro e W1 ⟨B1, B2, B3, C, U, rfl, hw, b1⟩
  have HBW := Lib.hid (HLB.out.below b1 HLB.out.lt)
  have HBX := Lib.hid (HBB.out.trans (b1.mono HBB.out.size))
  have HW := Lib.hid hw
  clear HWAY HLB HBB hw b1
  go_wp2
  refine (wpIn_wide (n := 6)).1 ?_
  apply range_n (gf := 68) (lb := #[.pointer (some ⟨B2, 0, none⟩), .pointer (some ⟨B3, 0, none⟩)]) rfl (enters_of Try.func68 (by kernel_rfl) rfl)
    (only1_n w.heap.size B1 B2 B3 C U v L c u W1 HW.out HBW.out.lt hlen) (fun h k => keepN_t h k) (fun X l o o' h ho => keepN_b X l o o' h ho) (fun _ => rfl)
    (fun pre X => Blk X w.heap.size 3 #[.int .i64 (pre.length : Int)] ∧ Below w.heap.size w X)
    (fun _ _ _ => False)
    (fun pre A B row h hg hr => ⟨blk_grows h.1 hg (fun r e => (hr r e).2), h.2.grown hg h.2.size (fun k e => Nat.le_trans HBX.out.size (hr k e).1)⟩)
    (fun _ _ _ _ _ h _ _ => h)
    ⟨HBW.out, HBX.out⟩
  case hassign =>
    intro l x X K hK
    dsimp only [encX]
    gi_wp2
    exact hK
  case hbody =>
    rintro l pre x X ⟨hb, hB⟩ hlt
    have r0 := hb.cell 0
    have rf := hb.frozen 0
    have HA := Lib.hid (KeepsOthers.setCell X ⟨w.heap.size, 0, none⟩ (.int .i64 ((pre.length : Int) + 1)))
    have HC := Lib.hid (keepN_set (b := w.heap.size) X 0 (.int .i64 ((pre.length : Int) + 1)))
    have HD : Hid (Blk (X.setCell ⟨w.heap.size, 0, none⟩ (.int .i64 ((pre.length : Int) + 1))) w.heap.size 3 #[.int .i64 ((pre ++ [x]).length : Int)]) := Lib.hid (by
      have := hb.set_ 0 (.int .i64 ((pre.length : Int) + 1))
      rw [show ((pre ++ [x]).length : Int) = (pre.length : Int) + 1 by simp]
      simpa using this)
    have HE := Lib.hid (hB.setCell (p := ⟨w.heap.size, 0, none⟩) (Nat.le_refl _) (.int .i64 ((pre.length : Int) + 1)))
    have hwn : IntKind.i64.wrap ((pre.length : Int) + 1) = (pre.length : Int) + 1 := by rw [IntKind.wrap_i64]; omega
    clear hb hB
    gi_wp2
    exact ⟨HA.out, HC.out, HD.out, HE.out⟩
  case hdone =>
    rintro D ys X hD rfl ⟨hb, hB⟩ hK
    rw [way_len] at hb
    have r0 := hb.cell 0
    have HBF := Lib.hid (hB.trans (belowK_b (w := w) (Nat.le_refl _) X D _ (.deferred none) (Nat.le_trans HBX.out.size hD) hK rfl rfl))
    clear hb hB
    go_wp2
    refine ⟨by simp, .inl ⟨_, _, rfl, run_takeDeferred hK, ?_⟩⟩
    exact ⟨_, results_tmp rfl _ _ _, rfl, HBF.out⟩
  case hstop =>
    rintro D c' pre X hD hS h hK
    exact h.elim
theorem find_at {L : List Gr} {c : Int} {u : Bool} {at_ : Int} {pre q : List (Gr × Nat)} {x : Gr × Nat} (hp : pre <+: wayL L c u) (e : pre = q ++ [x]) (ha : at_ = (q.length : Int)) : findI L c u at_ = (x.2 : Int) := by
  obtain ⟨r, hr⟩ := hp
  have hx : findN L c u at_ = some x := by
    unfold findN
    rw [if_neg (by omega), ← hr, e, ha]
    simp
  unfold findI
  rw [hx]
theorem find_no {L : List Gr} {c : Int} {u : Bool} {at_ : Int} (h : ¬ (0 ≤ at_ ∧ at_ < ((wayL L c u).length : Int))) : findI L c u at_ = -1 := by
  have hx : findN L c u at_ = none := by rw [findN_none, ← way_len]; omega
  unfold findI
  rw [hx]
set_option maxHeartbeats 2000000 in
set_option maxRecDepth 100000 in
theorem find_any (po : Option Addr) (v : Value) (L : List Gr) (c : Int) (u : Bool) (at_ : Int) (w : World) (h : NP w po v L) (hlen : L.length ≤ 1000000) :
    Calls Try.prog 29 #[.pointer po, .int .i64 c, .bool u, .int .i64 at_] w fun e w' => e = .returned (.int .i64 (findI L c u at_)) ∧ Below w.heap.size w w' := by
  have hbb := (((Below.refl w.heap.size w).alloc (Nat.le_refl _) (.cells #[.int .i64 at_] 3)).alloc (by simp) (.cells #[.int .i64 0] 3)).alloc (by simp; omega) (.cells #[.int .i64 0] 3)
  have hA := ((Blk.new w 3 #[.int .i64 at_]).alloc (.cells #[.int .i64 0] 3)).alloc (.cells #[.int .i64 0] 3)
  have hR := (Blk.new (w.alloc (.cells #[.int .i64 at_] 3)) 3 #[.int .i64 0]).alloc (.cells #[.int .i64 0] 3)
  have hN := Blk.new ((w.alloc (.cells #[.int .i64 at_] 3)).alloc (.cells #[.int .i64 0] 3)) 3 #[.int .i64 0]
  rw [World.size_alloc] at hR
  rw [World.size_alloc, World.size_alloc] at hN
  have HWAY := Lib.hid (way_any (w.heap.size + 1 + 1) po v L c u _ (h.below hbb) hN.lt (h.own (by omega)))
  have HCL := Lib.hid (count_le L c u)
  have HA := Lib.hid hA
  have HR := Lib.hid hR
  have HN := Lib.hid hN
  have HBB := Lib.hid hbb
  have e1 : (w.alloc (.cells #[.int .i64 at_] 3)).heap.size = w.heap.size + 1 := by simp
  have e2 : ((w.alloc (.cells #[.int .i64 at_] 3)).alloc (.cells #[.int .i64 0] 3)).heap.size = w.heap.size + 1 + 1 := by simp
  clear h hbb hA hR hN
  refine (callsIn_wide (n := 6)).1 ?_
  refine callsIn_of_wp_marks Try.func29 rfl trivial ?_ rfl
  refine wpIn_wide.2 ?_
  simp only [Try.ntmps29, List.size_toArray, List.length_cons, List.length_nil, Nat.reduceAdd, Nat.reduceSub, Array.replicate_succ, Array.replicate_zero, List.push_toArray, List.append_toArray, List.nil_append, List.cons_append]
  go_wp2_with fail
  generalize hGen : ((w.alloc (.cells #[.int .i64 at_] 3)).alloc (.cells #[.int .i64 0] 3)).alloc (.cells #[.int .i64 0] 3) = W0 at HWAY HA HR HN HBB ⊢
  clear hGen
  try rw [e1]
  try rw [e2]
  clear e1 e2
  refine HWAY.out.mono ?_
  rintro e W1 ⟨B1, B2, B3, C, U, rfl, hw, b1⟩
  have HA1 := Lib.hid (HA.out.below b1 HA.out.lt)
  have HR1 := Lib.hid (HR.out.below b1 HR.out.lt)
  have HN1 := Lib.hid (HN.out.below b1 HN.out.lt)
  have HBX := Lib.hid (HBB.out.trans (b1.mono HBB.out.size))
  have HW := Lib.hid hw
  clear HWAY HA HR HN HBB hw b1
  have HNE : Hid (w.heap.size < w.heap.size + 1 ∧ w.heap.size + 1 < w.heap.size + 1 + 1) := Lib.hid ⟨by omega, by omega⟩
  go_wp2
  generalize w.heap.size + 1 + 1 = gN at HN1 HW HNE ⊢
  generalize w.heap.size + 1 = gR at HR1 HNE ⊢
  refine (wpIn_wide (n := 6)).1 ?_
  apply range_n (gf := 68) (lb := #[.pointer (some ⟨B2, 0, none⟩), .pointer (some ⟨B3, 0, none⟩)]) rfl (enters_of Try.func68 (by kernel_rfl) rfl)
    (only1_n gN B1 B2 B3 C U v L c u W1 HW.out HN1.out.lt hlen) (fun h k => keepN_t h k) (fun X l o o' h ho => keepN_b X l o o' h ho) (fun _ => rfl)
    (fun pre X => Blk X gN 3 #[.int .i64 (pre.length : Int)] ∧ Blk X gR 3 #[.int .i64 0] ∧ Blk X w.heap.size 3 #[.int .i64 at_] ∧ Below w.heap.size w X ∧ ¬ (0 ≤ at_ ∧ at_ < (pre.length : Int)))
    (fun c' pre X => c' = .ret ∧ (∃ q x, pre = q ++ [x] ∧ at_ = (q.length : Int) ∧ Blk X gR 3 #[.int .i64 (x.2 : Int)]) ∧ Below w.heap.size w X)
    (fun pre A B row h hg hr => ⟨blk_grows h.1 hg (fun r e => (hr r e).2), blk_grows h.2.1 hg (fun r e => (hr r e).2), blk_grows h.2.2.1 hg (fun r e => (hr r e).2), h.2.2.2.1.grown hg h.2.2.2.1.size (fun k e => Nat.le_trans HBX.out.size (hr k e).1), h.2.2.2.2⟩)
    (fun c' pre A B row h hg hr => by
      obtain ⟨h1, ⟨q, x, h2, h3, h4⟩, h5⟩ := h
      exact ⟨h1, ⟨q, x, h2, h3, blk_grows h4 hg (fun r e => (hr r e).2)⟩, h5.grown hg h5.size (fun k e => Nat.le_trans HBX.out.size (hr k e).1)⟩)
    ⟨HN1.out, HR1.out, HA1.out, HBX.out, by simp⟩
  case hassign =>
    intro l x X K hK
    dsimp only [encX]
    gi_wp2
    exact hK
  case hbody =>
    rintro l pre x X ⟨hb, hR, hA, hB, hno⟩ hlt
    have r0 := hb.cell 0
    have rf := hb.frozen 0
    have s0 := hR.cell 0
    have sf := hR.frozen 0
    have a0 := hA.cell 0
    have hne := HNE.out
    by_cases he : (pre.length : Int) = at_
    · have he2 : ((pre.length : Int) == at_) = true := by simp [he]
      have HKO := Lib.hid (KeepsOthers.setCell X ⟨gR, 0, none⟩ (.int .i64 (x.2 : Int)))
      have HD : Hid (Blk (X.setCell ⟨gR, 0, none⟩ (.int .i64 (x.2 : Int))) gR 3 #[.int .i64 (x.2 : Int)]) := Lib.hid (by simpa using hR.set_ 0 (.int .i64 (x.2 : Int)))
      have HE := Lib.hid (hB.setCell (p := ⟨gR, 0, none⟩) (by show w.heap.size ≤ gR; omega) (.int .i64 (x.2 : Int)))
      have HQ := Lib.hid he
      clear hb hR hA hB hno he hne
      gi_wp2
      exact ⟨HKO.out, rfl, ⟨pre, x, rfl, HQ.out.symm, HD.out⟩, HE.out⟩
    · have he2 : ((pre.length : Int) == at_) = false := by simp [he]
      have HKO := Lib.hid (KeepsOthers.setCell X ⟨gN, 0, none⟩ (.int .i64 ((pre.length : Int) + 1)))
      have HC := Lib.hid (keepN_set (b := gN) X 0 (.int .i64 ((pre.length : Int) + 1)))
      have HD : Hid (Blk (X.setCell ⟨gN, 0, none⟩ (.int .i64 ((pre.length : Int) + 1))) gN 3 #[.int .i64 ((pre ++ [x]).length : Int)]) := Lib.hid (by
        have := hb.set_ 0 (.int .i64 ((pre.length : Int) + 1))
        rw [show ((pre ++ [x]).length : Int) = (pre.length : Int) + 1 by simp]
        simpa using this)
      have HE := Lib.hid (hB.setCell (p := ⟨gN, 0, none⟩) (by show w.heap.size ≤ gN; omega) (.int .i64 ((pre.length : Int) + 1)))
      have HF := Lib.hid (hR.far (p := ⟨gN, 0, none⟩) (by show gR ≠ gN; omega) (.int .i64 ((pre.length : Int) + 1)))
      have HG := Lib.hid (hA.far (p := ⟨gN, 0, none⟩) (by show w.heap.size ≠ gN; omega) (.int .i64 ((pre.length : Int) + 1)))
      have HQ : Hid (¬ (0 ≤ at_ ∧ at_ < ((pre ++ [x]).length : Int))) := Lib.hid (by rw [show ((pre ++ [x]).length : Int) = (pre.length : Int) + 1 by simp]; omega)
      have hwn : IntKind.i64.wrap ((pre.length : Int) + 1) = (pre.length : Int) + 1 := by rw [IntKind.wrap_i64]; omega
      clear hb hR hA hB hno hne
      gi_wp2
      exact ⟨HKO.out, HC.out, HD.out, HF.out, HG.out, HE.out, HQ.out⟩
  case hdone =>
    rintro D ys X hD rfl ⟨hb, hR, hA, hB, hno⟩ hK
    have hfn := find_no hno
    have s0 := hR.cell 0
    have sf := hR.frozen 0
    have hK2 := (KeepsOthers.setCell X ⟨gR, 0, none⟩ (.int .i64 (-1))).same D _ hK rfl
    have hD2 := hR.set_ 0 (.int .i64 (-1))
    have hE2 := hB.setCell (p := ⟨gR, 0, none⟩) (by show w.heap.size ≤ gR; have := HNE.out; omega) (.int .i64 (-1))
    have HBF := Lib.hid (hE2.trans (belowK_b (w := w) (Nat.le_refl _) _ D _ (.deferred none) (Nat.le_trans HBX.out.size hD) hK2 rfl rfl))
    have hc5 := (blk_grows hD2 (grownBy_putObj' _ D (.deferred none)) (fun r e => by cases e; exact ⟨_, hK2, rfl⟩)).cell 0
    have HK2 := Lib.hid hK2
    have HC5 := Lib.hid hc5
    have HFN := Lib.hid hfn
    clear hb hR hA hB hno hK hfn hK2 hD2 hE2 hc5
    go_wp2
    refine ⟨by simp, .inl ⟨_, _, rfl, run_takeDeferred HK2.out, ?_⟩⟩
    have hc5 := HC5.out
    exact ⟨.int .i64 (-1), by simp [results, Try.results29, go_sem, hc5], by rw [HFN.out], HBF.out⟩
  case hstop =>
    rintro D c' pre X hD hS ⟨rfl, ⟨q, x, h2, h3, h4⟩, h5⟩ hK
    have hfn := find_at hS h2 h3
    have HBF := Lib.hid (h5.trans (belowK_b (w := w) (Nat.le_refl _) _ D _ (.deferred none) (Nat.le_trans HBX.out.size hD) hK rfl rfl))
    have hc5 := (blk_grows h4 (grownBy_putObj' _ D (.deferred none)) (fun r e => by cases e; exact ⟨_, hK, rfl⟩)).cell 0
    have HC5 := Lib.hid hc5
    have HFN := Lib.hid hfn
    clear hfn hc5 h2 h3 h4 h5
    gi_wp2
    refine ⟨by simp, .inl ⟨_, _, rfl, run_takeDeferred hK, ?_⟩⟩
    have hc5 := HC5.out
    exact ⟨.int .i64 (x.2 : Int), by simp [results, Try.results29, go_sem, hc5], by rw [HFN.out], HBF.out⟩
end Go.Proofs.Ythkgmfgchgoafaa.Mist
