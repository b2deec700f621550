/- The walk of the statement PurseExact. -/
import Derived.Test.YtoiakenepmbalaaPurseRowsWalk
import Derived.Test.YtoiakenepmbalaaPRefAsk
import Derived.Test.YtoiakenepmbalaaPRefTake
import Derived.Test.YtoiakenepmbalaaQuietRound
namespace Go.Proofs.Ytoiakenepmbalaa.Purse
set_option maxRecDepth 100000
open Go.RowKit Go.Shelf Go.Sort
open Go.Proofs.Ytoiakenepmbalaa.Mem
attribute [local go_sem] Oper.semAt_some
/-- the blocks that are none of the purse's -/
def NM (w0 : World) (gB gU xb u : Nat) (vu : Value) (k : Nat) : Prop := k < w0.heap.size ∨ k = gB ∨ k = gU ∨ k = xb ∨ k = u ∨ vu.ownBlock = some k
/-- the purse and the document's own, and the boxes -/
structure KE (w0 W : World) (p u gB gU xb : Nat) (vu : Value) (L Lu : List Due) : Prop where
  pq : PQ W p (NM w0 gB gU xb u vu) L
  ua : PRef.UA W u vu Lu
  bb : Blk W gB 4 #[.bool false]
  bu : Blk W gU 26 #[.pointer (some ⟨u, 0, none⟩)]
  bel : Below w0.heap.size w0 W
  g0 : w0.heap.size ≤ gB
  g1 : gB < u
  g2 : u < gU
section
variable {w0 W W' : World} {p u gB gU xb : Nat} {vu : Value} {L Lu L2 : List Due}
theorem KE.callR (h : KE w0 W p u gB gU xb vu L Lu) (r : PQ W' p (NM w0 gB gU xb u vu) L2) (k : Keep (NM w0 gB gU xb u vu) W W') : KE w0 W' p u gB gU xb vu L2 Lu :=
  ⟨r, h.ua.keep k (.inr (.inr (.inr (.inr (.inl rfl))))) (fun _ hg => .inr (.inr (.inr (.inr (.inr hg))))), k.blk h.bb (.inr (.inl rfl)), k.blk h.bu (.inr (.inr (.inl rfl))), h.bel.trans (k.below (fun _ hj => .inl hj)), h.g0, h.g1, h.g2⟩
theorem KE.callU (h : KE w0 W p u gB gU xb vu L Lu) (hl : PRef.Laid u W W' vu L2) : ∃ v2, KE w0 W' p u gB gU xb v2 L L2 := by
  obtain ⟨v2, ua, hv, k⟩ := hl
  have g0 := h.g0; have g1 := h.g1; have g2 := h.g2
  have hb := h.bb.lt
  have hu := h.bu.lt
  have hz := h.bel.size
  refine ⟨v2, h.pq.step k.size (fun j hj hn => k.block j ⟨hj, fun e => hn (.inr (.inr (.inr (.inr (.inl e)))))⟩) (fun j hj => ?_), ua, k.blk h.bb ⟨hb, by omega⟩, k.blk h.bu ⟨hu, by omega⟩, h.bel.trans (k.below (fun j hj => ⟨by omega, by omega⟩)), g0, g1, g2⟩
  rcases hj with hj | hj | hj | hj | hj | hj
  · exact .inl (.inl hj)
  · exact .inl (.inr (.inl hj))
  · exact .inl (.inr (.inr (.inl hj)))
  · exact .inl (.inr (.inr (.inr (.inl hj))))
  · exact .inl (.inr (.inr (.inr (.inr (.inl hj)))))
  · rcases hv with rfl | hv
    · exact .inl (.inr (.inr (.inr (.inr (.inr hj)))))
    · exact .inr ⟨hv j hj, own_lt ua.own hj⟩
theorem KE.below (h : KE w0 W p u gB gU xb vu L Lu) (hb : Below W.heap.size W W') : KE w0 W' p u gB gU xb vu L Lu :=
  ⟨h.pq.below hb, h.ua.below hb, h.bb.below hb h.bb.lt, h.bu.below hb h.bu.lt, h.bel.trans (hb.mono h.bel.size), h.g0, h.g1, h.g2⟩
theorem KE.box (h : KE w0 W p u gB gU gB vu L Lu) (o : Obj) : KE w0 (W.alloc o) p u gB gU W.heap.size vu L Lu := by
  have hb := (Below.refl W.heap.size W).alloc (Nat.le_refl _) o
  refine ⟨(h.pq.alloc o).mono (fun k hk => ?_), h.ua.below hb, h.bb.below hb h.bb.lt, h.bu.below hb h.bu.lt, h.bel.trans (hb.mono h.bel.size), h.g0, h.g1, h.g2⟩
  rcases hk with hj | hj | hj | hj | hj | hj
  · exact .inl (.inl hj)
  · exact .inl (.inr (.inl hj))
  · exact .inl (.inr (.inr (.inl hj)))
  · exact .inr hj
  · exact .inl (.inr (.inr (.inr (.inr (.inl hj)))))
  · exact .inl (.inr (.inr (.inr (.inr (.inr hj)))))
theorem KE.drop (h : KE w0 W p u gB gU xb vu L Lu) : KE w0 W p u gB gU gB vu L Lu :=
  ⟨h.pq.mono (fun k hk => by
    rcases hk with hj | hj | hj | hj | hj | hj
    · exact .inl hj
    · exact .inr (.inl hj)
    · exact .inr (.inr (.inl hj))
    · exact .inr (.inl hj)
    · exact .inr (.inr (.inr (.inr (.inl hj))))
    · exact .inr (.inr (.inr (.inr (.inr hj))))), h.ua, h.bb, h.bu, h.bel, h.g0, h.g1, h.g2⟩
end
/-- .. and the act that is at hand -/
structure Kb (w0 : World) (p u gB gU xb : Nat) (zk zw zn zr : Int) (L Lu : List Due) (W : World) : Prop where
  ke : ∃ vu, KE w0 W p u gB gU xb vu L Lu
  bx : Blk W xb 31 #[.int .i64 zk, .int .i64 zw, .int .i64 zn, .int .i64 zr]
  nx : xb ≠ u
section
variable {w0 W W' : World} {p u gB gU xb : Nat} {zk zw zn zr : Int} {L Lu : List Due}
theorem Kb.below (h : Kb w0 p u gB gU xb zk zw zn zr L Lu W) (hb : Below W.heap.size W W') : Kb w0 p u gB gU xb zk zw zn zr L Lu W' := by
  obtain ⟨⟨vu, h1⟩, h2, h3⟩ := h
  exact ⟨⟨vu, h1.below hb⟩, h2.below hb h2.lt, h3⟩
theorem Kb.cells (h : Kb w0 p u gB gU xb zk zw zn zr L Lu W) : W.cell? ⟨xb, 1, none⟩ = some (.int .i64 zw) ∧ W.cell? ⟨xb, 2, none⟩ = some (.int .i64 zn) ∧ W.cell? ⟨xb, 3, none⟩ = some (.int .i64 zr) ∧ W.cell? ⟨gU, 0, none⟩ = some (.pointer (some ⟨u, 0, none⟩)) := by
  obtain ⟨⟨vu, h1⟩, h2, h3⟩ := h
  exact ⟨h2.cell 1, h2.cell 2, h2.cell 3, h1.bu.cell 0⟩
theorem Kb.ask (h : Kb w0 p u gB gU xb zk zw zn zr L Lu W) (hn : L.length ≤ 999999) (hr : zr ≤ 9223372036854775807) :
    Calls Try.prog 9 #[.pointer (some ⟨p, 0, none⟩), .int .i64 zw, .int .i64 zn, .int .i64 zr] W fun e w' => e = .returned (.bool (askB L zn zr)) ∧ Kb w0 p u gB gU xb zk zw zn zr (askL L zw zn zr) Lu w' := by
  obtain ⟨⟨vu, h1⟩, h2, h3⟩ := h
  refine (ask_any p _ L zw zn zr W h1.pq hn hr).mono ?_
  rintro e w' ⟨rfl, r, k⟩
  exact ⟨rfl, ⟨vu, h1.callR r k⟩, k.blk h2 (.inr (.inr (.inr (.inl rfl)))), h3⟩
theorem Kb.take (h : Kb w0 p u gB gU xb zk zw zn zr L Lu W) (hn : L.length ≤ 999999) :
    Calls Try.prog 11 #[.pointer (some ⟨p, 0, none⟩), .int .i64 zw, .int .i64 zn] W fun e w' => e = .returned (.int .i64 (takeN L zw zn)) ∧ Kb w0 p u gB gU xb zk zw zn zr (takeL L zw zn) Lu w' := by
  obtain ⟨⟨vu, h1⟩, h2, h3⟩ := h
  refine (take_any p _ L zw zn W h1.pq (by omega)).mono ?_
  rintro e w' ⟨rfl, r, k⟩
  exact ⟨rfl, ⟨vu, h1.callR r k⟩, k.blk h2 (.inr (.inr (.inr (.inl rfl)))), h3⟩
theorem Kb.rask (h : Kb w0 p u gB gU xb zk zw zn zr L Lu W) (hw : wfL Lu) (hn : Lu.length ≤ 999999) (hr : zr ≤ 9223372036854775807) :
    Calls Try.prog 10 #[.pointer (some ⟨u, 0, none⟩), .int .i64 zw, .int .i64 zn, .int .i64 zr] W fun e w' => e = .returned (.bool (askB Lu zn zr)) ∧ Kb w0 p u gB gU xb zk zw zn zr L (askL Lu zw zn zr) w' := by
  obtain ⟨⟨vu, h1⟩, h2, h3⟩ := h
  refine (PRef.ask_any u vu Lu zw zn zr W h1.ua hw (by omega) hr).mono ?_
  rintro e w' ⟨rfl, hl⟩
  have hk : Keep (fun j => j < W.heap.size ∧ j ≠ u) W w' := by obtain ⟨_, _, _, k⟩ := hl; exact k
  exact ⟨rfl, h1.callU hl, hk.blk h2 ⟨h2.lt, h3⟩, h3⟩
theorem Kb.rtake (h : Kb w0 p u gB gU xb zk zw zn zr L Lu W) (hw : wfL Lu) (hn : Lu.length ≤ 999999) :
    Calls Try.prog 12 #[.pointer (some ⟨u, 0, none⟩), .int .i64 zw, .int .i64 zn] W fun e w' => e = .returned (.int .i64 (takeN Lu zw zn)) ∧ Kb w0 p u gB gU xb zk zw zn zr L (takeL Lu zw zn) w' := by
  obtain ⟨⟨vu, h1⟩, h2, h3⟩ := h
  refine (PRef.take_any u vu Lu zw zn W h1.ua hw (by omega)).mono ?_
  rintro e w' ⟨rfl, hl⟩
  have hk : Keep (fun j => j < W.heap.size ∧ j ≠ u) W w' := by obtain ⟨_, _, _, k⟩ := hl; exact k
  exact ⟨rfl, h1.callU hl, hk.blk h2 ⟨h2.lt, h3⟩, h3⟩
end
def Known (w0 : World) (p u gB gU m : Nat) (W : World) : Prop := ∃ L vu, KE w0 W p u gB gU gB vu L L ∧ L.length ≤ m
def Alike (L pre : List Due) : Prop := pre = L.take pre.length
theorem alike_step {L pre : List Due} {x t : Due} (ht : L[pre.length]? = some t) (hp : Alike L pre) : Alike L (pre ++ [x]) ↔ x = t := by
  unfold Alike at hp ⊢
  have : L.take (pre.length + 1) = L.take pre.length ++ [t] := by rw [List.take_add_one, ht]; rfl
  rw [List.length_append, List.length_singleton, this, ← hp]
  simp
set_option maxRecDepth 100000 in
set_option maxHeartbeats 8000000 in
theorem exact_walk (a : Option Addr) (n c : Nat) (zs : List Act) (w : World) (hI : Acts w a n zs) :
    Calls Try.prog 3 #[.slice a n c] w fun e w' => e = .returned (.bool true) ∧ Below w.heap.size w w' := by
  have HI := Lib.hid hI
  have hmq := run_func_nil
  clear hI
  refine (callsIn_wide (n := 6)).1 ?_
  refine callsIn_of_wp_marks Try.func3 rfl trivial ?_ rfl
  refine wpIn_wide.2 ?_
  simp only [Try.ntmps3, List.size_toArray, List.length_cons, List.length_nil, Nat.reduceAdd, Nat.reduceSub, Array.replicate_succ, Array.replicate_zero, List.push_toArray, List.append_toArray, List.nil_append, List.cons_append]
  have hB := Blk.new w 4 #[.bool false]
  have hb0 := (Below.refl w.heap.size w).alloc (Nat.le_refl _) (.cells #[.bool false] 4)
  go_wp2_with fail
  generalize hGen : w.alloc (.cells #[.bool false] 4) = W0 at hB hb0 ⊢
  clear hGen
  refine (awake_any W0).mono ?_
  rintro e w1 ⟨rfl, b1⟩
  have hB1 := hB.below b1 hB.lt
  have hb1 := hb0.trans (b1.mono hb0.size)
  clear hB hb0 b1
  go_wp2_with fail
  refine (new_any w1).mono ?_
  rintro e w2 ⟨rfl, r2, b2⟩
  have K0 : Hid (Known w w1.heap.size w2.heap.size w.heap.size (w2.heap.size + 1) 0 ((w2.alloc (.cells #[.slice none 0 0] 29)).alloc (.cells #[.pointer (some ⟨w2.heap.size, 0, none⟩)] 26))) := by
    have hB2 := hB1.below b2 hB1.lt
    have hs1 := hB1.lt
    have hs2 := b2.size
    have hw1 := hb1.size
    refine ⟨[], .slice none 0 0, ⟨((r2.alloc _).alloc _).mono (fun k hk => ?_), ⟨(Blk.new w2 _ _).alloc _, own_nil _ _ _ _, by simp [Value.ownBlock]⟩, (hB2.alloc _).alloc _, ?_, ((hb1.trans (b2.mono hb1.size)).alloc (Nat.le_trans hw1 hs2) _).alloc (by simp; omega) _, Nat.le_refl _, by omega, by omega⟩, Nat.le_refl _⟩
    · rcases hk with hj | hj | hj | hj | hj | hj
      · exact .inl (.inl (by omega))
      · exact .inl (.inl (by omega))
      · exact .inr (by simp; omega)
      · exact .inl (.inl (by omega))
      · exact .inl (.inr hj)
      · simp [Value.ownBlock] at hj
    · have := Blk.new (w2.alloc (.cells #[.slice none 0 0] 29)) 26 #[.pointer (some ⟨w2.heap.size, 0, none⟩)]
      simpa using this
  clear hB1 r2 b2 hb1
  generalize w1.heap.size = p at *
  go_wp2
  generalize hGen : (w2.alloc (.cells #[.slice none 0 0] 29)).alloc (.cells #[.pointer (some ⟨w2.heap.size, 0, none⟩)] 26) = W2 at K0 ⊢
  clear hGen
  have e1 : (w2.alloc (.cells #[.slice none 0 0] 29)).heap.size = w2.heap.size + 1 := by simp
  try rw [e1]
  clear e1
  generalize w2.heap.size + 1 = gU at K0 ⊢
  generalize w2.heap.size = u at K0 ⊢
  go_loopw [5] (fun i wr => ∃ k : Nat, k ≤ 200 ∧ k ≤ n ∧ i = .int .i64 (k : Int) ∧ Hid (Known w p u w.heap.size gU k wr)) (fun i _ => 200 - (intOf i).toNat)
  case atStart => exact ⟨0, Nat.zero_le _, Nat.zero_le _, rfl, K0⟩
  case round =>
    obtain ⟨m, hm, hmn, rfl, HK⟩ := hrel
    clear K0
    rcases (show (m < n ∧ m < 200) ∨ (m < n ∧ m = 200) ∨ m = n by omega) with ⟨hlt, hlt2⟩ | ⟨hlt, h⟩ | h
    · obtain ⟨L, vu, hK, hL⟩ := HK.out
      obtain ⟨bz, off, z, rfl, -, -, hx, hg⟩ := (HI.out.below hK.bel).at_ hlt
      obtain ⟨zk, zw, zn, zr⟩ := z
      obtain ⟨x0, x1, x2, x3⟩ := hx
      obtain ⟨-, -, -, -, -, -, -, g8⟩ := hg
      simp only at x0 x1 x2 x3 g8
      have HE := Lib.hid (hK.box (.cells #[.int .i64 zk, .int .i64 zw, .int .i64 zn, .int .i64 zr] 31))
      have HXB := Lib.hid (Blk.new wr 31 #[.int .i64 zk, .int .i64 zw, .int .i64 zn, .int .i64 zr])
      have HNE := Lib.hid (show wr.heap.size ≠ u from fun e => by have := hK.ua.blk.lt; omega)
      have HLO := Lib.hid hL
      have HWF := Lib.hid hK.pq.wf
      clear HK hK hL
      go_upto_region 9 with (fail)
      clear x0 x1 x2 x3
      generalize hGen : wr.alloc (.cells #[.int .i64 zk, .int .i64 zw, .int .i64 zn, .int .i64 zr] 31) = W at HE HXB ⊢
      clear hGen
      generalize wr.heap.size = xb at HE HXB HNE ⊢
      have HKB := Lib.hid (show Kb w p u w.heap.size gU xb zk zw zn zr L L W from ⟨⟨vu, HE.out⟩, HXB.out, HNE.out⟩)
      have x0 := HXB.out.cell 0
      clear HE HXB HNE
      by_cases k1 : zk = 1
      · as_aux_lemma =>
          subst k1
          have hn9 : L.length ≤ 999999 := by have := HLO.out; omega
          have HP1 : Hid (∀ W', Below W.heap.size W W' → Calls Try.prog 9 #[.pointer (some ⟨p, 0, none⟩), .int .i64 zw, .int .i64 zn, .int .i64 zr] W' fun e w' => e = .returned (.bool (askB L zn zr)) ∧ Kb w p u w.heap.size gU xb 1 zw zn zr (askL L zw zn zr) L w') := Lib.hid (fun W' hb => (HKB.out.below hb).ask hn9 g8)
          have HP2 : Hid (∀ W', Kb w p u w.heap.size gU xb 1 zw zn zr (askL L zw zn zr) L W' → Calls Try.prog 10 #[.pointer (some ⟨u, 0, none⟩), .int .i64 zw, .int .i64 zn, .int .i64 zr] W' fun e w' => e = .returned (.bool (askB L zn zr)) ∧ Kb w p u w.heap.size gU xb 1 zw zn zr (askL L zw zn zr) (askL L zw zn zr) w') := Lib.hid (fun W' h => h.rask HWF.out hn9 g8)
          have HL2 := Lib.hid (show (askL L zw zn zr).length ≤ m + 1 by have h7 := HLO.out; have h8 := ask_len L zw zn zr; omega)
          have HZ := Lib.hid HKB.out.cells
          generalize askB L zn zr = sb at HP1 HP2
          generalize askL L zw zn zr = L2 at HP1 HP2 HL2
          clear hn9 HKB HLO HWF
          go_upto_region 11 with (fail)
          clear x0
          go_region_held3 (fun w' => w'.cell? ⟨xb, 1, none⟩ = some (.int .i64 zw) ∧ w'.cell? ⟨xb, 2, none⟩ = some (.int .i64 zn) ∧ w'.cell? ⟨xb, 3, none⟩ = some (.int .i64 zr) ∧ w'.cell? ⟨gU, 0, none⟩ = some (.pointer (some ⟨u, 0, none⟩))) (first | assumption | exact HZ.out) (first
            | (go_at_call 9; (with_reducible refine (HP1.out _ ?_).mono ?_); (first | assumption | exact (Below.refl _ _).drew | exact Below.refl _ _); rintro e wW ⟨rfl, hkW⟩; have hz4 := hkW.cells)
            | (go_at_call 10; (with_reducible refine (HP2.out _ ?_).mono ?_); (first | assumption); rintro e wV ⟨rfl, hkV⟩; have hz5 := hkV.cells))
          all_goals
            have H5 := Lib.hid hkV
            clear hkW hz4 hz5 hkV HP1 HP2 HZ
            generalize wV = W5 at *
            obtain ⟨⟨v5, hE5⟩, -, -⟩ := H5.out
            have hwf5 := hE5.pq.wf
            have HE5 := Lib.hid hE5
            have HW5 := Lib.hid hwf5
            have hln5 : L2.length ≤ 1000000 := by have := HL2.out; omega
            have HLN5 := Lib.hid hln5
            have cR := fun (d : Nat) (os : Array Obj) => Calls.regrown_of (of_any p _ L2 zw (grow (redrawn W5 d) os) (HE5.out.pq.below (below_regrown W5 d os)) HLN5.out)
            have cU := fun (d : Nat) (os : Array Obj) => Calls.regrown_of ((PRef.of_any u v5 L2 zw (grow (redrawn W5 d) os) (HE5.out.ua.below (below_regrown W5 d os)) HW5.out.srt HLN5.out).mono (fun e w' h => ⟨h.1, h.2 ▸ Below.refl _ _⟩))
            have cS := fun (d : Nat) (os : Array Obj) => Calls.regrown_of ((sum_any p _ L2 (grow (redrawn W5 d) os) (HE5.out.pq.below (below_regrown W5 d os))).mono (fun e w' h => ⟨h.1, h.2 ▸ Below.refl _ _⟩))
            have cT := fun (d : Nat) (os : Array Obj) => Calls.regrown_of ((PRef.sum_any u v5 L2 (grow (redrawn W5 d) os) (HE5.out.ua.below (below_regrown W5 d os)) HW5.out HLN5.out).mono (fun e w' h => ⟨h.1, h.2 ▸ Below.refl _ _⟩))
            obtain ⟨y1, -, -, y4⟩ := H5.out.cells
            have q1 := cell_regrown y1
            have q4 := cell_regrown y4
            clear y1 y4 hE5 hwf5 hln5
            generalize ofL L2 zw = no at cR cU
            generalize total L2 = nt at cS cT
            go_upto_region 16 with (fail)
            refine wp_region_quiet_below (by kernel_rfl) (by kernel_rfl) ?_
            repeat (go_big_quiet_step (first | (with_reducible exact cR _ _) | (with_reducible exact cU _ _) | (with_reducible exact cS _ _) | (with_reducible exact cT _ _)))
            refine wpQuiet_nil ?_
            intro _ hw'
            obtain ⟨⟨dq, osq⟩, hw''⟩ := hw'
            subst hw''
            have b6 := below_regrown W5 dq osq
            generalize grow (redrawn W5 dq) osq = W6 at b6 ⊢
            have HN := Lib.hid (show Known w p u w.heap.size gU (m + 1) W6 from ⟨L2, v5, (HE5.out.below b6).drop, HL2.out⟩)
            clear cR cU cS cT q1 q4 b6 H5 HE5 HW5 HLN5 HL2
            go_wp2
            go_roundw
            case rel => exact ⟨m + 1, by omega, by omega, by go_num, HN⟩
            case measure => simp [intOf]; omega
      · by_cases k2 : zk = 2
        · as_aux_lemma =>
            subst k2
            have hn9 : L.length ≤ 999999 := by have := HLO.out; omega
            have HP1 : Hid (∀ W', Below W.heap.size W W' → Calls Try.prog 11 #[.pointer (some ⟨p, 0, none⟩), .int .i64 zw, .int .i64 zn] W' fun e w' => e = .returned (.int .i64 (takeN L zw zn)) ∧ Kb w p u w.heap.size gU xb 2 zw zn zr (takeL L zw zn) L w') := Lib.hid (fun W' hb => (HKB.out.below hb).take hn9)
            have HP2 : Hid (∀ W', Kb w p u w.heap.size gU xb 2 zw zn zr (takeL L zw zn) L W' → Calls Try.prog 12 #[.pointer (some ⟨u, 0, none⟩), .int .i64 zw, .int .i64 zn] W' fun e w' => e = .returned (.int .i64 (takeN L zw zn)) ∧ Kb w p u w.heap.size gU xb 2 zw zn zr (takeL L zw zn) (takeL L zw zn) w') := Lib.hid (fun W' h => h.rtake HWF.out hn9)
            have HL2 := Lib.hid (show (takeL L zw zn).length ≤ m + 1 by have h7 := HLO.out; have h8 := take_len L zw zn; omega)
            have HZ := Lib.hid HKB.out.cells
            generalize takeN L zw zn = sb at HP1 HP2
            generalize takeL L zw zn = L2 at HP1 HP2 HL2
            clear hn9 HKB HLO HWF
            go_upto_region 14 with (fail)
            clear x0
            go_region_held3 (fun w' => w'.cell? ⟨xb, 1, none⟩ = some (.int .i64 zw) ∧ w'.cell? ⟨xb, 2, none⟩ = some (.int .i64 zn) ∧ w'.cell? ⟨xb, 3, none⟩ = some (.int .i64 zr) ∧ w'.cell? ⟨gU, 0, none⟩ = some (.pointer (some ⟨u, 0, none⟩))) (first | assumption | exact HZ.out) (first
              | (go_at_call 11; (with_reducible refine (HP1.out _ ?_).mono ?_); (first | assumption | exact (Below.refl _ _).drew | exact Below.refl _ _); rintro e wW ⟨rfl, hkW⟩; have hz4 := hkW.cells)
              | (go_at_call 12; (with_reducible refine (HP2.out _ ?_).mono ?_); (first | assumption); rintro e wV ⟨rfl, hkV⟩; have hz5 := hkV.cells))
            all_goals
              have H5 := Lib.hid hkV
              clear hkW hz4 hz5 hkV HP1 HP2 HZ
              generalize wV = W5 at *
              obtain ⟨⟨v5, hE5⟩, -, -⟩ := H5.out
              have hwf5 := hE5.pq.wf
              have HE5 := Lib.hid hE5
              have HW5 := Lib.hid hwf5
              have hln5 : L2.length ≤ 1000000 := by have := HL2.out; omega
              have HLN5 := Lib.hid hln5
              have cR := fun (d : Nat) (os : Array Obj) => Calls.regrown_of (of_any p _ L2 zw (grow (redrawn W5 d) os) (HE5.out.pq.below (below_regrown W5 d os)) HLN5.out)
              have cU := fun (d : Nat) (os : Array Obj) => Calls.regrown_of ((PRef.of_any u v5 L2 zw (grow (redrawn W5 d) os) (HE5.out.ua.below (below_regrown W5 d os)) HW5.out.srt HLN5.out).mono (fun e w' h => ⟨h.1, h.2 ▸ Below.refl _ _⟩))
              have cS := fun (d : Nat) (os : Array Obj) => Calls.regrown_of ((sum_any p _ L2 (grow (redrawn W5 d) os) (HE5.out.pq.below (below_regrown W5 d os))).mono (fun e w' h => ⟨h.1, h.2 ▸ Below.refl _ _⟩))
              have cT := fun (d : Nat) (os : Array Obj) => Calls.regrown_of ((PRef.sum_any u v5 L2 (grow (redrawn W5 d) os) (HE5.out.ua.below (below_regrown W5 d os)) HW5.out HLN5.out).mono (fun e w' h => ⟨h.1, h.2 ▸ Below.refl _ _⟩))
              obtain ⟨y1, -, -, y4⟩ := H5.out.cells
              have q1 := cell_regrown y1
              have q4 := cell_regrown y4
              clear y1 y4 hE5 hwf5 hln5
              generalize ofL L2 zw = no at cR cU
              generalize total L2 = nt at cS cT
              go_upto_region 16 with (fail)
              refine wp_region_quiet_below (by kernel_rfl) (by kernel_rfl) ?_
              repeat (go_big_quiet_step (first | (with_reducible exact cR _ _) | (with_reducible exact cU _ _) | (with_reducible exact cS _ _) | (with_reducible exact cT _ _)))
              refine wpQuiet_nil ?_
              intro _ hw'
              obtain ⟨⟨dq, osq⟩, hw''⟩ := hw'
              subst hw''
              have b6 := below_regrown W5 dq osq
              generalize grow (redrawn W5 dq) osq = W6 at b6 ⊢
              have HN := Lib.hid (show Known w p u w.heap.size gU (m + 1) W6 from ⟨L2, v5, (HE5.out.below b6).drop, HL2.out⟩)
              clear cR cU cS cT q1 q4 b6 H5 HE5 HW5 HLN5 HL2
              go_wp2
              go_roundw
              case rel => exact ⟨m + 1, by omega, by omega, by go_num, HN⟩
              case measure => simp [intOf]; omega
        · as_aux_lemma =>
            have n1 : (zk == 1) = false := by rw [beq_eq_false_iff_ne]; exact k1
            have n2 : (zk == 2) = false := by rw [beq_eq_false_iff_ne]; exact k2
            have H5 := HKB
            have HL2 := Lib.hid (show L.length ≤ m + 1 by have := HLO.out; omega)
            clear k1 k2 HKB HLO HWF
            generalize hS2 : L = L2 at H5 HL2
            clear hS2
            generalize hW5 : W = W5 at H5 x0 ⊢
            clear hW5
            obtain ⟨⟨v5, hE5⟩, -, -⟩ := H5.out
            have hwf5 := hE5.pq.wf
            have HE5 := Lib.hid hE5
            have HW5 := Lib.hid hwf5
            have hln5 : L2.length ≤ 1000000 := by have := HL2.out; omega
            have HLN5 := Lib.hid hln5
            have cR := fun (d : Nat) (os : Array Obj) => Calls.regrown_of (of_any p _ L2 zw (grow (redrawn W5 d) os) (HE5.out.pq.below (below_regrown W5 d os)) HLN5.out)
            have cU := fun (d : Nat) (os : Array Obj) => Calls.regrown_of ((PRef.of_any u v5 L2 zw (grow (redrawn W5 d) os) (HE5.out.ua.below (below_regrown W5 d os)) HW5.out.srt HLN5.out).mono (fun e w' h => ⟨h.1, h.2 ▸ Below.refl _ _⟩))
            have cS := fun (d : Nat) (os : Array Obj) => Calls.regrown_of ((sum_any p _ L2 (grow (redrawn W5 d) os) (HE5.out.pq.below (below_regrown W5 d os))).mono (fun e w' h => ⟨h.1, h.2 ▸ Below.refl _ _⟩))
            have cT := fun (d : Nat) (os : Array Obj) => Calls.regrown_of ((PRef.sum_any u v5 L2 (grow (redrawn W5 d) os) (HE5.out.ua.below (below_regrown W5 d os)) HW5.out HLN5.out).mono (fun e w' h => ⟨h.1, h.2 ▸ Below.refl _ _⟩))
            obtain ⟨y1, -, -, y4⟩ := H5.out.cells
            have q1 := cell_regrown y1
            have q4 := cell_regrown y4
            clear y1 y4 hE5 hwf5 hln5
            generalize ofL L2 zw = no at cR cU
            generalize total L2 = nt at cS cT
            go_upto_region 16 with (fail)
            refine wp_region_quiet_below (by kernel_rfl) (by kernel_rfl) ?_
            repeat (go_big_quiet_step (first | (with_reducible exact cR _ _) | (with_reducible exact cU _ _) | (with_reducible exact cS _ _) | (with_reducible exact cT _ _)))
            refine wpQuiet_nil ?_
            intro _ hw'
            obtain ⟨⟨dq, osq⟩, hw''⟩ := hw'
            subst hw''
            have b6 := below_regrown W5 dq osq
            generalize grow (redrawn W5 dq) osq = W6 at b6 ⊢
            have HN := Lib.hid (show Known w p u w.heap.size gU (m + 1) W6 from ⟨L2, v5, (HE5.out.below b6).drop, HL2.out⟩)
            clear cR cU cS cT q1 q4 b6 H5 HE5 HW5 HLN5 HL2
            go_wp2
            go_roundw
            case rel => exact ⟨m + 1, by omega, by omega, by go_num, HN⟩
            case measure => simp [intOf]; omega
    all_goals
      first | (have h9 : ¬ m < n := by omega) | (have h9 : ¬ m < 200 := by omega)
      clear h
      obtain ⟨L, vu, hK, hL⟩ := HK.out
      have hlen : L.length ≤ 200 := by omega
      have HKE := Lib.hid hK
      clear HK hK hL
      go_wp2_with fail
      refine (all_any wr p).mono ?_
      rintro e w6 ⟨Bs, rfl, hBs, -, b6⟩
      have hk6 := HKE.out.below b6
      have HK6 := Lib.hid (hk6.below ((Below.refl _ _).alloc (Nat.le_refl _) (.cells #[.int .i64 0] 3)))
      have HN6 := Lib.hid (Blk.new w6 3 #[.int .i64 0])
      have HBS := Lib.hid (hBs.alloc (.cells #[.int .i64 0] 3))
      have HGV := Lib.hid (show ∀ g, vu.ownBlock = some g → g < w6.heap.size from fun g hg => own_lt hk6.ua.own hg)
      have HGB := Lib.hid hk6.bb.lt
      have HGU := Lib.hid hk6.bu.lt
      have HUU := Lib.hid hk6.ua.blk.lt
      clear hBs b6 HKE hk6
      go_wp2
      generalize hGen : w6.alloc (.cells #[.int .i64 0] 3) = V at HK6 HN6 HBS ⊢
      clear hGen
      generalize w6.heap.size = gN at HN6 HGV HGB HGU HUU ⊢
      have hVw := HK6.out.bel.size
      have hVN := HN6.out.lt
      have hg0 := HK6.out.g0
      refine (wpIn_wide (n := 6)).1 ?_
      apply wpIn_rangeFunc_ownF (F := Fence.wide) (n := 6) rfl (by omega) (gf := 22) (lb := #[.pointer (some ⟨Bs, 0, none⟩)]) rfl trivial (enters_of Try.func22 (by kernel_rfl) rfl)
        (all_stops 5 (by omega) Bs V.heap.size p _ L V HK6.out.pq (by omega) (Nat.le_refl _) (HBS.out.cell 0))
        (fun h k => keepC_t h k) (fun W l o o' _ h ho _ => keepC_b W l o o' h ho) (Below.refl _ _) (fun _ => rfl)
        (fun pre W => Blk W gN 3 #[.int .i64 (pre.length : Int)] ∧ Keep (fun k => k < V.heap.size ∧ k ≠ gN) V W ∧ Alike L pre)
        (fun c pre W => ¬ Alike L pre)
        (fun pre W W' row h hg hr => ⟨blk_grows h.1 hg (fun r e => (hr r e).2), h.2.1.grown hg (fun k hk => Nat.lt_of_lt_of_le hk.1 h.2.1.size) (fun k e hk => by have := (hr k e).1; have := hk.1; omega), h.2.2⟩)
        (fun c pre W W' row h hg hr => h)
        ⟨HN6.out, Keep.refl _ _, rfl⟩
      case hassign =>
        intro l x W K hK
        dsimp only [encT]
        gi_wp2
        exact hK
      case hbody =>
        rintro l pre x W ⟨hN, hK, hp⟩ hlt
        obtain ⟨t, ht⟩ : ∃ t, L[pre.length]? = some t := ⟨_, List.getElem?_eq_getElem hlt⟩
        have HST := Lib.hid (alike_step (x := x) ht hp)
        obtain ⟨g, cg, hv, hcg, -, hgl, d0, d1⟩ := HK6.out.ua.row ht
        subst hv
        have hgN : g ≠ gN := Nat.ne_of_lt (HGV.out g rfl)
        have d0 := (hK.cell (p := ⟨g, pre.length * 2, none⟩) ⟨hgl, hgN⟩).trans d0
        have d1 := (hK.cell (p := ⟨g, pre.length * 2 + 1, none⟩) ⟨hgl, hgN⟩).trans d1
        have u0 := (hK.cell (p := ⟨u, 0, none⟩) ⟨HK6.out.ua.blk.lt, Nat.ne_of_lt HUU.out⟩).trans (HK6.out.ua.blk.cell 0)
        have l0 := (hK.cell (p := ⟨gU, 0, none⟩) ⟨HK6.out.bu.lt, Nat.ne_of_lt HGU.out⟩).trans (HK6.out.bu.cell 0)
        have r0 := (hK.cell (p := ⟨w.heap.size, 0, none⟩) ⟨HK6.out.bb.lt, Nat.ne_of_lt HGB.out⟩).trans (HK6.out.bb.cell 0)
        have rf := (hK.frozen (p := ⟨w.heap.size, 0, none⟩) ⟨HK6.out.bb.lt, Nat.ne_of_lt HGB.out⟩).trans (HK6.out.bb.frozen 0)
        have n0 := hN.cell 0
        have nf := hN.frozen 0
        have hnl : ¬ (L.length : Int) ≤ (pre.length : Int) := by omega
        have hpl : pre.length ≤ 200 := by omega
        obtain ⟨xk, xn⟩ := x
        obtain ⟨tk, tn⟩ := t
        simp only [Prod.mk.injEq] at HST d0 d1
        have HN := Lib.hid hN
        have HK := Lib.hid hK
        clear hN hK hp ht
        by_cases hk : xk = tk
        · subst hk
          by_cases hv : xn = tn
          · subst hv
            gi_wp2
            refine region_quiet_r (by kernel_rfl) (by kernel_rfl) (by kernel_rfl) ?_
            repeat (quiet_step_in (fail))
            refine wpQuietIn_nil ?_
            rintro _ ⟨nq, rfl⟩
            have hbw : Below W.heap.size W (W.drewN nq) := below_draw (Below.refl _ _) nq
            have n0' : (W.drewN nq).cell? ⟨gN, 0, none⟩ = some (.int .i64 (pre.length : Int)) := n0
            have nf' : (W.drewN nq).frozen? ⟨gN, 0, none⟩ = false := nf
            have r0' : (W.drewN nq).cell? ⟨w.heap.size, 0, none⟩ = some (.bool false) := r0
            have rf' : (W.drewN nq).frozen? ⟨w.heap.size, 0, none⟩ = false := rf
            have HN3 : Hid (Blk (W.drewN nq) gN 3 #[.int .i64 (pre.length : Int)]) := HN
            have HK3 := Lib.hid (HK.out.drewN nq)
            clear n0 nf r0 rf d0 d1 u0 l0
            generalize hGen : W.drewN nq = W3 at hbw n0' nf' r0' rf' HN3 HK3 ⊢
            clear hGen
            have HNN : Hid (Blk (W3.setCell ⟨gN, 0, none⟩ (.int .i64 ((pre.length : Int) + 1))) gN 3 #[.int .i64 ((pre ++ [(xk, xn)]).length : Int)]) := by
              have := HN3.out.set_ 0 (.int .i64 ((pre.length : Int) + 1))
              rw [show ((pre ++ [(xk, xn)]).length : Int) = (pre.length : Int) + 1 by simp]
              exact Lib.hid (by simpa using this)
            have HKO := Lib.hid ((others_below hbw).trans (KeepsOthers.setCell W3 ⟨gN, 0, none⟩ (.int .i64 ((pre.length : Int) + 1))))
            have HKC := Lib.hid (keepC_t (keepC_below (B := V.heap.size) hbw) (keepC_set W3 hVN 0 (.int .i64 ((pre.length : Int) + 1))))
            clear hbw
            gi_wp2
            exact ⟨HKO.out, HKC.out, HNN.out, HK3.out.set_ (fun h => h.2 rfl) 0 _, HST.out.2 (by simp)⟩
          · have hkn : (tn == xn) = false := by rw [beq_eq_false_iff_ne]; exact fun e => hv e.symm
            have hkn2 : (tn != xn) = true := by simp only [bne, hkn]; rfl
            have HV := Lib.hid hv
            clear hv
            gi_wp2
            refine region_quiet_r (by kernel_rfl) (by kernel_rfl) (by kernel_rfl) ?_
            repeat (quiet_step_in (fail))
            refine wpQuietIn_nil ?_
            rintro _ ⟨nq, rfl⟩
            have hbw : Below W.heap.size W (W.drewN nq) := below_draw (Below.refl _ _) nq
            have n0' : (W.drewN nq).cell? ⟨gN, 0, none⟩ = some (.int .i64 (pre.length : Int)) := n0
            have nf' : (W.drewN nq).frozen? ⟨gN, 0, none⟩ = false := nf
            have r0' : (W.drewN nq).cell? ⟨w.heap.size, 0, none⟩ = some (.bool false) := r0
            have rf' : (W.drewN nq).frozen? ⟨w.heap.size, 0, none⟩ = false := rf
            have HN3 : Hid (Blk (W.drewN nq) gN 3 #[.int .i64 (pre.length : Int)]) := HN
            have HK3 := Lib.hid (HK.out.drewN nq)
            clear n0 nf r0 rf d0 d1 u0 l0
            generalize hGen : W.drewN nq = W3 at hbw n0' nf' r0' rf' HN3 HK3 ⊢
            clear hGen
            have HKR := Lib.hid ((others_below hbw).trans (KeepsOthers.setCell W3 ⟨w.heap.size, 0, none⟩ (.bool false)))
            clear hbw
            gi_wp2
            exact ⟨HKR.out, fun e => HV.out (HST.out.1 e).2⟩
        · have hkn : (tk == xk) = false := by rw [beq_eq_false_iff_ne]; exact fun e => hk e.symm
          have hkn2 : (tk != xk) = true := by simp only [bne, hkn]; rfl
          have HV := Lib.hid hk
          clear hk
          gi_wp2
          refine region_quiet_r (by kernel_rfl) (by kernel_rfl) (by kernel_rfl) ?_
          repeat (quiet_step_in (fail))
          refine wpQuietIn_nil ?_
          rintro _ ⟨nq, rfl⟩
          have hbw : Below W.heap.size W (W.drewN nq) := below_draw (Below.refl _ _) nq
          have n0' : (W.drewN nq).cell? ⟨gN, 0, none⟩ = some (.int .i64 (pre.length : Int)) := n0
          have nf' : (W.drewN nq).frozen? ⟨gN, 0, none⟩ = false := nf
          have r0' : (W.drewN nq).cell? ⟨w.heap.size, 0, none⟩ = some (.bool false) := r0
          have rf' : (W.drewN nq).frozen? ⟨w.heap.size, 0, none⟩ = false := rf
          have HN3 : Hid (Blk (W.drewN nq) gN 3 #[.int .i64 (pre.length : Int)]) := HN
          have HK3 := Lib.hid (HK.out.drewN nq)
          clear n0 nf r0 rf d0 d1 u0 l0
          generalize hGen : W.drewN nq = W3 at hbw n0' nf' r0' rf' HN3 HK3 ⊢
          clear hGen
          have HKR := Lib.hid ((others_below hbw).trans (KeepsOthers.setCell W3 ⟨w.heap.size, 0, none⟩ (.bool false)))
          clear hbw
          gi_wp2
          exact ⟨HKR.out, fun e => HV.out (HST.out.1 e).1⟩
      case hstop =>
        rintro D c pre W hD ⟨q, hq, rfl⟩ hx hK
        refine (hx ?_).elim
        unfold Alike
        rw [List.length_take, Nat.min_eq_left hq]
      case hdone =>
        rintro D ys W hD rfl ⟨hN, hK2, hS⟩ hK
        have hwD : w.heap.size ≤ D := Nat.le_trans hVw hD
        obtain ⟨av, cv, hve⟩ := own_shape HK6.out.ua.own
        subst hve
        have u0 := (hK2.cell (p := ⟨u, 0, none⟩) ⟨HK6.out.ua.blk.lt, Nat.ne_of_lt HUU.out⟩).trans (HK6.out.ua.blk.cell 0)
        have l0 := (hK2.cell (p := ⟨gU, 0, none⟩) ⟨HK6.out.bu.lt, Nat.ne_of_lt HGU.out⟩).trans (HK6.out.bu.cell 0)
        have r0 := (hK2.cell (p := ⟨w.heap.size, 0, none⟩) ⟨HK6.out.bb.lt, Nat.ne_of_lt HGB.out⟩).trans (HK6.out.bb.cell 0)
        have rf := (hK2.frozen (p := ⟨w.heap.size, 0, none⟩) ⟨HK6.out.bb.lt, Nat.ne_of_lt HGB.out⟩).trans (HK6.out.bb.frozen 0)
        have n0 := hN.cell 0
        have BX := Lib.hid (HK6.out.bel.trans (hK2.below (B := w.heap.size) (fun k hk => ⟨Nat.lt_of_lt_of_le hk hVw, by have := HGB.out; omega⟩)))
        have HKX := Lib.hid hK
        clear hN hK2 hS hK
        go_upto_region 28 with (fail)
        go_still_tail 7, (by kernel_rfl)
        change wpList _ _ _ _ _ W.drew
        have hkW : Below W.heap.size W W.drew := (Below.refl _ _).drew
        have hz5 : W.drew.cell? ⟨w.heap.size, 0, none⟩ = some (.bool false) := r0
        have hz6 : W.drew.frozen? ⟨w.heap.size, 0, none⟩ = false := rf
        clear u0 l0 r0 rf n0
        generalize hGen : W.drew = wW at hkW hz5 hz6 ⊢
        clear hGen
        have hKW := (hkW.block D (Array.getElem?_eq_some_iff.1 HKX.out).1).trans HKX.out
        have hKa := (KeepsOthers.setCell wW ⟨w.heap.size, 0, none⟩ (.bool true)).same D _ hKW rfl
        have hc0 : (wW.setCell ⟨w.heap.size, 0, none⟩ (.bool true)).cell? ⟨w.heap.size, 0, none⟩ = some (.bool true) := World.cell?_setCell_same _ _ _ hz5
        have hc1 := cell_kept hc0 (grownBy_putObj' _ D (.deferred none)) (fun r e => by cases e; exact ⟨_, hKa, rfl⟩)
        have hbf := ((BX.out.trans (hkW.mono BX.out.size)).setCell (p := ⟨w.heap.size, 0, none⟩) (Nat.le_refl _) (.bool true)).trans (belowK_b (w := w) (Nat.le_refl _) _ D _ (.deferred none) hwD hKa rfl rfl)
        have HKA := Lib.hid hKa
        have HC1 := Lib.hid hc1
        have HBF := Lib.hid hbf
        clear hKW hKa hc0 hc1 hbf hkW
        go_wp2
        refine ⟨by simp, .inl ⟨_, _, rfl, run_takeDeferred HKA.out, ?_⟩⟩
        have hc5 := HC1.out
        exact ⟨.bool true, by simp [results, Try.results3, go_sem, hc5], rfl, HBF.out⟩
end Go.Proofs.Ytoiakenepmbalaa.Purse
