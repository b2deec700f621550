/- Take of the document's own end: what its steps leave; a datagram that is refused. -/
import Derived.Test.YtbbikibkijncgaaCordRef2
namespace Go.Proofs.Ytbbikibkijncgaa.Cord
set_option maxRecDepth 100000
open Go.RowKit
open Go.Proofs.Ytbbikibkijncgaa.Mem
theorem own_base {w : World} {B n size : Nat} {t : TypeId} {v : Value} {xs : List Value} (h : w.ownsRow B t size v n xs) : w.ownsRow 0 t size v n xs := by
  obtain ⟨o1, o2 | ⟨g7, c7, cu7, ev, hg7, o2⟩⟩ := h
  · exact ⟨o1, .inl o2⟩
  · exact ⟨o1, .inr ⟨g7, c7, cu7, ev, Nat.zero_le _, o2⟩⟩
/-- .. while its texts are told: got stands at gt -/
structure UL (w : World) (u : Nat) (v1 v4 : Value) (E : List Tx) (e : CE) (gt : Nat) : Prop where
  blk : Blk w u 36 #[.int .i64 e.ep, v1, .int .i64 e.given, .int .i64 gt, v4, .bool e.due]
  r1 : w.ownsRow 0 68 2 v1 e.op.length (txsV (numE e))
  r4 : w.ownsRow 0 68 2 v4 E.length (txsV E)
  n1 : v1.ownBlock ≠ some u
  n4 : v4.ownBlock ≠ some u
  d : ∀ g, v1.ownBlock = some g → v4.ownBlock ≠ some g
section
variable {w w2 w' : World} {u m : Nat} {v1 v4 v5 : Value} {E : List Tx} {e e' : CE} {gt : Nat}
theorem UA.ul (h : UA w u m v1 v4 E e) : UL w u v1 v4 E e e.got := ⟨h.blk, h.r1, h.r4, h.n1, h.n4, h.d⟩
theorem UL.lt (h : UL w u v1 v4 E e gt) : ∀ k, UFoot u v1 v4 k → k < w.heap.size := by
  rintro k (rfl | hk | hk)
  · exact h.blk.lt
  · exact own_lt h.r1 hk
  · exact own_lt h.r4 hk
theorem UL.same (h : UL w u v1 v4 E e gt) (hb : ∀ k, k < w.heap.size → UFoot u v1 v4 k → w'.heap[k]? = w.heap[k]?) : UL w' u v1 v4 E e gt :=
  ⟨(hb u h.blk.lt (.inl rfl)).trans h.blk, own_same h.r1 fun g hg => hb g (own_lt h.r1 hg) (.inr (.inl hg)), own_same h.r4 fun g hg => hb g (own_lt h.r4 hg) (.inr (.inr hg)), h.n1, h.n4, h.d⟩
theorem UL.below (h : UL w u v1 v4 E e gt) (hb : Below w.heap.size w w') : UL w' u v1 v4 E e gt := h.same fun k hk _ => hb.block k hk
theorem UL.set3 (h : UL w u v1 v4 E e gt) (k : Nat) : UL (w.setCell ⟨u, 3, none⟩ (.int .i64 k)) u v1 v4 E e k :=
  ⟨by simpa using h.blk.set_ 3 (.int .i64 k), own_set h.r1 h.n1 _ _, own_set h.r4 h.n4 _ _, h.n1, h.n4, h.d⟩
theorem UL.at_ (h : UL w u v1 v4 E e gt) : w.cell? ⟨u, 3, none⟩ = some (.int .i64 gt) ∧ w.cell? ⟨u, 4, none⟩ = some v4 ∧ w.frozen? ⟨u, 3, none⟩ = false ∧ w.frozen? ⟨u, 4, none⟩ = false := ⟨h.blk.cell 3, h.blk.cell 4, h.blk.frozen 3, h.blk.frozen 4⟩
/-- the texts behind an acknowledgement -/
theorem UA.lay1 (h : UA w u m v1 v4 E e) (k : Nat) (hk : k ≤ e.given) (hb : Below w.heap.size w w2) (ho : w2.ownsRow w.heap.size 68 2 v5 (aboveL (numE e) k).length (txsV (aboveL (numE e) k))) :
    UA (w2.setCell ⟨u, 1, none⟩ v5) u m v5 v4 E (settleE e k) ∧ (∀ j, UFoot u v5 v4 j → UFoot u v1 v4 j ∨ w.heap.size ≤ j) := by
  rw [above_num, num_len] at ho
  obtain ⟨s1, s2, s3, s4⟩ : (settleE e k).got = e.got ∧ (settleE e k).f = e.f ∧ (settleE e k).due = e.due ∧ (settleE e k).ep = e.ep := by unfold settleE; split <;> exact ⟨rfl, rfl, rfl, rfl⟩
  have s5 : (settleE e k).given = e.given := by unfold CE.given at hk ⊢; unfold settleE; split <;> simp; omega
  have hn : v5.ownBlock ≠ some u := fun x => by have := own_ge ho u x; have := h.blk.lt; omega
  refine ⟨⟨?_, own_set (own_base ho) hn _ _, own_set (own_same h.r4 fun g hg => hb.block g (own_lt h.r4 hg)) h.n4 _ _, hn, h.n4, fun g hg hg4 => ?_, wf_settle h.wf k, by rw [s2]; exact h.ea, h.lenE, by rw [s5]; exact h.giv, by rw [s1]; exact h.gotn⟩, ?_⟩
  · rw [s1, s3, s4, s5]; simpa using (h.blk.below hb h.blk.lt).set_ 1 v5
  · have := own_ge ho g hg; have := own_lt h.r4 hg4; omega
  · rintro j (rfl | hj | hj)
    · exact .inl (.inl rfl)
    · exact .inr (own_ge ho j hj)
    · exact .inl (.inr (.inr hj))
/-- the early texts behind what was told -/
theorem UL.lay4 (h : UL w u v1 v4 E e (e.got + (told e).length)) (hea : Early E e.f) (hw : e.wf) (hE : E.length ≤ m + 1) (hgv : e.given ≤ m) (hgt : e.got ≤ 32 * m) (hb : Below w.heap.size w w2) (ho : w2.ownsRow w.heap.size 68 2 v5 (aboveL E ((e.got + (told e).length : Nat) : Int)).length (txsV (aboveL E ((e.got + (told e).length : Nat) : Int)))) :
    UA (w2.setCell ⟨u, 4, none⟩ v5) u (m + 1) v1 v5 (aboveL E ((e.got + (told e).length : Nat) : Int)) (tellE e) ∧ (∀ j, UFoot u v1 v5 j → UFoot u v1 v4 j ∨ w.heap.size ≤ j) := by
  have hn : v5.ownBlock ≠ some u := fun x => by have := own_ge ho u x; have := h.blk.lt; omega
  have h32 := told_le hw
  refine ⟨⟨?_, own_set (own_same h.r1 fun g hg => hb.block g (own_lt h.r1 hg)) h.n1 _ _, own_set (own_base ho) hn _ _, h.n1, hn, fun g hg hg5 => ?_, wf_step hw _, hea.tell _, Nat.le_trans (above_len _ _) hE, Nat.le_succ_of_le hgv, ?_⟩, ?_⟩
  · simpa [tellE, stepE, CE.given] using (h.blk.below hb h.blk.lt).set_ 4 v5
  · have := own_ge ho g hg5; have := own_lt h.r1 hg; omega
  · show e.got + (told e).length ≤ _; omega
  · rintro j (rfl | hj | hj)
    · exact .inl (.inl rfl)
    · exact .inl (.inr (.inl hj))
    · exact .inr (own_ge ho j hj)
/-- a text that came ahead of its turn -/
theorem UL.app4 (h : UL w u v1 v4 E e e.got) (hb : Below w.heap.size w w2) {x : Nat} {s : ByteArray} {w5 : World} (ho : w5.ownsRow 0 68 2 v5 (E ++ [((x : Int), s)]).length (txsV (E ++ [((x : Int), s)]))) (hg : w2.grownBy w5 v4.ownBlock) (hv : v5.ownBlock = v4.ownBlock ∨ v5.ownBlock = some w2.heap.size)
    {f : Nat → Option ByteArray} : w5.cell? ⟨u, 4, none⟩ = some v4 ∧ w5.frozen? ⟨u, 4, none⟩ = false ∧ UL (w5.setCell ⟨u, 4, none⟩ v5) u v1 v5 (E ++ [((x : Int), s)]) { e with f := f } e.got ∧ (∀ j, UFoot u v1 v5 j → UFoot u v1 v4 j ∨ w.heap.size ≤ j) ∧ Touch (fun k => UFoot u v1 v4 k) w (w5.setCell ⟨u, 4, none⟩ v5) := by
  have hs2 := hb.size
  have hB2 := h.blk.below hb h.blk.lt
  have hB5 := hB2.grown hg (fun x => h.n4 x.symm)
  have hn5 : v5.ownBlock ≠ some u := by
    rcases hv with e1 | e1 <;> rw [e1]
    · exact h.n4
    · intro x; injection x with x; have := hB2.lt; omega
  have ho15 : w5.ownsRow 0 68 2 v1 e.op.length (txsV (numE e)) := own_same (own_same h.r1 fun g hg1 => hb.block g (own_lt h.r1 hg1)) fun g hg1 => hg.block g (by have := own_lt h.r1 hg1; omega) (fun x => h.d g hg1 x.symm)
  refine ⟨hB5.cell 4, hB5.frozen 4, ⟨by simpa [CE.given] using hB5.set_ 4 v5, own_set ho15 h.n1 _ _, own_set ho hn5 _ _, h.n1, hn5, fun g hg1 hg5 => ?_⟩, ?_, ((Touch.of_below hb).grown hg (fun k hk => .inl (.inr (.inr hk)))).set_ (.inl (.inl rfl)) 4 _⟩
  · rcases hv with e1 | e1
    · exact h.d g hg1 (e1.symm.trans hg5)
    · rw [e1] at hg5; injection hg5 with hg5; have := own_lt h.r1 hg1; omega
  · rintro j (rfl | hj | hj)
    · exact .inl (.inl rfl)
    · exact .inl (.inr (.inl hj))
    · rcases hv with e1 | e1
      · exact .inl (.inr (.inr (e1.symm.trans hj)))
      · rw [e1] at hj; injection hj with hj; exact .inr (by omega)
end
def UTakeRes (u m : Nat) (F : Nat → Prop) (e : CE) (g : Gm) (w : World) (r : Ending) (w' : World) : Prop :=
  ∃ v, r = .returned (.tuple #[v, .int .i64 (checkX e g)]) ∧ w'.ownsRow w.heap.size 9 1 v (takeL e g).length (strsV (takeL e g)) ∧ UDid F w w' u (m + 1) (takeE e g)
/-- in the order of the document's own Take -/
theorem ucases (e : CE) (g : Gm) :
    (g.ep ≠ e.ep ∧ checkX e g = 23) ∨ (g.ep = e.ep ∧ g.sq < 0 ∧ checkX e g = 4) ∨ (g.ep = e.ep ∧ ¬ g.sq < 0 ∧ g.ak < 0 ∧ checkX e g = 4) ∨ (g.ep = e.ep ∧ ¬ g.sq < 0 ∧ ¬ g.ak < 0 ∧ (e.given : Int) < g.ak ∧ checkX e g = 4) ∨
    (g.ep = e.ep ∧ ¬ g.sq < 0 ∧ ¬ g.ak < 0 ∧ ¬ (e.given : Int) < g.ak ∧ (e.got : Int) + 32 < g.sq ∧ checkX e g = 4) ∨
    (g.ep = e.ep ∧ g.sq = 0 ∧ ¬ g.ak < 0 ∧ ¬ (e.given : Int) < g.ak ∧ ¬ (e.got : Int) + 32 < g.sq ∧ g.bd.size ≠ 0 ∧ checkX e g = 4) ∨
    (g.ep = e.ep ∧ ¬ g.sq < 0 ∧ g.sq ≠ 0 ∧ ¬ g.ak < 0 ∧ ¬ (e.given : Int) < g.ak ∧ ¬ (e.got : Int) + 32 < g.sq ∧ 16384 < g.bd.size ∧ checkX e g = 5) ∨ checkX e g = 0 := by
  rcases check_cases e g with ⟨h, h9⟩ | ⟨h, h1, h9⟩ | ⟨h, h1, h2, h9⟩ | ⟨h, h1, h2, h3, h9⟩ | ⟨h, h1, h2, h3, h4, h9⟩ | ⟨h, h1, h2, h3, h4, h9⟩ | ⟨h, h1, h2, h3, h4, h5, h9⟩ | ⟨_, _, _, _, _, h9⟩ | ⟨_, _, _, _, _, _, h9⟩
  · exact .inl ⟨h, h9⟩
  · exact .inr (.inl ⟨h, h1, h9⟩)
  · by_cases a1 : g.ak < 0
    · exact .inr (.inr (.inl ⟨h, by omega, a1, h9⟩))
    · by_cases a2 : (e.given : Int) < g.ak
      · exact .inr (.inr (.inr (.inl ⟨h, by omega, a1, a2, h9⟩)))
      · exact .inr (.inr (.inr (.inr (.inl ⟨h, by omega, a1, a2, h2, h9⟩))))
  · exact .inr (.inr (.inl ⟨h, by omega, h3, h9⟩))
  · exact .inr (.inr (.inr (.inl ⟨h, by omega, by omega, h4, h9⟩)))
  · exact .inr (.inr (.inr (.inr (.inr (.inl ⟨h, h1, by omega, by omega, by omega, h4, h9⟩)))))
  · exact .inr (.inr (.inr (.inr (.inr (.inr (.inl ⟨h, by omega, by omega, by omega, by omega, by omega, h5, h9⟩))))))
  · exact .inr (.inr (.inr (.inr (.inr (.inr (.inr h9))))))
  · exact .inr (.inr (.inr (.inr (.inr (.inr (.inr h9))))))
set_option maxRecDepth 100000 in
set_option maxHeartbeats 4000000 in
theorem utake_err (u m : Nat) (F : Nat → Prop) (e : CE) (g : Gm) (w : World) (h : UQ w u m F e) (hm : m ≤ 29000) (hx : checkX e g ≠ 0) :
    Calls Try.prog 18 #[.pointer (some ⟨u, 0, none⟩), .agg (gmV g)] w (UTakeRes u m F e g w) := by
  have FIN : Hid (∀ w', Below w.heap.size w w' → UTakeRes u m F e g w (.returned (.tuple #[.slice none 0 0, .int .i64 (checkX e g)])) w') := Lib.hid fun w' hb =>
    ⟨_, rfl, by unfold takeL; rw [if_pos hx]; exact own_nil _ _ _ _, ⟨F, by unfold takeE; rw [if_pos hx]; exact (h.below hb).mono (by omega), fun k hk => .inl hk⟩, Touch.of_below hb⟩
  have hck := ucases e g
  obtain ⟨v1, v4, E, h, _⟩ := h
  have hgv := h.giv
  have hgn := h.gotn
  have hwg : IntKind.i64.wrap ((e.got : Int) + 32) = (e.got : Int) + 32 := by rw [IntKind.wrap_i64]; omega
  have hb := below_box w (.cells (gmV g) 29)
  have hM := Blk.new w 29 (gmV g)
  obtain ⟨c0, _, c2, c3, _⟩ := (h.same (w' := w.alloc (.cells (gmV g) 29)) fun k hk _ => hb.block k hk).at_
  clear h
  generalize UTakeRes u m F e g w = RES at *
  obtain ⟨cl, up, gep, sq, ak, bd⟩ := g
  unfold gmV at *
  dsimp only at *
  generalize checkX e ⟨cl, up, gep, sq, ak, bd⟩ = r at *
  generalize e.given = gv at *
  generalize e.got = got at *
  generalize e.ep = ep at *
  go_enter Try.func18, Try.ntmps18
  go_upto_region 3 with (fail)
  generalize hGen : w.alloc (.cells #[.int .i64 cl, .bool up, .int .i64 gep, .int .i64 sq, .int .i64 ak, .string bd] 29) = W at c0 c2 c3 hM hb ⊢
  clear hGen
  have m2 : W.cell? ⟨w.heap.size, 2, none⟩ = some (.int .i64 gep) := hM.cell 2
  have m3 : W.cell? ⟨w.heap.size, 3, none⟩ = some (.int .i64 sq) := hM.cell 3
  have m4 : W.cell? ⟨w.heap.size, 4, none⟩ = some (.int .i64 ak) := hM.cell 4
  have m5 : W.cell? ⟨w.heap.size, 5, none⟩ = some (.string bd) := hM.cell 5
  have HB := Lib.hid hb
  clear hM hb
  rcases hck with ⟨h1, rfl⟩ | ⟨rfl, h2, rfl⟩ | ⟨rfl, h2, h3, rfl⟩ | ⟨rfl, h2, h3, h4, rfl⟩ | ⟨rfl, h2, h3, h4, h5, rfl⟩ | ⟨rfl, rfl, h3, h4, h5, h6, rfl⟩ | ⟨rfl, h2, h6, h3, h4, h5, h7, rfl⟩ | h9
  · have n1 : (gep == ep) = false := by rw [beq_eq_false_iff_ne]; exact h1
    go_wp2_with fail
    go_quiet (fail)
    have HE := Lib.hid (FIN.out _ (below_drewN HB.out nq))
    clear FIN HB
    go_wp2
    exact HE.out
  all_goals try (exact absurd h9 hx)
  all_goals
    (try (have h6n : (sq == 0) = false := by rw [beq_eq_false_iff_ne]; omega))
    (try (have h2d : decide (sq < 0) = false := decide_eq_false h2))
    (try (have h3d : decide (ak < 0) = false := decide_eq_false h3))
    (try (have h4d : decide ((gv : Int) < ak) = false := decide_eq_false h4))
    (try (have h5d : decide ((got : Int) + 32 < sq) = false := decide_eq_false h5))
    (try (have h9n : bd.toList.isEmpty = false := full_str (by omega)))
    go_wp2_with fail
    go_quiet (fail)
    go_wp2_with fail
    go_quiet (fail)
    go_wp2
    first | exact FIN.out _ (below_drewN HB.out _) | exact FIN.out _ (below_drewN (below_drewN HB.out _) _)
end Go.Proofs.Ytbbikibkijncgaa.Cord
