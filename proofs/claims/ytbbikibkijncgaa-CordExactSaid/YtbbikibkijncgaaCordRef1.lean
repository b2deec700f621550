/- The document's own end in memory: New, Send, Out. -/
import Derived.Test.YtbbikibkijncgaaCordRef0
namespace Go.Proofs.Ytbbikibkijncgaa.Cord
set_option maxRecDepth 100000
open Go.RowKit
open Go.Proofs.Ytbbikibkijncgaa.Mem
structure UA (w : World) (u m : Nat) (v1 v4 : Value) (E : List Tx) (e : CE) : Prop where
  blk : Blk w u 36 #[.int .i64 e.ep, v1, .int .i64 e.given, .int .i64 e.got, v4, .bool e.due]
  r1 : w.ownsRow 0 68 2 v1 e.op.length (txsV (numE e))
  r4 : w.ownsRow 0 68 2 v4 E.length (txsV E)
  n1 : v1.ownBlock ≠ some u
  n4 : v4.ownBlock ≠ some u
  d : ∀ g, v1.ownBlock = some g → v4.ownBlock ≠ some g
  wf : e.wf
  ea : Early E e.f
  lenE : E.length ≤ m
  giv : e.given ≤ m
  gotn : e.got ≤ 32 * m
def UFoot (u : Nat) (v1 v4 : Value) (k : Nat) : Prop := k = u ∨ v1.ownBlock = some k ∨ v4.ownBlock = some k
section
variable {w w' : World} {u m : Nat} {v1 v4 : Value} {E : List Tx} {e : CE}
theorem UA.same (h : UA w u m v1 v4 E e) (hb : ∀ k, k < w.heap.size → UFoot u v1 v4 k → w'.heap[k]? = w.heap[k]?) : UA w' u m v1 v4 E e :=
  ⟨(hb u h.blk.lt (.inl rfl)).trans h.blk, own_same h.r1 fun g hg => hb g (own_lt h.r1 hg) (.inr (.inl hg)), own_same h.r4 fun g hg => hb g (own_lt h.r4 hg) (.inr (.inr hg)), h.n1, h.n4, h.d, h.wf, h.ea, h.lenE, h.giv, h.gotn⟩
theorem UA.lt (h : UA w u m v1 v4 E e) : ∀ k, UFoot u v1 v4 k → k < w.heap.size := by
  rintro k (rfl | hk | hk)
  · exact h.blk.lt
  · exact own_lt h.r1 hk
  · exact own_lt h.r4 hk
theorem UA.at_ (h : UA w u m v1 v4 E e) : w.cell? ⟨u, 0, none⟩ = some (.int .i64 e.ep) ∧ w.cell? ⟨u, 1, none⟩ = some v1 ∧ w.cell? ⟨u, 2, none⟩ = some (.int .i64 e.given) ∧ w.cell? ⟨u, 3, none⟩ = some (.int .i64 e.got) ∧ w.cell? ⟨u, 4, none⟩ = some v4 ∧ w.cell? ⟨u, 5, none⟩ = some (.bool e.due) :=
  ⟨h.blk.cell 0, h.blk.cell 1, h.blk.cell 2, h.blk.cell 3, h.blk.cell 4, h.blk.cell 5⟩
theorem UA.fr (h : UA w u m v1 v4 E e) : w.frozen? ⟨u, 1, none⟩ = false ∧ w.frozen? ⟨u, 2, none⟩ = false ∧ w.frozen? ⟨u, 3, none⟩ = false ∧ w.frozen? ⟨u, 4, none⟩ = false ∧ w.frozen? ⟨u, 5, none⟩ = false := ⟨h.blk.frozen 1, h.blk.frozen 2, h.blk.frozen 3, h.blk.frozen 4, h.blk.frozen 5⟩
theorem UA.more (h : UA w u m v1 v4 E e) {n : Nat} (hn : m ≤ n) : UA w u n v1 v4 E e := ⟨h.blk, h.r1, h.r4, h.n1, h.n4, h.d, h.wf, h.ea, Nat.le_trans h.lenE hn, Nat.le_trans h.giv hn, Nat.le_trans h.gotn (Nat.mul_le_mul_left 32 hn)⟩
end
/-- .. all its blocks among F -/
def UQ (w : World) (u m : Nat) (F : Nat → Prop) (e : CE) : Prop := ∃ v1 v4 E, UA w u m v1 v4 E e ∧ (∀ k, UFoot u v1 v4 k → F k) ∧ ∀ k, F k → k < w.heap.size
section
variable {w w' : World} {u m : Nat} {F G : Nat → Prop} {e : CE}
theorem UQ.lt (h : UQ w u m F e) : ∀ k, F k → k < w.heap.size := by obtain ⟨_, _, _, _, _, h⟩ := h; exact h
theorem UQ.mono (h : UQ w u m F e) {n : Nat} (hn : m ≤ n) : UQ w u n F e := by obtain ⟨v1, v4, E, h, h2⟩ := h; exact ⟨v1, v4, E, h.more hn, h2⟩
theorem UQ.touch (h : UQ w u m F e) (ht : Touch G w w') (hd : ∀ k, F k → ¬ G k) : UQ w' u m F e := by
  obtain ⟨v1, v4, E, h, h2, h3⟩ := h
  exact ⟨v1, v4, E, h.same fun k hk hf => ht.block hk (hd k (h2 k hf)), h2, fun k hk => Nat.lt_of_lt_of_le (h3 k hk) ht.size⟩
theorem UQ.below (h : UQ w u m F e) (hb : Below w.heap.size w w') : UQ w' u m F e := h.touch (G := fun _ => False) (Touch.of_below hb) fun _ _ x => x
end
/-- what a call on it leaves -/
def UDid (F : Nat → Prop) (w w' : World) (u m : Nat) (e : CE) : Prop := (∃ F', UQ w' u m F' e ∧ ∀ k, F' k → F k ∨ w.heap.size ≤ k) ∧ Touch F w w'
theorem unew_none (ep : Int) (w : World) (h : ¬ (1 ≤ ep ∧ ep ≤ 1073741824)) :
    Calls Try.prog 10 #[.int .i64 ep] w fun r w' => r = .returned (.pointer none) ∧ w = w' := by
  by_cases h1 : ep < 1
  · go_enter Try.func10, Try.ntmps10
    go_wp2
    go_ret
    exact ⟨rfl, rfl⟩
  · have h2 : 1073741824 < ep := by omega
    go_enter Try.func10, Try.ntmps10
    go_wp2
    go_ret
    exact ⟨rfl, rfl⟩
theorem unew_any (ep : Int) (w : World) (h1 : 1 ≤ ep) (h2 : ep ≤ 1073741824) :
    Calls Try.prog 10 #[.int .i64 ep] w fun r w' => ∃ u, r = .returned (.pointer (some ⟨u, 0, none⟩)) ∧ UQ w' u 0 (fun k => w.heap.size ≤ k ∧ k < w'.heap.size) (newE ep) ∧ Below w.heap.size w w' := by
  have H1 : ¬ ep < 1 := by omega
  have H2 : ¬ 1073741824 < ep := by omega
  go_enter Try.func10, Try.ntmps10
  go_wp2
  go_ret
  refine ⟨w.heap.size, rfl, ⟨.slice none 0 0, .slice none 0 0, [], ⟨Blk.new w _ _, own_nil _ _ _ _, own_nil _ _ _ _, by simp [Value.ownBlock], by simp [Value.ownBlock], fun g hg => by simp [Value.ownBlock] at hg, wf_new h1 h2, fun n => rfl, Nat.le_refl _, Nat.le_refl _, Nat.le_refl _⟩, ?_, fun k hk => hk.2⟩, below_box _ _⟩
  rintro k (rfl | hk | hk)
  · simp
  · simp [Value.ownBlock] at hk
  · simp [Value.ownBlock] at hk
/-- append of a numbered text as a step of a drawn region that began in world wr -/
theorem step_appU {ops : Array Oper} {o : Oper} {a : Act} {w wr : World} {K : Act → World → Prop} {Q : Exit → Act → World → Prop} {E : Prop} (hg : o.guard = none) (s x : Operand)
    (hop : o.op = .call { callee := .builtin .append, args := #[s, x], argTypes := #[34, 34] })
    (v : Value) (L : List Tx) (hs : a.eval s = v) (vb : Nat) (y : Tx) (hx : a.eval x = .slice (some ⟨vb, 0, none⟩) 1 1) (hP : Below wr.heap.size wr w ∧ Blk w vb 68 #[.int .i64 y.1, .string y.2])
    (hown : wr.ownsRow 0 68 2 v L.length (txsV L)) (hn : L.length ≤ 30000)
    (hK : ∀ v' w', Below wr.heap.size wr w → w'.ownsRow 0 68 2 v' (L ++ [y]).length (txsV (L ++ [y])) → w.grownBy w' v.ownBlock → (v'.ownBlock = v.ownBlock ∨ v'.ownBlock = some w.heap.size) → K (a.put o.dst v') w') :
    if Region.wanted o (yielded ops a.tmps) = true then Oper.wp Try.prog o a w K Q else E :=
  step_appT hg s x hop 0 v L hs (own_same hown fun g hg => hP.1.block g (own_lt hown hg)) vb y hx hP.2 hn (Nat.zero_le _) fun v' w' h1 h2 h3 => hK v' w' hP.1 h1 h2 h3
theorem num_len (e : CE) : (numE e).length = e.op.length := numF_len _ _
theorem num_send (e : CE) (s : ByteArray) : numE { e with op := e.op ++ [s] } = numE e ++ [((e.given : Int) + 1, s)] := by
  unfold numE
  rw [numF_app]
  rw [show (e.ack : Int) + 1 + (e.op.length : Int) = (e.given : Int) + 1 by unfold CE.given; omega]
set_option maxRecDepth 100000 in
set_option maxHeartbeats 4000000 in
theorem usend_any (u m : Nat) (F : Nat → Prop) (e : CE) (s : ByteArray) (w : World) (h : UQ w u m F e) (hm : m ≤ 29000) :
    Calls Try.prog 12 #[.pointer (some ⟨u, 0, none⟩), .string s] w fun r w' => r = .returned (.int .i64 (sendX e s)) ∧ UDid F w w' u (m + 1) (sendE e s) := by
  have hsame : UDid F w w u (m + 1) e := ⟨⟨F, h.mono (by omega), fun k hk => .inl hk⟩, Touch.refl _ _⟩
  obtain ⟨v1, v4, E, h, hF, hl⟩ := h
  obtain ⟨_, c1, c2, _⟩ := h.at_
  obtain ⟨f1, f2, _⟩ := h.fr
  obtain ⟨a, c, rfl⟩ := own_shape h.r1
  rcases sendX_is e s with ⟨h1, hx, he⟩ | ⟨h1, h2, hx, he⟩ | ⟨h1, h2, hx, he⟩
  · rw [hx, he]
    have h1i : (16384 : Int) < (s.size : Int) := by omega
    have HS := Lib.hid hsame
    clear h hF hl hsame hx he
    go_enter Try.func12, Try.ntmps12
    go_wp2
    go_ret
    exact ⟨rfl, HS.out⟩
  · rw [hx, he]
    have h1i : ¬ (16384 : Int) < (s.size : Int) := by omega
    have h2i : (32 : Int) ≤ (e.op.length : Int) := by omega
    have HS := Lib.hid hsame
    clear h hF hl hsame hx he
    generalize e.op.length = k at *
    go_enter Try.func12, Try.ntmps12
    go_wp2
    go_ret
    exact ⟨rfl, HS.out⟩
  · rw [hx, he]
    have h1i : ¬ (16384 : Int) < (s.size : Int) := by omega
    have h2i : ¬ (32 : Int) ≤ (e.op.length : Int) := by omega
    have hgv := h.giv
    have hw1 : IntKind.i64.wrap ((e.given : Int) + 1) = (e.given : Int) + 1 := by rw [IntKind.wrap_i64]; omega
    have H := Lib.hid h
    have hT1 : Touch F w (w.setCell ⟨u, 2, none⟩ (.int .i64 ((e.given : Int) + 1))) := (Touch.refl F w).set_ (.inl (hF u (.inl rfl))) 2 _
    have hb1 := h.blk.set_ 2 (.int .i64 ((e.given : Int) + 1))
    have ho1 : (w.setCell ⟨u, 2, none⟩ (.int .i64 ((e.given : Int) + 1))).ownsRow 0 68 2 (.slice a e.op.length c) (numE e).length (txsV (numE e)) := by rw [num_len]; exact own_set h.r1 h.n1 _ _
    have ho4 : (w.setCell ⟨u, 2, none⟩ (.int .i64 ((e.given : Int) + 1))).ownsRow 0 68 2 v4 E.length (txsV E) := own_set h.r4 h.n4 _ _
    have hsz : (w.setCell ⟨u, 2, none⟩ (.int .i64 ((e.given : Int) + 1))).heap.size = w.heap.size := by simp
    have hnl : (numE e).length ≤ 30000 := by rw [num_len]; omega
    clear hsame hx he
    go_enter Try.func12, Try.ntmps12
    go_upto_region 8 with (fail)
    generalize hGen : w.setCell ⟨u, 2, none⟩ (.int .i64 ((e.given : Int) + 1)) = W at hT1 hb1 ho1 ho4 hsz ⊢
    clear hGen
    have FIN : Hid (∀ W2 v5 w5, Below W.heap.size W W2 → w5.ownsRow 0 68 2 v5 (numE e ++ [((e.given : Int) + 1, s)]).length (txsV (numE e ++ [((e.given : Int) + 1, s)])) → W2.grownBy w5 (Value.slice a e.op.length c).ownBlock → (v5.ownBlock = (Value.slice a e.op.length c).ownBlock ∨ v5.ownBlock = some W2.heap.size) →
        (∃ a n c, v5 = .slice a n c) ∧ w5.cell? ⟨u, 1, none⟩ = some (.slice a e.op.length c) ∧ w5.frozen? ⟨u, 1, none⟩ = false ∧ UDid F w (w5.setCell ⟨u, 1, none⟩ v5) u (m + 1) { e with op := e.op ++ [s] }) := Lib.hid fun W2 v5 w5 hb ho hg hv => by
      have hs2 := hb.size
      have hB2 := hb1.below hb hb1.lt
      have hB5 := hB2.grown hg (fun x => H.out.n1 x.symm)
      have hT5 : Touch F w w5 := (hT1.trans (Touch.of_below (F := F) hb) (fun k hk => .inl hk)).grown hg (fun k hk => .inl (hF k (.inr (.inl hk))))
      have hn5 : v5.ownBlock ≠ some u := by
        rcases hv with e1 | e1 <;> rw [e1]
        · exact H.out.n1
        · intro x; injection x with x; have := hB2.lt; omega
      have hd5 : ∀ g, v4.ownBlock = some g → g < w.heap.size := fun g hg => own_lt H.out.r4 hg
      have ho45 : w5.ownsRow 0 68 2 v4 E.length (txsV E) := own_same (own_same ho4 fun g hg4 => hb.block g (own_lt ho4 hg4)) fun g hg4 => hg.block g (by have := own_lt ho4 hg4; omega) (fun x => H.out.d g x.symm hg4)
      obtain ⟨a5, c5, e5⟩ := own_shape ho
      refine ⟨⟨a5, _, c5, e5⟩, hB5.cell 1, hB5.frozen 1, ⟨fun k => F k ∨ UFoot u v5 v4 k, ⟨v5, v4, E, ⟨?_, ?_, own_set ho45 H.out.n4 _ _, hn5, H.out.n4, ?_, ⟨H.out.wf.win, by simp; omega, H.out.wf.e1, H.out.wf.e2⟩, H.out.ea, Nat.le_succ_of_le H.out.lenE, ?_, Nat.le_trans H.out.gotn (by omega)⟩, fun k hk => .inr hk, ?_⟩, ?_⟩, hT5.set_ (.inl (hF u (.inl rfl))) 1 _⟩
      · have h9 := hB5.set_ 1 v5
        have e9 : (({ e with op := e.op ++ [s] } : CE).given : Int) = (e.given : Int) + 1 := by unfold CE.given; simp; omega
        rw [e9]
        simpa using h9
      · have h9 := own_set ho hn5 1 v5
        rw [List.length_append, num_len] at h9
        rw [num_send]
        simpa using h9
      · intro g hg5 hg4
        rcases hv with e1 | e1
        · exact H.out.d g (e1.symm.trans hg5) hg4
        · rw [e1] at hg5; injection hg5 with hg5; have := hd5 g hg4; omega
      · unfold CE.given at hgv ⊢; simp; omega
      · rintro k (hk | rfl | hk | hk)
        · exact Nat.lt_of_lt_of_le (hl k hk) (by simpa using hT5.size)
        · simpa using hB5.lt
        · simpa using own_lt ho hk
        · simpa using own_lt ho45 hk
      · rintro k (hk | rfl | hk | hk)
        · exact .inl hk
        · exact .inl (hF k (.inl rfl))
        · rcases hv with e1 | e1
          · exact .inl (hF k (.inr (.inl (e1.symm.trans hk))))
          · rw [e1] at hk; injection hk with hk; exact .inr (by omega)
        · exact .inl (hF k (.inr (.inr hk)))
    have d1 : W.cell? ⟨u, 1, none⟩ = some (.slice a e.op.length c) := hb1.cell 1
    have d2 : W.cell? ⟨u, 2, none⟩ = some (.int .i64 ((e.given : Int) + 1)) := hb1.cell 2
    have d6 : (W.alloc (.cells #[.int .i64 ((e.given : Int) + 1), .string s] 68)).cell? ⟨u, 1, none⟩ = some (.slice a e.op.length c) := ((below_box W _).cell (p := ⟨u, 1, none⟩) hb1.lt).trans d1
    have d7 : (W.alloc (.cells #[.int .i64 ((e.given : Int) + 1), .string s] 68)).drew.cell? ⟨u, 1, none⟩ = some (.slice a e.op.length c) := d6
    have HO := Lib.hid ho1
    have HNL := Lib.hid hnl
    clear h c1 c2 f1 f2 hb1 ho1 ho4 hT1 H hF hl hnl hsz
    go_wp2_with fail
    go_region_law (refine step_appU (wr := W) rfl (.tmp 27) (.tmp 34) rfl (.slice a e.op.length c) (numE e) (by simp [Act.eval]) W.heap.size ((e.given : Int) + 1, s) (by simp [Act.eval]) ?hp HO.out HNL.out ?_; (case hp => first | exact ⟨(below_box W _).drew, Blk.new W _ _⟩ | exact ⟨below_box W _, Blk.new W _ _⟩); intro v5 w5 hb5 ho5 hg5 hv5; have HE := Lib.hid (FIN.out _ v5 w5 hb5 ho5 hg5 hv5); obtain ⟨a5, n5, c5, e5⟩ := HE.out.1; subst e5; have k5 := HE.out.2.1; have f5 := HE.out.2.2.1; clear hb5 ho5 hg5 hv5)
    all_goals
      clear FIN HO HNL d6 d7
      go_wp2_with fail
      go_ret
      exact ⟨rfl, HE.out.2.2.2⟩
end Go.Proofs.Ytbbikibkijncgaa.Cord
