/- rising at a table: who is in the way, what a client holds, where it waits. -/
import Derived.Test.YthodggkpkjfggaaKeyHold
namespace Go.Proofs.Ythodggkpkjfggaa.Key
set_option maxRecDepth 100000
open Go.RowKit
open Go.Proofs.Ythodggkpkjfggaa.Mem
open Go.Maps
theorem own_base {w : World} {b b' n size : Nat} {t : TypeId} {v : Value} {xs : List Value} (h : w.ownsRow b t size v n xs) (hb : b' ≤ b) : w.ownsRow b' t size v n xs := by
  obtain ⟨hl, h0 | ⟨g, cap, cur, rfl, hg, h1⟩⟩ := h
  · exact ⟨hl, .inl h0⟩
  · exact ⟨hl, .inr ⟨g, cap, cur, rfl, by omega, h1⟩⟩
theorem RiseRes.base {pr : Int → Bool} {lo : Int} {n : Nat} {w W w' : World} {e : Ending} (h : RiseRes pr lo n W e w') (hb : Below w.heap.size w W) : RiseRes pr lo n w e w' := by
  obtain ⟨v, rfl, h1, h2⟩ := h
  exact ⟨v, rfl, own_base h1 hb.size, hb.trans (h2.mono hb.size)⟩
theorem inB_imp {S : KS} {G : Gh} {x : Int} {r : Rq} {c : Int} (h : inB S x r c = true) : imF G S x c ≠ none := by
  unfold inB at h
  unfold imF
  cases hl : S.L x c with
  | none => rw [hl] at h; cases h
  | some l => simp
/-- rising over a page's locks, at a request -/
theorem rise_page {w : World} {p : Nat} {M : Nat → Prop} {G : Gh} {S : KS} (h : TM w p M G S) (x : Int) (r : Rq) {mo : Option Nat} (hm : mo = (if G.inn x = true then some (G.bl x) else none)) (C : Nat) (hC : Blk w C 65 (rv r)) :
    Calls Try.prog 46 #[.map mo, .func (.func 56) #[] #[.pointer (some ⟨C, 0, none⟩)]] w (RiseRes (inB S x r) 1 8 w) := by
  cases hi : G.inn x with
  | false =>
    rw [hi, if_neg (by simp)] at hm
    subst hm
    have e : inB S x r = fun _ => false := by
      funext c
      unfold inB
      cases e : S.L x c with
      | none => rfl
      | some l => have := h.io x c (by rw [e]; simp); rw [hi] at this; cases this
    rw [e]
    exact riseB_nil 1 8 _ w ⟨_, _, _, rfl⟩
  | true =>
    rw [hi, if_pos rfl] at hm
    subst hm
    refine riseB_any (G.bl x) 1 8 (imF G S x) (inB S x r) C w (h.im x hi) (by omega) (fun c => inB_imp) fun W c v hb hv => ?_
    unfold imF at hv
    cases hl : S.L x c with
    | none => rw [hl] at hv; cases hv
    | some l =>
      rw [hl] at hv
      injection hv with hv
      subst hv
      have e : inB S x r c = barsB r c l := by unfold inB; rw [hl]
      rw [e]
      exact bars1_any r c l C (G.pl x c) W (hC.below hb hC.lt) ((h.lk x c l hl).below hb (h.lk x c l hl).lt)
set_option maxRecDepth 100000 in
set_option maxHeartbeats 4000000 in
theorem inWay_any (p : Nat) (M : Nat → Prop) (G : Gh) (S : KS) (x : Int) (r : Rq) (w : World) (h : TM w p M G S) (hx : Sm x) :
    Calls Try.prog 30 #[.pointer (some ⟨p, 0, none⟩), .int .i64 x, .agg #[.int .i64 r.cl, .int .i64 r.wants]] w (RiseRes (inB S x r) 1 8 w) := by
  have hb := below_box w (.cells #[.int .i64 r.cl, .int .i64 r.wants] 65)
  have hB := Blk.new w 65 (rv r)
  obtain ⟨mo, g1, _, HMO⟩ := h.get hx (c := 1) (sm_of (by decide))
  have HZ : Hid (∀ W', Below (w.alloc (.cells #[.int .i64 r.cl, .int .i64 r.wants] 65)).heap.size (w.alloc (.cells #[.int .i64 r.cl, .int .i64 r.wants] 65)) W' →
      W'.cell? ⟨p, 0, none⟩ = some (.map (some G.lb)) ∧ (Instr.lookup 58 (.map (some G.lb)) (.int .i64 x) false).run Try.prog W' = .ok (.map mo) W' ∧ W'.cell? ⟨w.heap.size, 0, none⟩ = some (.int .i64 r.cl) ∧ W'.cell? ⟨w.heap.size, 1, none⟩ = some (.int .i64 r.wants)) := Lib.hid fun W' hb' => by
    have h1 := (h.below hb).below hb'
    obtain ⟨mo', g1', _, HMO'⟩ := h1.get hx (c := 1) (sm_of (by decide))
    rw [← HMO.out] at HMO'
    rw [HMO'.out] at g1'
    exact ⟨h1.topc.1, g1', (hB.below hb' hB.lt).cell 0, (hB.below hb' hB.lt).cell 1⟩
  have HR : Hid (∀ W', Below (w.alloc (.cells #[.int .i64 r.cl, .int .i64 r.wants] 65)).heap.size (w.alloc (.cells #[.int .i64 r.cl, .int .i64 r.wants] 65)) W' → Blk W' (w.heap.size + 1) 65 #[.int .i64 r.cl, .int .i64 r.wants] →
      Calls Try.prog 46 #[.map mo, .func (.func 56) #[] #[.pointer (some ⟨w.heap.size + 1, 0, none⟩)]] W' fun e w' => RiseRes (inB S x r) 1 8 w e w' ∧
        W'.heap.size ≤ w'.heap.size ∧ w'.cell? ⟨p, 0, none⟩ = some (.map (some G.lb)) ∧ (Instr.lookup 58 (.map (some G.lb)) (.int .i64 x) false).run Try.prog w' = .ok (.map mo) w' ∧ w'.cell? ⟨w.heap.size, 0, none⟩ = some (.int .i64 r.cl) ∧ w'.cell? ⟨w.heap.size, 1, none⟩ = some (.int .i64 r.wants)) := Lib.hid fun W' hb' hC =>
    (rise_page ((h.below hb).below hb') x r HMO.out _ hC).mono fun _ w' hr => ⟨hr.base (hb.trans (hb'.mono hb.size)), by obtain ⟨_, _, _, h2⟩ := hr; exact h2.size, HZ.out w' (hb'.trans (by obtain ⟨_, _, _, h2⟩ := hr; exact h2.mono hb'.size))⟩
  have hN : Blk ((w.alloc (.cells #[.int .i64 r.cl, .int .i64 r.wants] 65)).alloc (.cells #[.int .i64 r.cl, .int .i64 r.wants] 65)) (w.heap.size + 1) 65 #[.int .i64 r.cl, .int .i64 r.wants] := by
    have := Blk.new (w.alloc (.cells #[.int .i64 r.cl, .int .i64 r.wants] 65)) 65 #[.int .i64 r.cl, .int .i64 r.wants]
    simpa using this
  obtain ⟨cl, wn⟩ := r
  dsimp only at HZ HR hN ⊢
  have hb2 := (Below.refl (w.alloc (.cells #[.int .i64 cl, .int .i64 wn] 65)).heap.size (w.alloc (.cells #[.int .i64 cl, .int .i64 wn] 65))).alloc (Nat.le_refl _) (.cells #[.int .i64 cl, .int .i64 wn] 65)
  have HRa := Lib.hid (HR.out _ hb2 hN)
  have HRb := Lib.hid (HR.out _ hb2.drew hN)
  have HZ0 := Lib.hid (HZ.out _ (Below.refl _ _))
  have HZ1 := Lib.hid (HZ.out _ (Below.refl _ _).drew)
  have HZa := Lib.hid (HZ.out _ hb2)
  have HZb := Lib.hid (HZ.out _ hb2.drew)
  have z0 := HZ0.out.1
  have z1 := HZ0.out.2.1
  have z2 := HZ0.out.2.2.1
  have z3 := HZ0.out.2.2.2
  clear h hB hb g1 HMO HZ HR hb2 hN
  go_enter Try.func30, Try.ntmps30
  go_wp2_with fail
  go_region_held3 (fun W' => W'.cell? ⟨p, 0, none⟩ = some (.map (some G.lb)) ∧ (Instr.lookup 58 (.map (some G.lb)) (.int .i64 x) false).run Try.prog W' = .ok (.map mo) W' ∧ W'.cell? ⟨w.heap.size, 0, none⟩ = some (.int .i64 cl) ∧ W'.cell? ⟨w.heap.size, 1, none⟩ = some (.int .i64 wn))
    (first | (with_reducible assumption) | (with_reducible exact HZ0.out) | (with_reducible exact HZ1.out) | (with_reducible exact HZa.out) | (with_reducible exact HZb.out)) (first
    | (go_at_call 47; refine (bars_any ⟨cl, wn⟩ _).mono ?_; rintro e w2 ⟨rfl, rfl⟩)
    | (go_at_call 46; (first | (with_reducible refine HRa.out.mono ?_) | (with_reducible refine HRb.out.mono ?_)); rintro e w3 ⟨⟨v, rfl, ho, hb3⟩, _, hz4⟩; have FIN := Lib.hid (show RiseRes (inB S x ⟨cl, wn⟩) 1 8 w (.returned v) w3 from ⟨v, rfl, ho, hb3⟩); obtain ⟨av, cv, rfl⟩ := own_shape ho; clear ho hb3))
  all_goals
    go_wp2
    go_ret
    exact FIN.out
end Go.Proofs.Ythodggkpkjfggaa.Key
