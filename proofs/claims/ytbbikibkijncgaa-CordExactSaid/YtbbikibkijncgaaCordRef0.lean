/- The document's own session (seneschalref12): its rows of numbered texts, find, above. -/
import Derived.Test.YtbbikibkijncgaaCordTexts
namespace Go.Proofs.Ytbbikibkijncgaa.Cord
set_option maxRecDepth 100000
open Go.RowKit
open Go.Proofs.Ytbbikibkijncgaa.Mem
abbrev Tx := Int × ByteArray
def txC (x : Tx) : List Value := [.int .i64 x.1, .string x.2]
def txsV (l : List Tx) : List Value := l.flatMap txC
theorem txs_len : ∀ l : List Tx, (txsV l).length = l.length * 2
  | [] => rfl
  | x :: r => by
    have := txs_len r
    unfold txsV at this ⊢
    rw [List.flatMap_cons, List.length_append, this, List.length_cons]; simp [txC]; omega
theorem txs_app (a b : List Tx) : txsV (a ++ b) = txsV a ++ txsV b := by simp [txsV]
theorem txs_one (x : Tx) : txsV [x] = txC x := by simp [txsV]
theorem txs_at : ∀ (l : List Tx) (i : Nat) (x : Tx), l[i]? = some x → ∀ j, j < 2 → (txsV l)[i * 2 + j]? = (txC x)[j]?
  | [], i, x, h, j, hj => by simp at h
  | y :: r, 0, x, h, j, hj => by
    obtain rfl : y = x := by simpa using h
    unfold txsV
    rw [List.flatMap_cons, List.getElem?_append_left (by simp [txC]; omega)]; congr 1; omega
  | y :: r, i + 1, x, h, j, hj => by
    have := txs_at r i x (by simpa using h) j hj
    unfold txsV at this ⊢
    rw [List.flatMap_cons, List.getElem?_append_right (by simp [txC]; omega), ← this]
    congr 1; simp [txC]; omega
theorem txs_onecell (l : List Tx) : ∀ v ∈ txsV l, v.oneCell' = true := by
  intro v hv
  obtain ⟨x, _, hx⟩ := List.mem_flatMap.1 hv
  simp [txC] at hx
  rcases hx with rfl | rfl <;> rfl
theorem info_tx : (Try.prog.info? 68).map (fun i => (i.zero, i.size, i.bytes)) = some (some (.agg #[.int .i64 0, .string .empty]), 2, 24) := by kernel_rfl
/-! ### plain -/
def look (E : List Tx) (k : Int) : Option ByteArray := (E.find? fun x => x.1 == k).map (·.2)
def aboveL (l : List Tx) (k : Int) : List Tx := l.filter fun x => decide (k < x.1)
def numF (a : Int) : List ByteArray → List Tx
  | [] => []
  | s :: r => (a, s) :: numF (a + 1) r
def numE (e : CE) : List Tx := numF ((e.ack : Int) + 1) e.op
theorem numF_len : ∀ (a : Int) (l : List ByteArray), (numF a l).length = l.length
  | _, [] => rfl
  | a, _ :: r => by simp [numF, numF_len (a + 1) r]
theorem numF_get : ∀ (a : Int) (l : List ByteArray) (i : Nat) (s : ByteArray), l[i]? = some s → (numF a l)[i]? = some (a + i, s)
  | _, [], i, s, h => by simp at h
  | a, t :: r, 0, s, h => by simp at h; subst h; simp [numF]
  | a, t :: r, i + 1, s, h => by
    have := numF_get (a + 1) r i s (by simpa using h)
    simp only [numF, List.getElem?_cons_succ]
    rw [this, show a + 1 + (i : Int) = a + ((i + 1 : Nat) : Int) by omega]
theorem numF_app : ∀ (a : Int) (l : List ByteArray) (s : ByteArray), numF a (l ++ [s]) = numF a l ++ [(a + l.length, s)]
  | a, [], s => by simp [numF]
  | a, t :: r, s => by
    have := numF_app (a + 1) r s
    simp only [List.cons_append, numF, this, List.length_cons]
    rw [show a + 1 + (r.length : Int) = a + ((r.length + 1 : Nat) : Int) by omega]
theorem numF_above : ∀ (k a : Int) (l : List ByteArray), k < a → aboveL (numF a l) k = numF a l
  | _, _, [], _ => rfl
  | k, a, s :: r, h => by
    have := numF_above k (a + 1) r (by omega)
    unfold aboveL at this ⊢
    simp only [numF]
    rw [List.filter_cons_of_pos (by simpa using h), this]
theorem above_numF : ∀ (k a : Int) (l : List ByteArray), a ≤ k + 1 → aboveL (numF a l) k = numF (k + 1) (l.drop (k + 1 - a).toNat)
  | _, _, [], _ => by simp [numF, aboveL]
  | k, a, s :: r, h => by
    rcases Int.lt_or_le k a with h1 | h1
    · obtain rfl : a = k + 1 := by omega
      rw [numF_above _ _ _ h1]; simp
    · have := above_numF k (a + 1) r (by omega)
      have e : (k + 1 - a).toNat = (k + 1 - (a + 1)).toNat + 1 := by omega
      rw [e, List.drop_succ_cons, ← this]
      unfold aboveL
      simp only [numF]
      rw [List.filter_cons_of_neg (by simpa using h1)]
theorem above_num (e : CE) (k : Nat) : aboveL (numE e) (k : Int) = numE (settleE e k) := by
  unfold numE settleE
  split
  · rw [numF_above _ _ _ (by omega)]
  · rename_i h
    rw [above_numF _ _ _ (by omega)]
    dsimp only
    rw [show ((k : Int) + 1 - ((e.ack : Int) + 1)).toNat = k - e.ack by omega]
theorem look_above : ∀ (E : List Tx) (k n : Int), look (aboveL E k) n = if k < n then look E n else none
  | [], k, n => by simp [look, aboveL]
  | x :: r, k, n => by
    have ih := look_above r k n
    unfold look aboveL at ih ⊢
    by_cases h : k < x.1
    · rw [List.filter_cons_of_pos (by simpa using h)]
      by_cases hn : x.1 = n
      · subst hn; simp [h]
      · rw [List.find?_cons_of_neg (by simpa using hn), ih, List.find?_cons_of_neg (by simpa using hn)]
    · rw [List.filter_cons_of_neg (by simpa using h), ih]
      by_cases hn : x.1 = n
      · subst hn; simp [h]
      · rw [List.find?_cons_of_neg (by simpa using hn)]
theorem look_put {E : List Tx} {x : Int} (h : look E x = none) (s : ByteArray) (n : Int) : look (E ++ [(x, s)]) n = if n = x then some s else look E n := by
  unfold look at h ⊢
  rw [List.find?_append]
  split
  · rename_i e; subst e
    have : E.find? (fun y => y.1 == n) = none := by simpa using h
    rw [this]; simp
  · rename_i e
    have : List.find? (fun y : Tx => y.1 == n) [(x, s)] = none := by simp; exact fun h => e h.symm
    rw [this]; simp
/-- the row of early texts says what f says -/
def Early (E : List Tx) (f : Nat → Option ByteArray) : Prop := ∀ n : Nat, look E n = f n
def layT (E : List Tx) (got x : Nat) (s : ByteArray) : List Tx := if look E x = none ∧ got < x then E ++ [((x : Int), s)] else E
theorem Early.lay {E : List Tx} {e : CE} (h : Early E e.f) (x : Nat) (s : ByteArray) : Early (layT E e.got x s) (layE e x s).f := by
  intro n
  unfold layT layE
  dsimp only
  rw [h x]
  split
  · rename_i hc
    rw [look_put (by rw [h x]; exact hc.1), h n]
    unfold upd
    by_cases hn : n = x
    · rw [if_pos hn, if_pos (by omega)]
    · rw [if_neg hn, if_neg (by omega)]
  · exact h n
theorem Early.tell {E : List Tx} {e : CE} (h : Early E e.f) (j : Nat) : Early (aboveL E ((e.got + j : Nat) : Int)) (stepE e j).f := by
  intro n
  rw [look_above, h n]
  unfold stepE
  dsimp only
  by_cases hn : n ≤ e.got + j
  · rw [if_neg (by omega), if_pos hn]
  · rw [if_pos (by omega), if_neg hn]
theorem layT_len (E : List Tx) (got x : Nat) (s : ByteArray) : (layT E got x s).length ≤ E.length + 1 := by
  unfold layT; split <;> simp
theorem above_len (E : List Tx) (k : Int) : (aboveL E k).length ≤ E.length := List.length_filter_le _ _
/-! ### memory -/
/-- a row of numbered texts that is read -/
def Txs (w : World) (a : Option Addr) (n : Nat) (l : List Tx) : Prop :=
  l.length = n ∧ (0 < n → ∃ g, a = some ⟨g, 0, none⟩ ∧ g < w.heap.size ∧ ∀ i x, l[i]? = some x → w.cell? ⟨g, i * 2, none⟩ = some (.int .i64 x.1) ∧ w.cell? ⟨g, i * 2 + 1, none⟩ = some (.string x.2))
theorem txs_of {w : World} {base n c : Nat} {a : Option Addr} {l : List Tx} (h : w.ownsRow base 68 2 (.slice a n c) l.length (txsV l)) (hn : n = l.length) : Txs w a n l := by
  subst hn
  refine ⟨rfl, fun h0 => ?_⟩
  obtain ⟨g, cap, e, hb, hl, hc⟩ := own_pos h h0
  injection e with e1 e2 e3
  subst e1
  refine ⟨g, rfl, hl, fun i x hi => ?_⟩
  have hlt := (List.getElem?_eq_some_iff.1 hi).1
  exact ⟨by rw [hc (i * 2) (by omega)]; exact txs_at l i x hi 0 (by decide), by rw [hc (i * 2 + 1) (by omega)]; exact txs_at l i x hi 1 (by decide)⟩
theorem Txs.below {w w' : World} {a : Option Addr} {n : Nat} {l : List Tx} (h : Txs w a n l) (hb : Below w.heap.size w w') : Txs w' a n l := by
  refine ⟨h.1, fun h0 => ?_⟩
  obtain ⟨g, e, hl, hc⟩ := h.2 h0
  exact ⟨g, e, Nat.lt_of_lt_of_le hl hb.size, fun i x hi => ⟨(hb.cell (p := ⟨g, i * 2, none⟩) hl).trans (hc i x hi).1, (hb.cell (p := ⟨g, i * 2 + 1, none⟩) hl).trans (hc i x hi).2⟩⟩
theorem wpList_appT {w : World} {ops : Array Oper} {rest : List Oper} {o : Oper} {a : Act} {Q : Exit → Act → World → Prop} (hgd : o.guard = none) (s x : Operand)
    (ho : o.op = .call { callee := .builtin .append, args := #[s, x], argTypes := #[34, 34] }) (B : Nat)
    (v : Value) (L : List Tx) (hs : a.eval s = v) (hown : w.ownsRow B 68 2 v L.length (txsV L)) (vb : Nat) (y : Tx) (hx : a.eval x = .slice (some ⟨vb, 0, none⟩) 1 1)
    (hb : Blk w vb 68 #[.int .i64 y.1, .string y.2]) (hn : L.length ≤ 30000) (hB : B ≤ w.heap.size)
    (h : ∀ v' w', w'.ownsRow B 68 2 v' (L ++ [y]).length (txsV (L ++ [y])) → w.grownBy w' v.ownBlock → (v'.ownBlock = v.ownBlock ∨ v'.ownBlock = some w.heap.size) → wpList Try.prog ops Q rest (a.put o.dst v') w') : wpList Try.prog ops Q (o :: rest) a w := by
  obtain ⟨i0, hi, hz0, hz1, hz2⟩ := info_parts info_tx
  refine wpList_append_own_at w hgd s x 34 ho B 68 i0 (.agg #[.int .i64 0, .string .empty]) 2 24 Try.underlying34 hi hz0 hz1 hz2 rfl (by decide) v L.length (txsV L) hs hown ⟨vb, 0, none⟩ 1 1 [.int .i64 y.1, .string y.2] hx rfl (fun j z hj => ?_) (fun z hz => ?_) (by unfold maxLen; omega) (by omega) hB ?_
  · rw [Addr.add_lit, hb.cell, Nat.zero_add, ← Array.getElem?_toList]; exact hj
  · simp at hz; rcases hz with rfl | rfl <;> rfl
  · intro v' w' h1 h2 _ h4
    refine h v' w' ?_ h2 h4
    rw [List.length_append, txs_app, txs_one]; exact h1
theorem step_appT {ops : Array Oper} {o : Oper} {a : Act} {w : World} {K : Act → World → Prop} {Q : Exit → Act → World → Prop} {E : Prop} (hg : o.guard = none) (s x : Operand)
    (hop : o.op = .call { callee := .builtin .append, args := #[s, x], argTypes := #[34, 34] }) (B : Nat)
    (v : Value) (L : List Tx) (hs : a.eval s = v) (hown : w.ownsRow B 68 2 v L.length (txsV L)) (vb : Nat) (y : Tx) (hx : a.eval x = .slice (some ⟨vb, 0, none⟩) 1 1)
    (hb : Blk w vb 68 #[.int .i64 y.1, .string y.2]) (hn : L.length ≤ 30000) (hB : B ≤ w.heap.size)
    (hK : ∀ v' w', w'.ownsRow B 68 2 v' (L ++ [y]).length (txsV (L ++ [y])) → w.grownBy w' v.ownBlock → (v'.ownBlock = v.ownBlock ∨ v'.ownBlock = some w.heap.size) → K (a.put o.dst v') w') :
    if Region.wanted o (yielded ops a.tmps) = true then Oper.wp Try.prog o a w K Q else E := by
  obtain ⟨i0, hi, hz0, hz1, hz2⟩ := info_parts info_tx
  obtain ⟨v', w', hr, h2, h3, _, h5⟩ := run_append_own_at (P := Try.prog) w B 34 o.type 68 i0 (.agg #[.int .i64 0, .string .empty]) 2 24 Try.underlying34 hi hz0 hz1 hz2 rfl (by decide) v L.length (txsV L) hown ⟨vb, 0, none⟩ 1 1 [.int .i64 y.1, .string y.2] rfl
    (fun j z hj => by rw [Addr.add_lit, hb.cell, Nat.zero_add, ← Array.getElem?_toList]; exact hj) (fun z hz => by simp at hz; rcases hz with rfl | rfl <;> rfl) (by unfold maxLen; omega) (by omega) hB
  refine step_append_known hg s x 34 34 hop v (.slice (some ⟨vb, 0, none⟩) 1 1) hs hx hr (hK v' w' ?_ h3 h5)
  rw [List.length_append, txs_app, txs_one]; exact h2
def FindRes (w : World) (l : List Tx) (k : Int) (r : Ending) (w' : World) : Prop := r = .returned (.tuple #[.string ((look l k).getD .empty), .bool (look l k).isSome]) ∧ w = w'
set_option maxRecDepth 100000 in
set_option maxHeartbeats 4000000 in
theorem find_any (a : Option Addr) (n c : Nat) (l : List Tx) (k : Int) (w : World) (h : Txs w a n l) (hn : n ≤ 1000000) :
    Calls Try.prog 30 #[.slice a n c, .int .i64 k] w (FindRes w l k) := by
  have H := Lib.hid h
  clear h
  go_enter Try.func30, Try.ntmps30
  go_wp2_with fail
  go_loopw [6] (fun i wr => ∃ j : Nat, j ≤ n ∧ i = .int .i64 (j : Int) ∧ wr = w ∧ Hid ((l.take j).find? (fun x => x.1 == k) = none)) (fun i _ => n - (intOf i).toNat)
  case atStart => exact ⟨0, Nat.zero_le _, rfl, rfl, Lib.hid rfl⟩
  case round =>
    obtain ⟨j, hj, rfl, rfl, HK⟩ := hrel
    by_cases hlt : j < n
    · have hl := H.out.1
      have hx : l[j]? = some l[j] := List.getElem?_eq_getElem (by omega)
      have htk : l.take (j + 1) = l.take j ++ [l[j]] := by rw [List.take_add_one, hx]; rfl
      have hld : l = l.take j ++ l[j] :: l.drop (j + 1) := by rw [List.getElem_cons_drop, List.take_append_drop]
      generalize l[j] = x at hx htk hld
      obtain ⟨g, e1, l1, c1⟩ := H.out.2 (by omega)
      subst e1
      obtain ⟨d0, d1⟩ := c1 j x hx
      obtain ⟨x1, x2⟩ := x
      by_cases hk : x1 = k
      · have hb : (x1 == k) = true := by rw [beq_iff_eq]; exact hk
        have hlook : look l k = some x2 := by
          unfold look
          rw [hld, List.find?_append, HK.out]
          simp [hk]
        have HE : Hid (FindRes wr l k (.returned (.tuple #[.string x2, .bool true])) wr) := Lib.hid ⟨by rw [hlook]; rfl, rfl⟩
        clear htk hld hx HK H c1 hlook
        go_wp2_with fail
        refine bodyPost_ret (v := .tuple #[.string x2, .bool true]) (by simp [results, Try.results30, go_sem]) rfl ?_
        exact HE.out
      · have hb : (x1 == k) = false := by rw [beq_eq_false_iff_ne]; exact hk
        have HK2 : Hid ((l.take (j + 1)).find? (fun x => x.1 == k) = none) := Lib.hid (by rw [htk, List.find?_append, HK.out]; simp [hk])
        clear htk hld hx HK c1
        go_wp2_with fail
        go_roundw
        case rel => exact ⟨j + 1, by omega, by go_num, by first | rfl | trivial, HK2⟩
        case measure => simp [intOf]; omega
    · obtain rfl : j = n := by omega
      have hlook : look l k = none := by
        have h1 := HK.out
        rw [List.take_of_length_le (by rw [H.out.1]; exact Nat.le_refl _)] at h1
        unfold look; rw [h1]; rfl
      have HE : Hid (FindRes wr l k (.returned (.tuple #[.string .empty, .bool false])) wr) := Lib.hid ⟨by rw [hlook]; rfl, rfl⟩
      clear HK H hlook
      go_wp2_with fail
      refine bodyPost_ret (v := .tuple #[.string .empty, .bool false]) (by simp [results, Try.results30, go_sem]; rfl) rfl ?_
      exact HE.out
/-- above: a row of its own -/
def AboveRes (w : World) (l : List Tx) (k : Int) (r : Ending) (w' : World) : Prop := ∃ v, r = .returned v ∧ w'.ownsRow w.heap.size 68 2 v (aboveL l k).length (txsV (aboveL l k)) ∧ Below w.heap.size w w'
set_option maxRecDepth 100000 in
set_option maxHeartbeats 4000000 in
theorem above_any (a : Option Addr) (n c : Nat) (l : List Tx) (k : Int) (w : World) (h : Txs w a n l) (hn : n ≤ 29000) :
    Calls Try.prog 29 #[.slice a n c, .int .i64 k] w (AboveRes w l k) := by
  have H := Lib.hid h
  clear h
  have HM : Hid ((w.alloc (.cells #[] 68)).ownsRow w.heap.size 68 2 (.slice (some ⟨w.heap.size, 0, none⟩) 0 0) (aboveL (l.take 0) k).length (txsV (aboveL (l.take 0) k)) ∧ Below w.heap.size w (w.alloc (.cells #[] 68))) :=
    Lib.hid ⟨⟨by simp [aboveL, txsV], .inr ⟨w.heap.size, 0, #[], rfl, Nat.le_refl _, World.alloc_heap_new _ _, Nat.le_refl _, by decide, by simp, by simp [aboveL, txsV]⟩⟩, below_box _ _⟩
  go_enter Try.func29, Try.ntmps29
  go_wp2_with fail
  go_loopw [5, 6] (fun o i wr => ∃ j : Nat, j ≤ n ∧ i = .int .i64 (j : Int) ∧ Hid (wr.ownsRow w.heap.size 68 2 o (aboveL (l.take j) k).length (txsV (aboveL (l.take j) k)) ∧ Below w.heap.size w wr)) (fun _ i _ => n - (intOf i).toNat)
  case atStart => exact ⟨0, Nat.zero_le _, rfl, HM⟩
  case round =>
    obtain ⟨j, hj, rfl, HK⟩ := hrel
    clear HM
    obtain ⟨ao, co, rfl⟩ := own_shape HK.out.1
    by_cases hlt : j < n
    · have hl := H.out.1
      have hx : l[j]? = some l[j] := List.getElem?_eq_getElem (by omega)
      have htk : aboveL (l.take (j + 1)) k = aboveL (l.take j) k ++ (if k < l[j].1 then [l[j]] else []) := by
        rw [List.take_add_one, hx]
        unfold aboveL
        rw [List.filter_append]
        by_cases h : k < l[j].1 <;> simp [h]
      generalize l[j] = x at hx htk
      obtain ⟨g, e1, l1, c1⟩ := (H.out.below HK.out.2).2 (by omega)
      subst e1
      obtain ⟨d0, d1⟩ := c1 j x hx
      obtain ⟨x1, x2⟩ := x
      have hlj : (aboveL (l.take j) k).length ≤ 30000 := by have := above_len (l.take j) k; rw [List.length_take] at this; omega
      by_cases hk : k < x1
      · rw [if_pos hk] at htk
        have HO := HK
        have FIN : Hid (∀ v5 w5, w5.ownsRow w.heap.size 68 2 v5 (aboveL (l.take j) k ++ [(x1, x2)]).length (txsV (aboveL (l.take j) k ++ [(x1, x2)])) ∧ Below w.heap.size w w5 → (∃ a n c, v5 = .slice a n c) ∧ (w5.ownsRow w.heap.size 68 2 v5 (aboveL (l.take (j + 1)) k).length (txsV (aboveL (l.take (j + 1)) k)) ∧ Below w.heap.size w w5)) := Lib.hid fun v5 w5 ho => by
          rw [htk]
          obtain ⟨a, c, e⟩ := own_shape ho.1
          exact ⟨⟨a, _, c, e⟩, ho⟩
        have HL2 := Lib.hid hlj
        clear hx htk hlj c1 HK
        generalize aboveL (l.take j) k = L at HO FIN HL2
        generalize hm : L.length = m at *
        subst hm
        go_wp2_with (at_builtin; refine wpList_appT rfl _ _ rfl w.heap.size _ L rfl (own_below HO.out.1 (below_box _ _)) wr.heap.size (x1, x2) rfl (Blk.new wr _ _) HL2.out (Nat.le_trans HO.out.2.size (by simp)) ?_; intro v5 w5 ho5 hg5 _; have HE5 := Lib.hid (FIN.out v5 w5 ⟨ho5, (HO.out.2.alloc HO.out.2.size _).grown hg5 (Nat.le_trans HO.out.2.size (by simp)) (fun k e => own_ge HO.out.1 k e)⟩); clear ho5 hg5)
        obtain ⟨a5, n5, c5', rfl⟩ := HE5.out.1
        clear FIN HO
        go_roundw
        case rel => exact ⟨j + 1, by omega, by go_num, Lib.hid HE5.out.2⟩
        case measure => simp [intOf]; omega
      · rw [if_neg hk, List.append_nil] at htk
        have HK2 : Hid (wr.ownsRow w.heap.size 68 2 (.slice ao (aboveL (l.take j) k).length co) (aboveL (l.take (j + 1)) k).length (txsV (aboveL (l.take (j + 1)) k)) ∧ Below w.heap.size w wr) := Lib.hid (by rw [htk]; exact HK.out)
        clear hx htk hlj c1 HK
        go_wp2_with fail
        go_roundw
        case rel => exact ⟨j + 1, by omega, by go_num, HK2⟩
        case measure => simp [intOf]; omega
    · obtain rfl : j = n := by omega
      have HE : Hid (AboveRes w l k (.returned (.slice ao (aboveL (l.take j) k).length co)) wr) := Lib.hid ⟨_, rfl, by
        have h1 := HK.out.1
        rw [List.take_of_length_le (by rw [H.out.1]; exact Nat.le_refl _)] at h1 ⊢
        exact h1, HK.out.2⟩
      clear HK H
      go_wp2_with fail
      go_ret
      exact HE.out
end Go.Proofs.Ytbbikibkijncgaa.Cord
