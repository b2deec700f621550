/- greatest, Stuck, Victim, Victims. -/
import Derived.Test.YthodggkpkjfggaaKnotInner
namespace Go.Proofs.Ythodggkpkjfggaa.Knot
set_option maxRecDepth 100000
open Go.RowKit
open Go.Proofs.Ythodggkpkjfggaa.Mem
open Go.Sort
def GrRes (L : List Ed) (M : List Int) (w : World) (e : Ending) (w' : World) : Prop := ∃ v R, e = .returned v ∧ IsVics L R ∧ R.length ≤ M.length ∧ w'.ownsRow w.heap.size 3 1 v R.length (iv R) ∧ Below w.heap.size w w'
theorem vics_empty : IsVics [] [] := vics_none (by simp)
theorem highL_snoc (L : List Ed) (e : Ed) (h : Int → Int) (x : Int) : highL (L ++ [e]) h x = if isLow h x e then highL L h x else highL L h x ++ [⟨h e.f, h e.t⟩] := by
  unfold highL
  rw [List.filter_append, List.map_append]
  cases hh : isLow h x e <;> simp [hh]
theorem lowL_snoc (L : List Ed) (e : Ed) (h : Int → Int) (x : Int) : lowL (L ++ [e]) h x = if isLow h x e then lowL L h x ++ [e] else lowL L h x := by
  unfold lowL
  rw [List.filter_append]
  cases hh : isLow h x e <;> simp [hh]
theorem upTo_snoc (L : List Ed) (e : Ed) (x : Int) : upTo (L ++ [e]) x = if decide (max e.f e.t ≤ x) then upTo L x ++ [e] else upTo L x := by
  unfold upTo
  rw [List.filter_append]
  cases hh : decide (max e.f e.t ≤ x) <;> simp [hh]
/-- the names are parted at half -/
theorem rise_part {M : List Int} (hp : M.Pairwise (· < ·)) {k : Nat} {x : Int} (hx : M[k]? = some x) : (∀ v ∈ M, v ≤ x → v ∈ M.take (k + 1)) ∧ (∀ v ∈ M, x < v → v ∈ M.drop (k + 1)) := by
  have e := List.take_append_drop (k + 1) M
  obtain ⟨h1, h2⟩ := List.getElem?_eq_some_iff.1 hx
  have hxt : x ∈ M.take (k + 1) := by rw [List.take_add_one, hx]; simp
  have hp2 : (M.take (k + 1) ++ M.drop (k + 1)).Pairwise (· < ·) := by rw [e]; exact hp
  obtain ⟨p1, p2, p3⟩ := List.pairwise_append.1 hp2
  constructor
  · intro v hv hle
    rw [← e] at hv
    rcases List.mem_append.1 hv with hv | hv
    · exact hv
    · have := p3 x hxt v hv; omega
  · intro v hv hlt
    rw [← e] at hv
    rcases List.mem_append.1 hv with hv | hv
    · -- the greatest of them is x
      exfalso
      rw [List.take_add_one, hx] at hv p1
      obtain ⟨_, _, p4⟩ := List.pairwise_append.1 p1
      rcases List.mem_append.1 hv with hv | hv
      · have := p4 v hv x (by simp); omega
      · simp at hv; omega
    · exact hv
/-- two own rows of edges, apart -/
structure Two (W : World) (B : Nat) (v1 v2 : Value) (A1 A2 : List Ed) : Prop where
  o1 : W.ownsRow B 52 2 v1 A1.length (ev A1)
  o2 : W.ownsRow B 52 2 v2 A2.length (ev A2)
  ne : ∀ b, v1.ownBlock = some b → v2.ownBlock ≠ some b
theorem Two.below {W W' : World} {B : Nat} {v1 v2 : Value} {A1 A2 : List Ed} (h : Two W B v1 v2 A1 A2) (hb : Below W.heap.size W W') : Two W' B v1 v2 A1 A2 := ⟨own_below h.o1 hb, own_below h.o2 hb, h.ne⟩
theorem Two.swap {W : World} {B : Nat} {v1 v2 : Value} {A1 A2 : List Ed} (h : Two W B v1 v2 A1 A2) : Two W B v2 v1 A2 A1 := ⟨h.o2, h.o1, fun b h1 h2 => h.ne b h2 h1⟩
theorem Two.app {W w1 w2 : World} {B : Nat} {v1 v2 u : Value} {A1 A2 A : List Ed} (h : Two W B v1 v2 A1 A2) (hb : Below W.heap.size W w1) (ha : AppRes w1 w2 B 52 2 v1 u A.length (ev A)) : Two w2 B u v2 A A2 := by
  obtain ⟨h1, h2, h3⟩ := ha
  have hlt : ∀ b, v2.ownBlock = some b → b < W.heap.size := fun b e => own_lt h.o2 e
  refine ⟨h1, own_same h.o2 fun b e => (h2.block b (Nat.lt_of_lt_of_le (hlt b e) hb.size) (fun e' => h.ne b e'.symm e)).trans (hb.block b (hlt b e)), fun b e e' => ?_⟩
  rcases h3 with e1 | e1
  · rw [e1] at e; exact h.ne b e e'
  · rw [e1] at e; injection e with e; have := hlt b e'; have := hb.size; omega
/-- append of a row that can be read, as a step of a drawn region -/
theorem step_cat {w : World} {B : Nat} {ops : Array Oper} {o : Oper} {a : Go.Act} {K : Go.Act → World → Prop} {Q : Exit → Go.Act → World → Prop} {E : Prop} (hg : o.guard = none) (s x : Operand)
    (hop : o.op = .call { callee := .builtin .append, args := #[s, x], argTypes := #[26, 26] })
    (v u : Value) (xs zs : List Int) (hs : a.eval s = v) (hx : a.eval x = u) (hown : w.ownsRow B 3 1 v xs.length (iv xs)) (hu : IR w u zs) (hn : xs.length + zs.length ≤ 3000000) (hB : B ≤ w.heap.size)
    (hK : ∀ v' w', AppRes w w' B 3 1 v v' (xs ++ zs).length (iv (xs ++ zs)) → K (a.put o.dst v') w') :
    if Region.wanted o (yielded ops a.tmps) = true then Oper.wp Try.prog o a w K Q else E := by
  obtain ⟨v', w', hr, h2⟩ := run_appI o.type hown hu hn hB
  exact step_run hg s x 26 26 hop v u hs hx hr (hK v' w' h2)
theorem ir_drop {w : World} {b off n c k : Nat} {M : List Int} (h : IR w (.slice (some ⟨b, off, none⟩) n c) M) (hk : k < n) : IR w (.slice (some ⟨b, off + k, none⟩) (n - k) (c - k)) (M.drop k) := by
  obtain ⟨a, c', e, h1, h2⟩ := h
  injection e with e1 e2 e3
  subst e1; subst e2; subst e3
  have hl : (M.drop k).length = M.length - k := List.length_drop
  refine ⟨_, c - k, by rw [hl], by rw [hl]; omega, fun _ => ?_⟩
  obtain ⟨b', off', e, h3, h4⟩ := h2 (by omega)
  injection e with e; injection e with e1 e2 _
  subst e1; subst e2
  refine ⟨b, off + k, rfl, h3, fun i z hz => ?_⟩
  rw [List.getElem?_drop] at hz
  rw [Nat.add_assoc]; exact h4 _ z hz
theorem ir_take {w : World} {b off n c k : Nat} {M : List Int} (h : IR w (.slice (some ⟨b, off, none⟩) n c) M) (hk : k ≤ n) : IR w (.slice (some ⟨b, off, none⟩) k c) (M.take k) := by
  obtain ⟨a, c', e, h1, h2⟩ := h
  injection e with e1 e2 e3
  subst e1; subst e2; subst e3
  have hl : (M.take k).length = k := by rw [List.length_take]; omega
  refine ⟨_, c, by rw [hl], by rw [hl]; omega, fun hp => ?_⟩
  rw [hl] at hp
  obtain ⟨b', off', e, h3, h4⟩ := h2 (by omega)
  injection e with e; injection e with e1 e2 _
  subst e1; subst e2
  refine ⟨b, off, rfl, h3, fun i z hz => h4 i z ?_⟩
  have hlt := (List.getElem?_eq_some_iff.1 hz).1
  rw [hl] at hlt
  rw [List.getElem?_take_of_lt hlt] at hz; exact hz
set_option maxRecDepth 100000 in
set_option maxHeartbeats 8000000 in
theorem greatest_any (K : Nat) : ∀ (lv mv : Value) (L : List Ed) (M : List Int) (w : World), M.length ≤ K → ER w lv L → IR w mv M → M.Pairwise (· < ·) → Inn L → (∀ v, Vic L v → v ∈ M) → L.length ≤ 1000 → M.length ≤ 2000 →
    Calls Try.prog 40 #[lv, mv] w (GrRes L M w) := by
  induction K with
  | zero =>
    intro lv mv L M w hK hE hI hp hin hv hl hm
    have hM : M = [] := List.length_eq_zero_iff.1 (by omega)
    have hL : L = [] := Decidable.byContradiction fun h => by
      obtain ⟨v, h1⟩ := inn_vic hin h
      have := hv v h1; rw [hM] at this; cases this
    subst hL; subst hM
    obtain ⟨al, cl, rfl⟩ := hE.shape
    obtain ⟨am, cm, rfl⟩ := hI.shape
    have FIN : Hid (GrRes [] [] w (.returned (.slice none 0 0)) w) := Lib.hid ⟨_, [], rfl, vics_empty, Nat.le_refl _, own_nil _ _ _ _, Below.refl _ _⟩
    clear hE hI hp hin hv
    go_enter Try.func40, Try.ntmps40
    go_wp2_with fail
    go_ret
    exact FIN.out
  | succ K ih =>
    intro lv mv L M w hK hE hI hp hin hv hl hm
    by_cases hL : L = []
    · subst hL
      obtain ⟨al, cl, rfl⟩ := hE.shape
      obtain ⟨am, cm, rfl⟩ := hI.shape
      have FIN : Hid (GrRes [] M w (.returned (.slice none 0 0)) w) := Lib.hid ⟨_, [], rfl, vics_empty, Nat.zero_le _, own_nil _ _ _ _, Below.refl _ _⟩
      clear hE hI hp hin hv ih
      go_enter Try.func40, Try.ntmps40
      go_wp2_with fail
      go_ret
      exact FIN.out
    · obtain ⟨v0, hv0⟩ := inn_vic hin hL
      have hv0M := hv v0 hv0
      have hlpos := List.length_pos_iff.2 hL
      have hmpos : 0 < M.length := List.length_pos_of_mem hv0M
      by_cases h1 : M.length = 1
      · obtain ⟨x, rfl⟩ := List.length_eq_one_iff.1 h1
        have hx : v0 = x := by simpa using hv0M
        subst hx
        obtain ⟨al, cl, rfl⟩ := hE.shape
        obtain ⟨b, off, c, rfl, -, -, c0⟩ := hI.at_ (i := 0) (z := v0) rfl
        have c0' : w.cell? ⟨b, off, none⟩ = some (.int .i64 v0) := c0
        have hb := below_box w (.cells #[.int .i64 v0] 3)
        have FIN : Hid (GrRes L [v0] w (.returned (.slice (some ⟨w.heap.size, 0, none⟩) 1 1)) (w.alloc (.cells #[.int .i64 v0] 3))) := Lib.hid ⟨_, [v0], rfl, ⟨by simp, fun v => ⟨fun h => by rw [List.mem_singleton.1 h]; exact hv0, fun h => hv v h⟩⟩, Nat.le_refl _, ⟨rfl, .inr ⟨w.heap.size, 1, _, rfl, Nat.le_refl _, Blk.new w _ _, by simp, by decide, rfl, rfl⟩⟩, hb⟩
        obtain ⟨m, hm'⟩ : ∃ m, L.length = m := ⟨_, rfl⟩
        rw [hm'] at hlpos
        have g1 : ((m : Int) == 0) = false := by simp; omega
        have g2 : (m == 0) = false := by simp; omega
        rw [hm']
        have e1 : [v0].length = 1 := rfl
        rw [e1]
        clear hE hI hp hin hv ih hb hv0 hv0M hL hm' h1 hmpos e1
        go_enter Try.func40, Try.ntmps40
        go_wp2_with fail
        go_ret
        exact FIN.out
      · obtain ⟨n, hn⟩ : ∃ n, M.length = n := ⟨_, rfl⟩
        have HN := Lib.hid hn
        obtain ⟨m, hm'⟩ : ∃ m, L.length = m := ⟨_, rfl⟩
        have HM := Lib.hid hm'
        rw [hm'] at hlpos hl
        rw [hn] at hK hm hmpos h1
        have hn2 : 2 ≤ n := by omega
        obtain ⟨k, hk⟩ : ∃ k, n / 2 = k + 1 := ⟨n / 2 - 1, by omega⟩
        have hkn : k + 1 < n := by omega
        obtain ⟨x, hx⟩ : ∃ x, M[k]? = some x := ⟨_, List.getElem?_eq_getElem (by omega)⟩
        obtain ⟨b, off, c, rfl, hnc, -, c0⟩ := hI.at_ hx
        rw [hn] at hI hnc ⊢
        have HE := Lib.hid hE
        have HI := Lib.hid hI
        have HP := Lib.hid hp
        have HIN := Lib.hid hin
        have HV := Lib.hid hv
        have HX := Lib.hid hx
        have HPART := Lib.hid (rise_part hp hx)
        obtain ⟨al, cl, rfl⟩ := hE.shape
        rw [hm']
        have g1 : ((m : Int) == 0) = false := by simp; omega
        have g2 : (m == 0) = false := by simp; omega
        have g3 : ((n : Int) == 1) = false := by simp; omega
        have g4 : (n == 1) = false := by simp; omega
        clear hE hI hp hin hv hx hn hm' hv0 hv0M hL
        go_enter Try.func40, Try.ntmps40
        go_upto_region 6 with (fail)
        have hq : (n : Int) / 2 = (k : Int) + 1 := by omega
        rw [hq]
        have hws : IntKind.i64.wrap ((k : Int) + 1 - 1) = (k : Int) := by rw [IntKind.wrap_i64]; omega
        have hws2 : IntKind.i64.wrap (k : Int) = (k : Int) := by rw [IntKind.wrap_i64]; omega
        have ST : Hid (w.ownsRow w.heap.size 52 2 (.slice none 0 0) (upTo (L.take 0) x).length (ev (upTo (L.take 0) x)) ∧ Below w.heap.size w w) := Lib.hid ⟨by simpa [upTo, ev] using own_nil _ _ _ _, Below.refl _ _⟩
        go_wp2_with fail
        clear g1 g2 g3 g4 hws hws2 c0 hq
        go_loopw [7, 39] (fun t i wr => ∃ j : Nat, j ≤ m ∧ i = .int .i64 (j : Int) ∧ (∃ a n c, t = .slice a n c) ∧ Hid (wr.ownsRow w.heap.size 52 2 t (upTo (L.take j) x).length (ev (upTo (L.take j) x)) ∧ Below w.heap.size w wr)) (fun _ i _ => m - (intOf i).toNat)
        case atStart => exact ⟨0, Nat.zero_le _, rfl, ⟨_, _, _, rfl⟩, ST⟩
        case round =>
          obtain ⟨j, hj, rfl, ⟨a3, n3, k3, rfl⟩, HK⟩ := hrel
          clear ST
          by_cases hjm : j < m
          · obtain ⟨e, he⟩ : ∃ e, L[j]? = some e := ⟨_, List.getElem?_eq_getElem (by rw [HM.out]; exact hjm)⟩
            obtain ⟨bb, c9, g1, -, -, c0, c1⟩ := (HE.out.below HK.out.2).at_ he
            injection g1 with g1 g2 g3
            clear g2
            subst g1; subst g3
            have hTS := upTo_snoc (L.take j) e x
            rw [← take_snoc he] at hTS
            have hb1 := below_box wr (.cells (ec e) 52)
            have hbB := HK.out.2.trans (hb1.mono HK.out.2.size)
            have HOB : Hid ((wr.alloc (.cells (ec e) 52)).ownsRow w.heap.size 52 2 (.slice a3 n3 k3) (upTo (L.take j) x).length (ev (upTo (L.take j) x)) ∧ Below w.heap.size w (wr.alloc (.cells (ec e) 52))) := Lib.hid ⟨own_below HK.out.1 hb1, hbB⟩
            have hle : (upTo (L.take j) x).length ≤ 1000 := by
              have h1 : (upTo (L.take j) x).length ≤ (L.take j).length := List.length_filter_le _ _
              rw [List.length_take] at h1; omega
            obtain ⟨mx, hmx⟩ : ∃ mx, max e.f e.t = mx := ⟨_, rfl⟩
            rw [hmx] at hTS
            obtain ⟨bd, hbd⟩ : ∃ bd, decide (mx ≤ x) = bd := ⟨_, rfl⟩
            rw [hbd] at hTS
            have HTS := Lib.hid hTS
            have hb9 := below_box (wr.alloc (.cells (ec e) 52)) (.cells (ec e) 52)
            obtain ⟨v9, w9, hr9, ha9⟩ := run_edge (w := (wr.alloc (.cells (ec e) 52)).alloc (.cells (ec e) 52)) (own_below HOB.out.1 hb9) (Blk.new _ 52 (ec e)) (by omega) (Nat.le_trans HOB.out.2.size hb9.size)
            have HN : Hid (bd = true → w9.ownsRow w.heap.size 52 2 v9 (upTo (L.take (j + 1)) x).length (ev (upTo (L.take (j + 1)) x)) ∧ Below w.heap.size w w9) := Lib.hid (fun e => by
              rw [HTS.out, if_pos e]
              exact ⟨ha9.1, (HOB.out.2.trans (hb9.mono HOB.out.2.size)).grown ha9.2.1 (Nat.le_trans HOB.out.2.size hb9.size) (fun k hk => own_ge HOB.out.1 k hk)⟩)
            have HN0 : Hid (bd = false → (wr.alloc (.cells (ec e) 52)).ownsRow w.heap.size 52 2 (.slice a3 n3 k3) (upTo (L.take (j + 1)) x).length (ev (upTo (L.take (j + 1)) x)) ∧ Below w.heap.size w (wr.alloc (.cells (ec e) 52))) := Lib.hid (fun e => by
              rw [HTS.out, if_neg (by simp [e])]
              exact HOB.out)
            obtain ⟨a9, c9, e9⟩ := own_shape ha9.1
            have HR := Lib.hid hr9
            rw [e9] at HN HR
            generalize (upTo (L.take j) x ++ [e]).length = lq at HN HR
            obtain ⟨ef, et⟩ := e
            dsimp only [ec] at c0 c1 HR HN0 hmx
            have hsz : (wr.alloc (.cells #[.int .i64 ef, .int .i64 et] 52)).heap.size = wr.heap.size + 1 := by simp
            rw [hsz] at HR
            clear hTS hb1 hbB HK hle hb9 hr9 ha9 e9 he HOB HTS
            cases bd with
            | true =>
              clear HN0
              go_wp2_with (at_builtin; refine wpList_run rfl _ _ rfl rfl rfl HR.out ?_)
              go_roundw
              case rel => exact ⟨j + 1, by omega, by go_num, ⟨_, _, _, rfl⟩, Lib.hid (HN.out rfl)⟩
              case measure => simp [intOf]; omega
            | false =>
              clear HN HR
              go_wp2_with fail
              go_roundw
              case rel => exact ⟨j + 1, by omega, by go_num, ⟨_, _, _, rfl⟩, Lib.hid (HN0.out rfl)⟩
              case measure => simp [intOf]; omega
          · obtain rfl : j = m := by omega
            have hle : (upTo L x).length ≤ 1000 := by
              have h1 : (upTo L x).length ≤ L.length := List.length_filter_le _ _
              rw [HM.out] at h1; omega
            have HW : Hid (Calls Try.prog 52 #[.slice a3 n3 k3] wr (WeaveRes (upTo L x) wr)) := Lib.hid (weave_any _ _ wr (ER.of_own (by
              have h1 := HK.out.1
              rw [List.take_of_length_le (by rw [HM.out]; exact Nat.le_refl _)] at h1; exact h1)) hle)
            have HB2 := Lib.hid HK.out.2
            clear HK hle
            go_wp2_with fail
            refine HW.out.mono ?_
            rintro e w2 ⟨vn, vh, N, H, rfl, hWM, hHd, hb2⟩
            have hb3 := below_box w2 (.cells #[vn, vh] 98)
            have hBx := Blk.new w2 98 #[vn, vh]
            obtain ⟨W3, hW3⟩ : ∃ W3, w2.alloc (.cells #[vn, vh] 98) = W3 := ⟨_, rfl⟩
            obtain ⟨bw, hbw⟩ : ∃ bw, w2.heap.size = bw := ⟨_, rfl⟩
            rw [hW3] at hb3 hBx
            have HB3 := Lib.hid (HB2.out.trans ((hb2.trans (hb3.mono hb2.size)).mono HB2.out.size))
            have HM3 := Lib.hid (hWM.below hb3)
            rw [hbw] at hBx
            have HBX := Lib.hid hBx
            have HHD := Lib.hid hHd
            have HL3 := Lib.hid (HE.out.below HB3.out)
            have HW3 := Lib.hid hW3
            have HBW := Lib.hid hbw
            obtain ⟨an, cn, rfl⟩ := hWM.1.shape
            obtain ⟨ah, ch, rfl⟩ := hWM.2.1.shape
            obtain ⟨hf, hhf⟩ : ∃ hf, headF N H = hf := ⟨_, rfl⟩
            have HHF := Lib.hid hhf
            clear hWM hHd hb2 hb3 hBx hW3 hbw HW hhf HB2
            have ST : Hid (Two W3 W3.heap.size (.slice none 0 0) (.slice none 0 0) (lowL (L.take 0) hf x) (highL (L.take 0) hf x) ∧ Below W3.heap.size W3 W3) := Lib.hid ⟨⟨by simpa [lowL, ev] using own_nil _ _ _ _, by simpa [highL, ev] using own_nil _ _ _ _, fun b e => by simp [Value.ownBlock] at e⟩, Below.refl _ _⟩
            go_upto_region 15 with (fail)
            rw [HW3.out, HBW.out]
            clear HW3 HBW
            go_wp2_with fail
            go_loopw [8, 9, 59] (fun t t2 i wr => ∃ q : Nat, q ≤ j ∧ i = .int .i64 (q : Int) ∧ (∃ a n c, t = .slice a n c) ∧ (∃ a n c, t2 = .slice a n c) ∧ Hid (Two wr W3.heap.size t t2 (lowL (L.take q) hf x) (highL (L.take q) hf x) ∧ Below W3.heap.size W3 wr)) (fun _ _ i _ => j - (intOf i).toNat)
            case atStart => exact ⟨0, Nat.zero_le _, rfl, ⟨_, _, _, rfl⟩, ⟨_, _, _, rfl⟩, ST⟩
            case round =>
              obtain ⟨q, hqj, rfl, ⟨a4, n4, k4, rfl⟩, ⟨a5, n5, k5, rfl⟩, HK⟩ := hrel
              clear ST
              by_cases hq2 : q < j
              · obtain ⟨e, he⟩ : ∃ e, L[q]? = some e := ⟨_, List.getElem?_eq_getElem (by rw [HM.out]; exact hq2)⟩
                obtain ⟨bb, c9, g1, -, -, c0, c1⟩ := (HL3.out.below HK.out.2).at_ he
                injection g1 with g1 g2 g3
                clear g2
                subst g1; subst g3
                have hTL := lowL_snoc (L.take q) e hf x
                have hTH := highL_snoc (L.take q) e hf x
                rw [← take_snoc he] at hTL hTH
                obtain ⟨bl, hbl⟩ : ∃ bl, isLow hf x e = bl := ⟨_, rfl⟩
                rw [hbl] at hTL hTH
                have HBL := Lib.hid hbl
                have HTL := Lib.hid hTL
                have HTH := Lib.hid hTH
                have hb1 := below_box wr (.cells (ec e) 52)
                have hBe := Blk.new wr 52 (ec e)
                obtain ⟨Wb, hWb⟩ : ∃ Wb, wr.alloc (.cells (ec e) 52) = Wb := ⟨_, rfl⟩
                rw [hWb] at hb1 hBe
                have hbB := HK.out.2.trans (hb1.mono HK.out.2.size)
                have HWb := Lib.hid hWb
                have HBE := Lib.hid hBe
                have HOB : Hid (Two Wb W3.heap.size (.slice a4 n4 k4) (.slice a5 n5 k5) (lowL (L.take q) hf x) (highL (L.take q) hf x) ∧ Below W3.heap.size W3 Wb) := Lib.hid ⟨HK.out.1.below hb1, hbB⟩
                have HMb := Lib.hid (HM3.out.below hbB)
                have hBw := HBX.out.below hbB HBX.out.lt
                have hll : (lowL (L.take q) hf x).length ≤ 1000 ∧ (highL (L.take q) hf x).length ≤ 1000 := by
                  have h1 : (lowL (L.take q) hf x).length ≤ (L.take q).length := List.length_filter_le _ _
                  have h2 : (highL (L.take q) hf x).length ≤ (L.take q).length := by unfold highL; rw [List.length_map]; exact List.length_filter_le _ _
                  rw [List.length_take] at h1 h2; omega
                have HLL := Lib.hid hll
                obtain ⟨ef, et⟩ := e
                have HBL2 : Hid ((hf ef == hf et && decide (hf ef ≤ x)) = bl) := Lib.hid HBL.out
                dsimp only [ec] at c0 c1 hBe HWb HBE HTL HTH
                obtain ⟨bx, hbx⟩ : ∃ bx, wr.heap.size = bx := ⟨_, rfl⟩
                have d0 : Wb.cell? ⟨bx, 0, none⟩ = some (.int .i64 ef) := by rw [← hbx]; exact hBe.cell 0
                have d1 : Wb.cell? ⟨bx, 1, none⟩ = some (.int .i64 et) := by rw [← hbx]; exact hBe.cell 1
                have e0 : Wb.cell? ⟨bw, 0, none⟩ = some (.slice an N.length cn) := hBw.cell 0
                have e1 : Wb.cell? ⟨bw, 1, none⟩ = some (.slice ah (nv H).length ch) := hBw.cell 1
                have q0 := cell_regrown d0
                have q1 := cell_regrown d1
                have q2 := cell_regrown e0
                have q3 := cell_regrown e1
                have k0 : ∀ dd os, Calls Try.prog 53 #[.agg #[.slice an N.length cn, .slice ah (nv H).length ch], .int .i64 ef] (grow (redrawn Wb dd) os) fun e w'' => e = .returned (.int .i64 (hf ef)) ∧ ∃ p : Regrown, w'' = grow (redrawn Wb p.d) p.os := fun dd os => Calls.regrown_of (by rw [← HHF.out]; exact head_any _ _ N H ef _ (HMb.out.below (below_regrown Wb dd os)))
                have k1 : ∀ dd os, Calls Try.prog 53 #[.agg #[.slice an N.length cn, .slice ah (nv H).length ch], .int .i64 et] (grow (redrawn Wb dd) os) fun e w'' => e = .returned (.int .i64 (hf et)) ∧ ∃ p : Regrown, w'' = grow (redrawn Wb p.d) p.os := fun dd os => Calls.regrown_of (by rw [← HHF.out]; exact head_any _ _ N H et _ (HMb.out.below (below_regrown Wb dd os)))
                obtain ⟨zf, hzf⟩ : ∃ z, hf ef = z := ⟨_, rfl⟩
                obtain ⟨zt, hzt⟩ : ∃ z, hf et = z := ⟨_, rfl⟩
                rw [hzf] at k0
                rw [hzt] at k1
                rw [hzf, hzt] at HBL2
                rw [hzf] at HTH
                rw [hzt] at HTH
                clear hTL hTH hb1 hBe hWb hbB hBw HK HMb hzf hzt he hll hbl HBL
                go_upto_region 18 with (fail)
                rw [HWb.out]
                clear c0 c1 HWb
                obtain ⟨b1, hb1⟩ : ∃ b1, (zf == zt) = b1 := ⟨_, rfl⟩
                obtain ⟨b2, hb2⟩ : ∃ b2, decide (zf ≤ x) = b2 := ⟨_, rfl⟩
                rw [hb1, hb2] at HBL2
                refine wp_region_quiet_below (by kernel_rfl) (by kernel_rfl) ?_
                repeat (go_big_quiet_step (first | (with_reducible exact k0 _ _) | (with_reducible exact k1 _ _)))
                refine wpQuiet_nil ?_
                intro _ hw'
                obtain ⟨⟨dq, osq⟩, hw''⟩ := hw'
                subst hw''
                have b5 := below_regrown Wb dq osq
                generalize grow (redrawn Wb dq) osq = W5 at b5 ⊢
                clear q0 q1 q2 q3 k0 k1 e0 e1
                have hlB := HBE.out.lt
                have d0 : W5.cell? ⟨bx, 0, none⟩ = some (.int .i64 ef) := (b5.cell (p := ⟨bx, 0, none⟩) (by rw [← hbx]; exact hlB)).trans d0
                have d1 : W5.cell? ⟨bx, 1, none⟩ = some (.int .i64 et) := (b5.cell (p := ⟨bx, 1, none⟩) (by rw [← hbx]; exact hlB)).trans d1
                have HO5 : Hid (Two W5 W3.heap.size (.slice a4 n4 k4) (.slice a5 n5 k5) (lowL (L.take q) hf x) (highL (L.take q) hf x) ∧ Below W3.heap.size W3 W5) := Lib.hid ⟨HOB.out.1.below b5, HOB.out.2.trans (b5.mono HOB.out.2.size)⟩
                clear hlB HBE HOB hbx b5
                have HGL : Hid (∃ v9 w9, (Builtin.append_ #[37, 37] 37 #[.slice a4 n4 k4, .slice (some ⟨W5.heap.size, 0, none⟩) 1 1]).run Try.prog (W5.alloc (.cells #[.int .i64 ef, .int .i64 et] 52)) = .ok v9 w9 ∧ (∃ a n c, v9 = .slice a n c) ∧ (Two w9 W3.heap.size v9 (.slice a5 n5 k5) (lowL (L.take q) hf x ++ [⟨ef, et⟩]) (highL (L.take q) hf x) ∧ Below W3.heap.size W3 w9)) := Lib.hid (by
                  have hb9 := below_box W5 (.cells #[.int .i64 ef, .int .i64 et] 52)
                  obtain ⟨v9, w9, hr9, ha9⟩ := run_edge (w := W5.alloc (.cells #[.int .i64 ef, .int .i64 et] 52)) (own_below HO5.out.1.o1 hb9) (Blk.new W5 52 (ec ⟨ef, et⟩)) (by have := HLL.out.1; omega) (Nat.le_trans HO5.out.2.size hb9.size)
                  obtain ⟨a9, c9', e9⟩ := own_shape ha9.1
                  exact ⟨v9, w9, hr9, ⟨_, _, _, e9⟩, HO5.out.1.app hb9 ha9, (HO5.out.2.trans (hb9.mono HO5.out.2.size)).grown ha9.2.1 (Nat.le_trans HO5.out.2.size hb9.size) (fun k hk => own_ge HO5.out.1.o1 k hk)⟩)
                have HGH : Hid (∃ v9 w9, (Builtin.append_ #[37, 37] 37 #[.slice a5 n5 k5, .slice (some ⟨W5.heap.size, 0, none⟩) 1 1]).run Try.prog (W5.alloc (.cells #[.int .i64 zf, .int .i64 zt] 52)) = .ok v9 w9 ∧ (∃ a n c, v9 = .slice a n c) ∧ (Two w9 W3.heap.size (.slice a4 n4 k4) v9 (lowL (L.take q) hf x) (highL (L.take q) hf x ++ [⟨zf, zt⟩]) ∧ Below W3.heap.size W3 w9)) := Lib.hid (by
                  have hb9 := below_box W5 (.cells #[.int .i64 zf, .int .i64 zt] 52)
                  obtain ⟨v9, w9, hr9, ha9⟩ := run_edge (w := W5.alloc (.cells #[.int .i64 zf, .int .i64 zt] 52)) (own_below HO5.out.1.o2 hb9) (Blk.new W5 52 (ec ⟨zf, zt⟩)) (by have := HLL.out.2; omega) (Nat.le_trans HO5.out.2.size hb9.size)
                  obtain ⟨a9, c9', e9⟩ := own_shape ha9.1
                  exact ⟨v9, w9, hr9, ⟨_, _, _, e9⟩, (HO5.out.1.swap.app hb9 ha9).swap, (HO5.out.2.trans (hb9.mono HO5.out.2.size)).grown ha9.2.1 (Nat.le_trans HO5.out.2.size hb9.size) (fun k hk => own_ge HO5.out.1.o2 k hk)⟩)
                clear HO5 HLL
                have hlow := HBL2.out
                clear HBL2
                cases bl with
                | true =>
                  obtain ⟨rfl, rfl⟩ : b1 = true ∧ b2 = true := by simpa using hlow
                  obtain ⟨v9, w9, hr9, ⟨a9, n9, c9', rfl⟩, hT9⟩ := HGL.out
                  have HR := Lib.hid hr9
                  have HN : Hid (Two w9 W3.heap.size (.slice a9 n9 c9') (.slice a5 n5 k5) (lowL (L.take (q + 1)) hf x) (highL (L.take (q + 1)) hf x) ∧ Below W3.heap.size W3 w9) := Lib.hid (by rw [HTL.out, HTH.out, if_pos rfl, if_pos rfl]; exact hT9)
                  clear hr9 hT9 HGL HGH HTL HTH hlow
                  go_wp2_with (at_builtin; refine wpList_run rfl _ _ rfl rfl rfl HR.out ?_)
                  go_roundw
                  case rel => exact ⟨q + 1, by omega, by go_num, ⟨_, _, _, rfl⟩, ⟨_, _, _, rfl⟩, HN⟩
                  case measure => simp [intOf]; omega
                | false =>
                  obtain ⟨v9, w9, hr9, ⟨a9, n9, c9', rfl⟩, hT9⟩ := HGH.out
                  have HR := Lib.hid hr9
                  have HN : Hid (Two w9 W3.heap.size (.slice a4 n4 k4) (.slice a9 n9 c9') (lowL (L.take (q + 1)) hf x) (highL (L.take (q + 1)) hf x) ∧ Below W3.heap.size W3 w9) := Lib.hid (by rw [HTL.out, HTH.out, if_neg (by simp), if_neg (by simp)]; exact hT9)
                  clear hr9 hT9 HGL HGH HTL HTH
                  cases b1 with
                  | true =>
                    obtain rfl : b2 = false := by simpa using hlow
                    clear hlow
                    go_wp2_with (at_builtin; refine wpList_run rfl _ _ rfl rfl rfl HR.out ?_)
                    go_roundw
                    case rel => exact ⟨q + 1, by omega, by go_num, ⟨_, _, _, rfl⟩, ⟨_, _, _, rfl⟩, HN⟩
                    case measure => simp [intOf]; omega
                  | false =>
                    clear hlow
                    go_wp2_with (at_builtin; refine wpList_run rfl _ _ rfl rfl rfl HR.out ?_)
                    go_roundw
                    case rel => exact ⟨q + 1, by omega, by go_num, ⟨_, _, _, rfl⟩, ⟨_, _, _, rfl⟩, HN⟩
                    case measure => simp [intOf]; omega
              · obtain rfl : q = j := by omega
                obtain ⟨hT, hbT⟩ := HK.out
                rw [List.take_of_length_le (by rw [HM.out]; exact Nat.le_refl _)] at hT
                have hbW := HB3.out.trans (hbT.mono HB3.out.size)
                have hH : Heads (upTo L x) hf := by rw [← HHF.out]; exact HHD.out
                have hIw := HI.out.below hbW
                have h2l : (highL L hf x).length ≤ 1000 ∧ (lowL L hf x).length ≤ 1000 := by
                  have h1 : (lowL L hf x).length ≤ L.length := List.length_filter_le _ _
                  have h2 : (highL L hf x).length ≤ L.length := by unfold highL; rw [List.length_map]; exact List.length_filter_le _ _
                  rw [HM.out] at h1 h2; omega
                have hml := HN.out
                have HG1 : Hid (∀ W', Below wr.heap.size wr W' → Calls Try.prog 40 #[.slice a5 n5 k5, .slice (some ⟨b, off + (k + 1), none⟩) (n - (k + 1)) (c - (k + 1))] W' (GrRes (highL L hf x) (M.drop (k + 1)) W')) := Lib.hid fun W' hb =>
                  ih _ _ _ _ W' (by rw [List.length_drop]; omega) (ER.of_own (own_below hT.o2 hb)) (ir_drop (hIw.below hb) hkn) (HP.out.drop) (high_inn hH HIN.out) (fun v hv => by
                    obtain ⟨h1, h2⟩ := (high_vic hH).1 hv
                    exact HPART.out.2 v (HV.out v h1) h2) h2l.1 (by rw [List.length_drop]; omega)
                have HG2 : Hid (∀ W', Below wr.heap.size wr W' → Calls Try.prog 40 #[.slice a4 n4 k4, .slice (some ⟨b, off, none⟩) (k + 1) c] W' (GrRes (lowL L hf x) (M.take (k + 1)) W')) := Lib.hid fun W' hb =>
                  ih _ _ _ _ W' (by rw [List.length_take]; omega) (ER.of_own (own_below hT.o1 hb)) (ir_take (hIw.below hb) (by omega)) (HP.out.take) (low_inn hH) (fun v hv => by
                    obtain ⟨h1, h2⟩ := (low_vic hH).1 hv
                    exact HPART.out.1 v (HV.out v h1) h2) h2l.2 (by rw [List.length_take]; omega)
                have HJ : Hid (∀ R1 R2, IsVics (highL L hf x) R1 → IsVics (lowL L hf x) R2 → IsVics L (R1 ++ R2)) := Lib.hid fun R1 R2 h1 h2 => vics_join hH h1 h2
                have HBW := Lib.hid hbW
                have hws3 : IntKind.i64.wrap ((k : Int) + 1) = (k : Int) + 1 := by rw [IntKind.wrap_i64]; omega
                have u1 : (k : Int) + 1 ≤ (n : Int) := by omega
                have u2 : (k : Int) + 1 ≤ (c : Int) := by omega
                have u3 : ¬ k + 1 = c := by omega
                have u4 : ¬ c = k + 1 := by omega
                have u0 : 0 ≤ (k : Int) + 1 := by omega
                clear hT hbT hbW hH hIw h2l hml HK ih HI HP HIN HV HX HPART HE HL3 HM3 HBX HHD HHF
                go_upto_region 23 with (fail)
                go_region_held3 (fun _ => True) (trivial) (first
                  | (go_at_call 40; (with_reducible refine (HG1.out _ ?_).mono ?_); (first | assumption | exact (Below.refl _ _).drew | exact Below.refl _ _); rintro e w7 ⟨v7, R7, rfl, hV7, hL7, ho7, hb7⟩; have H7 : Hid (IsVics (highL L hf x) R7 ∧ R7.length ≤ (M.drop (k + 1)).length ∧ w7.ownsRow wr.heap.size 3 1 v7 R7.length (iv R7) ∧ Below wr.heap.size wr w7) := Lib.hid ⟨hV7, hL7, ho7, by first | exact hb7 | exact (drew_below wr 1).trans hb7⟩; clear hV7 hL7 ho7 hb7)
                  | (go_at_call 40; (with_reducible refine (HG2.out _ ?_).mono ?_); (exact H7.out.2.2.2); rintro e w8 ⟨v8, R8, rfl, hV8, hL8, ho8, hb8⟩; have H8 : Hid (IsVics (lowL L hf x) R8 ∧ R8.length ≤ (M.take (k + 1)).length ∧ IR w8 v8 R8 ∧ w8.ownsRow wr.heap.size 3 1 v7 R7.length (iv R7) ∧ Below wr.heap.size wr w8) := Lib.hid ⟨hV8, hL8, IR.of_own ho8, own_below H7.out.2.2.1 hb8, H7.out.2.2.2.trans (hb8.mono H7.out.2.2.2.size)⟩; clear hV8 hL8 ho8 hb8)
                  | (refine step_cat (B := wr.heap.size) rfl (.tmp 94) (.tmp 99) rfl v7 v8 R7 R8 (by simp [Act.eval]) (by simp [Act.eval]) H8.out.2.2.2.1 H8.out.2.2.1 (by have h1 := H7.out.2.1; have h2 := H8.out.2.1; rw [List.length_drop] at h1; rw [List.length_take] at h2; have := HN.out; omega) H8.out.2.2.2.2.size ?_; intro v9 w9 ha9; have HA9 := Lib.hid ha9; clear ha9))
                have FIN : ∀ W, w9 = W ∨ w9.drew = W → Hid (GrRes L M w (.returned v9) W) := fun W hW => Lib.hid (by
                  have h7 := H7.out
                  have h8 := H8.out
                  have h9 := HA9.out
                  have hb9 : Below wr.heap.size wr w9 := h8.2.2.2.2.grown h9.2.1 h8.2.2.2.2.size (fun j hj => own_ge h8.2.2.2.1 j hj)
                  have hbW : Below wr.heap.size wr W := by
                    rcases hW with e | e
                    · rw [← e]; exact hb9
                    · rw [← e]; exact hb9.trans ((drew_below w9 1).mono hb9.size)
                  have hoW : W.ownsRow wr.heap.size 3 1 v9 (R7 ++ R8).length (iv (R7 ++ R8)) := by
                    rcases hW with e | e
                    · rw [← e]; exact h9.1
                    · rw [← e]; exact h9.1
                  refine ⟨_, R7 ++ R8, rfl, HJ.out _ _ h7.1 h8.1, ?_, own_base hoW HBW.out.size, HBW.out.trans (hbW.mono HBW.out.size)⟩
                  have h1 := h7.2.1
                  have h2 := h8.2.1
                  rw [List.length_drop] at h1
                  rw [List.length_take] at h2
                  rw [List.length_append]
                  have := HN.out
                  omega)
                have F1 := FIN _ (.inl rfl)
                have F2 := FIN _ (.inr rfl)
                obtain ⟨a9, c9, e9⟩ := own_shape HA9.out.1
                subst e9
                clear FIN H7 H8 HA9 HG1 HG2 HJ
                go_wp2
                go_ret
                first | exact F1.out | exact F2.out
theorem stuck_of {L : List Ed} {h : Int → Int} (hh : Heads L h) : IsStuck L (onceL ((innL L h).map Ed.f)) := by
  obtain ⟨h1, h2, _⟩ := once_is ((innL L h).map Ed.f)
  refine ⟨h1, fun v => ?_⟩
  rw [h2, ← from_innL hh, List.mem_map]
def StuckRes (L : List Ed) (w : World) (e : Ending) (w' : World) : Prop := ∃ v R, e = .returned v ∧ IsStuck L R ∧ R.length ≤ L.length ∧ w'.ownsRow w.heap.size 3 1 v R.length (iv R) ∧ Below w.heap.size w w'
theorem innL_len (L : List Ed) (h : Int → Int) : (innL L h).length ≤ L.length := List.length_filter_le _ _
set_option maxRecDepth 100000 in
theorem stuck_any (lv : Value) (L : List Ed) (w : World) (h : ER w lv L) (hl : L.length ≤ 1000) :
    Calls Try.prog 20 #[lv] w (StuckRes L w) := by
  have HI := Lib.hid (inner_any lv L w h hl)
  have HL := Lib.hid hl
  obtain ⟨al, cl, rfl⟩ := h.shape
  clear h hl
  go_enter Try.func20, Try.ntmps20
  go_wp2_with fail
  refine HI.out.mono ?_
  rintro e w1 ⟨v1, hf, rfl, hH, ho1, hb1⟩
  have HT := Lib.hid (tied_any v1 _ w1 (ER.of_own ho1) (Nat.le_trans (innL_len L hf) HL.out))
  have HB := Lib.hid hb1
  have HH := Lib.hid hH
  obtain ⟨a1, c1, rfl⟩ := own_shape ho1
  clear ho1 hb1 hH HI
  go_wp2_with fail
  refine HT.out.mono ?_
  rintro e w2 ⟨v2, rfl, ho2, hb2⟩
  have FIN : Hid (StuckRes L w (.returned v2) w2) := Lib.hid ⟨v2, _, rfl, stuck_of HH.out, Nat.le_trans (once_is _).2.2 (by rw [List.length_map]; exact innL_len L hf), own_base ho2 HB.out.size, HB.out.trans (hb2.mono HB.out.size)⟩
  obtain ⟨a2, c2, rfl⟩ := own_shape ho2
  clear ho2 hb2 HT
  go_wp2
  go_ret
  exact FIN.out
def VicsRes (L : List Ed) (w : World) (e : Ending) (w' : World) : Prop := ∃ v R, e = .returned v ∧ IsVics L R ∧ R.length ≤ L.length ∧ w'.ownsRow w.heap.size 3 1 v R.length (iv R) ∧ Below w.heap.size w w'
set_option maxRecDepth 100000 in
theorem victims_any (lv : Value) (L : List Ed) (w : World) (h : ER w lv L) (hl : L.length ≤ 1000) :
    Calls Try.prog 21 #[lv] w (VicsRes L w) := by
  have HI := Lib.hid (inner_any lv L w h hl)
  have HL := Lib.hid hl
  obtain ⟨al, cl, rfl⟩ := h.shape
  clear h hl
  go_enter Try.func21, Try.ntmps21
  go_wp2_with fail
  refine HI.out.mono ?_
  rintro e w1 ⟨v1, hf, rfl, hH, ho1, hb1⟩
  have hE1 := ER.of_own ho1
  have HE1 := Lib.hid hE1
  have HT := Lib.hid (tied_any v1 _ w1 hE1 (Nat.le_trans (innL_len L hf) HL.out))
  have HB := Lib.hid hb1
  have HH := Lib.hid hH
  obtain ⟨a1, c1, rfl⟩ := own_shape ho1
  clear ho1 hb1 hH HI hE1
  go_wp2_with fail
  refine HT.out.mono ?_
  rintro e w2 ⟨v2, rfl, ho2, hb2⟩
  have HB2 := Lib.hid (HB.out.trans (hb2.mono HB.out.size))
  have HG := Lib.hid (greatest_any _ _ v2 _ (onceL ((innL L hf).map Ed.f)) w2 (Nat.le_refl _) (HE1.out.below hb2) (IR.of_own ho2) (once_is _).1 (inn_innL HH.out) (fun v hv => (once_is _).2.1 v |>.2 (by
    obtain ⟨t, h1, _⟩ := hv.cyc
    exact List.mem_map.2 ⟨_, h1, rfl⟩)) (Nat.le_trans (innL_len L hf) HL.out) (Nat.le_trans (once_is _).2.2 (by rw [List.length_map]; have := innL_len L hf; have := HL.out; omega)))
  obtain ⟨a2, c2, rfl⟩ := own_shape ho2
  clear ho2 hb2 HT HE1 HB
  go_wp2_with fail
  refine HG.out.mono ?_
  rintro e w3 ⟨v3, R, rfl, hV, hRl, ho3, hb3⟩
  have FIN : Hid (VicsRes L w (.returned v3) w3) := Lib.hid ⟨v3, R, rfl, ⟨hV.1, fun v => (hV.2 v).trans (vic_innL HH.out)⟩, Nat.le_trans hRl (Nat.le_trans (once_is _).2.2 (by rw [List.length_map]; exact innL_len L hf)), own_base ho3 HB2.out.size, HB2.out.trans (hb3.mono HB2.out.size)⟩
  obtain ⟨a3, c3, rfl⟩ := own_shape ho3
  clear ho3 hb3 hV hRl HG
  go_wp2
  go_ret
  exact FIN.out
def VictimRes (L : List Ed) (w : World) (e : Ending) (w' : World) : Prop := (∃ R, IsStuck L R ∧ e = .returned (.tuple #[.int .i64 (R.getLastD 0), .bool (decide (R ≠ []))])) ∧ Below w.heap.size w w'
set_option maxRecDepth 100000 in
theorem victim_any (lv : Value) (L : List Ed) (w : World) (h : ER w lv L) (hl : L.length ≤ 1000) :
    Calls Try.prog 18 #[lv] w (VictimRes L w) := by
  have HI := Lib.hid (stuck_any lv L w h hl)
  obtain ⟨al, cl, rfl⟩ := h.shape
  have HL := Lib.hid hl
  clear h hl
  go_enter Try.func18, Try.ntmps18
  go_wp2_with fail
  refine HI.out.mono ?_
  rintro e w1 ⟨v1, R, rfl, hS, hRl, ho1, hb1⟩
  by_cases h0 : R = []
  · subst h0
    have FIN : Hid (VictimRes L w (.returned (.tuple #[.int .i64 0, .bool false])) w1) := Lib.hid ⟨⟨[], hS, rfl⟩, hb1⟩
    obtain ⟨a1, c1, rfl⟩ := own_shape ho1
    clear hS ho1 hb1 HI
    go_wp2
    refine bodyPost_ret (results_tmp2 rfl _ _ _) rfl ?_
    exact FIN.out
  · have hpos := List.length_pos_iff.2 h0
    obtain ⟨k, hk⟩ : ∃ k, R.length = k + 1 := ⟨R.length - 1, by omega⟩
    obtain ⟨x, hx⟩ : ∃ x, R[k]? = some x := ⟨_, List.getElem?_eq_getElem (by omega)⟩
    have hlast : R.getLastD 0 = x := by
      rw [List.getLastD_eq_getLast?, List.getLast?_eq_getElem?, hk, Nat.add_sub_cancel, hx]; rfl
    obtain ⟨b, off, c, rfl, hc, hb, c0⟩ := (IR.of_own ho1).at_ hx
    have FIN : Hid (VictimRes L w (.returned (.tuple #[.int .i64 x, .bool true])) w1) := Lib.hid ⟨⟨R, hS, by rw [hlast]; simp [h0]⟩, hb1⟩
    have hkl : k < 2000 := by have := HL.out; omega
    have hws : IntKind.i64.wrap (((k + 1 : Nat) : Int) - 1) = (k : Int) := by rw [IntKind.wrap_i64]; omega
    have g1 : ((k : Int) + 1 == 0) = false := by simp; omega
    have g2 : (k + 1 == 0) = false := by simp
    rw [hk]
    clear hS ho1 hb1 HI hlast hx hk hpos h0 hRl
    go_wp2
    refine bodyPost_ret (results_tmp2 rfl _ _ _) rfl ?_
    exact FIN.out
end Go.Proofs.Ythodggkpkjfggaa.Knot
