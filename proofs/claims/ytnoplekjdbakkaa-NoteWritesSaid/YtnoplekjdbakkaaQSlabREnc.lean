/- The document's own writing of an image, walked. -/
import Derived.Test.YtnoplekjdbakkaaQSlabBookA
import Derived.Test.YtnoplekjdbakkaaQSlabBookC
import Derived.Test.YtnoplekjdbakkaaQSlabBookB
namespace Go.Proofs.Ytnoplekjdbakkaa.Slab
set_option maxRecDepth 100000
open Go.RowKit Go.Sort

def lenOf : Value → Nat
  | .slice _ n _ => n
  | _ => 0
theorem info_byte : (Try.prog.info? 5).map (fun i => (i.zero, i.size, i.bytes)) = some (some (.int .u8 0), 1, 1) := by kernel_rfl
theorem app_below {w1 wr w2 : World} {o : Obj} {v : Value} {m k : Nat} {t : TypeId} {xs : List Value} (hbel : Below w1.heap.size w1 wr) (hg : (wr.alloc o).grownBy w2 v.ownBlock) (h : wr.ownsRow w1.heap.size t k v m xs) : Below w1.heap.size w1 w2 :=
  (hbel.alloc hbel.size o).grown hg (by have := hbel.size; simp; omega) (fun _ hj => own_block_ge h hj)
/-- a row of bytes of its own -/
def Row (w : World) (base : Nat) (v : Value) (p : List UInt8) : Prop := w.ownsRow base 5 1 v p.length (Lib.byteCells p)
theorem row_snoc {w : World} {base : Nat} {v : Value} {p : List UInt8} {b : UInt8} {c : Int} (h : w.ownsRow base 5 1 v (p.length + 1) (Lib.byteCells p ++ [.int .u8 c])) (hb : (b.toNat : Int) = c) : Row w base v (p ++ [b]) := by
  rw [byteCells_snoc p b c hb] at h
  unfold Row
  rw [List.length_append]
  exact h
theorem row_conv {w : World} {base : Nat} {v : Value} {p : List UInt8} (h : Row w base v p) (hp : 0 < p.length) :
    ∃ g cap, v = .slice (some ⟨g, 0, none⟩) p.length cap ∧ (convert 42 9 v).run Try.prog w = .ok (.string ⟨p.toArray⟩) w := by
  obtain ⟨g, cap, rfl⟩ : ∃ g cap, v = .slice (some ⟨g, 0, none⟩) p.length cap := by
    rcases h.2 with ⟨_, h0⟩ | ⟨g, cap, _, hg, _⟩
    · omega
    · exact ⟨g, cap, hg⟩
  have hcl := World.ownsRow.cells h (g := g) rfl
  exact ⟨g, cap, rfl, run_convert_bytes_back (P := Try.prog) w 42 9 5 ⟨g, 0, none⟩ cap p Try.underlying42 Try.underlying5 Try.underlying9
    (fun j hj => hcl j _ (by unfold Lib.byteCells; rw [List.getElem?_map, List.getElem?_eq_getElem hj]; rfl))⟩

theorem headB_len' (L : Nat) (l : List Slot) : 9 ≤ (headB L l).length := by unfold headB; simp [beL_length]; omega
set_option maxRecDepth 100000 in
set_option maxHeartbeats 8000000 in
theorem renc_good (L : Nat) (a : Option Addr) (n c : Nat) (zs : List Slot) (w : World) (h : Slots w a n zs) (hg : goodB (L : Int) zs = true) :
    Calls Try.prog 25 #[.agg #[.int .i64 (L : Int), .slice a n c]] w fun e w' => e = .returned (.tuple #[.string (encS' L zs), .int .i64 0]) ∧ Below w.heap.size w w' := by
  obtain ⟨i0, hi, hz0, hz1, hz2⟩ := info_parts info_byte
  have hp := good_parts hg
  have hL : L ≤ 1099511627776 := by omega
  have hn : n ≤ 32 := by have := h.len; omega
  have H0 := (Hold.nil (Below.refl w.heap.size w)).box2 (.int .i64 (L : Int)) (.slice a n c) 26
  have HO := Lib.hid h
  have HG := Lib.hid hg
  have HPT := Lib.hid hp
  clear h hg hp
  go_enter Try.func25, Try.ntmps25
  go_wp2_with fail
  generalize hGen : w.alloc (.cells #[.int .i64 (L : Int), .slice a n c] 26) = W at H0 ⊢
  clear hGen
  refine (rgood_any (L : Int) a n c zs _ (HO.out.below H0.b) (by omega)).mono ?_
  rw [HG.out]
  rintro e w1 ⟨rfl, b1⟩
  have H1 := H0.next b1
  have HLT := Lib.hid (World.block_lt_of_cell? _ ⟨w.heap.size, 0, none⟩ H1.head)
  go_wp2
  go_loopw [4, 5] (fun v ti wr => ∃ (s : Nat), s ≤ 8 ∧ ti = .int .i64 (8 * (s : Int) - 8) ∧ Row wr w1.heap.size v (beL L s) ∧ Below w1.heap.size w1 wr) (fun _ ti _ => (intOf ti + 8).toNat)
  case atStart => exact ⟨8, by omega, rfl, ⟨rfl, .inr ⟨w1.heap.size, 0, #[], rfl, Nat.le_refl _, heap_alloc_new _ _, Nat.le_refl _, by decide, rfl, rfl⟩⟩, (Below.refl _ _).alloc (Nat.le_refl _) _⟩
  case round =>
    obtain ⟨s, hs, rfl, hown, hbel⟩ := hrel
    have P0 : wr.cell? ⟨w.heap.size, 0, none⟩ = some (.int .i64 (L : Int)) := (hbel.cell (p := ⟨w.heap.size, 0, none⟩) HLT.out).trans H1.head
    have P1 : wr.cell? ⟨w.heap.size, 1, none⟩ = some (.slice a n c) := (hbel.cell (p := ⟨w.heap.size, 1, none⟩) HLT.out).trans H1.tail.head
    have HOWN := Lib.hid hown
    have hbl : (beL L s).length ≤ 8 := by rw [beL_length]; omega
    clear hown
    cases s with
    | succ t =>
      have ei : (8 * ((t + 1 : Nat) : Int) - 8) = ((8 * t : Nat) : Int) := by omega
      rw [ei]
      clear ei
      have hby := byteAt_int L t
      generalize hk : 8 * t = k8 at hby
      have HK8 := Lib.hid hk
      have HBY := Lib.hid hby
      have hk8 : k8 ≤ 56 := by omega
      clear hk hby
      go_wp2_with (at_builtin; refine wpList_append_own _ rfl _ _ 42 rfl w1.heap.size 5 i0 (.int .u8 0) 1 1 Try.underlying42 hi hz0 hz1 hz2 rfl (by decide) _ _ _ rfl (own_below HOWN.out ((Below.refl _ _).alloc (Nat.le_refl _) _)) ⟨_, 0, none⟩ 1 1 [.int .u8 ((L : Int) / 2 ^ k8 % 256)] rfl rfl ?p1 ?p2 ?p3 ?p4 ?p5 ?_)
      case p1 =>
        intro j u hj
        match j, hj with
        | 0, hj => simp at hj; subst hj; simp [Addr.add]
      case p2 => intro u hu; simp at hu; subst hu; rfl
      case p3 => unfold maxLen; omega
      case p4 => omega
      case p5 => have h1 := hbel.size; simp; omega
      intro v' w2 hown' hgrow' _
      have hbel' := app_below hbel hgrow' HOWN.out
      have hown2 := row_snoc hown' HBY.out
      rw [← beL_next L t (by omega)] at hown2
      have HO2 := Lib.hid hown2
      clear hown' hgrow' hown2
      go_wp2
      go_roundw
      case rel => exact ⟨t, by omega, by have := HK8.out; go_num, HO2.out, hbel'⟩
      case measure => have := HK8.out; simp [intOf]; omega
    | zero =>
      have hno := ofNat_int (n := n) (by omega)
      have HNO := Lib.hid hno
      clear hno
      go_wp2_with (at_builtin; refine wpList_append_own _ rfl _ _ 42 rfl w1.heap.size 5 i0 (.int .u8 0) 1 1 Try.underlying42 hi hz0 hz1 hz2 rfl (by decide) _ _ _ rfl (own_below HOWN.out ((Below.refl _ _).alloc (Nat.le_refl _) _)) ⟨_, 0, none⟩ 1 1 [.int .u8 ((n : Int))] rfl rfl ?q1 ?q2 ?q3 ?q4 ?q5 ?_)
      case q1 =>
        intro j u hj
        match j, hj with
        | 0, hj => simp at hj; subst hj; simp [Addr.add]
      case q2 => intro u hu; simp at hu; subst hu; rfl
      case q3 => unfold maxLen; omega
      case q4 => omega
      case q5 => have h1 := hbel.size; simp; omega
      intro v' w2 hown' hgrow' _
      have hbel' := app_below hbel hgrow' HOWN.out
      have HO2 := Lib.hid (row_snoc hown' HNO.out)
      clear hown' hgrow'
      obtain ⟨hdr, hdrE⟩ : ∃ hdr, hdr = beL L 0 ++ [UInt8.ofNat n] := ⟨_, rfl⟩
      rw [← hdrE] at HO2
      have hhl : hdr.length ≤ 9 := by rw [hdrE, List.length_append, beL_length]; simp
      have HDR := Lib.hid hdrE
      clear hdrE P0 P1
      go_wp2
      go_loopw [4, 6] (fun v ti wr => ∃ (k : Nat), k ≤ n ∧ ti = .int .i64 (k : Int) ∧ Row wr w1.heap.size v (hdr ++ slotsB (zs.take k)) ∧ Below w1.heap.size w1 wr) (fun _ ti _ => n - (intOf ti).toNat)
      case atStart => exact ⟨0, Nat.zero_le _, rfl, by simpa [slotsB] using HO2.out, hbel'⟩
      case round =>
        obtain ⟨k, hk, rfl, hrow, hbel⟩ := hrel
        have HROW := Lib.hid hrow
        clear hrow
        have P0 : wr.cell? ⟨w.heap.size, 0, none⟩ = some (.int .i64 (L : Int)) := (hbel.cell (p := ⟨w.heap.size, 0, none⟩) HLT.out).trans H1.head
        have P1 : wr.cell? ⟨w.heap.size, 1, none⟩ = some (.slice a n c) := (hbel.cell (p := ⟨w.heap.size, 1, none⟩) HLT.out).trans H1.tail.head
        have hsl : (slotsB (zs.take k)).length ≤ 231 := by
          have h1 := slotsB_le (zs.take k)
          have h2 := sz_take_le zs k
          have h3 := HPT.out.2.2.2.2.2
          omega
        have hpl : (hdr ++ slotsB (zs.take k)).length ≤ 240 := by rw [List.length_append]; omega
        by_cases hlt : k < n
        · obtain ⟨b, off, u, d, rfl, hb1, hget, c1', c2', hd⟩ := (HO.out.below H1.b).at_ hlt
          have c1 := (hbel.cell (p := ⟨b, off + k * 2, none⟩) hb1).trans c1'
          have c2 := (hbel.cell (p := ⟨b, off + k * 2 + 1, none⟩) hb1).trans c2'
          have hnx := slotsB_next hget
          have hd200 : d.size ≤ 200 := by
            have := List.any_eq_false.1 HPT.out.2.2.2.2.1 _ (List.mem_of_getElem? hget)
            simp [wrongB] at this
            omega
          have HNX := Lib.hid hnx
          have hj0 : (0 : Int) ≤ (k : Int) := by omega
          have hj1 : (k : Int) < (n : Int) := by omega
          clear hnx hget
          generalize hP : hdr ++ slotsB (zs.take k) = P at hpl HROW
          have HPE := Lib.hid hP
          clear hP hsl
          cases u with
          | false =>
            go_wp2_with (at_builtin; refine wpList_append_own _ rfl _ _ 42 rfl w1.heap.size 5 i0 (.int .u8 0) 1 1 Try.underlying42 hi hz0 hz1 hz2 rfl (by decide) _ _ _ rfl (own_below HROW.out ((Below.refl _ _).alloc (Nat.le_refl _) _)) ⟨_, 0, none⟩ 1 1 [.int .u8 (255)] rfl rfl ?r1 ?r2 ?r3 ?r4 ?r5 ?_)
            case r1 =>
              intro j u hj
              match j, hj with
              | 0, hj => simp at hj; subst hj; simp [Addr.add]
            case r2 => intro u hu; simp at hu; subst hu; rfl
            case r3 => unfold maxLen; omega
            case r4 => omega
            case r5 => have h1 := hbel.size; simp; omega
            intro v' w2 hown' hgrow' _
            have hbel' := app_below hbel hgrow' HROW.out
            have HO3 := Lib.hid (row_snoc (b := 255) hown' rfl)
            clear hown' hgrow'
            go_wp2
            go_roundw
            case rel => exact ⟨k + 1, by omega, by go_num, by rw [HNX.out, ← List.append_assoc, HPE.out]; exact HO3.out, hbel'⟩
            case measure => simp [intOf]; omega
          | true =>
            have hno := ofNat_int (n := d.size) (by omega)
            have HND := Lib.hid hno
            clear hno
            go_wp2_with (at_builtin; refine wpList_append_own _ rfl _ _ 42 rfl w1.heap.size 5 i0 (.int .u8 0) 1 1 Try.underlying42 hi hz0 hz1 hz2 rfl (by decide) _ _ _ rfl (own_below HROW.out ((Below.refl _ _).alloc (Nat.le_refl _) _)) ⟨_, 0, none⟩ 1 1 [.int .u8 ((d.size : Int))] rfl rfl ?s1 ?s2 ?s3 ?s4 ?s5 ?_)
            case s1 =>
              intro j u hj
              match j, hj with
              | 0, hj => simp at hj; subst hj; simp [Addr.add]
            case s2 => intro u hu; simp at hu; subst hu; rfl
            case s3 => unfold maxLen; omega
            case s4 => omega
            case s5 => have h1 := hbel.size; simp; omega
            intro v' w2 hown' hgrow' _
            have hbel' := app_below hbel hgrow' HROW.out
            have HO3 := Lib.hid (row_snoc hown' HND.out)
            have hp3 : (P ++ [UInt8.ofNat d.size]).length ≤ 241 := by rw [List.length_append]; simp; omega
            generalize hP : P ++ [UInt8.ofNat d.size] = P3 at HO3 hp3
            have HP3 := Lib.hid hP
            clear hown' hgrow' hP P0 P1
            go_wp2
            go_loopw [4, 7] (fun v tj wr => ∃ (j : Nat), j ≤ d.size ∧ tj = .int .i64 (j : Int) ∧ Row wr w1.heap.size v (P3 ++ d.data.toList.take j) ∧ Below w1.heap.size w1 wr) (fun _ tj _ => d.size - (intOf tj).toNat)
            case atStart => exact ⟨0, Nat.zero_le _, rfl, by simpa using HO3.out, hbel'⟩
            case round =>
              obtain ⟨j, hj, rfl, hrow, hbel⟩ := hrel
              have HROW3 := Lib.hid hrow
              clear hrow
              have P0 : wr.cell? ⟨w.heap.size, 0, none⟩ = some (.int .i64 (L : Int)) := (hbel.cell (p := ⟨w.heap.size, 0, none⟩) HLT.out).trans H1.head
              have P1 : wr.cell? ⟨w.heap.size, 1, none⟩ = some (.slice (some ⟨b, off, none⟩) n c) := (hbel.cell (p := ⟨w.heap.size, 1, none⟩) HLT.out).trans H1.tail.head
              have k1 := (hbel.cell (p := ⟨b, off + k * 2, none⟩) hb1).trans c1'
              have k2 := (hbel.cell (p := ⟨b, off + k * 2 + 1, none⟩) hb1).trans c2'
              have hll : (P3 ++ d.data.toList.take j).length ≤ 500 := by rw [List.length_append, List.length_take]; omega
              by_cases hjl : j < d.size
              · have hjl' : (j : Int) < (d.size : Int) := by omega
                have hj00 : (0 : Int) ≤ (j : Int) := by omega
                have hjx : j < d.data.toList.length := by simpa using hjl
                have htn : d.data.toList.take (j + 1) = d.data.toList.take j ++ [d[j]'hjl] := by
                  rw [List.take_succ_eq_append_getElem hjx]
                  congr 1
                have HTN := Lib.hid htn
                clear htn hjx
                generalize hP4 : P3 ++ d.data.toList.take j = P4 at hll HROW3
                have HP4 := Lib.hid hP4
                clear hP4
                go_wp2_with (at_builtin; refine wpList_append_own _ rfl _ _ 42 rfl w1.heap.size 5 i0 (.int .u8 0) 1 1 Try.underlying42 hi hz0 hz1 hz2 rfl (by decide) _ _ _ rfl (own_below HROW3.out ((Below.refl _ _).alloc (Nat.le_refl _) _)) ⟨_, 0, none⟩ 1 1 [.int .u8 (((d[j]'hjl).toNat : Int))] rfl rfl ?t1 ?t2 ?t3 ?t4 ?t5 ?_)
                case t1 =>
                  intro j u hj
                  match j, hj with
                  | 0, hj => simp at hj; subst hj; simp [Addr.add]
                case t2 => intro u hu; simp at hu; subst hu; rfl
                case t3 => unfold maxLen; omega
                case t4 => omega
                case t5 => have h1 := hbel.size; simp; omega
                intro v' w2 hown' hgrow' _
                have hbel' := app_below hbel hgrow' HROW3.out
                have HO5 := Lib.hid (row_snoc hown' rfl)
                clear hown' hgrow'
                go_wp2
                go_roundw
                case rel => exact ⟨j + 1, by omega, by go_num, by rw [HTN.out, ← List.append_assoc, HP4.out]; exact HO5.out, hbel'⟩
                case measure => simp [intOf]; omega
              · obtain rfl : j = d.size := by omega
                have hfin : P3 ++ d.data.toList.take d.size = hdr ++ slotsB (zs.take (k + 1)) := by
                  rw [List.take_of_length_le (by simp), HNX.out, ← HP3.out, ← HPE.out]
                  simp [slotB]
                have HFIN := Lib.hid hfin
                clear hfin
                go_wp2
                go_roundw
                case rel => exact ⟨k + 1, by omega, by go_num, by rw [← HFIN.out]; exact HROW3.out, hbel⟩
                case measure => simp [intOf]; omega
        · obtain rfl : k = n := by omega
          have hhd : hdr ++ slotsB (zs.take k) = headB L zs := by
            rw [take_all HO.out.len, HDR.out]
            unfold headB
            rw [HO.out.len]
            simp
          rw [hhd] at HROW hpl
          have hh9 := headB_len' L zs
          go_wp2
          go_loopw [4] (fun v wr => ∃ (j : Nat), (headB L zs).length + j ≤ 240 ∧ Row wr w1.heap.size v (headB L zs ++ List.replicate j 0) ∧ Below w1.heap.size w1 wr) (fun v _ => 240 - lenOf v)
          case atStart => exact ⟨0, by omega, by simpa using HROW.out, hbel⟩
          case round =>
            obtain ⟨j, hj, hrow, hbel⟩ := hrel
            have hpl2 : (headB L zs ++ List.replicate j (0 : UInt8)).length = (headB L zs).length + j := by simp
            obtain ⟨g, cap, rfl, hcv⟩ := row_conv hrow (by rw [hpl2]; omega)
            have HROW4 := Lib.hid hrow
            have HCV := Lib.hid hcv
            clear hrow hcv
            by_cases hjl : (headB L zs).length + j < 240
            · generalize hP5 : headB L zs ++ List.replicate j (0 : UInt8) = P5 at hpl2 HROW4 HCV ⊢
              have HP5 := Lib.hid hP5
              clear hP5
              have hp5 : P5.length < 240 := by omega
              have hp5' : (P5.length : Int) < 240 := by omega
              have HPL := Lib.hid hpl2
              clear hpl2 HCV
              go_wp2_with (at_builtin; refine wpList_append_own _ rfl _ _ 42 rfl w1.heap.size 5 i0 (.int .u8 0) 1 1 Try.underlying42 hi hz0 hz1 hz2 rfl (by decide) _ _ _ rfl (own_below HROW4.out ((Below.refl _ _).alloc (Nat.le_refl _) _)) ⟨_, 0, none⟩ 1 1 [.int .u8 (0)] rfl rfl ?x1 ?x2 ?x3 ?x4 ?x5 ?_)
              case x1 =>
                intro j u hj
                match j, hj with
                | 0, hj => simp at hj; subst hj; simp [Addr.add]
              case x2 => intro u hu; simp at hu; subst hu; rfl
              case x3 => unfold maxLen; omega
              case x4 => omega
              case x5 => have h1 := hbel.size; simp; omega
              intro v' w2 hown' hgrow' _
              have hbel' := app_below hbel hgrow' HROW4.out
              have HO6 := Lib.hid (row_snoc (b := 0) hown' rfl)
              obtain ⟨g', cap', hv', _⟩ := row_conv HO6.out (by rw [List.length_append]; simp)
              subst hv'
              clear hown' hgrow'
              go_wp2
              go_roundw
              case rel => exact ⟨j + 1, by omega, by rw [List.replicate_succ', ← List.append_assoc, HP5.out]; exact HO6.out, hbel'⟩
              case measure => simp [lenOf]; omega
            · have hfin : encB L zs = headB L zs ++ List.replicate j 0 := by unfold encB; rw [show 240 - (headB L zs).length = j by omega]
              have hse : encS' (L : Int) zs = ⟨(headB L zs ++ List.replicate j (0 : UInt8)).toArray⟩ := by unfold encS'; rw [if_pos HG.out, Int.toNat_natCast, hfin]
              have hcv := HCV.out
              generalize headB L zs ++ List.replicate j (0 : UInt8) = P5 at hpl2 hcv HROW4 HCV hse ⊢
              have HSE := Lib.hid hse
              have hp5 : (240 : Int) ≤ (P5.length : Int) := by omega
              clear hpl2 hfin hse
              go_wp2
              exact bodyPost_ret (v := .tuple #[.string ⟨P5.toArray⟩, .int .i64 0]) (by simp [results, Try.results25, go_sem]) rfl ⟨by rw [HSE.out], H1.b.trans (hbel.mono H1.b.size)⟩

set_option maxRecDepth 100000 in
set_option maxHeartbeats 4000000 in
theorem renc_any (lsn : Int) (a : Option Addr) (n c : Nat) (zs : List Slot) (w : World) (h : Slots w a n zs) (hn : n ≤ 1000000) :
    Calls Try.prog 25 #[.agg #[.int .i64 lsn, .slice a n c]] w fun e w' => e = .returned (.tuple #[.string (encS' lsn zs), .int .i64 (encCode lsn zs)]) ∧ Below w.heap.size w w' := by
  cases hg : goodB lsn zs with
  | true =>
    obtain ⟨L, rfl⟩ := Int.eq_ofNat_of_zero_le (good_parts hg).1
    have := renc_good L a n c zs w h hg
    rw [show (encCode (L : Int) zs) = 0 by unfold encCode; rw [hg]; rfl]
    exact this
  | false =>
    have hb0 : Below w.heap.size w (w.alloc (.cells #[.int .i64 lsn, .slice a n c] 26)) := (Below.refl _ _).alloc (Nat.le_refl _) _
    have HS := Lib.hid (h.below hb0)
    obtain ⟨c0, c1⟩ := page_cells w (.int .i64 lsn) (.slice a n c) 26
    have he : encS' lsn zs = ⟨#[]⟩ := by unfold encS'; rw [hg]; rfl
    have hc : encCode lsn zs = 1 := by unfold encCode; rw [hg]; rfl
    rw [he, hc]
    have HG := Lib.hid hg
    clear hg h he hc
    go_enter Try.func25, Try.ntmps25
    go_wp2_with fail
    generalize hGen : w.alloc (.cells #[.int .i64 lsn, .slice a n c] 26) = W at c0 c1 hb0 HS ⊢
    clear hGen
    refine (rgood_any lsn a n c zs _ HS.out hn).mono ?_
    rw [HG.out]
    rintro e w1 ⟨rfl, b1⟩
    go_wp2
    exact bodyPost_ret (v := .tuple #[.string ⟨#[]⟩, .int .i64 1]) (by simp [results, Try.results25, go_sem]) rfl ⟨rfl, hb0.trans (b1.mono hb0.size)⟩
end Go.Proofs.Ytnoplekjdbakkaa.Slab
