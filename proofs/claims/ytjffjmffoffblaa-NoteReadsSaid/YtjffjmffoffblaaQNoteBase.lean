/- Plain facts on messages: which can be, their bodies, what a body says; no program is named here. What is written is read as it was; what is read was written so. A message in memory: its cells, its rows; Go's '==' of names; entries in a row, one by one. -/
import Derived.Test.YtjffjmffoffblaaQEntMath
import Derived.Test.YtjffjmffoffblaaQSlabBookC
import Derived.Test.YtjffjmffoffblaaQSumBook
import Derived.Test.YtjffjmffoffblaaQOpenBook
import Derived.Test.YtjffjmffoffblaaQEntGood
import Derived.Test.YtjffjmffoffblaaQSlabBookA
import Derived.Test.YtjffjmffoffblaaQMem
namespace Go.Proofs.Ytjffjmffoffblaa.Note
set_option maxRecDepth 100000
open Go.Proofs.Ytjffjmffoffblaa.Nib (enc takeInt Fits takeInt_enc takeInt_form)
open Go.Proofs.Ytjffjmffoffblaa.Ent (Ent withinB knownB rawL decX decT decC dec_back dec_parts arr arr_list)
open Go.Proofs.Ytjffjmffoffblaa.Slab (Slot decR)

structure Ms where
  kind : Int
  page : Int
  x : Bool
  need : Bool
  n : Int
  cl : Int
  ep : Int
  tn : Int
  lsn : Int
  zs : List Slot
  es : List Ent
def noM : Ms := ⟨0, 0, false, false, 0, 0, 0, 0, 0, [], []⟩
/-- what the messages of a kind have -/
structure Has where
  page : Bool
  x : Bool
  need : Bool
  txn : Bool
  n : Bool
  zero : Bool
  image : Bool
  entries : Bool
def hNone : Has := ⟨false, false, false, false, false, false, false, false⟩
def hLock : Has := ⟨true, true, true, false, false, false, false, false⟩
def hFree : Has := ⟨true, true, false, false, false, false, false, false⟩
def hUse : Has := ⟨true, false, false, false, false, false, false, false⟩
def hLog : Has := ⟨false, false, false, false, false, false, false, true⟩
def hImage : Has := ⟨true, false, false, false, false, false, true, false⟩
def hTxn : Has := ⟨false, false, false, true, false, false, false, false⟩
def hSpace : Has := ⟨false, false, false, false, true, false, false, false⟩
def hGrant (need : Bool) : Has := ⟨true, true, true, false, false, false, need, false⟩
def hRoom : Has := ⟨false, false, false, false, true, true, false, false⟩
def partsH (k : Int) (need : Bool) : Has :=
  if k = 1 then hLock else if k = 2 then hFree else if k = 10 then hFree else if k = 3 then hUse else if k = 4 then hLog else if k = 5 then hImage
  else if k = 6 then hTxn else if k = 11 then hTxn else if k = 7 then hSpace else if k = 8 then hSpace else if k = 9 then hGrant need else if k = 12 then hNone
  else if k = 13 then hRoom else hNone
def partsOk (k : Int) : Bool := decide (1 ≤ k ∧ k ≤ 13)
/-- the kinds by what they have -/
inductive KindOf (k : Int) : Prop
  | lock (hk : k = 1) (h : ∀ b, partsH k b = hLock) (ho : partsOk k = true)
  | free (hk : k = 2 ∨ k = 10) (h : ∀ b, partsH k b = hFree) (ho : partsOk k = true)
  | use (hk : k = 3) (h : ∀ b, partsH k b = hUse) (ho : partsOk k = true)
  | log (hk : k = 4) (h : ∀ b, partsH k b = hLog) (ho : partsOk k = true)
  | image (hk : k = 5) (h : ∀ b, partsH k b = hImage) (ho : partsOk k = true)
  | txn (hk : k = 6 ∨ k = 11) (h : ∀ b, partsH k b = hTxn) (ho : partsOk k = true)
  | space (hk : k = 7 ∨ k = 8) (h : ∀ b, partsH k b = hSpace) (ho : partsOk k = true)
  | grant (hk : k = 9) (h : ∀ b, partsH k b = hGrant b) (ho : partsOk k = true)
  | victim (hk : k = 12) (h : ∀ b, partsH k b = hNone) (ho : partsOk k = true)
  | room (hk : k = 13) (h : ∀ b, partsH k b = hRoom) (ho : partsOk k = true)
  | none (hk : k < 1 ∨ 13 < k) (h : ∀ b, partsH k b = hNone) (ho : partsOk k = false)
theorem kind_of (k : Int) : KindOf k := by
  by_cases h0 : k < 1 ∨ 13 < k
  · exact .none h0 (fun b => by unfold partsH; repeat rw [if_neg (by omega)]) (decide_eq_false (by omega))
  have hc : k = 1 ∨ k = 2 ∨ k = 3 ∨ k = 4 ∨ k = 5 ∨ k = 6 ∨ k = 7 ∨ k = 8 ∨ k = 9 ∨ k = 10 ∨ k = 11 ∨ k = 12 ∨ k = 13 := by omega
  rcases hc with h | h | h | h | h | h | h | h | h | h | h | h | h <;> subst h
  · exact .lock rfl (fun _ => rfl) rfl
  · exact .free (.inl rfl) (fun _ => rfl) rfl
  · exact .use rfl (fun _ => rfl) rfl
  · exact .log rfl (fun _ => rfl) rfl
  · exact .image rfl (fun _ => rfl) rfl
  · exact .txn (.inl rfl) (fun _ => rfl) rfl
  · exact .space (.inl rfl) (fun _ => rfl) rfl
  · exact .space (.inr rfl) (fun _ => rfl) rfl
  · exact .grant rfl (fun _ => rfl) rfl
  · exact .free (.inr rfl) (fun _ => rfl) rfl
  · exact .txn (.inr rfl) (fun _ => rfl) rfl
  · exact .victim rfl (fun _ => rfl) rfl
  · exact .room rfl (fun _ => rfl) rfl

theorem parts_same (k : Int) (a b : Bool) : (partsH k a).page = (partsH k b).page ∧ (partsH k a).x = (partsH k b).x ∧ (partsH k a).need = (partsH k b).need ∧ (partsH k a).txn = (partsH k b).txn ∧ (partsH k a).n = (partsH k b).n ∧ (partsH k a).zero = (partsH k b).zero ∧ (partsH k a).entries = (partsH k b).entries := by
  cases kind_of k <;> (rename_i h _; rw [h a, h b]; exact ⟨rfl, rfl, rfl, rfl, rfl, rfl, rfl⟩)

def wholeB (m : Ms) (h : Has) : Bool :=
  (!h.page || withinB m.page 0 1023) && ((!h.txn || knownB m.cl m.ep m.tn) && ((!h.n || (withinB m.n 1 1048576 || (h.zero && m.n == 0))) &&
    ((!h.image || Slab.goodB m.lsn m.zs) && (!h.entries || (withinB m.es.length 1 16 && !m.es.any (fun x => !Ent.goodB x))))))
def bareB (m : Ms) (h : Has) : Bool :=
  (h.page || m.page == 0) && ((h.x || !m.x) && ((h.need || !m.need) && ((h.txn || ((m.cl == 0) && ((m.ep == 0) && (m.tn == 0)))) && ((h.n || m.n == 0) &&
    ((h.image || ((m.lsn == 0) && decide (m.zs.length = 0))) && (h.entries || decide (m.es.length = 0)))))))
def goodM (m : Ms) : Bool := partsOk m.kind && (wholeB m (partsH m.kind m.need) && bareB m (partsH m.kind m.need))

def b1 (b : Bool) : Int := if b then 1 else 0
/-- the parts of a body -/
def pPage (h : Has) (m : Ms) : List UInt8 := if h.page then enc m.page else []
def pX (h : Has) (m : Ms) : List UInt8 := if h.x then enc (b1 m.x) else []
def pNeed (h : Has) (m : Ms) : List UInt8 := if h.need then enc (b1 m.need) else []
def pTxn (h : Has) (m : Ms) : List UInt8 := if h.txn then enc m.cl ++ (enc m.ep ++ enc m.tn) else []
def pN (h : Has) (m : Ms) : List UInt8 := if h.n then enc m.n else []
def pImage (h : Has) (m : Ms) : List UInt8 := if h.image then Slab.encB m.lsn.toNat m.zs else []
def pCount (h : Has) (m : Ms) : List UInt8 := if h.entries then enc m.es.length else []
def entsB (l : List Ent) : List UInt8 := l.flatMap rawL
def bodyH (h : Has) (m : Ms) : List UInt8 := enc m.kind ++ (pPage h m ++ (pX h m ++ (pNeed h m ++ (pTxn h m ++ (pN h m ++ (pImage h m ++ (pCount h m ++ entsB m.es)))))))
def body (m : Ms) : List UInt8 := bodyH (partsH m.kind m.need) m
/-- a check's four bytes, the highest first -/
def quadH (c : BitVec 32) : List UInt8 := [(c.toNat / 16777216 % 256).toUInt8, (c.toNat / 65536 % 256).toUInt8, (c.toNat / 256 % 256).toUInt8, (c.toNat % 256).toUInt8]
theorem quadH_len (c : BitVec 32) : (quadH c).length = 4 := rfl
def encMsg (m : Ms) : ByteArray := if goodM m then arr (quadH (Sum.check (body m)) ++ body m) else ⟨#[]⟩
def codeM (m : Ms) : Int := if goodM m then 0 else 1

/-- the steps of reading -/
structure St where
  m : Ms
  r : List UInt8
  bad : Bool
def vl (s : List UInt8) : Int := (takeInt s).1
def nx (s : List UInt8) : List UInt8 := (takeInt s).2.1
def wr (s : List UInt8) : Bool := !(takeInt s).2.2
def fg (s : List UInt8) : Bool := vl s == 1
def wf (s : List UInt8) (b : Bool) : Bool := (b || wr s) || !withinB (vl s) 0 1
def sKind (s : List UInt8) : St := ⟨{ noM with kind := vl s }, nx s, false || wr s⟩
def sPage (h : Has) (t : St) : St := if h.page then ⟨{ t.m with page := vl t.r }, nx t.r, t.bad || wr t.r⟩ else t
def sX (h : Has) (t : St) : St := if h.x then ⟨{ t.m with x := fg t.r }, nx t.r, wf t.r t.bad⟩ else t
def sNeed (h : Has) (t : St) : St := if h.need then ⟨{ t.m with need := fg t.r }, nx t.r, wf t.r t.bad⟩ else t
def sTxn (h : Has) (t : St) : St := if h.txn then ⟨{ t.m with cl := vl t.r, ep := vl (nx t.r), tn := vl (nx (nx t.r)) }, nx (nx (nx t.r)), ((t.bad || wr t.r) || wr (nx t.r)) || wr (nx (nx t.r))⟩ else t
def sN (h : Has) (t : St) : St := if h.n then ⟨{ t.m with n := vl t.r }, nx t.r, t.bad || wr t.r⟩ else t
def imE (s : List UInt8) : Nat := min s.length 240
def imR (s : List UInt8) : Int × List Slot × Int := decR (s.take (imE s))
def sImage (h : Has) (t : St) : St := if h.image then ⟨{ t.m with lsn := (imR t.r).1, zs := (imR t.r).2.1 }, t.r.drop (imE t.r), t.bad || !((imR t.r).2.2 == 0)⟩ else t
def entsL : Nat → List UInt8 → List Ent
  | 0, _ => []
  | k + 1, s => decX s :: entsL k (decT s)
def entsT : Nat → List UInt8 → List UInt8
  | 0, s => s
  | k + 1, s => entsT k (decT s)
def entsW : Nat → List UInt8 → Bool → Bool
  | 0, _, b => b
  | k + 1, s, b => entsW k (decT s) (b || !(decC s == 0))
def esN (s : List UInt8) : Nat := if 16 < vl s then 0 else (vl s).toNat
def esL (s : List UInt8) : List Ent := entsL (esN s) (nx s)
def esT (s : List UInt8) : List UInt8 := entsT (esN s) (nx s)
def esW (s : List UInt8) (b : Bool) : Bool := if 16 < vl s then true else entsW (esN s) (nx s) (b || wr s)
def sEnts (h : Has) (t : St) : St := if h.entries then ⟨{ t.m with es := esL t.r }, esT t.r, esW t.r t.bad⟩ else t
/-- all but the last two, by what the kind alone tells -/
def sHead (s : List UInt8) : St :=
  let h := partsH (vl s) false
  sN h (sTxn h (sNeed h (sX h (sPage h (sKind s)))))
def sAll (s : List UInt8) : St :=
  let t := sHead s
  let h := partsH t.m.kind t.m.need
  sEnts h (sImage h t)
def readOk (s : List UInt8) : Bool := !(sAll s).bad && ((sAll s).r == [])

theorem num_ok {s : List UInt8} (h : wr s = false) : s = enc (vl s) ++ nx s := by
  have h' : (takeInt s).2.2 = true := by unfold wr at h; simpa using h
  exact (takeInt_form h').1
theorem num_back {n : Int} (h : Fits n) (t : List UInt8) : vl (enc n ++ t) = n ∧ nx (enc n ++ t) = t ∧ wr (enc n ++ t) = false := by
  unfold vl nx wr; rw [takeInt_enc h]; exact ⟨rfl, rfl, rfl⟩
theorem fg_b1 {v : Int} (h : withinB v 0 1 = true) : v = b1 (v == 1) := by
  have h' := of_decide_eq_true h
  by_cases c : v = 1
  · subst c; rfl
  · have : v = 0 := by omega
    subst this; rfl
theorem b1_within (b : Bool) : withinB (b1 b) 0 1 = true ∧ (b1 b == 1) = b ∧ Fits (b1 b) := by
  cases b
  · exact ⟨rfl, rfl, ⟨by decide, by decide⟩⟩
  · exact ⟨rfl, rfl, ⟨by decide, by decide⟩⟩
theorem flag_ok {s : List UInt8} {b : Bool} (h : wf s b = false) : b = false ∧ s = enc (b1 (fg s)) ++ nx s := by
  unfold wf at h
  simp only [Bool.or_eq_false_iff, Bool.not_eq_false'] at h
  refine ⟨h.1.1, ?_⟩
  unfold fg
  rw [← fg_b1 h.2]
  exact num_ok h.1.2
theorem flag_back (x : Bool) (t : List UInt8) : fg (enc (b1 x) ++ t) = x ∧ nx (enc (b1 x) ++ t) = t ∧ ∀ b, wf (enc (b1 x) ++ t) b = b := by
  obtain ⟨h1, h2, h3⟩ := b1_within x
  obtain ⟨v, n, w⟩ := num_back h3 t
  refine ⟨by unfold fg; rw [v, h2], n, fun b => ?_⟩
  unfold wf; rw [v, w, h1]; simp
theorem ents_ok : ∀ (k : Nat) {s : List UInt8} {b : Bool}, entsW k s b = false → b = false ∧ s = entsB (entsL k s) ++ entsT k s ∧ (entsL k s).length = k ∧ (∀ x ∈ entsL k s, Ent.goodB x = true)
  | 0, s, b, h => ⟨h, rfl, rfl, by simp [entsL]⟩
  | k + 1, s, b, h => by
    obtain ⟨h1, h2, h3, h4⟩ := ents_ok k (s := decT s) h
    simp only [Bool.or_eq_false_iff, Bool.not_eq_false', beq_iff_eq] at h1
    rcases dec_parts s with ⟨_, hg, hs⟩ | ⟨hc, _⟩
    · refine ⟨h1.1, ?_, ?_, ?_⟩
      · simp only [entsL, entsT, entsB, List.flatMap_cons, List.append_assoc] at h2 ⊢
        rw [← h2, ← hs]
      · simp [entsL, h3]
      · intro x hx
        simp only [entsL, List.mem_cons] at hx
        rcases hx with rfl | hx
        · exact hg
        · exact h4 x hx
    · rw [hc] at h1; exact absurd h1.2 (by decide)
theorem ents_back : ∀ (l : List Ent) (t : List UInt8) (b : Bool), (∀ x ∈ l, Ent.goodB x = true) → entsL l.length (entsB l ++ t) = l ∧ entsT l.length (entsB l ++ t) = t ∧ entsW l.length (entsB l ++ t) b = b
  | [], t, b, _ => ⟨rfl, rfl, rfl⟩
  | x :: l, t, b, h => by
    have hx := h x (by simp)
    have e : entsB (x :: l) ++ t = rawL x ++ (entsB l ++ t) := by simp [entsB]
    obtain ⟨d1, d2, d3⟩ := dec_back hx (entsB l ++ t)
    have hi := fun b' => ents_back l t b' (fun y hy => h y (by simp [hy]))
    rw [e]
    simp only [List.length_cons, entsL, entsT, entsW, d1, d2, d3]
    refine ⟨by rw [(hi b).1], (hi b).2.1, ?_⟩
    have : (b || !((0 : Int) == 0)) = b := by simp
    rw [this]; exact (hi b).2.2
/-- entries that are all read have a count from 1 on, or none -/
theorem es_ok {s : List UInt8} {b : Bool} (h : esW s b = false) (hl : 1 ≤ (esL s).length) : b = false ∧ s = enc ((esL s).length : Int) ++ (entsB (esL s) ++ esT s) := by
  unfold esW at h
  by_cases c : 16 < vl s
  · rw [if_pos c] at h; exact absurd h (by decide)
  · rw [if_neg c] at h
    obtain ⟨h1, h2, h3, _⟩ := ents_ok _ h
    simp only [Bool.or_eq_false_iff] at h1
    refine ⟨h1.1, ?_⟩
    have hn := num_ok h1.2
    have hk : (esL s).length = esN s := h3
    have he : esN s = (vl s).toNat := by unfold esN; rw [if_neg c]
    have : vl s = ((esL s).length : Int) := by omega
    rw [← this]
    unfold esL esT
    rw [← h2]
    exact hn
theorem es_back {l : List Ent} (hl : l.length ≤ 16) (hg : ∀ x ∈ l, Ent.goodB x = true) (t : List UInt8) : esL (enc (l.length : Int) ++ (entsB l ++ t)) = l ∧ esT (enc (l.length : Int) ++ (entsB l ++ t)) = t ∧ ∀ b, esW (enc (l.length : Int) ++ (entsB l ++ t)) b = b := by
  obtain ⟨v, n, w⟩ := num_back (n := (l.length : Int)) ⟨by omega, by omega⟩ (entsB l ++ t)
  have hn : esN (enc (l.length : Int) ++ (entsB l ++ t)) = l.length := by unfold esN; rw [v, if_neg (by omega)]; omega
  refine ⟨?_, ?_, fun b => ?_⟩
  · unfold esL; rw [hn, n]; exact (ents_back l t false hg).1
  · unfold esT; rw [hn, n]; exact (ents_back l t false hg).2.1
  · unfold esW; rw [hn, n, v, w, if_neg (by omega)]
    have := (ents_back l t (b || false) hg).2.2
    rw [this]; simp
theorem im_ok {s : List UInt8} {b : Bool} (h : (b || !((imR s).2.2 == 0)) = false) : b = false ∧ s = Slab.encB (imR s).1.toNat (imR s).2.1 ++ s.drop (imE s) := by
  simp only [Bool.or_eq_false_iff, Bool.not_eq_false', beq_iff_eq] at h
  refine ⟨h.1, ?_⟩
  rcases Slab.dec_is (s.take (imE s)) with ⟨L, z, hd, hg, he⟩ | hd
  · have e : imR s = ((L : Int), z, 0) := hd
    rw [e]
    show s = Slab.encB (L : Int).toNat z ++ _
    rw [Int.toNat_natCast, he, List.take_append_drop]
  · have e : imR s = (0, [], 4) := hd
    rw [e] at h; exact absurd h.2 (by decide)
theorem im_back {lsn : Int} {z : List Slot} (hg : Slab.goodB lsn z = true) (t : List UInt8) : imR (Slab.encB lsn.toNat z ++ t) = (lsn, z, 0) ∧ (Slab.encB lsn.toNat z ++ t).drop (imE (Slab.encB lsn.toNat z ++ t)) = t := by
  obtain ⟨L, rfl⟩ := Int.eq_ofNat_of_zero_le (Slab.good_parts hg).1
  rw [Int.toNat_natCast]
  have hl := Slab.encB_len (L := L) (l := z) (Slab.good_parts hg).2.2.2.2.2
  have he : imE (Slab.encB L z ++ t) = (Slab.encB L z).length := by unfold imE; rw [List.length_append, hl]; omega
  constructor
  · unfold imR; rw [he, List.take_left]; exact Slab.dec_enc hg
  · rw [he, List.drop_left]
end Go.Proofs.Ytjffjmffoffblaa.Note
namespace Go.Proofs.Ytjffjmffoffblaa.Note
set_option maxRecDepth 100000
open Go.Proofs.Ytjffjmffoffblaa.Nib (enc takeInt Fits takeInt_enc takeInt_form)
open Go.Proofs.Ytjffjmffoffblaa.Ent (Ent withinB knownB rawL decX decT decC dec_back dec_parts arr arr_list)
open Go.Proofs.Ytjffjmffoffblaa.Slab (Slot decR)

theorem sPage_kind (h : Has) (t : St) : (sPage h t).m.kind = t.m.kind := by unfold sPage; split <;> rfl
theorem sPage_zs (h : Has) (t : St) : (sPage h t).m.zs = t.m.zs := by unfold sPage; split <;> rfl
theorem sPage_es (h : Has) (t : St) : (sPage h t).m.es = t.m.es := by unfold sPage; split <;> rfl
theorem sX_kind (h : Has) (t : St) : (sX h t).m.kind = t.m.kind := by unfold sX; split <;> rfl
theorem sX_page (h : Has) (t : St) : (sX h t).m.page = t.m.page := by unfold sX; split <;> rfl
theorem sX_zs (h : Has) (t : St) : (sX h t).m.zs = t.m.zs := by unfold sX; split <;> rfl
theorem sX_es (h : Has) (t : St) : (sX h t).m.es = t.m.es := by unfold sX; split <;> rfl
theorem sNeed_kind (h : Has) (t : St) : (sNeed h t).m.kind = t.m.kind := by unfold sNeed; split <;> rfl
theorem sNeed_page (h : Has) (t : St) : (sNeed h t).m.page = t.m.page := by unfold sNeed; split <;> rfl
theorem sNeed_x (h : Has) (t : St) : (sNeed h t).m.x = t.m.x := by unfold sNeed; split <;> rfl
theorem sNeed_zs (h : Has) (t : St) : (sNeed h t).m.zs = t.m.zs := by unfold sNeed; split <;> rfl
theorem sNeed_es (h : Has) (t : St) : (sNeed h t).m.es = t.m.es := by unfold sNeed; split <;> rfl
theorem sTxn_kind (h : Has) (t : St) : (sTxn h t).m.kind = t.m.kind := by unfold sTxn; split <;> rfl
theorem sTxn_page (h : Has) (t : St) : (sTxn h t).m.page = t.m.page := by unfold sTxn; split <;> rfl
theorem sTxn_x (h : Has) (t : St) : (sTxn h t).m.x = t.m.x := by unfold sTxn; split <;> rfl
theorem sTxn_need (h : Has) (t : St) : (sTxn h t).m.need = t.m.need := by unfold sTxn; split <;> rfl
theorem sTxn_zs (h : Has) (t : St) : (sTxn h t).m.zs = t.m.zs := by unfold sTxn; split <;> rfl
theorem sTxn_es (h : Has) (t : St) : (sTxn h t).m.es = t.m.es := by unfold sTxn; split <;> rfl
theorem sN_kind (h : Has) (t : St) : (sN h t).m.kind = t.m.kind := by unfold sN; split <;> rfl
theorem sN_page (h : Has) (t : St) : (sN h t).m.page = t.m.page := by unfold sN; split <;> rfl
theorem sN_x (h : Has) (t : St) : (sN h t).m.x = t.m.x := by unfold sN; split <;> rfl
theorem sN_need (h : Has) (t : St) : (sN h t).m.need = t.m.need := by unfold sN; split <;> rfl
theorem sN_cl (h : Has) (t : St) : (sN h t).m.cl = t.m.cl := by unfold sN; split <;> rfl
theorem sN_ep (h : Has) (t : St) : (sN h t).m.ep = t.m.ep := by unfold sN; split <;> rfl
theorem sN_tn (h : Has) (t : St) : (sN h t).m.tn = t.m.tn := by unfold sN; split <;> rfl
theorem sN_zs (h : Has) (t : St) : (sN h t).m.zs = t.m.zs := by unfold sN; split <;> rfl
theorem sN_es (h : Has) (t : St) : (sN h t).m.es = t.m.es := by unfold sN; split <;> rfl
theorem sImage_kind (h : Has) (t : St) : (sImage h t).m.kind = t.m.kind := by unfold sImage; split <;> rfl
theorem sImage_page (h : Has) (t : St) : (sImage h t).m.page = t.m.page := by unfold sImage; split <;> rfl
theorem sImage_x (h : Has) (t : St) : (sImage h t).m.x = t.m.x := by unfold sImage; split <;> rfl
theorem sImage_need (h : Has) (t : St) : (sImage h t).m.need = t.m.need := by unfold sImage; split <;> rfl
theorem sImage_n (h : Has) (t : St) : (sImage h t).m.n = t.m.n := by unfold sImage; split <;> rfl
theorem sImage_cl (h : Has) (t : St) : (sImage h t).m.cl = t.m.cl := by unfold sImage; split <;> rfl
theorem sImage_ep (h : Has) (t : St) : (sImage h t).m.ep = t.m.ep := by unfold sImage; split <;> rfl
theorem sImage_tn (h : Has) (t : St) : (sImage h t).m.tn = t.m.tn := by unfold sImage; split <;> rfl
theorem sImage_es (h : Has) (t : St) : (sImage h t).m.es = t.m.es := by unfold sImage; split <;> rfl
theorem sEnts_kind (h : Has) (t : St) : (sEnts h t).m.kind = t.m.kind := by unfold sEnts; split <;> rfl
theorem sEnts_page (h : Has) (t : St) : (sEnts h t).m.page = t.m.page := by unfold sEnts; split <;> rfl
theorem sEnts_x (h : Has) (t : St) : (sEnts h t).m.x = t.m.x := by unfold sEnts; split <;> rfl
theorem sEnts_need (h : Has) (t : St) : (sEnts h t).m.need = t.m.need := by unfold sEnts; split <;> rfl
theorem sEnts_n (h : Has) (t : St) : (sEnts h t).m.n = t.m.n := by unfold sEnts; split <;> rfl
theorem sEnts_cl (h : Has) (t : St) : (sEnts h t).m.cl = t.m.cl := by unfold sEnts; split <;> rfl
theorem sEnts_ep (h : Has) (t : St) : (sEnts h t).m.ep = t.m.ep := by unfold sEnts; split <;> rfl
theorem sEnts_tn (h : Has) (t : St) : (sEnts h t).m.tn = t.m.tn := by unfold sEnts; split <;> rfl
theorem sEnts_lsn (h : Has) (t : St) : (sEnts h t).m.lsn = t.m.lsn := by unfold sEnts; split <;> rfl
theorem sEnts_zs (h : Has) (t : St) : (sEnts h t).m.zs = t.m.zs := by unfold sEnts; split <;> rfl

theorem page_ok {h : Has} {t : St} (hb : (sPage h t).bad = false) : t.bad = false ∧ t.r = pPage h (sPage h t).m ++ (sPage h t).r := by
  unfold sPage pPage at *
  cases c : h.page with
  | true => rw [c] at hb; simp only [if_true, Bool.or_eq_false_iff] at hb ⊢; exact ⟨hb.1, num_ok hb.2⟩
  | false => rw [c] at hb; simp only [Bool.false_eq_true, if_false] at hb ⊢; exact ⟨hb, rfl⟩
theorem x_ok {h : Has} {t : St} (hb : (sX h t).bad = false) : t.bad = false ∧ t.r = pX h (sX h t).m ++ (sX h t).r := by
  unfold sX pX at *
  cases c : h.x with
  | true => rw [c] at hb; simp only [if_true] at hb ⊢; exact flag_ok hb
  | false => rw [c] at hb; simp only [Bool.false_eq_true, if_false] at hb ⊢; exact ⟨hb, rfl⟩
theorem need_ok {h : Has} {t : St} (hb : (sNeed h t).bad = false) : t.bad = false ∧ t.r = pNeed h (sNeed h t).m ++ (sNeed h t).r := by
  unfold sNeed pNeed at *
  cases c : h.need with
  | true => rw [c] at hb; simp only [if_true] at hb ⊢; exact flag_ok hb
  | false => rw [c] at hb; simp only [Bool.false_eq_true, if_false] at hb ⊢; exact ⟨hb, rfl⟩
theorem txn_ok {h : Has} {t : St} (hb : (sTxn h t).bad = false) : t.bad = false ∧ t.r = pTxn h (sTxn h t).m ++ (sTxn h t).r := by
  unfold sTxn pTxn at *
  cases c : h.txn with
  | true =>
    rw [c] at hb; simp only [if_true, Bool.or_eq_false_iff] at hb ⊢
    refine ⟨hb.1.1.1, ?_⟩
    rw [List.append_assoc, List.append_assoc, ← num_ok hb.2, ← num_ok hb.1.2, ← num_ok hb.1.1.2]
  | false => rw [c] at hb; simp only [Bool.false_eq_true, if_false] at hb ⊢; exact ⟨hb, rfl⟩
theorem n_ok {h : Has} {t : St} (hb : (sN h t).bad = false) : t.bad = false ∧ t.r = pN h (sN h t).m ++ (sN h t).r := by
  unfold sN pN at *
  cases c : h.n with
  | true => rw [c] at hb; simp only [if_true, Bool.or_eq_false_iff] at hb ⊢; exact ⟨hb.1, num_ok hb.2⟩
  | false => rw [c] at hb; simp only [Bool.false_eq_true, if_false] at hb ⊢; exact ⟨hb, rfl⟩
theorem image_ok {h : Has} {t : St} (hb : (sImage h t).bad = false) : t.bad = false ∧ t.r = pImage h (sImage h t).m ++ (sImage h t).r := by
  unfold sImage pImage at *
  cases c : h.image with
  | true => rw [c] at hb; simp only [if_true] at hb ⊢; exact im_ok hb
  | false => rw [c] at hb; simp only [Bool.false_eq_true, if_false] at hb ⊢; exact ⟨hb, rfl⟩
theorem entries_ok {h : Has} {t : St} (hb : (sEnts h t).bad = false) (h0 : t.m.es = []) (hl : h.entries = true → 1 ≤ (sEnts h t).m.es.length) : t.bad = false ∧ t.r = pCount h (sEnts h t).m ++ (entsB (sEnts h t).m.es ++ (sEnts h t).r) := by
  unfold sEnts pCount at *
  cases c : h.entries with
  | true => rw [c] at hb hl; simp only [if_true] at hb hl ⊢; exact es_ok hb (hl trivial)
  | false => rw [c] at hb; simp only [Bool.false_eq_true, if_false] at hb ⊢; exact ⟨hb, by rw [h0]; rfl⟩

theorem sAll_kind (s : List UInt8) : (sAll s).m.kind = vl s := by unfold sAll sHead; simp only [sPage_kind, sX_kind, sNeed_kind, sTxn_kind, sN_kind, sImage_kind, sEnts_kind]; rfl
theorem sHead_kind (s : List UInt8) : (sHead s).m.kind = vl s := by unfold sHead; simp only [sPage_kind, sX_kind, sNeed_kind, sTxn_kind, sN_kind]; rfl
theorem sHead_es (s : List UInt8) : (sHead s).m.es = [] := by unfold sHead; simp only [sPage_es, sX_es, sNeed_es, sTxn_es, sN_es]; rfl
theorem sAll_need (s : List UInt8) : (sAll s).m.need = (sHead s).m.need := by unfold sAll; simp only [sImage_need, sEnts_need]
theorem all_body {s : List UInt8} (hb : (sAll s).bad = false) (hr : (sAll s).r = []) (hg : goodM (sAll s).m = true) : body (sAll s).m = s := by
  have hk := sAll_kind s
  have hnd := sAll_need s
  have hk0 := sHead_kind s
  have hes := sHead_es s
  obtain ⟨q1, q2, q3, q4, q5, q6, q7⟩ := parts_same (vl s) false (sHead s).m.need
  have hh : partsH (sHead s).m.kind (sHead s).m.need = partsH (vl s) (sHead s).m.need := by rw [hk0]
  have hl : (partsH (vl s) (sHead s).m.need).entries = true → 1 ≤ (sAll s).m.es.length := by
    intro he
    unfold goodM wholeB at hg
    rw [hk, hnd, he] at hg
    simp only [Bool.and_eq_true, Bool.not_true, Bool.false_or, withinB, decide_eq_true_eq] at hg
    have := hg.2.1.2.2.2.2.1.1
    omega
  have e7 : sAll s = sEnts (partsH (vl s) (sHead s).m.need) (sImage (partsH (vl s) (sHead s).m.need) (sHead s)) := by unfold sAll; simp only [hh]
  have e5 : sHead s = sN (partsH (vl s) false) (sTxn (partsH (vl s) false) (sNeed (partsH (vl s) false) (sX (partsH (vl s) false) (sPage (partsH (vl s) false) (sKind s))))) := rfl
  rw [e7] at hb hr hl
  obtain ⟨hb6, r7⟩ := entries_ok hb (by rw [sImage_es, hes]) hl
  obtain ⟨hb5, r6⟩ := image_ok hb6
  have hb5' := hb5
  rw [e5] at hb5'
  obtain ⟨hb4, r5⟩ := n_ok hb5'
  obtain ⟨hb3, r4⟩ := txn_ok hb4
  obtain ⟨hb2, r3⟩ := need_ok hb3
  obtain ⟨hb1, r2⟩ := x_ok hb2
  obtain ⟨hb0, r1⟩ := page_ok hb1
  have r0 : s = enc (vl s) ++ nx s := num_ok (by have : (false || wr s) = false := hb0; simpa using this)
  rw [← e5] at r5
  have hN : partsH (sAll s).m.kind (sAll s).m.need = partsH (vl s) (sHead s).m.need := by rw [hk, hnd]
  have tPage : pPage (partsH (vl s) (sHead s).m.need) (sAll s).m = pPage (partsH (vl s) false) (sPage (partsH (vl s) false) (sKind s)).m := by
    unfold pPage; rw [← q1, e7, e5]; simp only [sX_page, sNeed_page, sTxn_page, sN_page, sImage_page, sEnts_page]
  have tX : pX (partsH (vl s) (sHead s).m.need) (sAll s).m = pX (partsH (vl s) false) (sX (partsH (vl s) false) (sPage (partsH (vl s) false) (sKind s))).m := by
    unfold pX; rw [← q2, e7, e5]; simp only [sNeed_x, sTxn_x, sN_x, sImage_x, sEnts_x]
  have tNeed : pNeed (partsH (vl s) (sHead s).m.need) (sAll s).m = pNeed (partsH (vl s) false) (sNeed (partsH (vl s) false) (sX (partsH (vl s) false) (sPage (partsH (vl s) false) (sKind s)))).m := by
    unfold pNeed; rw [← q3, e7, e5]; simp only [sTxn_need, sN_need, sImage_need, sEnts_need]
  have tTxn : pTxn (partsH (vl s) (sHead s).m.need) (sAll s).m = pTxn (partsH (vl s) false) (sTxn (partsH (vl s) false) (sNeed (partsH (vl s) false) (sX (partsH (vl s) false) (sPage (partsH (vl s) false) (sKind s))))).m := by
    unfold pTxn; rw [← q4, e7, e5]; simp only [sN_cl, sImage_cl, sEnts_cl, sN_ep, sImage_ep, sEnts_ep, sN_tn, sImage_tn, sEnts_tn]
  have tN : pN (partsH (vl s) (sHead s).m.need) (sAll s).m = pN (partsH (vl s) false) (sN (partsH (vl s) false) (sTxn (partsH (vl s) false) (sNeed (partsH (vl s) false) (sX (partsH (vl s) false) (sPage (partsH (vl s) false) (sKind s)))))).m := by
    unfold pN; rw [← q5, e7, e5]; simp only [sImage_n, sEnts_n]
  have tImage : pImage (partsH (vl s) (sHead s).m.need) (sAll s).m = pImage (partsH (vl s) (sHead s).m.need) (sImage (partsH (vl s) (sHead s).m.need) (sHead s)).m := by
    unfold pImage; rw [e7]; simp only [sEnts_lsn, sEnts_zs]
  unfold body
  rw [hN]
  unfold bodyH
  rw [hk, tPage, tX, tNeed, tTxn, tN, tImage]
  conv => rhs; rw [r0]
  have r0' : (sKind s).r = nx s := rfl
  rw [← r0', r1, r2, r3, r4, r5, r6, r7, e7, hr, List.append_nil]
  rfl


theorem page_back {h : Has} {m : Ms} {t : St} {u : List UInt8} (hr : t.r = pPage h m ++ u) (hb : t.bad = false) (hm : h.page = true → Fits m.page) (h0 : h.page = false → m.page = t.m.page) : sPage h t = ⟨{ t.m with page := m.page }, u, false⟩ := by
  unfold sPage
  unfold pPage at hr
  cases c : h.page with
  | true =>
    rw [c] at hr; simp only [if_true] at hr ⊢
    obtain ⟨v, n, w⟩ := num_back (hm c) u
    rw [hr, v, n, w, hb]; rfl
  | false =>
    rw [c] at hr; simp only [Bool.false_eq_true, if_false, List.nil_append] at hr ⊢
    rw [h0 c, ← hr, ← hb]
theorem x_back {h : Has} {m : Ms} {t : St} {u : List UInt8} (hr : t.r = pX h m ++ u) (hb : t.bad = false) (h0 : h.x = false → m.x = t.m.x) : sX h t = ⟨{ t.m with x := m.x }, u, false⟩ := by
  unfold sX
  unfold pX at hr
  cases c : h.x with
  | true =>
    rw [c] at hr; simp only [if_true] at hr ⊢
    obtain ⟨v, n, w⟩ := flag_back m.x u
    rw [hr, v, n, w, hb]
  | false =>
    rw [c] at hr; simp only [Bool.false_eq_true, if_false, List.nil_append] at hr ⊢
    rw [h0 c, ← hr, ← hb]
theorem need_back {h : Has} {m : Ms} {t : St} {u : List UInt8} (hr : t.r = pNeed h m ++ u) (hb : t.bad = false) (h0 : h.need = false → m.need = t.m.need) : sNeed h t = ⟨{ t.m with need := m.need }, u, false⟩ := by
  unfold sNeed
  unfold pNeed at hr
  cases c : h.need with
  | true =>
    rw [c] at hr; simp only [if_true] at hr ⊢
    obtain ⟨v, n, w⟩ := flag_back m.need u
    rw [hr, v, n, w, hb]
  | false =>
    rw [c] at hr; simp only [Bool.false_eq_true, if_false, List.nil_append] at hr ⊢
    rw [h0 c, ← hr, ← hb]
theorem txn_back {h : Has} {m : Ms} {t : St} {u : List UInt8} (hr : t.r = pTxn h m ++ u) (hb : t.bad = false) (hm : h.txn = true → Fits m.cl ∧ Fits m.ep ∧ Fits m.tn) (h0 : h.txn = false → m.cl = t.m.cl ∧ m.ep = t.m.ep ∧ m.tn = t.m.tn) : sTxn h t = ⟨{ t.m with cl := m.cl, ep := m.ep, tn := m.tn }, u, false⟩ := by
  unfold sTxn
  unfold pTxn at hr
  cases c : h.txn with
  | true =>
    rw [c] at hr; simp only [if_true, List.append_assoc] at hr ⊢
    obtain ⟨f1, f2, f3⟩ := hm c
    obtain ⟨v, n, w⟩ := num_back f1 (enc m.ep ++ (enc m.tn ++ u))
    obtain ⟨v2, n2, w2⟩ := num_back f2 (enc m.tn ++ u)
    obtain ⟨v3, n3, w3⟩ := num_back f3 u
    rw [hr, v, n, w, v2, n2, w2, v3, n3, w3, hb]; rfl
  | false =>
    rw [c] at hr; simp only [Bool.false_eq_true, if_false, List.nil_append] at hr ⊢
    obtain ⟨e1, e2, e3⟩ := h0 c
    rw [e1, e2, e3, ← hr, ← hb]
theorem n_back {h : Has} {m : Ms} {t : St} {u : List UInt8} (hr : t.r = pN h m ++ u) (hb : t.bad = false) (hm : h.n = true → Fits m.n) (h0 : h.n = false → m.n = t.m.n) : sN h t = ⟨{ t.m with n := m.n }, u, false⟩ := by
  unfold sN
  unfold pN at hr
  cases c : h.n with
  | true =>
    rw [c] at hr; simp only [if_true] at hr ⊢
    obtain ⟨v, n, w⟩ := num_back (hm c) u
    rw [hr, v, n, w, hb]; rfl
  | false =>
    rw [c] at hr; simp only [Bool.false_eq_true, if_false, List.nil_append] at hr ⊢
    rw [h0 c, ← hr, ← hb]
theorem image_back {h : Has} {m : Ms} {t : St} {u : List UInt8} (hr : t.r = pImage h m ++ u) (hb : t.bad = false) (hm : h.image = true → Slab.goodB m.lsn m.zs = true) (h0 : h.image = false → m.lsn = t.m.lsn ∧ m.zs = t.m.zs) : sImage h t = ⟨{ t.m with lsn := m.lsn, zs := m.zs }, u, false⟩ := by
  unfold sImage
  unfold pImage at hr
  cases c : h.image with
  | true =>
    rw [c] at hr; simp only [if_true] at hr ⊢
    obtain ⟨v, n⟩ := im_back (hm c) u
    rw [hr, v, n, hb]; rfl
  | false =>
    rw [c] at hr; simp only [Bool.false_eq_true, if_false, List.nil_append] at hr ⊢
    obtain ⟨e1, e2⟩ := h0 c
    rw [e1, e2, ← hr, ← hb]
theorem entries_back {h : Has} {m : Ms} {t : St} (hr : t.r = pCount h m ++ entsB m.es) (hb : t.bad = false) (hm : h.entries = true → m.es.length ≤ 16 ∧ ∀ x ∈ m.es, Ent.goodB x = true) (h0 : h.entries = false → m.es = []) (ht : t.m.es = []) : sEnts h t = ⟨{ t.m with es := m.es }, [], false⟩ := by
  unfold sEnts
  unfold pCount at hr
  cases c : h.entries with
  | true =>
    rw [c] at hr; simp only [if_true] at hr ⊢
    obtain ⟨f1, f2⟩ := hm c
    obtain ⟨v, n, w⟩ := es_back f1 f2 []
    rw [List.append_nil] at v n w
    rw [hr, v, n, w, hb]
  | false =>
    rw [c] at hr; simp only [Bool.false_eq_true, if_false, List.nil_append] at hr ⊢
    rw [h0 c, ← hb]
    rw [h0 c] at hr
    have : t.r = [] := hr
    rw [← this, ← ht]
/-- the parts of a right message -/
theorem good_parts {m : Ms} (h : goodM m = true) : (1 ≤ m.kind ∧ m.kind ≤ 13) ∧ wholeB m (partsH m.kind m.need) = true ∧ bareB m (partsH m.kind m.need) = true := by
  unfold goodM partsOk at h
  simp only [Bool.and_eq_true, decide_eq_true_eq] at h
  exact ⟨h.1, h.2.1, h.2.2⟩
theorem whole_parts {m : Ms} {h : Has} (hw : wholeB m h = true) : (h.page = true → 0 ≤ m.page ∧ m.page ≤ 1023) ∧ (h.txn = true → knownB m.cl m.ep m.tn = true) ∧ (h.n = true → 0 ≤ m.n ∧ m.n ≤ 1048576) ∧ (h.image = true → Slab.goodB m.lsn m.zs = true) ∧ (h.entries = true → (1 ≤ m.es.length ∧ m.es.length ≤ 16) ∧ ∀ x ∈ m.es, Ent.goodB x = true) := by
  unfold wholeB withinB at hw
  simp only [Bool.and_eq_true, Bool.or_eq_true, Bool.not_eq_true', decide_eq_true_eq] at hw
  obtain ⟨h1, h2, h3, h4, h5⟩ := hw
  refine ⟨fun c => ?_, fun c => ?_, fun c => ?_, fun c => ?_, fun c => ?_⟩
  · rw [c] at h1; simpa using h1
  · rw [c] at h2; simpa using h2
  · rw [c] at h3; simp at h3; rcases h3 with h | h <;> omega
  · rw [c] at h4; simpa using h4
  · rw [c] at h5; simp at h5
    exact ⟨by omega, h5.2⟩
theorem bare_parts {m : Ms} {h : Has} (hw : bareB m h = true) : (h.page = false → m.page = 0) ∧ (h.x = false → m.x = false) ∧ (h.need = false → m.need = false) ∧ (h.txn = false → m.cl = 0 ∧ m.ep = 0 ∧ m.tn = 0) ∧ (h.n = false → m.n = 0) ∧ (h.image = false → m.lsn = 0 ∧ m.zs = []) ∧ (h.entries = false → m.es = []) := by
  unfold bareB at hw
  simp only [Bool.and_eq_true, Bool.or_eq_true, Bool.not_eq_true', decide_eq_true_eq, beq_iff_eq] at hw
  obtain ⟨h1, h2, h3, h4, h5, h6, h7⟩ := hw
  refine ⟨fun c => ?_, fun c => ?_, fun c => ?_, fun c => ?_, fun c => ?_, fun c => ?_, fun c => ?_⟩
  · rw [c] at h1; simpa using h1
  · rw [c] at h2; simpa using h2
  · rw [c] at h3; simpa using h3
  · rw [c] at h4; simpa using h4
  · rw [c] at h5; simpa using h5
  · rw [c] at h6; simp at h6; exact ⟨h6.1, h6.2⟩
  · rw [c] at h7; simpa using h7
theorem known_fits {c e n : Int} (h : knownB c e n = true) : Fits c ∧ Fits e ∧ Fits n := by
  simp only [knownB, withinB, Bool.and_eq_true, decide_eq_true_eq] at h
  exact ⟨⟨by omega, by omega⟩, ⟨by omega, by omega⟩, ⟨by omega, by omega⟩⟩
theorem body_all {m : Ms} (hg : goodM m = true) : sAll (body m) = ⟨m, [], false⟩ := by
  obtain ⟨hk, hw, hb⟩ := good_parts hg
  obtain ⟨w1, w2, w3, w4, w5⟩ := whole_parts hw
  obtain ⟨b1, b2, b3, b4, b5, b6, b7⟩ := bare_parts hb
  obtain ⟨q1, q2, q3, q4, q5, q6, q7⟩ := parts_same m.kind false m.need
  obtain ⟨v, n, w⟩ := num_back (n := m.kind) ⟨by omega, by omega⟩ (pPage (partsH m.kind m.need) m ++ (pX (partsH m.kind m.need) m ++ (pNeed (partsH m.kind m.need) m ++ (pTxn (partsH m.kind m.need) m ++ (pN (partsH m.kind m.need) m ++ (pImage (partsH m.kind m.need) m ++ (pCount (partsH m.kind m.need) m ++ entsB m.es)))))))
  have hv : vl (body m) = m.kind := v
  have hn : nx (body m) = _ := n
  have hwr : wr (body m) = false := w
  have tPage : pPage (partsH m.kind m.need) m = pPage (partsH m.kind false) m := by unfold pPage; rw [q1]
  have tX : pX (partsH m.kind m.need) m = pX (partsH m.kind false) m := by unfold pX; rw [q2]
  have tNeed : pNeed (partsH m.kind m.need) m = pNeed (partsH m.kind false) m := by unfold pNeed; rw [q3]
  have tTxn : pTxn (partsH m.kind m.need) m = pTxn (partsH m.kind false) m := by unfold pTxn; rw [q4]
  have tN : pN (partsH m.kind m.need) m = pN (partsH m.kind false) m := by unfold pN; rw [q5]
  rw [tPage, tX, tNeed, tTxn, tN] at hn
  rw [← q1] at b1 w1
  rw [← q2] at b2
  rw [← q3] at b3
  rw [← q4] at b4 w2
  rw [← q5] at b5 w3
  clear v n w q1 q2 q3 q4 q5 q6 q7 tPage tX tNeed tTxn tN
  have k0 : sKind (body m) = ⟨{ noM with kind := m.kind }, nx (body m), false⟩ := by unfold sKind; rw [hv, hwr]; rfl
  have k1 := page_back (h := partsH m.kind false) (m := m) (t := sKind (body m)) (by rw [k0]; exact hn) (by rw [k0]) (fun c => ⟨by have := w1 c; omega, by have := w1 c; omega⟩) (fun c => by rw [k0]; exact b1 c)
  rw [k0] at k1
  have k2 := x_back (h := partsH m.kind false) (m := m) (t := sPage (partsH m.kind false) (sKind (body m))) (by rw [k0, k1]) (by rw [k0, k1]) (fun c => by rw [k0, k1]; exact b2 c)
  rw [k0, k1] at k2
  have k3 := need_back (h := partsH m.kind false) (m := m) (t := sX (partsH m.kind false) (sPage (partsH m.kind false) (sKind (body m)))) (by rw [k0, k1, k2]) (by rw [k0, k1, k2]) (fun c => by rw [k0, k1, k2]; exact b3 c)
  rw [k0, k1, k2] at k3
  have k4 := txn_back (h := partsH m.kind false) (m := m) (t := sNeed (partsH m.kind false) (sX (partsH m.kind false) (sPage (partsH m.kind false) (sKind (body m))))) (by rw [k0, k1, k2, k3]) (by rw [k0, k1, k2, k3]) (fun c => known_fits (w2 c)) (fun c => by rw [k0, k1, k2, k3]; exact b4 c)
  rw [k0, k1, k2, k3] at k4
  have k5 := n_back (h := partsH m.kind false) (m := m) (t := sTxn (partsH m.kind false) (sNeed (partsH m.kind false) (sX (partsH m.kind false) (sPage (partsH m.kind false) (sKind (body m)))))) (by rw [k0, k1, k2, k3, k4]) (by rw [k0, k1, k2, k3, k4]) (fun c => ⟨by have := w3 c; omega, by have := w3 c; omega⟩) (fun c => by rw [k0, k1, k2, k3, k4]; exact b5 c)
  rw [k0, k1, k2, k3, k4] at k5
  have kH : sHead (body m) = ⟨{ noM with kind := m.kind, page := m.page, x := m.x, need := m.need, cl := m.cl, ep := m.ep, tn := m.tn, n := m.n }, pImage (partsH m.kind m.need) m ++ (pCount (partsH m.kind m.need) m ++ entsB m.es), false⟩ := by
    unfold sHead
    simp only
    rw [hv, k0, k1, k2, k3, k4, k5]
  have k6 := image_back (h := partsH m.kind m.need) (m := m) (t := sHead (body m)) (by rw [kH]) (by rw [kH]) w4 (fun c => by rw [kH]; exact b6 c)
  have k7 := entries_back (h := partsH m.kind m.need) (m := m) (t := sImage (partsH m.kind m.need) (sHead (body m))) (by rw [k6]) (by rw [k6]) (fun c => ⟨(w5 c).1.2, (w5 c).2⟩) b7 (by rw [k6, kH]; rfl)
  have hkk : (sHead (body m)).m.kind = m.kind := by rw [kH]
  have hnn : (sHead (body m)).m.need = m.need := by rw [kH]
  unfold sAll
  simp only
  rw [hkk, hnn, k7, k6, kH]
theorem read_back {m : Ms} (hg : goodM m = true) : readOk (body m) = true ∧ (sAll (body m)).m = m := by
  unfold readOk
  rw [body_all hg]
  exact ⟨rfl, rfl⟩
theorem read_body {s : List UInt8} (h : readOk s = true) (hg : goodM (sAll s).m = true) : body (sAll s).m = s := by
  unfold readOk at h
  simp only [Bool.and_eq_true, Bool.not_eq_true', beq_iff_eq] at h
  exact all_body h.1 h.2 hg
end Go.Proofs.Ytjffjmffoffblaa.Note
namespace Go.Proofs.Ytjffjmffoffblaa.Note
set_option maxRecDepth 100000
open Go.RowKit
open Go.Proofs.Ytjffjmffoffblaa.Nib (enc below_next below_drew)
open Go.Proofs.Ytjffjmffoffblaa.Slab (Slot Slots Blk ret_bool' ret_int')
open Go.Proofs.Ytjffjmffoffblaa.Ent (Ent Ents EntAt SmallE withinB knownB noE entA ent_cells)

/-- the headers of a message's rows -/
structure Hd where
  a : Option Addr
  an : Nat
  ac : Nat
  b : Option Addr
  bn : Nat
  bc : Nat
/-- the rows of a message lie in memory -/
structure In (w : World) (m : Ms) (h : Hd) : Prop where
  s : Slots w h.a h.an m.zs
  e : Ents w h.b h.bn m.es
theorem In.below {w w' : World} {m : Ms} {h : Hd} (hi : In w m h) (hb : Below w.heap.size w w') : In w' m h := ⟨hi.s.below hb, hi.e.next hb⟩
theorem In.none (w : World) : In w noM ⟨none, 0, 0, none, 0, 0⟩ := ⟨⟨rfl, by simp [noM], fun h => absurd h (Nat.lt_irrefl 0)⟩, ⟨rfl, by simp [noM], fun h => absurd h (Nat.lt_irrefl 0)⟩⟩
def msgA (m : Ms) (h : Hd) : Array Value := #[.int .i64 m.kind, .int .i64 m.page, .bool m.x, .bool m.need, .int .i64 m.n, .int .i64 m.cl, .int .i64 m.ep, .int .i64 m.tn, .int .i64 m.lsn, .slice h.a h.an h.ac, .slice h.b h.bn h.bc]
theorem msg_cells {w : World} {g : Nat} {t : TypeId} {m : Ms} {h : Hd} (hb : Blk w g t #[.int .i64 m.kind, .int .i64 m.page, .bool m.x, .bool m.need, .int .i64 m.n, .int .i64 m.cl, .int .i64 m.ep, .int .i64 m.tn, .int .i64 m.lsn, .slice h.a h.an h.ac, .slice h.b h.bn h.bc]) :
    w.cell? ⟨g, 0, none⟩ = some (.int .i64 m.kind) ∧ w.cell? ⟨g, 1, none⟩ = some (.int .i64 m.page) ∧ w.cell? ⟨g, 2, none⟩ = some (.bool m.x) ∧ w.cell? ⟨g, 3, none⟩ = some (.bool m.need) ∧ w.cell? ⟨g, 4, none⟩ = some (.int .i64 m.n) ∧
    w.cell? ⟨g, 5, none⟩ = some (.int .i64 m.cl) ∧ w.cell? ⟨g, 6, none⟩ = some (.int .i64 m.ep) ∧ w.cell? ⟨g, 7, none⟩ = some (.int .i64 m.tn) ∧ w.cell? ⟨g, 8, none⟩ = some (.int .i64 m.lsn) ∧ w.cell? ⟨g, 9, none⟩ = some (.slice h.a h.an h.ac) ∧ w.cell? ⟨g, 10, none⟩ = some (.slice h.b h.bn h.bc) :=
  ⟨hb.cell 0, hb.cell 1, hb.cell 2, hb.cell 3, hb.cell 4, hb.cell 5, hb.cell 6, hb.cell 7, hb.cell 8, hb.cell 9, hb.cell 10⟩
theorem has_cells {w : World} {g : Nat} {t : TypeId} {b0 b1 b2 b3 b4 b5 b6 b7 : Bool} (hb : Blk w g t #[.bool b0, .bool b1, .bool b2, .bool b3, .bool b4, .bool b5, .bool b6, .bool b7]) :
    w.cell? ⟨g, 0, none⟩ = some (.bool b0) ∧ w.cell? ⟨g, 1, none⟩ = some (.bool b1) ∧ w.cell? ⟨g, 2, none⟩ = some (.bool b2) ∧ w.cell? ⟨g, 3, none⟩ = some (.bool b3) ∧ w.cell? ⟨g, 4, none⟩ = some (.bool b4) ∧ w.cell? ⟨g, 5, none⟩ = some (.bool b5) ∧ w.cell? ⟨g, 6, none⟩ = some (.bool b6) ∧ w.cell? ⟨g, 7, none⟩ = some (.bool b7) :=
  ⟨hb.cell 0, hb.cell 1, hb.cell 2, hb.cell 3, hb.cell 4, hb.cell 5, hb.cell 6, hb.cell 7⟩
theorem _root_.Go.Proofs.Ytjffjmffoffblaa.Ent.Ents.at_ {w : World} {a : Option Addr} {n k : Nat} {zs : List Ent} (h : Ents w a n zs) (hk : k < n) :
    ∃ b off x, a = some ⟨b, off, none⟩ ∧ b < w.heap.size ∧ zs[k]? = some x ∧ EntAt w b (off + k * 13) x ∧ SmallE x := by
  obtain ⟨h1, h2, h3⟩ := h
  obtain ⟨b, off, ha, hlt, hc⟩ := h3 (by omega)
  have hl : k < zs.length := by omega
  have e : zs.getD k noE = zs[k] := by simp [List.getD, hl]
  have := hc k hk
  rw [e] at this
  exact ⟨b, off, zs[k], ha, hlt, List.getElem?_eq_getElem hl, this, h2 _ (List.getElem_mem hl)⟩
theorem _root_.Go.Proofs.Ytjffjmffoffblaa.Ent.Ents.len {w : World} {a : Option Addr} {n : Nat} {zs : List Ent} (h : Ents w a n zs) : zs.length = n := h.1

def txnB (a b c a' b' c' : Int) : Bool := (a == a') && ((b == b') && (c == c'))
theorem run_eq_txn (a b c a' b' c' : Int) (w : World) : (binOp .eql 24 (.agg #[.int .i64 a, .int .i64 b, .int .i64 c]) (.agg #[.int .i64 a', .int .i64 b', .int .i64 c'])).run Try.prog w = .ok (.bool (txnB a b c a' b' c')) w := by
  rw [run_eql_struct, show (10000 : Nat) = 9998 + 2 from rfl, Ent.eqIn_txn]
  rfl
theorem run_ne_txn (a b c a' b' c' : Int) (w : World) : (binOp .neq 24 (.agg #[.int .i64 a, .int .i64 b, .int .i64 c]) (.agg #[.int .i64 a', .int .i64 b', .int .i64 c'])).run Try.prog w = .ok (.bool (!txnB a b c a' b' c')) w := by
  have h := run_eq_txn a b c a' b' c' w
  simp only [binOp] at h ⊢
  simp only [Sem.run_bind] at h ⊢
  generalize (Op.equal 24 (.agg #[.int .i64 a, .int .i64 b, .int .i64 c]) (.agg #[.int .i64 a', .int .i64 b', .int .i64 c'])).run Try.prog w = r at h ⊢
  cases r with
  | ok b w1 => simp at h ⊢; obtain ⟨rfl, rfl⟩ := h; exact ⟨rfl, rfl⟩
  | halt x w1 => simp at h
theorem run_guard_txn (op : BinOp) (A B : Operand) (xs ys : Array Value) (w : World) : (eqGuard op 24 A B (.agg xs) (.agg ys)).run Try.prog w = .ok () w := run_eqGuard_agg w op 24 A B xs ys (by kernel_rfl)

/-! slices.ContainsFunc over entries -/
def wrongE (x : Ent) : Bool := !Ent.goodB x
set_option maxRecDepth 100000 in
set_option maxHeartbeats 400000 in
theorem wrong_any (x : Ent) (w : World) (hx : SmallE x) :
    Calls Try.prog 45 #[.agg #[.int .i64 x.kind, .int .i64 x.cl, .int .i64 x.ep, .int .i64 x.n, .int .i64 x.lsn, .int .i64 x.prev, .int .i64 x.page, .int .i64 x.slot, .bool x.wu, .string x.wd, .bool x.iu, .string x.id, .int .i64 x.next]] w fun e w' => e = .returned (.bool (wrongE x)) ∧ Below w.heap.size w w' := by
  have hb := Ent.below_box w (.cells #[.int .i64 x.kind, .int .i64 x.cl, .int .i64 x.ep, .int .i64 x.n, .int .i64 x.lsn, .int .i64 x.prev, .int .i64 x.page, .int .i64 x.slot, .bool x.wu, .string x.wd, .bool x.iu, .string x.id, .int .i64 x.next] 56)
  have hB := Blk.new w 56 #[.int .i64 x.kind, .int .i64 x.cl, .int .i64 x.ep, .int .i64 x.n, .int .i64 x.lsn, .int .i64 x.prev, .int .i64 x.page, .int .i64 x.slot, .bool x.wu, .string x.wd, .bool x.iu, .string x.id, .int .i64 x.next]
  go_enter Try.func45, Try.ntmps45
  go_upto_region 1 with (fail)
  generalize hGen : w.alloc (.cells #[.int .i64 x.kind, .int .i64 x.cl, .int .i64 x.ep, .int .i64 x.n, .int .i64 x.lsn, .int .i64 x.prev, .int .i64 x.page, .int .i64 x.slot, .bool x.wu, .string x.wd, .bool x.iu, .string x.id, .int .i64 x.next] 56) = W at hb hB ⊢
  clear hGen
  obtain ⟨c0, c1, c2, c3, c4, c5, c6, c7, c8, c9, c10, c11, c12⟩ := ent_cells hB
  go_wp2_with fail
  refine (Ent.good_any x _ hx).mono ?_
  rintro e w1 ⟨rfl, b1⟩
  go_wp2
  go_ret
  exact ⟨rfl, below_next hb b1⟩
def firstE (p : Ent → Bool) (l : List Ent) : Nat := l.findIdx p
def idxE (p : Ent → Bool) (l : List Ent) : Int := if l.any p then (firstE p l : Int) else -1
theorem takeE_next {l : List Ent} {k : Nat} {x : Ent} (h : l[k]? = some x) : l.take (k + 1) = l.take k ++ [x] := by
  obtain ⟨hl, rfl⟩ := List.getElem?_eq_some_iff.1 h
  exact List.take_succ_eq_append_getElem hl
theorem anyE_next {p : Ent → Bool} {l : List Ent} {k : Nat} {x : Ent} (h : l[k]? = some x) (h0 : (l.take k).any p = false) : (l.take (k + 1)).any p = p x := by
  rw [takeE_next h, List.any_append, h0]; simp
theorem idxE_hit {p : Ent → Bool} {l : List Ent} {k : Nat} {x : Ent} (h : l[k]? = some x) (h0 : (l.take k).any p = false) (hp : p x = true) : idxE p l = (k : Int) := by
  obtain ⟨hl, rfl⟩ := List.getElem?_eq_some_iff.1 h
  have ha : l.any p = true := List.any_eq_true.2 ⟨_, List.getElem_mem hl, hp⟩
  have hf : firstE p l = k := by
    unfold firstE
    rw [List.findIdx_eq hl]
    refine ⟨hp, fun j hj => ?_⟩
    have := List.any_eq_false.1 h0 (l[j]'(by omega)) (by rw [List.mem_take_iff_getElem]; exact ⟨j, by omega, rfl⟩)
    simpa using this
  unfold idxE
  rw [if_pos ha, hf]
theorem idxE_miss {p : Ent → Bool} {l : List Ent} (h0 : l.any p = false) : idxE p l = -1 := by
  unfold idxE; rw [h0]; rfl
theorem idxE_nonneg (p : Ent → Bool) (l : List Ent) : decide (0 ≤ idxE p l) = l.any p := by
  unfold idxE
  cases h : l.any p with
  | true => simp
  | false => simp
set_option maxRecDepth 100000 in
set_option maxHeartbeats 400000 in
theorem index_any (eg : ∀ args w, (callFunc 45 args).run Try.prog w = .ok (.enter 45 args) w) (a : Option Addr) (n c : Nat) (zs : List Ent) (w : World) (h : Ents w a n zs) (hn : n ≤ 1000000) :
    Calls Try.prog 67 #[.slice a n c, .func (.func 45) #[] #[]] w fun e w' => e = .returned (.int .i64 (idxE wrongE zs)) ∧ Below w.heap.size w w' := by
  have HS := Lib.hid h
  clear h
  go_enter Try.func67, Try.ntmps67
  go_wp2
  go_loopw [5, 8] (fun _ i wr => ∃ k : Nat, k ≤ n ∧ i = .int .i64 k ∧ Hid ((zs.take k).any wrongE = false) ∧ Below w.heap.size w wr) (fun _ i _ => n - (intOf i).toNat)
  case atStart => exact ⟨0, Nat.zero_le _, rfl, Lib.hid rfl, Below.refl _ _⟩
  case round =>
    obtain ⟨k, hk, rfl, h0, hbel⟩ := hrel
    by_cases hlt : k < n
    · obtain ⟨b, off, x, rfl, hb1, hg, hat, hd⟩ := (HS.out.next hbel).at_ hlt
      obtain ⟨c0, c1, c2, c3, c4, c5, c6, c7, c8, c9, c10, c11, c12⟩ := hat.cells
      have HG := Lib.hid hg
      clear hg hat
      have hcall := wrong_any x wr hd
      cases hq : wrongE x with
      | true =>
        rw [hq] at hcall
        have HQ := Lib.hid hq
        clear hq
        have HC := Lib.hid hcall
        clear hcall
        go_wp2_with (go_at_fn 45; refine HC.out.mono ?_; rintro e w' ⟨rfl, hb'⟩)
        go_ret
        exact ⟨ret_int' (idxE_hit HG.out h0.out HQ.out).symm, below_next hbel hb'⟩
      | false =>
        rw [hq] at hcall
        have HQ := Lib.hid hq
        clear hq
        have HC := Lib.hid hcall
        clear hcall
        go_wp2_with (go_at_fn 45; refine HC.out.mono ?_; rintro e w' ⟨rfl, hb'⟩)
        go_roundw
        case rel => exact ⟨k + 1, by omega, by go_num, Lib.hid (by rw [anyE_next HG.out h0.out]; exact HQ.out), below_next hbel hb'⟩
        case measure => simp [intOf]; omega
    · go_wp2
      go_ret
      obtain rfl : k = n := by omega
      refine ⟨ret_int' (idxE_miss ?_).symm, hbel⟩
      have e : zs.take k = zs := by rw [← HS.out.len, List.take_length]
      rw [← e]; exact h0.out
set_option maxRecDepth 100000 in
set_option maxHeartbeats 400000 in
theorem contains_of (eg : ∀ args w, (callFunc 45 args).run Try.prog w = .ok (.enter 45 args) w) (a : Option Addr) (n c : Nat) (zs : List Ent) (w : World) (h : Ents w a n zs) (hn : n ≤ 1000000) :
    Calls Try.prog 44 #[.slice a n c, .func (.func 45) #[] #[]] w fun e w' => e = .returned (.bool (zs.any wrongE)) ∧ Below w.heap.size w w' := by
  have HS := Lib.hid h
  clear h
  go_enter Try.func44, Try.ntmps44
  go_wp2_with ((with_reducible refine (index_any eg a n c zs _ HS.out hn).mono ?_); rintro e w' ⟨rfl, hb'⟩)
  go_ret
  exact ⟨ret_bool' (idxE_nonneg wrongE zs), hb'⟩
theorem contains_any (a : Option Addr) (n c : Nat) (zs : List Ent) (w : World) (h : Ents w a n zs) (hn : n ≤ 1000000) :
    Calls Try.prog 44 #[.slice a n c, .func (.func 45) #[] #[]] w fun e w' => e = .returned (.bool (zs.any wrongE)) ∧ Below w.heap.size w w' :=
  contains_of (enters_of Try.func45 (by kernel_rfl) rfl) a n c zs w h hn
end Go.Proofs.Ytjffjmffoffblaa.Note
