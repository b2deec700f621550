/- The document's own Decode, at every text. -/
import Derived.Test.YtjffjmffoffblaaQNoteRDec1
import Derived.Test.YtjffjmffoffblaaQNoteRDec2
import Derived.Test.YtjffjmffoffblaaQNoteRDec3
namespace Go.Proofs.Ytjffjmffoffblaa.Note
set_option maxRecDepth 100000
open Go.RowKit Go.Sort
theorem rdecode_any (S : ByteArray) (w : World) (hs : S.size ≤ 140737488351232) :
    Calls Try.prog 6 #[.string S] w (DecRes (decS S.data.toList).1 (decS S.data.toList).2 w) := by
  by_cases h4 : S.size < 4
  · exact rdec_short S w h4
  have h4 : 4 ≤ S.size := by omega
  by_cases hq : S.data.toList.take 4 = quadH (Sum.check (S.data.toList.drop 4))
  rotate_left
  · exact rdec_sum S w hs h4 hq
  cases kind_of (vl (S.data.toList.drop 4)) with
  | lock hk hh ho => exact rdec_Lock S w hs h4 hq (sAll_of (hh false) (hh _)) (fun w m hd e _ => has_1 m hd w (e.trans hk)) (fun w m hd e _ => has_1 m hd w (e.trans hk))
  | use hk hh ho => exact rdec_Use S w hs h4 hq (sAll_of (hh false) (hh _)) (fun w m hd e _ => has_3 m hd w (e.trans hk)) (fun w m hd e _ => has_3 m hd w (e.trans hk))
  | log hk hh ho => exact rdec_Log S w hs h4 hq (sAll_of (hh false) (hh _)) hh (fun w m hd e _ => has_4 m hd w (e.trans hk)) (fun w m hd e _ => has_4 m hd w (e.trans hk))
  | image hk hh ho => exact rdec_Image S w hs h4 hq (sAll_of (hh false) (hh _)) (fun w m hd e _ => has_5 m hd w (e.trans hk)) (fun w m hd e _ => has_5 m hd w (e.trans hk))
  | victim hk hh ho => exact rdec_None S w hs h4 hq (sAll_of (hh false) (hh _)) (fun w m hd e _ => has_12 m hd w (e.trans hk)) (fun w m hd e _ => has_12 m hd w (e.trans hk))
  | room hk hh ho => exact rdec_Room S w hs h4 hq (sAll_of (hh false) (hh _)) (fun w m hd e _ => has_13 m hd w (e.trans hk)) (fun w m hd e _ => has_13 m hd w (e.trans hk))
  | none hk hh ho => exact rdec_Bad S w hs h4 hq (sAll_of (hh false) (hh _)) (fun w m hd e _ => has_none m hd w (by omega)) (fun w m hd e _ => has_none m hd w (by omega))
  | free hk hh ho =>
    rcases hk with hk | hk
    · exact rdec_Free S w hs h4 hq (sAll_of (hh false) (hh _)) (fun w m hd e _ => has_2 m hd w (e.trans hk)) (fun w m hd e _ => has_2 m hd w (e.trans hk))
    · exact rdec_Free S w hs h4 hq (sAll_of (hh false) (hh _)) (fun w m hd e _ => has_10 m hd w (e.trans hk)) (fun w m hd e _ => has_10 m hd w (e.trans hk))
  | txn hk hh ho =>
    rcases hk with hk | hk
    · exact rdec_Txn S w hs h4 hq (sAll_of (hh false) (hh _)) (fun w m hd e _ => has_6 m hd w (e.trans hk)) (fun w m hd e _ => has_6 m hd w (e.trans hk))
    · exact rdec_Txn S w hs h4 hq (sAll_of (hh false) (hh _)) (fun w m hd e _ => has_11 m hd w (e.trans hk)) (fun w m hd e _ => has_11 m hd w (e.trans hk))
  | space hk hh ho =>
    rcases hk with hk | hk
    · exact rdec_Space S w hs h4 hq (sAll_of (hh false) (hh _)) (fun w m hd e _ => has_7 m hd w (e.trans hk)) (fun w m hd e _ => has_7 m hd w (e.trans hk))
    · exact rdec_Space S w hs h4 hq (sAll_of (hh false) (hh _)) (fun w m hd e _ => has_8 m hd w (e.trans hk)) (fun w m hd e _ => has_8 m hd w (e.trans hk))
  | grant hk hh ho =>
    have h0 : partsH (vl (S.data.toList.drop 4)) false = hLock := hh false
    rcases Bool.eq_false_or_eq_true (sN hLock (sTxn hLock (sNeed hLock (sX hLock (sPage hLock (sKind (S.data.toList.drop 4))))))).m.need with hn | hn
    · exact rdec_Grant S w hs h4 hq (sAll_of h0 (H1 := hGrant true) (by rw [hh, hn])) (fun w m hd e n => has_9 m hd w (e.trans hk) n) (fun w m hd e n => has_grant m hd w (e.trans hk) (n.trans hn))
    · exact rdec_Lock S w hs h4 hq (sAll_of h0 (H1 := hLock) (by rw [hh, hn]; rfl)) (fun w m hd e n => has_9 m hd w (e.trans hk) n) (fun w m hd e n => has_9 m hd w (e.trans hk) (n.trans hn))
end Go.Proofs.Ytjffjmffoffblaa.Note
