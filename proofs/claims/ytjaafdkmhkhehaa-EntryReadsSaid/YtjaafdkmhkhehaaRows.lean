/-
  No cell of these rows narrows 'for every input' (looked for: loops, veiled, ifaces, maps, wideKeys, modest, calm, conditions, laid).
  DERIVED. THE GIVEN ROWS OF THIS SEAT. 9 by the template 'for every input the law returns true; each argument reads behind the call as it read before'; 0 by the template 'total and deterministic' (their statements: YtjaafdkmhkhehaaTotals.lean).
  GIVEN WITH THE SEED: the statements are not yours to turn. If you find one false, say at which input.
  Laid BY PROGRAM, IN A SANDBOX (cutbox-rows.mjs): the forced cells as the released guide's own fill.sh prints them over the translation 35da54e6a11d70a8… (all of the seat's roots in one cut). By AI agents, Wed Nov 11 2026. No macro, syntax, notation, axiom, sorry.
-/
import Derived.Test.YtjaafdkmhkhehaaChecked
import GoSem.Claim
import GoSem.ClaimJoined
import GoSem.ClaimMapViews
import Derived.JoinedTies
import Derived.KernelRfl
namespace Go.Proofs.Ytjaafdkmhkhehaa
/- THE CELL 'sum', in the pinned program and in every row, IS THE sha256 OF THE DUMP (.gsa) THAT YtjaafdkmhkhehaaProg.lean LOADS. Nothing in Lean hashes anything: it is a label: what it is worth is what the hold of that sum in a sandbox is worth. -/
noncomputable def Try.pinned : Pinned := { name := "ytjaafdkmhkhehaa", sum := "35da54e6a11d70a811d64d264e7fb831ab76eacc5611d23f5b95fd028db8fd64", checked := Try.checked }
namespace Rows
def none {H : Type} : Left H := { results := [], args := [] }

/-- 'seneschallaw03.SlabReads': WHATEVER THE INPUT: true; the input reads as it did. -/
def slabReadsSpec : ChangeSpec := { name := "slabReads", fn := fun _ => fun
  | [d] => { results := [.lit (.bool true)], args := [d] }
  | _ => none }
def slabReadsRow : OpenClaim := { program := "ytjaafdkmhkhehaa", sum := "35da54e6a11d70a811d64d264e7fb831ab76eacc5611d23f5b95fd028db8fd64", func := "seneschal/seneschallaw03.SlabReads", spec := "slabReads", inPlace := ["internal/abi.NoEscape", "internal/bytealg.MakeNoZero"], unfollowed := true, recurses := true, apart := false }
def SlabReadsSaid : Prop := slabReadsRow.holds Try.pinned (OpenSpec.ofChange slabReadsSpec)

/-- ITS FALSE NEIGHBOUR: 'it returns false'. Refute it at one input. -/
def slabReadsWrong : ChangeSpec := { name := "slabReads", fn := fun _ => fun
  | [d] => { results := [.lit (.bool false)], args := [d] }
  | _ => none }
def SlabReadsWrongFalsely : Prop := slabReadsRow.holds Try.pinned (OpenSpec.ofChange slabReadsWrong)

/-- 'seneschallaw03.SlabPuts': WHATEVER THE INPUT: true; the input reads as it did. -/
def slabPutsSpec : ChangeSpec := { name := "slabPuts", fn := fun _ => fun
  | [d1, d2, d3] => { results := [.lit (.bool true)], args := [d1, d2, d3] }
  | _ => none }
def slabPutsRow : OpenClaim := { program := "ytjaafdkmhkhehaa", sum := "35da54e6a11d70a811d64d264e7fb831ab76eacc5611d23f5b95fd028db8fd64", func := "seneschal/seneschallaw03.SlabPuts", spec := "slabPuts", inPlace := ["internal/abi.NoEscape", "internal/bytealg.MakeNoZero"], unfollowed := true, recurses := true, apart := false }
def SlabPutsSaid : Prop := slabPutsRow.holds Try.pinned (OpenSpec.ofChange slabPutsSpec)

/-- ITS FALSE NEIGHBOUR: 'it returns false'. Refute it at one input. -/
def slabPutsWrong : ChangeSpec := { name := "slabPuts", fn := fun _ => fun
  | [d1, d2, d3] => { results := [.lit (.bool false)], args := [d1, d2, d3] }
  | _ => none }
def SlabPutsWrongFalsely : Prop := slabPutsRow.holds Try.pinned (OpenSpec.ofChange slabPutsWrong)

/-- 'seneschallaw03.SlabRows': WHATEVER THE INPUT: true; the input reads as it did. -/
def slabRowsSpec : ChangeSpec := { name := "slabRows", fn := fun _ => fun
  | [d1, d2] => { results := [.lit (.bool true)], args := [d1, d2] }
  | _ => none }
def slabRowsRow : OpenClaim := { program := "ytjaafdkmhkhehaa", sum := "35da54e6a11d70a811d64d264e7fb831ab76eacc5611d23f5b95fd028db8fd64", func := "seneschal/seneschallaw03.SlabRows", spec := "slabRows", inPlace := ["internal/abi.NoEscape", "internal/bytealg.MakeNoZero"], unfollowed := true, recurses := true, apart := false }
def SlabRowsSaid : Prop := slabRowsRow.holds Try.pinned (OpenSpec.ofChange slabRowsSpec)

/-- ITS FALSE NEIGHBOUR: 'it returns false'. Refute it at one input. -/
def slabRowsWrong : ChangeSpec := { name := "slabRows", fn := fun _ => fun
  | [d1, d2] => { results := [.lit (.bool false)], args := [d1, d2] }
  | _ => none }
def SlabRowsWrongFalsely : Prop := slabRowsRow.holds Try.pinned (OpenSpec.ofChange slabRowsWrong)

/-- 'seneschallaw04.EntryWrites': WHATEVER THE INPUT: true; the input reads as it did. -/
def entryWritesSpec : ChangeSpec := { name := "entryWrites", fn := fun _ => fun
  | [d] => { results := [.lit (.bool true)], args := [d] }
  | _ => none }
def entryWritesRow : OpenClaim := { program := "ytjaafdkmhkhehaa", sum := "35da54e6a11d70a811d64d264e7fb831ab76eacc5611d23f5b95fd028db8fd64", func := "seneschal/seneschallaw04.EntryWrites", spec := "entryWrites", inPlace := ["internal/abi.NoEscape"], unfollowed := true, recurses := true, apart := false }
def EntryWritesSaid : Prop := entryWritesRow.holds Try.pinned (OpenSpec.ofChange entryWritesSpec)

/-- ITS FALSE NEIGHBOUR: 'it returns false'. Refute it at one input. -/
def entryWritesWrong : ChangeSpec := { name := "entryWrites", fn := fun _ => fun
  | [d] => { results := [.lit (.bool false)], args := [d] }
  | _ => none }
def EntryWritesWrongFalsely : Prop := entryWritesRow.holds Try.pinned (OpenSpec.ofChange entryWritesWrong)

/-- 'seneschallaw04.EntryReads': WHATEVER THE INPUT: true; the input reads as it did. -/
def entryReadsSpec : ChangeSpec := { name := "entryReads", fn := fun _ => fun
  | [d] => { results := [.lit (.bool true)], args := [d] }
  | _ => none }
def entryReadsRow : OpenClaim := { program := "ytjaafdkmhkhehaa", sum := "35da54e6a11d70a811d64d264e7fb831ab76eacc5611d23f5b95fd028db8fd64", func := "seneschal/seneschallaw04.EntryReads", spec := "entryReads", inPlace := ["internal/abi.NoEscape"], unfollowed := true, recurses := true, apart := false }
def EntryReadsSaid : Prop := entryReadsRow.holds Try.pinned (OpenSpec.ofChange entryReadsSpec)

/-- ITS FALSE NEIGHBOUR: 'it returns false'. Refute it at one input. -/
def entryReadsWrong : ChangeSpec := { name := "entryReads", fn := fun _ => fun
  | [d] => { results := [.lit (.bool false)], args := [d] }
  | _ => none }
def EntryReadsWrongFalsely : Prop := entryReadsRow.holds Try.pinned (OpenSpec.ofChange entryReadsWrong)

/-- 'seneschallaw04.EntryBack': WHATEVER THE INPUT: true; the input reads as it did. -/
def entryBackSpec : ChangeSpec := { name := "entryBack", fn := fun _ => fun
  | [d1, d2, d3] => { results := [.lit (.bool true)], args := [d1, d2, d3] }
  | _ => none }
def entryBackRow : OpenClaim := { program := "ytjaafdkmhkhehaa", sum := "35da54e6a11d70a811d64d264e7fb831ab76eacc5611d23f5b95fd028db8fd64", func := "seneschal/seneschallaw04.EntryBack", spec := "entryBack", inPlace := ["internal/abi.NoEscape"], unfollowed := true, recurses := true, apart := false }
def EntryBackSaid : Prop := entryBackRow.holds Try.pinned (OpenSpec.ofChange entryBackSpec)

/-- ITS FALSE NEIGHBOUR: 'it returns false'. Refute it at one input. -/
def entryBackWrong : ChangeSpec := { name := "entryBack", fn := fun _ => fun
  | [d1, d2, d3] => { results := [.lit (.bool false)], args := [d1, d2, d3] }
  | _ => none }
def EntryBackWrongFalsely : Prop := entryBackRow.holds Try.pinned (OpenSpec.ofChange entryBackWrong)

/-- 'seneschallaw04.EntryOne': WHATEVER THE INPUT: true; the input reads as it did. -/
def entryOneSpec : ChangeSpec := { name := "entryOne", fn := fun _ => fun
  | [d1, d2] => { results := [.lit (.bool true)], args := [d1, d2] }
  | _ => none }
def entryOneRow : OpenClaim := { program := "ytjaafdkmhkhehaa", sum := "35da54e6a11d70a811d64d264e7fb831ab76eacc5611d23f5b95fd028db8fd64", func := "seneschal/seneschallaw04.EntryOne", spec := "entryOne", inPlace := ["internal/abi.NoEscape"], unfollowed := true, recurses := true, apart := false }
def EntryOneSaid : Prop := entryOneRow.holds Try.pinned (OpenSpec.ofChange entryOneSpec)

/-- ITS FALSE NEIGHBOUR: 'it returns false'. Refute it at one input. -/
def entryOneWrong : ChangeSpec := { name := "entryOne", fn := fun _ => fun
  | [d1, d2] => { results := [.lit (.bool false)], args := [d1, d2] }
  | _ => none }
def EntryOneWrongFalsely : Prop := entryOneRow.holds Try.pinned (OpenSpec.ofChange entryOneWrong)

/-- 'seneschallaw04.EntryCosts': WHATEVER THE INPUT: true; the input reads as it did. -/
def entryCostsSpec : ChangeSpec := { name := "entryCosts", fn := fun _ => fun
  | [d] => { results := [.lit (.bool true)], args := [d] }
  | _ => none }
def entryCostsRow : OpenClaim := { program := "ytjaafdkmhkhehaa", sum := "35da54e6a11d70a811d64d264e7fb831ab76eacc5611d23f5b95fd028db8fd64", func := "seneschal/seneschallaw04.EntryCosts", spec := "entryCosts", inPlace := ["internal/abi.NoEscape"], unfollowed := true, recurses := true, apart := false }
def EntryCostsSaid : Prop := entryCostsRow.holds Try.pinned (OpenSpec.ofChange entryCostsSpec)

/-- ITS FALSE NEIGHBOUR: 'it returns false'. Refute it at one input. -/
def entryCostsWrong : ChangeSpec := { name := "entryCosts", fn := fun _ => fun
  | [d] => { results := [.lit (.bool false)], args := [d] }
  | _ => none }
def EntryCostsWrongFalsely : Prop := entryCostsRow.holds Try.pinned (OpenSpec.ofChange entryCostsWrong)

/-- 'seneschallaw04.EntryRow': WHATEVER THE INPUT: true; the input reads as it did. -/
def entryRowSpec : ChangeSpec := { name := "entryRow", fn := fun _ => fun
  | [d] => { results := [.lit (.bool true)], args := [d] }
  | _ => none }
def entryRowRow : OpenClaim := { program := "ytjaafdkmhkhehaa", sum := "35da54e6a11d70a811d64d264e7fb831ab76eacc5611d23f5b95fd028db8fd64", func := "seneschal/seneschallaw04.EntryRow", spec := "entryRow", inPlace := ["internal/abi.NoEscape"], unfollowed := true, recurses := true, apart := false }
def EntryRowSaid : Prop := entryRowRow.holds Try.pinned (OpenSpec.ofChange entryRowSpec)

/-- ITS FALSE NEIGHBOUR: 'it returns false'. Refute it at one input. -/
def entryRowWrong : ChangeSpec := { name := "entryRow", fn := fun _ => fun
  | [d] => { results := [.lit (.bool false)], args := [d] }
  | _ => none }
def EntryRowWrongFalsely : Prop := entryRowRow.holds Try.pinned (OpenSpec.ofChange entryRowWrong)

/- THE SECOND FORM. 'bulk': how many values and letters a reading holds, each counted each time it is reached (what is shared counts as often as it is met; a slice's spare places count too). A statement '..UptoSaid' is the law's where the arguments, and the package variables that the reading takes, are together of bulk at most 1048576: NARROWER than '..Said'. Prove '..Said' where nothing that the law and all that it calls make is longer than what came in: it says more and counts as full. Else prove '..UptoSaid'. A law counts once. -/
mutual
def uptoBulk {H : Type} : DataW H → Nat
  | .lit (.string bytes) => bytes.length + 1
  | .lit _ => 1
  | .nil => 1
  | .ptr d => uptoBulk d + 1
  | .slice elems spare => uptoBulkAll elems + uptoBulkAll spare + 1
  | .agg parts => uptoBulkAll parts + 1
  | .iface _ d => uptoBulk d + 1
  | .map entries => uptoBulkEntries entries + 1
  | .held _ => 1
def uptoBulkAll {H : Type} : List (DataW H) → Nat
  | [] => 0
  | d :: r => uptoBulk d + uptoBulkAll r
def uptoBulkEntries {H : Type} : List (Lit × DataW H) → Nat
  | [] => 0
  | x :: r => uptoBulkEntry x + uptoBulkEntries r
def uptoBulkEntry {H : Type} : Lit × DataW H → Nat
  | (.string bytes, d) => bytes.length + uptoBulk d + 1
  | (_, d) => uptoBulk d + 1
 end
def uptoSmall : (H : Type) → List (DataW H) → Bool := fun _ ds => decide (uptoBulkAll ds ≤ 1048576)
def OpenSpec.upto (s : _root_.Go.ChangeSpec) : _root_.Go.OpenSpec := { _root_.Go.OpenSpec.ofChange s with cond := some uptoSmall }

/-- 'seneschallaw03.SlabReads', WHERE WHAT IT READS IS OF BULK AT MOST 1048576: true; the input reads as it did. -/
def slabReadsUptoRow : OpenClaim := { program := "ytjaafdkmhkhehaa", sum := "35da54e6a11d70a811d64d264e7fb831ab76eacc5611d23f5b95fd028db8fd64", func := "seneschal/seneschallaw03.SlabReads", spec := "slabReads", inPlace := ["internal/abi.NoEscape", "internal/bytealg.MakeNoZero"], unfollowed := true, recurses := true, apart := false, narrowed := true }
def SlabReadsUptoSaid : Prop := slabReadsUptoRow.holds Try.pinned (OpenSpec.upto slabReadsSpec)

/-- 'seneschallaw03.SlabPuts', WHERE WHAT IT READS IS OF BULK AT MOST 1048576: true; the input reads as it did. -/
def slabPutsUptoRow : OpenClaim := { program := "ytjaafdkmhkhehaa", sum := "35da54e6a11d70a811d64d264e7fb831ab76eacc5611d23f5b95fd028db8fd64", func := "seneschal/seneschallaw03.SlabPuts", spec := "slabPuts", inPlace := ["internal/abi.NoEscape", "internal/bytealg.MakeNoZero"], unfollowed := true, recurses := true, apart := false, narrowed := true }
def SlabPutsUptoSaid : Prop := slabPutsUptoRow.holds Try.pinned (OpenSpec.upto slabPutsSpec)

/-- 'seneschallaw03.SlabRows', WHERE WHAT IT READS IS OF BULK AT MOST 1048576: true; the input reads as it did. -/
def slabRowsUptoRow : OpenClaim := { program := "ytjaafdkmhkhehaa", sum := "35da54e6a11d70a811d64d264e7fb831ab76eacc5611d23f5b95fd028db8fd64", func := "seneschal/seneschallaw03.SlabRows", spec := "slabRows", inPlace := ["internal/abi.NoEscape", "internal/bytealg.MakeNoZero"], unfollowed := true, recurses := true, apart := false, narrowed := true }
def SlabRowsUptoSaid : Prop := slabRowsUptoRow.holds Try.pinned (OpenSpec.upto slabRowsSpec)

/-- 'seneschallaw04.EntryWrites', WHERE WHAT IT READS IS OF BULK AT MOST 1048576: true; the input reads as it did. -/
def entryWritesUptoRow : OpenClaim := { program := "ytjaafdkmhkhehaa", sum := "35da54e6a11d70a811d64d264e7fb831ab76eacc5611d23f5b95fd028db8fd64", func := "seneschal/seneschallaw04.EntryWrites", spec := "entryWrites", inPlace := ["internal/abi.NoEscape"], unfollowed := true, recurses := true, apart := false, narrowed := true }
def EntryWritesUptoSaid : Prop := entryWritesUptoRow.holds Try.pinned (OpenSpec.upto entryWritesSpec)

/-- 'seneschallaw04.EntryReads', WHERE WHAT IT READS IS OF BULK AT MOST 1048576: true; the input reads as it did. -/
def entryReadsUptoRow : OpenClaim := { program := "ytjaafdkmhkhehaa", sum := "35da54e6a11d70a811d64d264e7fb831ab76eacc5611d23f5b95fd028db8fd64", func := "seneschal/seneschallaw04.EntryReads", spec := "entryReads", inPlace := ["internal/abi.NoEscape"], unfollowed := true, recurses := true, apart := false, narrowed := true }
def EntryReadsUptoSaid : Prop := entryReadsUptoRow.holds Try.pinned (OpenSpec.upto entryReadsSpec)

/-- 'seneschallaw04.EntryBack', WHERE WHAT IT READS IS OF BULK AT MOST 1048576: true; the input reads as it did. -/
def entryBackUptoRow : OpenClaim := { program := "ytjaafdkmhkhehaa", sum := "35da54e6a11d70a811d64d264e7fb831ab76eacc5611d23f5b95fd028db8fd64", func := "seneschal/seneschallaw04.EntryBack", spec := "entryBack", inPlace := ["internal/abi.NoEscape"], unfollowed := true, recurses := true, apart := false, narrowed := true }
def EntryBackUptoSaid : Prop := entryBackUptoRow.holds Try.pinned (OpenSpec.upto entryBackSpec)

/-- 'seneschallaw04.EntryOne', WHERE WHAT IT READS IS OF BULK AT MOST 1048576: true; the input reads as it did. -/
def entryOneUptoRow : OpenClaim := { program := "ytjaafdkmhkhehaa", sum := "35da54e6a11d70a811d64d264e7fb831ab76eacc5611d23f5b95fd028db8fd64", func := "seneschal/seneschallaw04.EntryOne", spec := "entryOne", inPlace := ["internal/abi.NoEscape"], unfollowed := true, recurses := true, apart := false, narrowed := true }
def EntryOneUptoSaid : Prop := entryOneUptoRow.holds Try.pinned (OpenSpec.upto entryOneSpec)

/-- 'seneschallaw04.EntryCosts', WHERE WHAT IT READS IS OF BULK AT MOST 1048576: true; the input reads as it did. -/
def entryCostsUptoRow : OpenClaim := { program := "ytjaafdkmhkhehaa", sum := "35da54e6a11d70a811d64d264e7fb831ab76eacc5611d23f5b95fd028db8fd64", func := "seneschal/seneschallaw04.EntryCosts", spec := "entryCosts", inPlace := ["internal/abi.NoEscape"], unfollowed := true, recurses := true, apart := false, narrowed := true }
def EntryCostsUptoSaid : Prop := entryCostsUptoRow.holds Try.pinned (OpenSpec.upto entryCostsSpec)

/-- 'seneschallaw04.EntryRow', WHERE WHAT IT READS IS OF BULK AT MOST 1048576: true; the input reads as it did. -/
def entryRowUptoRow : OpenClaim := { program := "ytjaafdkmhkhehaa", sum := "35da54e6a11d70a811d64d264e7fb831ab76eacc5611d23f5b95fd028db8fd64", func := "seneschal/seneschallaw04.EntryRow", spec := "entryRow", inPlace := ["internal/abi.NoEscape"], unfollowed := true, recurses := true, apart := false, narrowed := true }
def EntryRowUptoSaid : Prop := entryRowUptoRow.holds Try.pinned (OpenSpec.upto entryRowSpec)

end Rows
end Go.Proofs.Ytjaafdkmhkhehaa
