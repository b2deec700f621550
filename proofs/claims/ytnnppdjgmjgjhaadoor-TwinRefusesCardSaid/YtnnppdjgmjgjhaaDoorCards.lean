/-
  DERIVED. GIVEN WITH THE SEED: THE CARDS: each row of YtnnppdjgmjgjhaaDoorRows.lean that lists a variable, with what it lists TIED to the program's text (the seventh form; the later family's looks); each row that meets fmt, with fmt's text TOLD by the authors' own Lean function (tested against real Go, not proved from fmt's source: count such statements apart). THE CARD IS WHAT COUNTS. Prove the row's statement (the work); the ties are given (YtnnppdjgmjgjhaaDoorTie.lean); close each card by the builder's one call (the guide's Derived/Test/ToyasCard.lean, 'card_holds'). Laid BY PROGRAM, IN A SANDBOX (cutbox-door.mjs). By AI agents, Wed Nov 11 2026. No macro, syntax, notation, axiom, sorry.
-/
import Derived.Test.YtnnppdjgmjgjhaaDoorRows
import GoSem.ClaimSeven
namespace Go.Proofs.YtnnppdjgmjgjhaaDoor
namespace Rows

/-- THE TIED CARD OF 'seneschallaw08.TwinPower'. -/
def twinPowerCard : Claim7 := { stood := { row := twinPowerRow, standIns := [], harness := (true, "4546789fa258708d9d3dcb438f92e88c94f5610d84b01f07f1dc4982df0ea7ea"), looks := false }, kinds := [], alts := [], laidByText := true, laidKinds := [.data, .pinned], laidTests := true, laidLooks := .later }
def TwinPowerCardSaid : Prop := Claim7.holds Tryd.pinned (.plain (OpenSpec.ofChange twinPowerSpec)) twinPowerCard

/-- THE TIED CARD OF 'seneschallaw08.TwinRefuses'. -/
def twinRefusesCard : Claim7 := { stood := { row := twinRefusesRow, standIns := [], harness := (true, "4546789fa258708d9d3dcb438f92e88c94f5610d84b01f07f1dc4982df0ea7ea"), looks := false }, kinds := [], alts := [], laidByText := true, laidKinds := [.data, .pinned], laidTests := true, laidLooks := .later }
def TwinRefusesCardSaid : Prop := Claim7.holds Tryd.pinned (.plain (OpenSpec.ofChange twinRefusesSpec)) twinRefusesCard

/-- THE SECOND FORM's CARD OF 'seneschallaw08.TwinPower'. -/
def twinPowerUptoCard : Claim7 := { stood := { row := twinPowerUptoRow, standIns := [], harness := (true, "4546789fa258708d9d3dcb438f92e88c94f5610d84b01f07f1dc4982df0ea7ea"), looks := false }, kinds := [], alts := [], laidByText := true, laidKinds := [.data, .pinned], laidTests := true, laidLooks := .later }
def TwinPowerUptoCardSaid : Prop := Claim7.holds Tryd.pinned (.plain (OpenSpec.upto twinPowerSpec)) twinPowerUptoCard

/-- THE SECOND FORM's CARD OF 'seneschallaw08.TwinRefuses'. -/
def twinRefusesUptoCard : Claim7 := { stood := { row := twinRefusesUptoRow, standIns := [], harness := (true, "4546789fa258708d9d3dcb438f92e88c94f5610d84b01f07f1dc4982df0ea7ea"), looks := false }, kinds := [], alts := [], laidByText := true, laidKinds := [.data, .pinned], laidTests := true, laidLooks := .later }
def TwinRefusesUptoCardSaid : Prop := Claim7.holds Tryd.pinned (.plain (OpenSpec.upto twinRefusesSpec)) twinRefusesUptoCard
end Rows
end Go.Proofs.YtnnppdjgmjgjhaaDoor
