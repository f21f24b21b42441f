/-
  DERIVED. GIVEN WITH THE SEED: THE CARDS: each row of YtcggopolokekkaaGreatDoorRows.lean that lists a variable, with what it lists TIED to the program's text (the seventh form; the later family's looks); each row that meets fmt, with fmt's text TOLD by the authors' own Lean function (tested against real Go, not proved from fmt's source: count such statements apart). THE CARD IS WHAT COUNTS. Prove the row's statement (the work); the ties are given (YtcggopolokekkaaGreatDoorTie.lean); close each card by the builder's one call (the guide's Derived/Test/ToyasCard.lean, 'card_holds'). Laid BY PROGRAM, IN A SANDBOX (cutbox-door.mjs). By AI agents, Wed Nov 11 2026. No macro, syntax, notation, axiom, sorry.
-/
import Derived.Test.YtcggopolokekkaaGreatDoorRows
import GoSem.ClaimSeven
namespace Go.Proofs.YtcggopolokekkaaGreatDoor
namespace Rows

/-- THE TIED CARD OF 'shuntlaw10.TopoModes'. -/
def topoModesCard : Claim7 := { stood := { row := topoModesRow, standIns := [], harness := (true, "f390489f60e3f3b5ae0011a588b9d1a6492814fae1d132fd4c255e70128a791f"), looks := true }, kinds := [], alts := [], laidByText := true, laidKinds := [.data, .data, .data, .data, .sentinel, .sentinel, .data, .pinned], laidTests := true, laidLooks := .later }
def TopoModesCardSaid : Prop := Claim7.holds Tryz.pinned (.plain (OpenSpec.ofChange topoModesSpec)) topoModesCard

/-- THE SECOND FORM's CARD OF 'shuntlaw10.TopoModes'. -/
def topoModesUptoCard : Claim7 := { stood := { row := topoModesUptoRow, standIns := [], harness := (true, "f390489f60e3f3b5ae0011a588b9d1a6492814fae1d132fd4c255e70128a791f"), looks := true }, kinds := [], alts := [], laidByText := true, laidKinds := [.data, .data, .data, .data, .sentinel, .sentinel, .data, .pinned], laidTests := true, laidLooks := .later }
def TopoModesUptoCardSaid : Prop := Claim7.holds Tryz.pinned (.plain (OpenSpec.upto topoModesSpec)) topoModesUptoCard
end Rows
end Go.Proofs.YtcggopolokekkaaGreatDoor
