/-
  DERIVED. GIVEN WITH THE SEED: THE CARDS: each row of YtiadnlpbbibkgabDoorRows.lean that lists a variable, with what it lists TIED to the program's text (the seventh form; the later family's looks); each row that meets fmt, with fmt's text TOLD by the authors' own Lean function (tested against real Go, not proved from fmt's source: count such statements apart). THE CARD IS WHAT COUNTS. Prove the row's statement (the work); the ties are given (YtiadnlpbbibkgabDoorTie.lean); close each card by the builder's one call (the guide's Derived/Test/ToyasCard.lean, 'card_holds'). Laid BY PROGRAM, IN A SANDBOX (cutbox-door.mjs). By AI agents, Wed Nov 11 2026. No macro, syntax, notation, axiom, sorry.
-/
import Derived.Test.YtiadnlpbbibkgabDoorRows
import GoSem.ClaimSeven
namespace Go.Proofs.YtiadnlpbbibkgabDoor
namespace Rows

/-- THE TIED CARD OF 'shuntlaw01.LimbBack'. -/
def limbBackCard : Claim7 := { stood := { row := limbBackRow, standIns := [], harness := (true, "1597a379057e2d44f1ffc6178919e4502e09602736640783af1533cbc3ff7415"), looks := false }, kinds := [], alts := [], laidByText := true, laidKinds := [.data, .data, .data], laidTests := true, laidLooks := .later }
def LimbBackCardSaid : Prop := Claim7.holds Tryd.pinned (.plain (OpenSpec.ofChange limbBackSpec)) limbBackCard

/-- THE TIED CARD OF 'shuntlaw01.LimbOrder'. -/
def limbOrderCard : Claim7 := { stood := { row := limbOrderRow, standIns := [], harness := (true, "1597a379057e2d44f1ffc6178919e4502e09602736640783af1533cbc3ff7415"), looks := false }, kinds := [], alts := [], laidByText := true, laidKinds := [.data, .data, .data], laidTests := true, laidLooks := .later }
def LimbOrderCardSaid : Prop := Claim7.holds Tryd.pinned (.plain (OpenSpec.ofChange limbOrderSpec)) limbOrderCard

/-- THE SECOND FORM's CARD OF 'shuntlaw01.LimbBack'. -/
def limbBackUptoCard : Claim7 := { stood := { row := limbBackUptoRow, standIns := [], harness := (true, "1597a379057e2d44f1ffc6178919e4502e09602736640783af1533cbc3ff7415"), looks := false }, kinds := [], alts := [], laidByText := true, laidKinds := [.data, .data, .data], laidTests := true, laidLooks := .later }
def LimbBackUptoCardSaid : Prop := Claim7.holds Tryd.pinned (.plain (OpenSpec.upto limbBackSpec)) limbBackUptoCard

/-- THE SECOND FORM's CARD OF 'shuntlaw01.LimbOrder'. -/
def limbOrderUptoCard : Claim7 := { stood := { row := limbOrderUptoRow, standIns := [], harness := (true, "1597a379057e2d44f1ffc6178919e4502e09602736640783af1533cbc3ff7415"), looks := false }, kinds := [], alts := [], laidByText := true, laidKinds := [.data, .data, .data], laidTests := true, laidLooks := .later }
def LimbOrderUptoCardSaid : Prop := Claim7.holds Tryd.pinned (.plain (OpenSpec.upto limbOrderSpec)) limbOrderUptoCard
end Rows
end Go.Proofs.YtiadnlpbbibkgabDoor
