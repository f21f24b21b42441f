/-
  DERIVED. GIVEN WITH THE SEED: THE CARDS: each row of YtboliplhgpndpaaGreatDoorRows.lean that lists a variable, with what it lists TIED to the program's text (the seventh form; the later family's looks); each row that meets fmt, with fmt's text TOLD by the authors' own Lean function (tested against real Go, not proved from fmt's source: count such statements apart). THE CARD IS WHAT COUNTS. Prove the row's statement (the work); the ties are given (YtboliplhgpndpaaGreatDoorTie.lean); close each card by the builder's one call (the guide's Derived/Test/ToyasCard.lean, 'card_holds'). Laid BY PROGRAM, IN A SANDBOX (cutbox-door.mjs). By AI agents, Wed Nov 11 2026. No macro, syntax, notation, axiom, sorry.
-/
import Derived.Test.YtboliplhgpndpaaGreatDoorRows
import GoSem.ClaimSeven
namespace Go.Proofs.YtboliplhgpndpaaGreatDoor
namespace Rows

/-- THE TIED CARD OF 'shuntlaw03.NumReads'. -/
def numReadsCard : Claim7 := { stood := { row := numReadsRow, standIns := [], harness := (true, "32705bbd9f385d194b6e01c1d844365be30b454e1114a1876769d2d68221616f"), looks := true }, kinds := [], alts := [], laidByText := true, laidKinds := [.data, .data, .data, .data, .sentinel, .sentinel, .data, .pinned], laidTests := true, laidLooks := .later }
def NumReadsCardSaid : Prop := Claim7.holds Tryz.pinned (.plain (OpenSpec.ofChange numReadsSpec)) numReadsCard

/-- THE TIED CARD OF 'shuntlaw03.NumCalls'. -/
def numCallsCard : Claim7 := { stood := { row := numCallsRow, standIns := [], harness := (true, "32705bbd9f385d194b6e01c1d844365be30b454e1114a1876769d2d68221616f"), looks := true }, kinds := [], alts := [], laidByText := true, laidKinds := [.data, .data, .data, .data, .sentinel, .sentinel, .data, .pinned], laidTests := true, laidLooks := .later }
def NumCallsCardSaid : Prop := Claim7.holds Tryz.pinned (.plain (OpenSpec.ofChange numCallsSpec)) numCallsCard

/-- THE TIED CARD OF 'shuntlaw03.NumBack'. -/
def numBackCard : Claim7 := { stood := { row := numBackRow, standIns := [], harness := (true, "32705bbd9f385d194b6e01c1d844365be30b454e1114a1876769d2d68221616f"), looks := true }, kinds := [], alts := [], laidByText := true, laidKinds := [.data, .data, .data, .data, .sentinel, .sentinel, .data, .pinned], laidTests := true, laidLooks := .later }
def NumBackCardSaid : Prop := Claim7.holds Tryz.pinned (.plain (OpenSpec.ofChange numBackSpec)) numBackCard

/-- THE TIED CARD OF 'shuntlaw03.NumOrder'. -/
def numOrderCard : Claim7 := { stood := { row := numOrderRow, standIns := [], harness := (true, "32705bbd9f385d194b6e01c1d844365be30b454e1114a1876769d2d68221616f"), looks := true }, kinds := [], alts := [], laidByText := true, laidKinds := [.data, .data, .data, .data, .sentinel, .sentinel, .data, .pinned], laidTests := true, laidLooks := .later }
def NumOrderCardSaid : Prop := Claim7.holds Tryz.pinned (.plain (OpenSpec.ofChange numOrderSpec)) numOrderCard

/-- THE TIED CARD OF 'shuntlaw03.NumShift'. -/
def numShiftCard : Claim7 := { stood := { row := numShiftRow, standIns := [], harness := (true, "32705bbd9f385d194b6e01c1d844365be30b454e1114a1876769d2d68221616f"), looks := true }, kinds := [], alts := [], laidByText := true, laidKinds := [.data, .data, .data, .data, .sentinel, .sentinel, .data, .pinned], laidTests := true, laidLooks := .later }
def NumShiftCardSaid : Prop := Claim7.holds Tryz.pinned (.plain (OpenSpec.ofChange numShiftSpec)) numShiftCard

/-- THE SECOND FORM's CARD OF 'shuntlaw03.NumReads'. -/
def numReadsUptoCard : Claim7 := { stood := { row := numReadsUptoRow, standIns := [], harness := (true, "32705bbd9f385d194b6e01c1d844365be30b454e1114a1876769d2d68221616f"), looks := true }, kinds := [], alts := [], laidByText := true, laidKinds := [.data, .data, .data, .data, .sentinel, .sentinel, .data, .pinned], laidTests := true, laidLooks := .later }
def NumReadsUptoCardSaid : Prop := Claim7.holds Tryz.pinned (.plain (OpenSpec.upto numReadsSpec)) numReadsUptoCard

/-- THE SECOND FORM's CARD OF 'shuntlaw03.NumCalls'. -/
def numCallsUptoCard : Claim7 := { stood := { row := numCallsUptoRow, standIns := [], harness := (true, "32705bbd9f385d194b6e01c1d844365be30b454e1114a1876769d2d68221616f"), looks := true }, kinds := [], alts := [], laidByText := true, laidKinds := [.data, .data, .data, .data, .sentinel, .sentinel, .data, .pinned], laidTests := true, laidLooks := .later }
def NumCallsUptoCardSaid : Prop := Claim7.holds Tryz.pinned (.plain (OpenSpec.upto numCallsSpec)) numCallsUptoCard

/-- THE SECOND FORM's CARD OF 'shuntlaw03.NumBack'. -/
def numBackUptoCard : Claim7 := { stood := { row := numBackUptoRow, standIns := [], harness := (true, "32705bbd9f385d194b6e01c1d844365be30b454e1114a1876769d2d68221616f"), looks := true }, kinds := [], alts := [], laidByText := true, laidKinds := [.data, .data, .data, .data, .sentinel, .sentinel, .data, .pinned], laidTests := true, laidLooks := .later }
def NumBackUptoCardSaid : Prop := Claim7.holds Tryz.pinned (.plain (OpenSpec.upto numBackSpec)) numBackUptoCard

/-- THE SECOND FORM's CARD OF 'shuntlaw03.NumOrder'. -/
def numOrderUptoCard : Claim7 := { stood := { row := numOrderUptoRow, standIns := [], harness := (true, "32705bbd9f385d194b6e01c1d844365be30b454e1114a1876769d2d68221616f"), looks := true }, kinds := [], alts := [], laidByText := true, laidKinds := [.data, .data, .data, .data, .sentinel, .sentinel, .data, .pinned], laidTests := true, laidLooks := .later }
def NumOrderUptoCardSaid : Prop := Claim7.holds Tryz.pinned (.plain (OpenSpec.upto numOrderSpec)) numOrderUptoCard

/-- THE SECOND FORM's CARD OF 'shuntlaw03.NumShift'. -/
def numShiftUptoCard : Claim7 := { stood := { row := numShiftUptoRow, standIns := [], harness := (true, "32705bbd9f385d194b6e01c1d844365be30b454e1114a1876769d2d68221616f"), looks := true }, kinds := [], alts := [], laidByText := true, laidKinds := [.data, .data, .data, .data, .sentinel, .sentinel, .data, .pinned], laidTests := true, laidLooks := .later }
def NumShiftUptoCardSaid : Prop := Claim7.holds Tryz.pinned (.plain (OpenSpec.upto numShiftSpec)) numShiftUptoCard
end Rows
end Go.Proofs.YtboliplhgpndpaaGreatDoor
