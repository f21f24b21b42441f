/-
  DERIVED. GIVEN WITH THE SEED: THE CARDS: each row of YtembglnonhlnkaaGreatDoorRows.lean that lists a variable, with what it lists TIED to the program's text (the seventh form; the later family's looks); each row that meets fmt, with fmt's text TOLD by the authors' own Lean function (tested against real Go, not proved from fmt's source: count such statements apart). THE CARD IS WHAT COUNTS. Prove the row's statement (the work); the ties are given (YtembglnonhlnkaaGreatDoorTie.lean); close each card by the builder's one call (the guide's Derived/Test/ToyasCard.lean, 'card_holds'). Laid BY PROGRAM, IN A SANDBOX (cutbox-door.mjs). By AI agents, Wed Nov 11 2026. No macro, syntax, notation, axiom, sorry.
-/
import Derived.Test.YtembglnonhlnkaaGreatDoorRows
import GoSem.ClaimSeven
namespace Go.Proofs.YtembglnonhlnkaaGreatDoor
namespace Rows

/-- THE TIED CARD OF 'shuntlaw07.CardReads'. -/
def cardReadsCard : Claim7 := { stood := { row := cardReadsRow, standIns := [], harness := (true, "621f096d5db7949440bc97940a320cb77000aad56fe2af47ab4992604b1ea008"), looks := true }, kinds := [], alts := [], laidByText := true, laidKinds := [.data, .data, .data, .data, .sentinel, .sentinel, .data, .pinned], laidTests := true, laidLooks := .later }
def CardReadsCardSaid : Prop := Claim7.holds Tryz.pinned (.plain (OpenSpec.ofChange cardReadsSpec)) cardReadsCard

/-- THE TIED CARD OF 'shuntlaw07.CardModels'. -/
def cardModelsCard : Claim7 := { stood := { row := cardModelsRow, standIns := [], harness := (true, "621f096d5db7949440bc97940a320cb77000aad56fe2af47ab4992604b1ea008"), looks := true }, kinds := [], alts := [], laidByText := true, laidKinds := [.data, .data, .data, .data, .sentinel, .sentinel, .data, .pinned], laidTests := true, laidLooks := .later }
def CardModelsCardSaid : Prop := Claim7.holds Tryz.pinned (.plain (OpenSpec.ofChange cardModelsSpec)) cardModelsCard

/-- THE TIED CARD OF 'shuntlaw07.CardWrites'. -/
def cardWritesCard : Claim7 := { stood := { row := cardWritesRow, standIns := [], harness := (true, "621f096d5db7949440bc97940a320cb77000aad56fe2af47ab4992604b1ea008"), looks := true }, kinds := [], alts := [], laidByText := true, laidKinds := [.data, .data, .data, .data, .sentinel, .sentinel, .data, .pinned], laidTests := true, laidLooks := .later }
def CardWritesCardSaid : Prop := Claim7.holds Tryz.pinned (.plain (OpenSpec.ofChange cardWritesSpec)) cardWritesCard

/-- THE TIED CARD OF 'shuntlaw07.CardBack'. -/
def cardBackCard : Claim7 := { stood := { row := cardBackRow, standIns := [], harness := (true, "621f096d5db7949440bc97940a320cb77000aad56fe2af47ab4992604b1ea008"), looks := true }, kinds := [], alts := [], laidByText := true, laidKinds := [.data, .data, .data, .data, .sentinel, .sentinel, .data, .pinned], laidTests := true, laidLooks := .later }
def CardBackCardSaid : Prop := Claim7.holds Tryz.pinned (.plain (OpenSpec.ofChange cardBackSpec)) cardBackCard

/-- THE TIED CARD OF 'shuntlaw07.CardModelBack'. -/
def cardModelBackCard : Claim7 := { stood := { row := cardModelBackRow, standIns := [], harness := (true, "621f096d5db7949440bc97940a320cb77000aad56fe2af47ab4992604b1ea008"), looks := true }, kinds := [], alts := [], laidByText := true, laidKinds := [.data, .data, .data, .data, .sentinel, .sentinel, .data, .pinned], laidTests := true, laidLooks := .later }
def CardModelBackCardSaid : Prop := Claim7.holds Tryz.pinned (.plain (OpenSpec.ofChange cardModelBackSpec)) cardModelBackCard

/-- THE TIED CARD OF 'shuntlaw07.CardPlain'. -/
def cardPlainCard : Claim7 := { stood := { row := cardPlainRow, standIns := [], harness := (true, "621f096d5db7949440bc97940a320cb77000aad56fe2af47ab4992604b1ea008"), looks := true }, kinds := [], alts := [], laidByText := true, laidKinds := [.data, .data, .data, .data, .sentinel, .sentinel, .data, .pinned], laidTests := true, laidLooks := .later }
def CardPlainCardSaid : Prop := Claim7.holds Tryz.pinned (.plain (OpenSpec.ofChange cardPlainSpec)) cardPlainCard

/-- THE SECOND FORM's CARD OF 'shuntlaw07.CardReads'. -/
def cardReadsUptoCard : Claim7 := { stood := { row := cardReadsUptoRow, standIns := [], harness := (true, "621f096d5db7949440bc97940a320cb77000aad56fe2af47ab4992604b1ea008"), looks := true }, kinds := [], alts := [], laidByText := true, laidKinds := [.data, .data, .data, .data, .sentinel, .sentinel, .data, .pinned], laidTests := true, laidLooks := .later }
def CardReadsUptoCardSaid : Prop := Claim7.holds Tryz.pinned (.plain (OpenSpec.upto cardReadsSpec)) cardReadsUptoCard

/-- THE SECOND FORM's CARD OF 'shuntlaw07.CardModels'. -/
def cardModelsUptoCard : Claim7 := { stood := { row := cardModelsUptoRow, standIns := [], harness := (true, "621f096d5db7949440bc97940a320cb77000aad56fe2af47ab4992604b1ea008"), looks := true }, kinds := [], alts := [], laidByText := true, laidKinds := [.data, .data, .data, .data, .sentinel, .sentinel, .data, .pinned], laidTests := true, laidLooks := .later }
def CardModelsUptoCardSaid : Prop := Claim7.holds Tryz.pinned (.plain (OpenSpec.upto cardModelsSpec)) cardModelsUptoCard

/-- THE SECOND FORM's CARD OF 'shuntlaw07.CardWrites'. -/
def cardWritesUptoCard : Claim7 := { stood := { row := cardWritesUptoRow, standIns := [], harness := (true, "621f096d5db7949440bc97940a320cb77000aad56fe2af47ab4992604b1ea008"), looks := true }, kinds := [], alts := [], laidByText := true, laidKinds := [.data, .data, .data, .data, .sentinel, .sentinel, .data, .pinned], laidTests := true, laidLooks := .later }
def CardWritesUptoCardSaid : Prop := Claim7.holds Tryz.pinned (.plain (OpenSpec.upto cardWritesSpec)) cardWritesUptoCard

/-- THE SECOND FORM's CARD OF 'shuntlaw07.CardBack'. -/
def cardBackUptoCard : Claim7 := { stood := { row := cardBackUptoRow, standIns := [], harness := (true, "621f096d5db7949440bc97940a320cb77000aad56fe2af47ab4992604b1ea008"), looks := true }, kinds := [], alts := [], laidByText := true, laidKinds := [.data, .data, .data, .data, .sentinel, .sentinel, .data, .pinned], laidTests := true, laidLooks := .later }
def CardBackUptoCardSaid : Prop := Claim7.holds Tryz.pinned (.plain (OpenSpec.upto cardBackSpec)) cardBackUptoCard

/-- THE SECOND FORM's CARD OF 'shuntlaw07.CardModelBack'. -/
def cardModelBackUptoCard : Claim7 := { stood := { row := cardModelBackUptoRow, standIns := [], harness := (true, "621f096d5db7949440bc97940a320cb77000aad56fe2af47ab4992604b1ea008"), looks := true }, kinds := [], alts := [], laidByText := true, laidKinds := [.data, .data, .data, .data, .sentinel, .sentinel, .data, .pinned], laidTests := true, laidLooks := .later }
def CardModelBackUptoCardSaid : Prop := Claim7.holds Tryz.pinned (.plain (OpenSpec.upto cardModelBackSpec)) cardModelBackUptoCard

/-- THE SECOND FORM's CARD OF 'shuntlaw07.CardPlain'. -/
def cardPlainUptoCard : Claim7 := { stood := { row := cardPlainUptoRow, standIns := [], harness := (true, "621f096d5db7949440bc97940a320cb77000aad56fe2af47ab4992604b1ea008"), looks := true }, kinds := [], alts := [], laidByText := true, laidKinds := [.data, .data, .data, .data, .sentinel, .sentinel, .data, .pinned], laidTests := true, laidLooks := .later }
def CardPlainUptoCardSaid : Prop := Claim7.holds Tryz.pinned (.plain (OpenSpec.upto cardPlainSpec)) cardPlainUptoCard
end Rows
end Go.Proofs.YtembglnonhlnkaaGreatDoor
