/-
  DERIVED. GIVEN WITH THE SEED: THE CARDS: each row of YthijnnififodjaaDoorRows.lean that lists a variable, with what it lists TIED to the program's text (the seventh form; the later family's looks); each row that meets fmt, with fmt's text TOLD by the authors' own Lean function (tested against real Go, not proved from fmt's source: count such statements apart). THE CARD IS WHAT COUNTS. Prove the row's statement (the work); the ties are given (YthijnnififodjaaDoorTie.lean); close each card by the builder's one call (the guide's Derived/Test/ToyasCard.lean, 'card_holds'). Laid BY PROGRAM, IN A SANDBOX (cutbox-door.mjs). By AI agents, Wed Nov 11 2026. No macro, syntax, notation, axiom, sorry.
-/
import Derived.Test.YthijnnififodjaaDoorRows
import GoSem.ClaimSeven
namespace Go.Proofs.YthijnnififodjaaDoor
namespace Rows

/-- THE TIED CARD OF 'shuntlaw01.LimbParts'. -/
def limbPartsCard : Claim7 := { stood := { row := limbPartsRow, standIns := [], harness := (true, "cb907519be81650e97b379ad6dbaa17aaa69df579db6136b627f44a439f06b02"), looks := false }, kinds := [], alts := [], laidByText := true, laidKinds := [.data, .data, .data], laidTests := true, laidLooks := .later }
def LimbPartsCardSaid : Prop := Claim7.holds Tryd.pinned (.plain (OpenSpec.ofChange limbPartsSpec)) limbPartsCard

/-- THE TIED CARD OF 'shuntlaw01.LimbDivides'. -/
def limbDividesCard : Claim7 := { stood := { row := limbDividesRow, standIns := [], harness := (true, "cb907519be81650e97b379ad6dbaa17aaa69df579db6136b627f44a439f06b02"), looks := false }, kinds := [], alts := [], laidByText := true, laidKinds := [.data, .data, .data], laidTests := true, laidLooks := .later }
def LimbDividesCardSaid : Prop := Claim7.holds Tryd.pinned (.plain (OpenSpec.ofChange limbDividesSpec)) limbDividesCard

/-- THE SECOND FORM's CARD OF 'shuntlaw01.LimbParts'. -/
def limbPartsUptoCard : Claim7 := { stood := { row := limbPartsUptoRow, standIns := [], harness := (true, "cb907519be81650e97b379ad6dbaa17aaa69df579db6136b627f44a439f06b02"), looks := false }, kinds := [], alts := [], laidByText := true, laidKinds := [.data, .data, .data], laidTests := true, laidLooks := .later }
def LimbPartsUptoCardSaid : Prop := Claim7.holds Tryd.pinned (.plain (OpenSpec.upto limbPartsSpec)) limbPartsUptoCard

/-- THE SECOND FORM's CARD OF 'shuntlaw01.LimbDivides'. -/
def limbDividesUptoCard : Claim7 := { stood := { row := limbDividesUptoRow, standIns := [], harness := (true, "cb907519be81650e97b379ad6dbaa17aaa69df579db6136b627f44a439f06b02"), looks := false }, kinds := [], alts := [], laidByText := true, laidKinds := [.data, .data, .data], laidTests := true, laidLooks := .later }
def LimbDividesUptoCardSaid : Prop := Claim7.holds Tryd.pinned (.plain (OpenSpec.upto limbDividesSpec)) limbDividesUptoCard
end Rows
end Go.Proofs.YthijnnififodjaaDoor
