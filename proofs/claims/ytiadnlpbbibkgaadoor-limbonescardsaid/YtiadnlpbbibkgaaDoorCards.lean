/-
  DERIVED. GIVEN WITH THE SEED: THE CARDS: each row of YtiadnlpbbibkgaaDoorRows.lean that lists a variable, with what it lists TIED to the program's text (the seventh form; the later family's looks); each row that meets fmt, with fmt's text TOLD by the authors' own Lean function (tested against real Go, not proved from fmt's source: count such statements apart). THE CARD IS WHAT COUNTS. Prove the row's statement (the work); the ties are given (YtiadnlpbbibkgaaDoorTie.lean); close each card by the builder's one call (the guide's Derived/Test/ToyasCard.lean, 'card_holds'). Laid BY PROGRAM, IN A SANDBOX (cutbox-door.mjs). By AI agents, Wed Nov 11 2026. No macro, syntax, notation, axiom, sorry.
-/
import Derived.Test.YtiadnlpbbibkgaaDoorRows
import GoSem.ClaimSeven
namespace Go.Proofs.YtiadnlpbbibkgaaDoor
namespace Rows

/-- THE TIED CARD OF 'shuntlaw01.LimbSums'. -/
def limbSumsCard : Claim7 := { stood := { row := limbSumsRow, standIns := [], harness := (true, "69cea843ce0c626f0a9e09eb26d574fc0592c9bea93c253b75af4b70ece70189"), looks := false }, kinds := [], alts := [], laidByText := true, laidKinds := [.data, .data, .data], laidTests := true, laidLooks := .later }
def LimbSumsCardSaid : Prop := Claim7.holds Tryd.pinned (.plain (OpenSpec.ofChange limbSumsSpec)) limbSumsCard

/-- THE TIED CARD OF 'shuntlaw01.LimbParts'. -/
def limbPartsCard : Claim7 := { stood := { row := limbPartsRow, standIns := [], harness := (true, "69cea843ce0c626f0a9e09eb26d574fc0592c9bea93c253b75af4b70ece70189"), looks := false }, kinds := [], alts := [], laidByText := true, laidKinds := [.data, .data, .data], laidTests := true, laidLooks := .later }
def LimbPartsCardSaid : Prop := Claim7.holds Tryd.pinned (.plain (OpenSpec.ofChange limbPartsSpec)) limbPartsCard

/-- THE TIED CARD OF 'shuntlaw01.LimbOnes'. -/
def limbOnesCard : Claim7 := { stood := { row := limbOnesRow, standIns := [], harness := (true, "69cea843ce0c626f0a9e09eb26d574fc0592c9bea93c253b75af4b70ece70189"), looks := false }, kinds := [], alts := [], laidByText := true, laidKinds := [.data, .data, .data], laidTests := true, laidLooks := .later }
def LimbOnesCardSaid : Prop := Claim7.holds Tryd.pinned (.plain (OpenSpec.ofChange limbOnesSpec)) limbOnesCard

/-- THE TIED CARD OF 'shuntlaw01.LimbReads'. -/
def limbReadsCard : Claim7 := { stood := { row := limbReadsRow, standIns := [], harness := (true, "69cea843ce0c626f0a9e09eb26d574fc0592c9bea93c253b75af4b70ece70189"), looks := false }, kinds := [], alts := [], laidByText := true, laidKinds := [.data, .data, .data], laidTests := true, laidLooks := .later }
def LimbReadsCardSaid : Prop := Claim7.holds Tryd.pinned (.plain (OpenSpec.ofChange limbReadsSpec)) limbReadsCard

/-- THE TIED CARD OF 'shuntlaw01.LimbRing'. -/
def limbRingCard : Claim7 := { stood := { row := limbRingRow, standIns := [], harness := (true, "69cea843ce0c626f0a9e09eb26d574fc0592c9bea93c253b75af4b70ece70189"), looks := false }, kinds := [], alts := [], laidByText := true, laidKinds := [.data, .data, .data], laidTests := true, laidLooks := .later }
def LimbRingCardSaid : Prop := Claim7.holds Tryd.pinned (.plain (OpenSpec.ofChange limbRingSpec)) limbRingCard

/-- THE TIED CARD OF 'shuntlaw01.LimbDivides'. -/
def limbDividesCard : Claim7 := { stood := { row := limbDividesRow, standIns := [], harness := (true, "69cea843ce0c626f0a9e09eb26d574fc0592c9bea93c253b75af4b70ece70189"), looks := false }, kinds := [], alts := [], laidByText := true, laidKinds := [.data, .data, .data], laidTests := true, laidLooks := .later }
def LimbDividesCardSaid : Prop := Claim7.holds Tryd.pinned (.plain (OpenSpec.ofChange limbDividesSpec)) limbDividesCard

/-- THE SECOND FORM's CARD OF 'shuntlaw01.LimbSums'. -/
def limbSumsUptoCard : Claim7 := { stood := { row := limbSumsUptoRow, standIns := [], harness := (true, "69cea843ce0c626f0a9e09eb26d574fc0592c9bea93c253b75af4b70ece70189"), looks := false }, kinds := [], alts := [], laidByText := true, laidKinds := [.data, .data, .data], laidTests := true, laidLooks := .later }
def LimbSumsUptoCardSaid : Prop := Claim7.holds Tryd.pinned (.plain (OpenSpec.upto limbSumsSpec)) limbSumsUptoCard

/-- THE SECOND FORM's CARD OF 'shuntlaw01.LimbParts'. -/
def limbPartsUptoCard : Claim7 := { stood := { row := limbPartsUptoRow, standIns := [], harness := (true, "69cea843ce0c626f0a9e09eb26d574fc0592c9bea93c253b75af4b70ece70189"), looks := false }, kinds := [], alts := [], laidByText := true, laidKinds := [.data, .data, .data], laidTests := true, laidLooks := .later }
def LimbPartsUptoCardSaid : Prop := Claim7.holds Tryd.pinned (.plain (OpenSpec.upto limbPartsSpec)) limbPartsUptoCard

/-- THE SECOND FORM's CARD OF 'shuntlaw01.LimbOnes'. -/
def limbOnesUptoCard : Claim7 := { stood := { row := limbOnesUptoRow, standIns := [], harness := (true, "69cea843ce0c626f0a9e09eb26d574fc0592c9bea93c253b75af4b70ece70189"), looks := false }, kinds := [], alts := [], laidByText := true, laidKinds := [.data, .data, .data], laidTests := true, laidLooks := .later }
def LimbOnesUptoCardSaid : Prop := Claim7.holds Tryd.pinned (.plain (OpenSpec.upto limbOnesSpec)) limbOnesUptoCard

/-- THE SECOND FORM's CARD OF 'shuntlaw01.LimbReads'. -/
def limbReadsUptoCard : Claim7 := { stood := { row := limbReadsUptoRow, standIns := [], harness := (true, "69cea843ce0c626f0a9e09eb26d574fc0592c9bea93c253b75af4b70ece70189"), looks := false }, kinds := [], alts := [], laidByText := true, laidKinds := [.data, .data, .data], laidTests := true, laidLooks := .later }
def LimbReadsUptoCardSaid : Prop := Claim7.holds Tryd.pinned (.plain (OpenSpec.upto limbReadsSpec)) limbReadsUptoCard

/-- THE SECOND FORM's CARD OF 'shuntlaw01.LimbRing'. -/
def limbRingUptoCard : Claim7 := { stood := { row := limbRingUptoRow, standIns := [], harness := (true, "69cea843ce0c626f0a9e09eb26d574fc0592c9bea93c253b75af4b70ece70189"), looks := false }, kinds := [], alts := [], laidByText := true, laidKinds := [.data, .data, .data], laidTests := true, laidLooks := .later }
def LimbRingUptoCardSaid : Prop := Claim7.holds Tryd.pinned (.plain (OpenSpec.upto limbRingSpec)) limbRingUptoCard

/-- THE SECOND FORM's CARD OF 'shuntlaw01.LimbDivides'. -/
def limbDividesUptoCard : Claim7 := { stood := { row := limbDividesUptoRow, standIns := [], harness := (true, "69cea843ce0c626f0a9e09eb26d574fc0592c9bea93c253b75af4b70ece70189"), looks := false }, kinds := [], alts := [], laidByText := true, laidKinds := [.data, .data, .data], laidTests := true, laidLooks := .later }
def LimbDividesUptoCardSaid : Prop := Claim7.holds Tryd.pinned (.plain (OpenSpec.upto limbDividesSpec)) limbDividesUptoCard
end Rows
end Go.Proofs.YtiadnlpbbibkgaaDoor
