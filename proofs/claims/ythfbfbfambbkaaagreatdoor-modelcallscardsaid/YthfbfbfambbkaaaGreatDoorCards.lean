/-
  DERIVED. GIVEN WITH THE SEED: THE CARDS: each row of YthfbfbfambbkaaaGreatDoorRows.lean that lists a variable, with what it lists TIED to the program's text (the seventh form; the later family's looks); each row that meets fmt, with fmt's text TOLD by the authors' own Lean function (tested against real Go, not proved from fmt's source: count such statements apart). THE CARD IS WHAT COUNTS. Prove the row's statement (the work); the ties are given (YthfbfbfambbkaaaGreatDoorTie.lean); close each card by the builder's one call (the guide's Derived/Test/ToyasCard.lean, 'card_holds'). Laid BY PROGRAM, IN A SANDBOX (cutbox-door.mjs). By AI agents, Wed Nov 11 2026. No macro, syntax, notation, axiom, sorry.
-/
import Derived.Test.YthfbfbfambbkaaaGreatDoorRows
import GoSem.ClaimSeven
namespace Go.Proofs.YthfbfbfambbkaaaGreatDoor
namespace Rows

/-- THE TIED CARD OF 'shuntlaw05.ModelCalls'. -/
def modelCallsCard : Claim7 := { stood := { row := modelCallsRow, standIns := [], harness := (true, "a0aaeff43ffe41561aa858cd62f74da1a4968a76b94dca7d0fe06083e4f5238f"), looks := false }, kinds := [], alts := [], laidByText := true, laidKinds := [.data, .data, .data], laidTests := true, laidLooks := .later }
def ModelCallsCardSaid : Prop := Claim7.holds Tryz.pinned (.plain (OpenSpec.ofChange modelCallsSpec)) modelCallsCard

/-- THE TIED CARD OF 'shuntlaw05.ModelWalk'. -/
def modelWalkCard : Claim7 := { stood := { row := modelWalkRow, standIns := [], harness := (true, "a0aaeff43ffe41561aa858cd62f74da1a4968a76b94dca7d0fe06083e4f5238f"), looks := false }, kinds := [], alts := [], laidByText := true, laidKinds := [.data, .data, .data], laidTests := true, laidLooks := .later }
def ModelWalkCardSaid : Prop := Claim7.holds Tryz.pinned (.plain (OpenSpec.ofChange modelWalkSpec)) modelWalkCard

/-- THE TIED CARD OF 'shuntlaw05.ModelUnbroken'. -/
def modelUnbrokenCard : Claim7 := { stood := { row := modelUnbrokenRow, standIns := [], harness := (true, "a0aaeff43ffe41561aa858cd62f74da1a4968a76b94dca7d0fe06083e4f5238f"), looks := false }, kinds := [], alts := [], laidByText := true, laidKinds := [.data, .data, .data], laidTests := true, laidLooks := .later }
def ModelUnbrokenCardSaid : Prop := Claim7.holds Tryz.pinned (.plain (OpenSpec.ofChange modelUnbrokenSpec)) modelUnbrokenCard

/-- THE TIED CARD OF 'shuntlaw05.ModelRises'. -/
def modelRisesCard : Claim7 := { stood := { row := modelRisesRow, standIns := [], harness := (true, "a0aaeff43ffe41561aa858cd62f74da1a4968a76b94dca7d0fe06083e4f5238f"), looks := false }, kinds := [], alts := [], laidByText := true, laidKinds := [.data, .data, .data], laidTests := true, laidLooks := .later }
def ModelRisesCardSaid : Prop := Claim7.holds Tryz.pinned (.plain (OpenSpec.ofChange modelRisesSpec)) modelRisesCard

/-- THE SECOND FORM's CARD OF 'shuntlaw05.ModelCalls'. -/
def modelCallsUptoCard : Claim7 := { stood := { row := modelCallsUptoRow, standIns := [], harness := (true, "a0aaeff43ffe41561aa858cd62f74da1a4968a76b94dca7d0fe06083e4f5238f"), looks := false }, kinds := [], alts := [], laidByText := true, laidKinds := [.data, .data, .data], laidTests := true, laidLooks := .later }
def ModelCallsUptoCardSaid : Prop := Claim7.holds Tryz.pinned (.plain (OpenSpec.upto modelCallsSpec)) modelCallsUptoCard

/-- THE SECOND FORM's CARD OF 'shuntlaw05.ModelWalk'. -/
def modelWalkUptoCard : Claim7 := { stood := { row := modelWalkUptoRow, standIns := [], harness := (true, "a0aaeff43ffe41561aa858cd62f74da1a4968a76b94dca7d0fe06083e4f5238f"), looks := false }, kinds := [], alts := [], laidByText := true, laidKinds := [.data, .data, .data], laidTests := true, laidLooks := .later }
def ModelWalkUptoCardSaid : Prop := Claim7.holds Tryz.pinned (.plain (OpenSpec.upto modelWalkSpec)) modelWalkUptoCard

/-- THE SECOND FORM's CARD OF 'shuntlaw05.ModelUnbroken'. -/
def modelUnbrokenUptoCard : Claim7 := { stood := { row := modelUnbrokenUptoRow, standIns := [], harness := (true, "a0aaeff43ffe41561aa858cd62f74da1a4968a76b94dca7d0fe06083e4f5238f"), looks := false }, kinds := [], alts := [], laidByText := true, laidKinds := [.data, .data, .data], laidTests := true, laidLooks := .later }
def ModelUnbrokenUptoCardSaid : Prop := Claim7.holds Tryz.pinned (.plain (OpenSpec.upto modelUnbrokenSpec)) modelUnbrokenUptoCard

/-- THE SECOND FORM's CARD OF 'shuntlaw05.ModelRises'. -/
def modelRisesUptoCard : Claim7 := { stood := { row := modelRisesUptoRow, standIns := [], harness := (true, "a0aaeff43ffe41561aa858cd62f74da1a4968a76b94dca7d0fe06083e4f5238f"), looks := false }, kinds := [], alts := [], laidByText := true, laidKinds := [.data, .data, .data], laidTests := true, laidLooks := .later }
def ModelRisesUptoCardSaid : Prop := Claim7.holds Tryz.pinned (.plain (OpenSpec.upto modelRisesSpec)) modelRisesUptoCard
end Rows
end Go.Proofs.YthfbfbfambbkaaaGreatDoor
