/-
  DERIVED. GIVEN WITH THE SEED: THE CARDS: each row of YtdjhmgmjiglcbaaGreatDoorRows.lean that lists a variable, with what it lists TIED to the program's text (the seventh form; the later family's looks); each row that meets fmt, with fmt's text TOLD by the authors' own Lean function (tested against real Go, not proved from fmt's source: count such statements apart). THE CARD IS WHAT COUNTS. Prove the row's statement (the work); the ties are given (YtdjhmgmjiglcbaaGreatDoorTie.lean); close each card by the builder's one call (the guide's Derived/Test/ToyasCard.lean, 'card_holds'). Laid BY PROGRAM, IN A SANDBOX (cutbox-door.mjs). By AI agents, Wed Nov 11 2026. No macro, syntax, notation, axiom, sorry.
-/
import Derived.Test.YtdjhmgmjiglcbaaGreatDoorRows
import GoSem.ClaimSeven
namespace Go.Proofs.YtdjhmgmjiglcbaaGreatDoor
namespace Rows

/-- THE TIED CARD OF 'shuntlaw10.TopoTells'. -/
def topoTellsCard : Claim7 := { stood := { row := topoTellsRow, standIns := [], harness := (true, "ee09886daa84943c2153041711d824a10bc7ac0213193a25f65ee633907af860"), looks := true }, kinds := [], alts := [], laidByText := true, laidKinds := [.data, .data, .data, .data, .sentinel, .sentinel, .data, .pinned], laidTests := true, laidLooks := .later }
def TopoTellsCardSaid : Prop := Claim7.holds Tryz.pinned (.plain (OpenSpec.ofChange topoTellsSpec)) topoTellsCard

/-- THE TIED CARD OF 'shuntlaw10.TopoOrder'. -/
def topoOrderCard : Claim7 := { stood := { row := topoOrderRow, standIns := [], harness := (true, "ee09886daa84943c2153041711d824a10bc7ac0213193a25f65ee633907af860"), looks := true }, kinds := [], alts := [], laidByText := true, laidKinds := [.data, .data, .data, .data, .sentinel, .sentinel, .data, .pinned], laidTests := true, laidLooks := .later }
def TopoOrderCardSaid : Prop := Claim7.holds Tryz.pinned (.plain (OpenSpec.ofChange topoOrderSpec)) topoOrderCard

/-- THE TIED CARD OF 'shuntlaw10.TopoTied'. -/
def topoTiedCard : Claim7 := { stood := { row := topoTiedRow, standIns := [], harness := (true, "ee09886daa84943c2153041711d824a10bc7ac0213193a25f65ee633907af860"), looks := true }, kinds := [], alts := [], laidByText := true, laidKinds := [.data, .data, .data, .data, .sentinel, .sentinel, .data, .pinned], laidTests := true, laidLooks := .later }
def TopoTiedCardSaid : Prop := Claim7.holds Tryz.pinned (.plain (OpenSpec.ofChange topoTiedSpec)) topoTiedCard

/-- THE SECOND FORM's CARD OF 'shuntlaw10.TopoTells'. -/
def topoTellsUptoCard : Claim7 := { stood := { row := topoTellsUptoRow, standIns := [], harness := (true, "ee09886daa84943c2153041711d824a10bc7ac0213193a25f65ee633907af860"), looks := true }, kinds := [], alts := [], laidByText := true, laidKinds := [.data, .data, .data, .data, .sentinel, .sentinel, .data, .pinned], laidTests := true, laidLooks := .later }
def TopoTellsUptoCardSaid : Prop := Claim7.holds Tryz.pinned (.plain (OpenSpec.upto topoTellsSpec)) topoTellsUptoCard

/-- THE SECOND FORM's CARD OF 'shuntlaw10.TopoOrder'. -/
def topoOrderUptoCard : Claim7 := { stood := { row := topoOrderUptoRow, standIns := [], harness := (true, "ee09886daa84943c2153041711d824a10bc7ac0213193a25f65ee633907af860"), looks := true }, kinds := [], alts := [], laidByText := true, laidKinds := [.data, .data, .data, .data, .sentinel, .sentinel, .data, .pinned], laidTests := true, laidLooks := .later }
def TopoOrderUptoCardSaid : Prop := Claim7.holds Tryz.pinned (.plain (OpenSpec.upto topoOrderSpec)) topoOrderUptoCard

/-- THE SECOND FORM's CARD OF 'shuntlaw10.TopoTied'. -/
def topoTiedUptoCard : Claim7 := { stood := { row := topoTiedUptoRow, standIns := [], harness := (true, "ee09886daa84943c2153041711d824a10bc7ac0213193a25f65ee633907af860"), looks := true }, kinds := [], alts := [], laidByText := true, laidKinds := [.data, .data, .data, .data, .sentinel, .sentinel, .data, .pinned], laidTests := true, laidLooks := .later }
def TopoTiedUptoCardSaid : Prop := Claim7.holds Tryz.pinned (.plain (OpenSpec.upto topoTiedSpec)) topoTiedUptoCard
end Rows
end Go.Proofs.YtdjhmgmjiglcbaaGreatDoor
