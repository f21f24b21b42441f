/-
  No cell of these rows narrows 'for every input' (looked for: loops, veiled, ifaces, maps, wideKeys, modest, calm, conditions, laid).
  DERIVED. THE GIVEN ROWS OF THIS SEAT. 3 by the template 'for every input the law returns true; each argument reads behind the call as it read before'; 0 by the template 'total and deterministic' (their statements: YtlfhcbeniimnnabGreatTotals.lean).
  GIVEN WITH THE SEED: the statements are not yours to turn. If you find one false, say at which input.
  Laid BY PROGRAM, IN A SANDBOX (cutbox-rows.mjs): the forced cells as the released guide's own fill.sh prints them over the translation 114331dd0df9a92b… (all of the seat's roots in one cut). By AI agents, Wed Nov 11 2026. No macro, syntax, notation, axiom, sorry.
-/
import Derived.Test.YtlfhcbeniimnnabGreatChecked
import GoSem.Claim
import GoSem.ClaimJoined
import GoSem.ClaimMapViews
import Derived.JoinedTies
import Derived.KernelRfl
namespace Go.Proofs.YtlfhcbeniimnnabGreat
/- THE CELL 'sum', in the pinned program and in every row, IS THE sha256 OF THE DUMP (.gsa) THAT YtlfhcbeniimnnabGreatProg.lean LOADS. Nothing in Lean hashes anything: it is a label: what it is worth is what the hold of that sum in a sandbox is worth. -/
noncomputable def Tryz.pinned : Pinned := { name := "ytlfhcbeniimnnabgreat", sum := "114331dd0df9a92bde8edf7df0e18c9016fc45eca565e24eb485acbd8a4abe17", checked := Tryz.checked }
namespace Rows
def none {H : Type} : Left H := { results := [], args := [] }

/-- 'shuntlaw14.BareissAdds': WHATEVER THE INPUT: true; the input reads as it did. -/
def bareissAddsSpec : ChangeSpec := { name := "bareissAdds", fn := fun _ => fun
  | [d1, d2, d3] => { results := [.lit (.bool true)], args := [d1, d2, d3] }
  | _ => none }
def bareissAddsRow : OpenClaim := { program := "ytlfhcbeniimnnabgreat", sum := "114331dd0df9a92bde8edf7df0e18c9016fc45eca565e24eb485acbd8a4abe17", func := "shunt/shuntlaw14.BareissAdds", spec := "bareissAdds", unfollowed := true, recurses := true, apart := false }
def BareissAddsSaid : Prop := bareissAddsRow.holds Tryz.pinned (OpenSpec.ofChange bareissAddsSpec)

/-- ITS FALSE NEIGHBOUR: 'it returns false'. Refute it at one input. -/
def bareissAddsWrong : ChangeSpec := { name := "bareissAdds", fn := fun _ => fun
  | [d1, d2, d3] => { results := [.lit (.bool false)], args := [d1, d2, d3] }
  | _ => none }
def BareissAddsWrongFalsely : Prop := bareissAddsRow.holds Tryz.pinned (OpenSpec.ofChange bareissAddsWrong)

/-- 'shuntlaw14.BareissUnit': WHATEVER THE INPUT: true; the input reads as it did. -/
def bareissUnitSpec : ChangeSpec := { name := "bareissUnit", fn := fun _ => fun
  | [d1, d2] => { results := [.lit (.bool true)], args := [d1, d2] }
  | _ => none }
def bareissUnitRow : OpenClaim := { program := "ytlfhcbeniimnnabgreat", sum := "114331dd0df9a92bde8edf7df0e18c9016fc45eca565e24eb485acbd8a4abe17", func := "shunt/shuntlaw14.BareissUnit", spec := "bareissUnit", unfollowed := true, recurses := true, apart := false }
def BareissUnitSaid : Prop := bareissUnitRow.holds Tryz.pinned (OpenSpec.ofChange bareissUnitSpec)

/-- ITS FALSE NEIGHBOUR: 'it returns false'. Refute it at one input. -/
def bareissUnitWrong : ChangeSpec := { name := "bareissUnit", fn := fun _ => fun
  | [d1, d2] => { results := [.lit (.bool false)], args := [d1, d2] }
  | _ => none }
def BareissUnitWrongFalsely : Prop := bareissUnitRow.holds Tryz.pinned (OpenSpec.ofChange bareissUnitWrong)

/-- 'shuntlaw14.BareissTurned': WHATEVER THE INPUT: true; the input reads as it did. -/
def bareissTurnedSpec : ChangeSpec := { name := "bareissTurned", fn := fun _ => fun
  | [d] => { results := [.lit (.bool true)], args := [d] }
  | _ => none }
def bareissTurnedRow : OpenClaim := { program := "ytlfhcbeniimnnabgreat", sum := "114331dd0df9a92bde8edf7df0e18c9016fc45eca565e24eb485acbd8a4abe17", func := "shunt/shuntlaw14.BareissTurned", spec := "bareissTurned", unfollowed := true, recurses := true, apart := false }
def BareissTurnedSaid : Prop := bareissTurnedRow.holds Tryz.pinned (OpenSpec.ofChange bareissTurnedSpec)

/-- ITS FALSE NEIGHBOUR: 'it returns false'. Refute it at one input. -/
def bareissTurnedWrong : ChangeSpec := { name := "bareissTurned", fn := fun _ => fun
  | [d] => { results := [.lit (.bool false)], args := [d] }
  | _ => none }
def BareissTurnedWrongFalsely : Prop := bareissTurnedRow.holds Tryz.pinned (OpenSpec.ofChange bareissTurnedWrong)

/- THE SECOND FORM. 'bulk': how many values and letters a reading holds, each counted each time it is reached (what is shared counts as often as it is met; a slice's spare places count too). A statement '..UptoSaid' is the law's where the arguments, and the package variables that the reading takes, are together of bulk at most 1048576: NARROWER than '..Said'. Prove '..Said' where nothing that the law and all that it calls make is longer than what came in: it says more and counts as full. Else prove '..UptoSaid'. A law counts once. -/
mutual
def uptoBulk {H : Type} : DataW H → Nat
  | .lit (.string bytes) => bytes.length + 1
  | .lit _ => 1
  | .nil => 1
  | .ptr d => uptoBulk d + 1
  | .slice elems spare => uptoBulkAll elems + uptoBulkAll spare + 1
  | .agg parts => uptoBulkAll parts + 1
  | .iface _ d => uptoBulk d + 1
  | .map entries => uptoBulkEntries entries + 1
  | .held _ => 1
def uptoBulkAll {H : Type} : List (DataW H) → Nat
  | [] => 0
  | d :: r => uptoBulk d + uptoBulkAll r
def uptoBulkEntries {H : Type} : List (Lit × DataW H) → Nat
  | [] => 0
  | x :: r => uptoBulkEntry x + uptoBulkEntries r
def uptoBulkEntry {H : Type} : Lit × DataW H → Nat
  | (.string bytes, d) => bytes.length + uptoBulk d + 1
  | (_, d) => uptoBulk d + 1
 end
def uptoSmall : (H : Type) → List (DataW H) → Bool := fun _ ds => decide (uptoBulkAll ds ≤ 1048576)
def OpenSpec.upto (s : _root_.Go.ChangeSpec) : _root_.Go.OpenSpec := { _root_.Go.OpenSpec.ofChange s with cond := some uptoSmall }

/-- 'shuntlaw14.BareissAdds', WHERE WHAT IT READS IS OF BULK AT MOST 1048576: true; the input reads as it did. -/
def bareissAddsUptoRow : OpenClaim := { program := "ytlfhcbeniimnnabgreat", sum := "114331dd0df9a92bde8edf7df0e18c9016fc45eca565e24eb485acbd8a4abe17", func := "shunt/shuntlaw14.BareissAdds", spec := "bareissAdds", unfollowed := true, recurses := true, apart := false, narrowed := true }
def BareissAddsUptoSaid : Prop := bareissAddsUptoRow.holds Tryz.pinned (OpenSpec.upto bareissAddsSpec)

/-- 'shuntlaw14.BareissUnit', WHERE WHAT IT READS IS OF BULK AT MOST 1048576: true; the input reads as it did. -/
def bareissUnitUptoRow : OpenClaim := { program := "ytlfhcbeniimnnabgreat", sum := "114331dd0df9a92bde8edf7df0e18c9016fc45eca565e24eb485acbd8a4abe17", func := "shunt/shuntlaw14.BareissUnit", spec := "bareissUnit", unfollowed := true, recurses := true, apart := false, narrowed := true }
def BareissUnitUptoSaid : Prop := bareissUnitUptoRow.holds Tryz.pinned (OpenSpec.upto bareissUnitSpec)

/-- 'shuntlaw14.BareissTurned', WHERE WHAT IT READS IS OF BULK AT MOST 1048576: true; the input reads as it did. -/
def bareissTurnedUptoRow : OpenClaim := { program := "ytlfhcbeniimnnabgreat", sum := "114331dd0df9a92bde8edf7df0e18c9016fc45eca565e24eb485acbd8a4abe17", func := "shunt/shuntlaw14.BareissTurned", spec := "bareissTurned", unfollowed := true, recurses := true, apart := false, narrowed := true }
def BareissTurnedUptoSaid : Prop := bareissTurnedUptoRow.holds Tryz.pinned (OpenSpec.upto bareissTurnedSpec)

end Rows
end Go.Proofs.YtlfhcbeniimnnabGreat
