/-
  No cell of these rows narrows 'for every input' (looked for: loops, veiled, ifaces, maps, wideKeys, modest, calm, conditions, laid).
  DERIVED. THE GIVEN ROWS OF THIS SEAT. 5 by the template 'for every input the law returns true; each argument reads behind the call as it read before'; 0 by the template 'total and deterministic' (their statements: YtdcfammglpebaaaGreatTotals.lean).
  GIVEN WITH THE SEED: the statements are not yours to turn. If you find one false, say at which input.
  Laid BY PROGRAM, IN A SANDBOX (cutbox-rows.mjs): the forced cells as the released guide's own fill.sh prints them over the translation a433c88da44bde82… (all of the seat's roots in one cut). By AI agents, Wed Nov 11 2026. No macro, syntax, notation, axiom, sorry.
-/
import Derived.Test.YtdcfammglpebaaaGreatChecked
import GoSem.Claim
import GoSem.ClaimJoined
import GoSem.ClaimMapViews
import Derived.JoinedTies
import Derived.KernelRfl
namespace Go.Proofs.YtdcfammglpebaaaGreat
/- THE CELL 'sum', in the pinned program and in every row, IS THE sha256 OF THE DUMP (.gsa) THAT YtdcfammglpebaaaGreatProg.lean LOADS. Nothing in Lean hashes anything: it is a label: what it is worth is what the hold of that sum in a sandbox is worth. -/
noncomputable def Tryz.pinned : Pinned := { name := "ytdcfammglpebaaagreat", sum := "a433c88da44bde82ec46d6d2b6dd6d73a56ff7085176cf9e9f7890c6f0f595fa", checked := Tryz.checked }
namespace Rows
def none {H : Type} : Left H := { results := [], args := [] }

/-- 'shuntlaw14.BareissTells': WHATEVER THE INPUT: true; the input reads as it did. -/
def bareissTellsSpec : ChangeSpec := { name := "bareissTells", fn := fun _ => fun
  | [d1, d2, d3] => { results := [.lit (.bool true)], args := [d1, d2, d3] }
  | _ => none }
def bareissTellsRow : OpenClaim := { program := "ytdcfammglpebaaagreat", sum := "a433c88da44bde82ec46d6d2b6dd6d73a56ff7085176cf9e9f7890c6f0f595fa", func := "shunt/shuntlaw14.BareissTells", spec := "bareissTells", unfollowed := true, recurses := true, apart := false }
def BareissTellsSaid : Prop := bareissTellsRow.holds Tryz.pinned (OpenSpec.ofChange bareissTellsSpec)

/-- ITS FALSE NEIGHBOUR: 'it returns false'. Refute it at one input. -/
def bareissTellsWrong : ChangeSpec := { name := "bareissTells", fn := fun _ => fun
  | [d1, d2, d3] => { results := [.lit (.bool false)], args := [d1, d2, d3] }
  | _ => none }
def BareissTellsWrongFalsely : Prop := bareissTellsRow.holds Tryz.pinned (OpenSpec.ofChange bareissTellsWrong)

/-- 'shuntlaw14.BareissDet': WHATEVER THE INPUT: true; the input reads as it did. -/
def bareissDetSpec : ChangeSpec := { name := "bareissDet", fn := fun _ => fun
  | [d1, d2] => { results := [.lit (.bool true)], args := [d1, d2] }
  | _ => none }
def bareissDetRow : OpenClaim := { program := "ytdcfammglpebaaagreat", sum := "a433c88da44bde82ec46d6d2b6dd6d73a56ff7085176cf9e9f7890c6f0f595fa", func := "shunt/shuntlaw14.BareissDet", spec := "bareissDet", unfollowed := true, recurses := true, apart := false }
def BareissDetSaid : Prop := bareissDetRow.holds Tryz.pinned (OpenSpec.ofChange bareissDetSpec)

/-- ITS FALSE NEIGHBOUR: 'it returns false'. Refute it at one input. -/
def bareissDetWrong : ChangeSpec := { name := "bareissDet", fn := fun _ => fun
  | [d1, d2] => { results := [.lit (.bool false)], args := [d1, d2] }
  | _ => none }
def BareissDetWrongFalsely : Prop := bareissDetRow.holds Tryz.pinned (OpenSpec.ofChange bareissDetWrong)

/-- 'shuntlaw14.BareissNarrow': WHATEVER THE INPUT: true; the input reads as it did. -/
def bareissNarrowSpec : ChangeSpec := { name := "bareissNarrow", fn := fun _ => fun
  | [d1, d2, d3] => { results := [.lit (.bool true)], args := [d1, d2, d3] }
  | _ => none }
def bareissNarrowRow : OpenClaim := { program := "ytdcfammglpebaaagreat", sum := "a433c88da44bde82ec46d6d2b6dd6d73a56ff7085176cf9e9f7890c6f0f595fa", func := "shunt/shuntlaw14.BareissNarrow", spec := "bareissNarrow", unfollowed := true, recurses := true, apart := false }
def BareissNarrowSaid : Prop := bareissNarrowRow.holds Tryz.pinned (OpenSpec.ofChange bareissNarrowSpec)

/-- ITS FALSE NEIGHBOUR: 'it returns false'. Refute it at one input. -/
def bareissNarrowWrong : ChangeSpec := { name := "bareissNarrow", fn := fun _ => fun
  | [d1, d2, d3] => { results := [.lit (.bool false)], args := [d1, d2, d3] }
  | _ => none }
def BareissNarrowWrongFalsely : Prop := bareissNarrowRow.holds Tryz.pinned (OpenSpec.ofChange bareissNarrowWrong)

/-- 'shuntlaw14.BareissOrder': WHATEVER THE INPUT: true; the input reads as it did. -/
def bareissOrderSpec : ChangeSpec := { name := "bareissOrder", fn := fun _ => fun
  | [d1, d2, d3] => { results := [.lit (.bool true)], args := [d1, d2, d3] }
  | _ => none }
def bareissOrderRow : OpenClaim := { program := "ytdcfammglpebaaagreat", sum := "a433c88da44bde82ec46d6d2b6dd6d73a56ff7085176cf9e9f7890c6f0f595fa", func := "shunt/shuntlaw14.BareissOrder", spec := "bareissOrder", unfollowed := true, recurses := true, apart := false }
def BareissOrderSaid : Prop := bareissOrderRow.holds Tryz.pinned (OpenSpec.ofChange bareissOrderSpec)

/-- ITS FALSE NEIGHBOUR: 'it returns false'. Refute it at one input. -/
def bareissOrderWrong : ChangeSpec := { name := "bareissOrder", fn := fun _ => fun
  | [d1, d2, d3] => { results := [.lit (.bool false)], args := [d1, d2, d3] }
  | _ => none }
def BareissOrderWrongFalsely : Prop := bareissOrderRow.holds Tryz.pinned (OpenSpec.ofChange bareissOrderWrong)

/-- 'shuntlaw14.BareissMinors': WHATEVER THE INPUT: true; the input reads as it did. -/
def bareissMinorsSpec : ChangeSpec := { name := "bareissMinors", fn := fun _ => fun
  | [d1, d2] => { results := [.lit (.bool true)], args := [d1, d2] }
  | _ => none }
def bareissMinorsRow : OpenClaim := { program := "ytdcfammglpebaaagreat", sum := "a433c88da44bde82ec46d6d2b6dd6d73a56ff7085176cf9e9f7890c6f0f595fa", func := "shunt/shuntlaw14.BareissMinors", spec := "bareissMinors", unfollowed := true, recurses := true, apart := false }
def BareissMinorsSaid : Prop := bareissMinorsRow.holds Tryz.pinned (OpenSpec.ofChange bareissMinorsSpec)

/-- ITS FALSE NEIGHBOUR: 'it returns false'. Refute it at one input. -/
def bareissMinorsWrong : ChangeSpec := { name := "bareissMinors", fn := fun _ => fun
  | [d1, d2] => { results := [.lit (.bool false)], args := [d1, d2] }
  | _ => none }
def BareissMinorsWrongFalsely : Prop := bareissMinorsRow.holds Tryz.pinned (OpenSpec.ofChange bareissMinorsWrong)

/- THE SECOND FORM. 'bulk': how many values and letters a reading holds, each counted each time it is reached (what is shared counts as often as it is met; a slice's spare places count too). A statement '..UptoSaid' is the law's where the arguments, and the package variables that the reading takes, are together of bulk at most 1048576: NARROWER than '..Said'. Prove '..Said' where nothing that the law and all that it calls make is longer than what came in: it says more and counts as full. Else prove '..UptoSaid'. A law counts once. -/
mutual
def uptoBulk {H : Type} : DataW H → Nat
  | .lit (.string bytes) => bytes.length + 1
  | .lit _ => 1
  | .nil => 1
  | .ptr d => uptoBulk d + 1
  | .slice elems spare => uptoBulkAll elems + uptoBulkAll spare + 1
  | .agg parts => uptoBulkAll parts + 1
  | .iface _ d => uptoBulk d + 1
  | .map entries => uptoBulkEntries entries + 1
  | .held _ => 1
def uptoBulkAll {H : Type} : List (DataW H) → Nat
  | [] => 0
  | d :: r => uptoBulk d + uptoBulkAll r
def uptoBulkEntries {H : Type} : List (Lit × DataW H) → Nat
  | [] => 0
  | x :: r => uptoBulkEntry x + uptoBulkEntries r
def uptoBulkEntry {H : Type} : Lit × DataW H → Nat
  | (.string bytes, d) => bytes.length + uptoBulk d + 1
  | (_, d) => uptoBulk d + 1
 end
def uptoSmall : (H : Type) → List (DataW H) → Bool := fun _ ds => decide (uptoBulkAll ds ≤ 1048576)
def OpenSpec.upto (s : _root_.Go.ChangeSpec) : _root_.Go.OpenSpec := { _root_.Go.OpenSpec.ofChange s with cond := some uptoSmall }

/-- 'shuntlaw14.BareissTells', WHERE WHAT IT READS IS OF BULK AT MOST 1048576: true; the input reads as it did. -/
def bareissTellsUptoRow : OpenClaim := { program := "ytdcfammglpebaaagreat", sum := "a433c88da44bde82ec46d6d2b6dd6d73a56ff7085176cf9e9f7890c6f0f595fa", func := "shunt/shuntlaw14.BareissTells", spec := "bareissTells", unfollowed := true, recurses := true, apart := false, narrowed := true }
def BareissTellsUptoSaid : Prop := bareissTellsUptoRow.holds Tryz.pinned (OpenSpec.upto bareissTellsSpec)

/-- 'shuntlaw14.BareissDet', WHERE WHAT IT READS IS OF BULK AT MOST 1048576: true; the input reads as it did. -/
def bareissDetUptoRow : OpenClaim := { program := "ytdcfammglpebaaagreat", sum := "a433c88da44bde82ec46d6d2b6dd6d73a56ff7085176cf9e9f7890c6f0f595fa", func := "shunt/shuntlaw14.BareissDet", spec := "bareissDet", unfollowed := true, recurses := true, apart := false, narrowed := true }
def BareissDetUptoSaid : Prop := bareissDetUptoRow.holds Tryz.pinned (OpenSpec.upto bareissDetSpec)

/-- 'shuntlaw14.BareissNarrow', WHERE WHAT IT READS IS OF BULK AT MOST 1048576: true; the input reads as it did. -/
def bareissNarrowUptoRow : OpenClaim := { program := "ytdcfammglpebaaagreat", sum := "a433c88da44bde82ec46d6d2b6dd6d73a56ff7085176cf9e9f7890c6f0f595fa", func := "shunt/shuntlaw14.BareissNarrow", spec := "bareissNarrow", unfollowed := true, recurses := true, apart := false, narrowed := true }
def BareissNarrowUptoSaid : Prop := bareissNarrowUptoRow.holds Tryz.pinned (OpenSpec.upto bareissNarrowSpec)

/-- 'shuntlaw14.BareissOrder', WHERE WHAT IT READS IS OF BULK AT MOST 1048576: true; the input reads as it did. -/
def bareissOrderUptoRow : OpenClaim := { program := "ytdcfammglpebaaagreat", sum := "a433c88da44bde82ec46d6d2b6dd6d73a56ff7085176cf9e9f7890c6f0f595fa", func := "shunt/shuntlaw14.BareissOrder", spec := "bareissOrder", unfollowed := true, recurses := true, apart := false, narrowed := true }
def BareissOrderUptoSaid : Prop := bareissOrderUptoRow.holds Tryz.pinned (OpenSpec.upto bareissOrderSpec)

/-- 'shuntlaw14.BareissMinors', WHERE WHAT IT READS IS OF BULK AT MOST 1048576: true; the input reads as it did. -/
def bareissMinorsUptoRow : OpenClaim := { program := "ytdcfammglpebaaagreat", sum := "a433c88da44bde82ec46d6d2b6dd6d73a56ff7085176cf9e9f7890c6f0f595fa", func := "shunt/shuntlaw14.BareissMinors", spec := "bareissMinors", unfollowed := true, recurses := true, apart := false, narrowed := true }
def BareissMinorsUptoSaid : Prop := bareissMinorsUptoRow.holds Tryz.pinned (OpenSpec.upto bareissMinorsSpec)

end Rows
end Go.Proofs.YtdcfammglpebaaaGreat
