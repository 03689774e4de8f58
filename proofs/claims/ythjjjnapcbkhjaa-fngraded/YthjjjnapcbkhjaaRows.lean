/-
  No cell of these rows narrows 'for every input' (looked for: loops, veiled, ifaces, maps, wideKeys, modest, calm, conditions, laid).
  DERIVED. THE GIVEN ROWS OF THIS SEAT. 6 by the template 'for every input the law returns true; each argument reads behind the call as it read before'; 0 by the template 'total and deterministic' (their statements: YthjjjnapcbkhjaaTotals.lean).
  GIVEN WITH THE SEED: the statements are not yours to turn. If you find one false, say at which input.
  Laid BY PROGRAM, IN A SANDBOX (cutbox-rows.mjs): the forced cells as the released guide's own fill.sh prints them over the translation e0b4319a6113bdbe… (all of the seat's roots in one cut). By AI agents, Wed Nov 11 2026. No macro, syntax, notation, axiom, sorry.
-/
import Derived.Test.YthjjjnapcbkhjaaChecked
import GoSem.Claim
import GoSem.ClaimJoined
import GoSem.ClaimMapViews
import Derived.JoinedTies
import Derived.KernelRfl
namespace Go.Proofs.Ythjjjnapcbkhjaa
/- THE CELL 'sum', in the pinned program and in every row, IS THE sha256 OF THE DUMP (.gsa) THAT YthjjjnapcbkhjaaProg.lean LOADS. Nothing in Lean hashes anything: it is a label: what it is worth is what the hold of that sum in a sandbox is worth. -/
noncomputable def Try.pinned : Pinned := { name := "ythjjjnapcbkhjaa", sum := "e0b4319a6113bdbebc2d82d7a4cd8eebb5bed08eacfe577571c7700526054d62", checked := Try.checked }
namespace Rows
def none {H : Type} : Left H := { results := [], args := [] }

/-- 'laws.FnIota': WHATEVER THE INPUT: true; the input reads as it did. -/
def fnIotaSpec : ChangeSpec := { name := "fnIota", fn := fun _ => fun
  | [d] => { results := [.lit (.bool true)], args := [d] }
  | _ => none }
def fnIotaRow : OpenClaim := { program := "ythjjjnapcbkhjaa", sum := "e0b4319a6113bdbebc2d82d7a4cd8eebb5bed08eacfe577571c7700526054d62", func := "loop.example/g00182/laws.FnIota", spec := "fnIota", unfollowed := true, recurses := true, apart := false }
def FnIotaSaid : Prop := fnIotaRow.holds Try.pinned (OpenSpec.ofChange fnIotaSpec)

/-- ITS FALSE NEIGHBOUR: 'it returns false'. Refute it at one input. -/
def fnIotaWrong : ChangeSpec := { name := "fnIota", fn := fun _ => fun
  | [d] => { results := [.lit (.bool false)], args := [d] }
  | _ => none }
def FnIotaWrongFalsely : Prop := fnIotaRow.holds Try.pinned (OpenSpec.ofChange fnIotaWrong)

/-- 'laws.FnGraded': WHATEVER THE INPUT: true; the input reads as it did. -/
def fnGradedSpec : ChangeSpec := { name := "fnGraded", fn := fun _ => fun
  | [d] => { results := [.lit (.bool true)], args := [d] }
  | _ => none }
def fnGradedRow : OpenClaim := { program := "ythjjjnapcbkhjaa", sum := "e0b4319a6113bdbebc2d82d7a4cd8eebb5bed08eacfe577571c7700526054d62", func := "loop.example/g00182/laws.FnGraded", spec := "fnGraded", unfollowed := true, recurses := true, apart := false }
def FnGradedSaid : Prop := fnGradedRow.holds Try.pinned (OpenSpec.ofChange fnGradedSpec)

/-- ITS FALSE NEIGHBOUR: 'it returns false'. Refute it at one input. -/
def fnGradedWrong : ChangeSpec := { name := "fnGraded", fn := fun _ => fun
  | [d] => { results := [.lit (.bool false)], args := [d] }
  | _ => none }
def FnGradedWrongFalsely : Prop := fnGradedRow.holds Try.pinned (OpenSpec.ofChange fnGradedWrong)

/-- 'laws.FnPicked': WHATEVER THE INPUT: true; the input reads as it did. -/
def fnPickedSpec : ChangeSpec := { name := "fnPicked", fn := fun _ => fun
  | [d] => { results := [.lit (.bool true)], args := [d] }
  | _ => none }
def fnPickedRow : OpenClaim := { program := "ythjjjnapcbkhjaa", sum := "e0b4319a6113bdbebc2d82d7a4cd8eebb5bed08eacfe577571c7700526054d62", func := "loop.example/g00182/laws.FnPicked", spec := "fnPicked", unfollowed := true, recurses := true, apart := false }
def FnPickedSaid : Prop := fnPickedRow.holds Try.pinned (OpenSpec.ofChange fnPickedSpec)

/-- ITS FALSE NEIGHBOUR: 'it returns false'. Refute it at one input. -/
def fnPickedWrong : ChangeSpec := { name := "fnPicked", fn := fun _ => fun
  | [d] => { results := [.lit (.bool false)], args := [d] }
  | _ => none }
def FnPickedWrongFalsely : Prop := fnPickedRow.holds Try.pinned (OpenSpec.ofChange fnPickedWrong)

/-- 'laws.FnFound': WHATEVER THE INPUT: true; the input reads as it did. -/
def fnFoundSpec : ChangeSpec := { name := "fnFound", fn := fun _ => fun
  | [d] => { results := [.lit (.bool true)], args := [d] }
  | _ => none }
def fnFoundRow : OpenClaim := { program := "ythjjjnapcbkhjaa", sum := "e0b4319a6113bdbebc2d82d7a4cd8eebb5bed08eacfe577571c7700526054d62", func := "loop.example/g00182/laws.FnFound", spec := "fnFound", unfollowed := true, recurses := true, apart := false }
def FnFoundSaid : Prop := fnFoundRow.holds Try.pinned (OpenSpec.ofChange fnFoundSpec)

/-- ITS FALSE NEIGHBOUR: 'it returns false'. Refute it at one input. -/
def fnFoundWrong : ChangeSpec := { name := "fnFound", fn := fun _ => fun
  | [d] => { results := [.lit (.bool false)], args := [d] }
  | _ => none }
def FnFoundWrongFalsely : Prop := fnFoundRow.holds Try.pinned (OpenSpec.ofChange fnFoundWrong)

/-- 'laws.FnCopied': WHATEVER THE INPUT: true; the input reads as it did. -/
def fnCopiedSpec : ChangeSpec := { name := "fnCopied", fn := fun _ => fun
  | [d] => { results := [.lit (.bool true)], args := [d] }
  | _ => none }
def fnCopiedRow : OpenClaim := { program := "ythjjjnapcbkhjaa", sum := "e0b4319a6113bdbebc2d82d7a4cd8eebb5bed08eacfe577571c7700526054d62", func := "loop.example/g00182/laws.FnCopied", spec := "fnCopied", unfollowed := true, recurses := true, apart := false }
def FnCopiedSaid : Prop := fnCopiedRow.holds Try.pinned (OpenSpec.ofChange fnCopiedSpec)

/-- ITS FALSE NEIGHBOUR: 'it returns false'. Refute it at one input. -/
def fnCopiedWrong : ChangeSpec := { name := "fnCopied", fn := fun _ => fun
  | [d] => { results := [.lit (.bool false)], args := [d] }
  | _ => none }
def FnCopiedWrongFalsely : Prop := fnCopiedRow.holds Try.pinned (OpenSpec.ofChange fnCopiedWrong)

/-- 'laws.FnItself': WHATEVER THE INPUT: true; the input reads as it did. -/
def fnItselfSpec : ChangeSpec := { name := "fnItself", fn := fun _ => fun
  | [d] => { results := [.lit (.bool true)], args := [d] }
  | _ => none }
def fnItselfRow : OpenClaim := { program := "ythjjjnapcbkhjaa", sum := "e0b4319a6113bdbebc2d82d7a4cd8eebb5bed08eacfe577571c7700526054d62", func := "loop.example/g00182/laws.FnItself", spec := "fnItself", unfollowed := true, recurses := true, apart := false }
def FnItselfSaid : Prop := fnItselfRow.holds Try.pinned (OpenSpec.ofChange fnItselfSpec)

/-- ITS FALSE NEIGHBOUR: 'it returns false'. Refute it at one input. -/
def fnItselfWrong : ChangeSpec := { name := "fnItself", fn := fun _ => fun
  | [d] => { results := [.lit (.bool false)], args := [d] }
  | _ => none }
def FnItselfWrongFalsely : Prop := fnItselfRow.holds Try.pinned (OpenSpec.ofChange fnItselfWrong)

/- THE SECOND FORM. 'bulk': how many values and letters a reading holds, each counted each time it is reached (what is shared counts as often as it is met; a slice's spare places count too). A statement '..UptoSaid' is the law's where the arguments, and the package variables that the reading takes, are together of bulk at most 1048576: NARROWER than '..Said'. Prove '..Said' where nothing that the law and all that it calls make is longer than what came in: it says more and counts as full. Else prove '..UptoSaid'. A law counts once. -/
mutual
def uptoBulk {H : Type} : DataW H → Nat
  | .lit (.string bytes) => bytes.length + 1
  | .lit _ => 1
  | .nil => 1
  | .ptr d => uptoBulk d + 1
  | .slice elems spare => uptoBulkAll elems + uptoBulkAll spare + 1
  | .agg parts => uptoBulkAll parts + 1
  | .iface _ d => uptoBulk d + 1
  | .map entries => uptoBulkEntries entries + 1
  | .held _ => 1
def uptoBulkAll {H : Type} : List (DataW H) → Nat
  | [] => 0
  | d :: r => uptoBulk d + uptoBulkAll r
def uptoBulkEntries {H : Type} : List (Lit × DataW H) → Nat
  | [] => 0
  | x :: r => uptoBulkEntry x + uptoBulkEntries r
def uptoBulkEntry {H : Type} : Lit × DataW H → Nat
  | (.string bytes, d) => bytes.length + uptoBulk d + 1
  | (_, d) => uptoBulk d + 1
 end
def uptoSmall : (H : Type) → List (DataW H) → Bool := fun _ ds => decide (uptoBulkAll ds ≤ 1048576)
def OpenSpec.upto (s : _root_.Go.ChangeSpec) : _root_.Go.OpenSpec := { _root_.Go.OpenSpec.ofChange s with cond := some uptoSmall }

/-- 'laws.FnIota', WHERE WHAT IT READS IS OF BULK AT MOST 1048576: true; the input reads as it did. -/
def fnIotaUptoRow : OpenClaim := { program := "ythjjjnapcbkhjaa", sum := "e0b4319a6113bdbebc2d82d7a4cd8eebb5bed08eacfe577571c7700526054d62", func := "loop.example/g00182/laws.FnIota", spec := "fnIota", unfollowed := true, recurses := true, apart := false, narrowed := true }
def FnIotaUptoSaid : Prop := fnIotaUptoRow.holds Try.pinned (OpenSpec.upto fnIotaSpec)

/-- 'laws.FnGraded', WHERE WHAT IT READS IS OF BULK AT MOST 1048576: true; the input reads as it did. -/
def fnGradedUptoRow : OpenClaim := { program := "ythjjjnapcbkhjaa", sum := "e0b4319a6113bdbebc2d82d7a4cd8eebb5bed08eacfe577571c7700526054d62", func := "loop.example/g00182/laws.FnGraded", spec := "fnGraded", unfollowed := true, recurses := true, apart := false, narrowed := true }
def FnGradedUptoSaid : Prop := fnGradedUptoRow.holds Try.pinned (OpenSpec.upto fnGradedSpec)

/-- 'laws.FnPicked', WHERE WHAT IT READS IS OF BULK AT MOST 1048576: true; the input reads as it did. -/
def fnPickedUptoRow : OpenClaim := { program := "ythjjjnapcbkhjaa", sum := "e0b4319a6113bdbebc2d82d7a4cd8eebb5bed08eacfe577571c7700526054d62", func := "loop.example/g00182/laws.FnPicked", spec := "fnPicked", unfollowed := true, recurses := true, apart := false, narrowed := true }
def FnPickedUptoSaid : Prop := fnPickedUptoRow.holds Try.pinned (OpenSpec.upto fnPickedSpec)

/-- 'laws.FnFound', WHERE WHAT IT READS IS OF BULK AT MOST 1048576: true; the input reads as it did. -/
def fnFoundUptoRow : OpenClaim := { program := "ythjjjnapcbkhjaa", sum := "e0b4319a6113bdbebc2d82d7a4cd8eebb5bed08eacfe577571c7700526054d62", func := "loop.example/g00182/laws.FnFound", spec := "fnFound", unfollowed := true, recurses := true, apart := false, narrowed := true }
def FnFoundUptoSaid : Prop := fnFoundUptoRow.holds Try.pinned (OpenSpec.upto fnFoundSpec)

/-- 'laws.FnCopied', WHERE WHAT IT READS IS OF BULK AT MOST 1048576: true; the input reads as it did. -/
def fnCopiedUptoRow : OpenClaim := { program := "ythjjjnapcbkhjaa", sum := "e0b4319a6113bdbebc2d82d7a4cd8eebb5bed08eacfe577571c7700526054d62", func := "loop.example/g00182/laws.FnCopied", spec := "fnCopied", unfollowed := true, recurses := true, apart := false, narrowed := true }
def FnCopiedUptoSaid : Prop := fnCopiedUptoRow.holds Try.pinned (OpenSpec.upto fnCopiedSpec)

/-- 'laws.FnItself', WHERE WHAT IT READS IS OF BULK AT MOST 1048576: true; the input reads as it did. -/
def fnItselfUptoRow : OpenClaim := { program := "ythjjjnapcbkhjaa", sum := "e0b4319a6113bdbebc2d82d7a4cd8eebb5bed08eacfe577571c7700526054d62", func := "loop.example/g00182/laws.FnItself", spec := "fnItself", unfollowed := true, recurses := true, apart := false, narrowed := true }
def FnItselfUptoSaid : Prop := fnItselfUptoRow.holds Try.pinned (OpenSpec.upto fnItselfSpec)

end Rows
end Go.Proofs.Ythjjjnapcbkhjaa
