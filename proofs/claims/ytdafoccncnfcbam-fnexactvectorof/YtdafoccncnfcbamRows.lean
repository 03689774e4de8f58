/-
  No cell of these rows narrows 'for every input' (looked for: loops, veiled, ifaces, maps, wideKeys, modest, calm, conditions, laid).
  DERIVED. THE GIVEN ROWS OF THIS SEAT. 6 by the template 'for every input the law returns true; each argument reads behind the call as it read before'; 0 by the template 'total and deterministic' (their statements: YtdafoccncnfcbamTotals.lean).
  GIVEN WITH THE SEED: the statements are not yours to turn. If you find one false, say at which input.
  Laid BY PROGRAM, IN A SANDBOX (cutbox-rows.mjs): the forced cells as the released guide's own fill.sh prints them over the translation 6841361425dfd69c… (all of the seat's roots in one cut). By AI agents, Wed Nov 11 2026. No macro, syntax, notation, axiom, sorry.
-/
import Derived.Test.YtdafoccncnfcbamChecked
import GoSem.Claim
import GoSem.ClaimJoined
import GoSem.ClaimMapViews
import Derived.JoinedTies
import Derived.KernelRfl
namespace Go.Proofs.Ytdafoccncnfcbam
/- THE CELL 'sum', in the pinned program and in every row, IS THE sha256 OF THE DUMP (.gsa) THAT YtdafoccncnfcbamProg.lean LOADS. Nothing in Lean hashes anything: it is a label: what it is worth is what the hold of that sum in a sandbox is worth. -/
noncomputable def Try.pinned : Pinned := { name := "ytdafoccncnfcbam", sum := "6841361425dfd69c6c94ce4da5b9d1f70c17f56b4fb59c604d4f5b6879d0d4bb", checked := Try.checked }
namespace Rows
def none {H : Type} : Left H := { results := [], args := [] }

/-- 'laws.FnExactIndexOf': WHATEVER THE INPUT: true; the input reads as it did. -/
def fnExactIndexOfSpec : ChangeSpec := { name := "fnExactIndexOf", fn := fun _ => fun
  | [d1, d2] => { results := [.lit (.bool true)], args := [d1, d2] }
  | _ => none }
def fnExactIndexOfRow : OpenClaim := { program := "ytdafoccncnfcbam", sum := "6841361425dfd69c6c94ce4da5b9d1f70c17f56b4fb59c604d4f5b6879d0d4bb", func := "loop.example/g00182/laws.FnExactIndexOf", spec := "fnExactIndexOf", plainKeys := false, apart := false }
def FnExactIndexOfSaid : Prop := fnExactIndexOfRow.holds Try.pinned (OpenSpec.ofChange fnExactIndexOfSpec)

/-- ITS FALSE NEIGHBOUR: 'it returns false'. Refute it at one input. -/
def fnExactIndexOfWrong : ChangeSpec := { name := "fnExactIndexOf", fn := fun _ => fun
  | [d1, d2] => { results := [.lit (.bool false)], args := [d1, d2] }
  | _ => none }
def FnExactIndexOfWrongFalsely : Prop := fnExactIndexOfRow.holds Try.pinned (OpenSpec.ofChange fnExactIndexOfWrong)

/-- 'laws.FnExactShapeSame': WHATEVER THE INPUT: true; the input reads as it did. -/
def fnExactShapeSameSpec : ChangeSpec := { name := "fnExactShapeSame", fn := fun _ => fun
  | [d1, d2] => { results := [.lit (.bool true)], args := [d1, d2] }
  | _ => none }
def fnExactShapeSameRow : OpenClaim := { program := "ytdafoccncnfcbam", sum := "6841361425dfd69c6c94ce4da5b9d1f70c17f56b4fb59c604d4f5b6879d0d4bb", func := "loop.example/g00182/laws.FnExactShapeSame", spec := "fnExactShapeSame", plainKeys := false, apart := false }
def FnExactShapeSameSaid : Prop := fnExactShapeSameRow.holds Try.pinned (OpenSpec.ofChange fnExactShapeSameSpec)

/-- ITS FALSE NEIGHBOUR: 'it returns false'. Refute it at one input. -/
def fnExactShapeSameWrong : ChangeSpec := { name := "fnExactShapeSame", fn := fun _ => fun
  | [d1, d2] => { results := [.lit (.bool false)], args := [d1, d2] }
  | _ => none }
def FnExactShapeSameWrongFalsely : Prop := fnExactShapeSameRow.holds Try.pinned (OpenSpec.ofChange fnExactShapeSameWrong)

/-- 'laws.FnExactArrayOk': WHATEVER THE INPUT: true; the input reads as it did. -/
def fnExactArrayOkSpec : ChangeSpec := { name := "fnExactArrayOk", fn := fun _ => fun
  | [d] => { results := [.lit (.bool true)], args := [d] }
  | _ => none }
def fnExactArrayOkRow : OpenClaim := { program := "ytdafoccncnfcbam", sum := "6841361425dfd69c6c94ce4da5b9d1f70c17f56b4fb59c604d4f5b6879d0d4bb", func := "loop.example/g00182/laws.FnExactArrayOk", spec := "fnExactArrayOk", plainKeys := false, apart := false }
def FnExactArrayOkSaid : Prop := fnExactArrayOkRow.holds Try.pinned (OpenSpec.ofChange fnExactArrayOkSpec)

/-- ITS FALSE NEIGHBOUR: 'it returns false'. Refute it at one input. -/
def fnExactArrayOkWrong : ChangeSpec := { name := "fnExactArrayOk", fn := fun _ => fun
  | [d] => { results := [.lit (.bool false)], args := [d] }
  | _ => none }
def FnExactArrayOkWrongFalsely : Prop := fnExactArrayOkRow.holds Try.pinned (OpenSpec.ofChange fnExactArrayOkWrong)

/-- 'laws.FnExactArraySame': WHATEVER THE INPUT: true; the input reads as it did. -/
def fnExactArraySameSpec : ChangeSpec := { name := "fnExactArraySame", fn := fun _ => fun
  | [d1, d2] => { results := [.lit (.bool true)], args := [d1, d2] }
  | _ => none }
def fnExactArraySameRow : OpenClaim := { program := "ytdafoccncnfcbam", sum := "6841361425dfd69c6c94ce4da5b9d1f70c17f56b4fb59c604d4f5b6879d0d4bb", func := "loop.example/g00182/laws.FnExactArraySame", spec := "fnExactArraySame", plainKeys := false, apart := false }
def FnExactArraySameSaid : Prop := fnExactArraySameRow.holds Try.pinned (OpenSpec.ofChange fnExactArraySameSpec)

/-- ITS FALSE NEIGHBOUR: 'it returns false'. Refute it at one input. -/
def fnExactArraySameWrong : ChangeSpec := { name := "fnExactArraySame", fn := fun _ => fun
  | [d1, d2] => { results := [.lit (.bool false)], args := [d1, d2] }
  | _ => none }
def FnExactArraySameWrongFalsely : Prop := fnExactArraySameRow.holds Try.pinned (OpenSpec.ofChange fnExactArraySameWrong)

/-- 'laws.FnExactScalarOf': WHATEVER THE INPUT: true; the input reads as it did. -/
def fnExactScalarOfSpec : ChangeSpec := { name := "fnExactScalarOf", fn := fun _ => fun
  | [d] => { results := [.lit (.bool true)], args := [d] }
  | _ => none }
def fnExactScalarOfRow : OpenClaim := { program := "ytdafoccncnfcbam", sum := "6841361425dfd69c6c94ce4da5b9d1f70c17f56b4fb59c604d4f5b6879d0d4bb", func := "loop.example/g00182/laws.FnExactScalarOf", spec := "fnExactScalarOf", plainKeys := false, apart := false }
def FnExactScalarOfSaid : Prop := fnExactScalarOfRow.holds Try.pinned (OpenSpec.ofChange fnExactScalarOfSpec)

/-- ITS FALSE NEIGHBOUR: 'it returns false'. Refute it at one input. -/
def fnExactScalarOfWrong : ChangeSpec := { name := "fnExactScalarOf", fn := fun _ => fun
  | [d] => { results := [.lit (.bool false)], args := [d] }
  | _ => none }
def FnExactScalarOfWrongFalsely : Prop := fnExactScalarOfRow.holds Try.pinned (OpenSpec.ofChange fnExactScalarOfWrong)

/-- 'laws.FnExactVectorOf': WHATEVER THE INPUT: true; the input reads as it did. -/
def fnExactVectorOfSpec : ChangeSpec := { name := "fnExactVectorOf", fn := fun _ => fun
  | [d] => { results := [.lit (.bool true)], args := [d] }
  | _ => none }
def fnExactVectorOfRow : OpenClaim := { program := "ytdafoccncnfcbam", sum := "6841361425dfd69c6c94ce4da5b9d1f70c17f56b4fb59c604d4f5b6879d0d4bb", func := "loop.example/g00182/laws.FnExactVectorOf", spec := "fnExactVectorOf", plainKeys := false, apart := false }
def FnExactVectorOfSaid : Prop := fnExactVectorOfRow.holds Try.pinned (OpenSpec.ofChange fnExactVectorOfSpec)

/-- ITS FALSE NEIGHBOUR: 'it returns false'. Refute it at one input. -/
def fnExactVectorOfWrong : ChangeSpec := { name := "fnExactVectorOf", fn := fun _ => fun
  | [d] => { results := [.lit (.bool false)], args := [d] }
  | _ => none }
def FnExactVectorOfWrongFalsely : Prop := fnExactVectorOfRow.holds Try.pinned (OpenSpec.ofChange fnExactVectorOfWrong)

/- THE SECOND FORM. 'bulk': how many values and letters a reading holds, each counted each time it is reached (what is shared counts as often as it is met; a slice's spare places count too). A statement '..UptoSaid' is the law's where the arguments, and the package variables that the reading takes, are together of bulk at most 1048576: NARROWER than '..Said'. Prove '..Said' where nothing that the law and all that it calls make is longer than what came in: it says more and counts as full. Else prove '..UptoSaid'. A law counts once. -/
mutual
def uptoBulk {H : Type} : DataW H → Nat
  | .lit (.string bytes) => bytes.length + 1
  | .lit _ => 1
  | .nil => 1
  | .ptr d => uptoBulk d + 1
  | .slice elems spare => uptoBulkAll elems + uptoBulkAll spare + 1
  | .agg parts => uptoBulkAll parts + 1
  | .iface _ d => uptoBulk d + 1
  | .map entries => uptoBulkEntries entries + 1
  | .held _ => 1
def uptoBulkAll {H : Type} : List (DataW H) → Nat
  | [] => 0
  | d :: r => uptoBulk d + uptoBulkAll r
def uptoBulkEntries {H : Type} : List (Lit × DataW H) → Nat
  | [] => 0
  | x :: r => uptoBulkEntry x + uptoBulkEntries r
def uptoBulkEntry {H : Type} : Lit × DataW H → Nat
  | (.string bytes, d) => bytes.length + uptoBulk d + 1
  | (_, d) => uptoBulk d + 1
 end
def uptoSmall : (H : Type) → List (DataW H) → Bool := fun _ ds => decide (uptoBulkAll ds ≤ 1048576)
def OpenSpec.upto (s : _root_.Go.ChangeSpec) : _root_.Go.OpenSpec := { _root_.Go.OpenSpec.ofChange s with cond := some uptoSmall }

/-- 'laws.FnExactIndexOf', WHERE WHAT IT READS IS OF BULK AT MOST 1048576: true; the input reads as it did. -/
def fnExactIndexOfUptoRow : OpenClaim := { program := "ytdafoccncnfcbam", sum := "6841361425dfd69c6c94ce4da5b9d1f70c17f56b4fb59c604d4f5b6879d0d4bb", func := "loop.example/g00182/laws.FnExactIndexOf", spec := "fnExactIndexOf", plainKeys := false, apart := false, narrowed := true }
def FnExactIndexOfUptoSaid : Prop := fnExactIndexOfUptoRow.holds Try.pinned (OpenSpec.upto fnExactIndexOfSpec)

/-- 'laws.FnExactShapeSame', WHERE WHAT IT READS IS OF BULK AT MOST 1048576: true; the input reads as it did. -/
def fnExactShapeSameUptoRow : OpenClaim := { program := "ytdafoccncnfcbam", sum := "6841361425dfd69c6c94ce4da5b9d1f70c17f56b4fb59c604d4f5b6879d0d4bb", func := "loop.example/g00182/laws.FnExactShapeSame", spec := "fnExactShapeSame", plainKeys := false, apart := false, narrowed := true }
def FnExactShapeSameUptoSaid : Prop := fnExactShapeSameUptoRow.holds Try.pinned (OpenSpec.upto fnExactShapeSameSpec)

/-- 'laws.FnExactArrayOk', WHERE WHAT IT READS IS OF BULK AT MOST 1048576: true; the input reads as it did. -/
def fnExactArrayOkUptoRow : OpenClaim := { program := "ytdafoccncnfcbam", sum := "6841361425dfd69c6c94ce4da5b9d1f70c17f56b4fb59c604d4f5b6879d0d4bb", func := "loop.example/g00182/laws.FnExactArrayOk", spec := "fnExactArrayOk", plainKeys := false, apart := false, narrowed := true }
def FnExactArrayOkUptoSaid : Prop := fnExactArrayOkUptoRow.holds Try.pinned (OpenSpec.upto fnExactArrayOkSpec)

/-- 'laws.FnExactArraySame', WHERE WHAT IT READS IS OF BULK AT MOST 1048576: true; the input reads as it did. -/
def fnExactArraySameUptoRow : OpenClaim := { program := "ytdafoccncnfcbam", sum := "6841361425dfd69c6c94ce4da5b9d1f70c17f56b4fb59c604d4f5b6879d0d4bb", func := "loop.example/g00182/laws.FnExactArraySame", spec := "fnExactArraySame", plainKeys := false, apart := false, narrowed := true }
def FnExactArraySameUptoSaid : Prop := fnExactArraySameUptoRow.holds Try.pinned (OpenSpec.upto fnExactArraySameSpec)

/-- 'laws.FnExactScalarOf', WHERE WHAT IT READS IS OF BULK AT MOST 1048576: true; the input reads as it did. -/
def fnExactScalarOfUptoRow : OpenClaim := { program := "ytdafoccncnfcbam", sum := "6841361425dfd69c6c94ce4da5b9d1f70c17f56b4fb59c604d4f5b6879d0d4bb", func := "loop.example/g00182/laws.FnExactScalarOf", spec := "fnExactScalarOf", plainKeys := false, apart := false, narrowed := true }
def FnExactScalarOfUptoSaid : Prop := fnExactScalarOfUptoRow.holds Try.pinned (OpenSpec.upto fnExactScalarOfSpec)

/-- 'laws.FnExactVectorOf', WHERE WHAT IT READS IS OF BULK AT MOST 1048576: true; the input reads as it did. -/
def fnExactVectorOfUptoRow : OpenClaim := { program := "ytdafoccncnfcbam", sum := "6841361425dfd69c6c94ce4da5b9d1f70c17f56b4fb59c604d4f5b6879d0d4bb", func := "loop.example/g00182/laws.FnExactVectorOf", spec := "fnExactVectorOf", plainKeys := false, apart := false, narrowed := true }
def FnExactVectorOfUptoSaid : Prop := fnExactVectorOfUptoRow.holds Try.pinned (OpenSpec.upto fnExactVectorOfSpec)

end Rows
end Go.Proofs.Ytdafoccncnfcbam
