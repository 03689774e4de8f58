/-
  No cell of these rows narrows 'for every input' (looked for: loops, veiled, ifaces, maps, wideKeys, modest, calm, conditions, laid).
  DERIVED. THE GIVEN ROWS OF THIS SEAT. 6 by the template 'for every input the law returns true; each argument reads behind the call as it read before'; 0 by the template 'total and deterministic' (their statements: YtpjmnblkbejdlalTotals.lean).
  GIVEN WITH THE SEED: the statements are not yours to turn. If you find one false, say at which input.
  Laid BY PROGRAM, IN A SANDBOX (cutbox-rows.mjs): the forced cells as the released guide's own fill.sh prints them over the translation 81f55c9ceaf82411… (all of the seat's roots in one cut). By AI agents, Wed Nov 11 2026. No macro, syntax, notation, axiom, sorry.
-/
import Derived.Test.YtpjmnblkbejdlalChecked
import GoSem.Claim
import GoSem.ClaimJoined
import GoSem.ClaimMapViews
import Derived.JoinedTies
import Derived.KernelRfl
namespace Go.Proofs.Ytpjmnblkbejdlal
/- THE CELL 'sum', in the pinned program and in every row, IS THE sha256 OF THE DUMP (.gsa) THAT YtpjmnblkbejdlalProg.lean LOADS. Nothing in Lean hashes anything: it is a label: what it is worth is what the hold of that sum in a sandbox is worth. -/
noncomputable def Try.pinned : Pinned := { name := "ytpjmnblkbejdlal", sum := "81f55c9ceaf824118c572999f5ececedfea484a4b3ab5b456bb8ee063864632f", checked := Try.checked }
namespace Rows
def none {H : Type} : Left H := { results := [], args := [] }

/-- 'laws.FnExactOne': WHATEVER THE INPUT: true; the input reads as it did. -/
def fnExactOneSpec : ChangeSpec := { name := "fnExactOne", fn := fun _ => fun
  | [d1, d2] => { results := [.lit (.bool true)], args := [d1, d2] }
  | _ => none }
def fnExactOneRow : OpenClaim := { program := "ytpjmnblkbejdlal", sum := "81f55c9ceaf824118c572999f5ececedfea484a4b3ab5b456bb8ee063864632f", func := "loop.example/g00182/laws.FnExactOne", spec := "fnExactOne", unfollowed := true, recurses := true, apart := false }
def FnExactOneSaid : Prop := fnExactOneRow.holds Try.pinned (OpenSpec.ofChange fnExactOneSpec)

/-- ITS FALSE NEIGHBOUR: 'it returns false'. Refute it at one input. -/
def fnExactOneWrong : ChangeSpec := { name := "fnExactOne", fn := fun _ => fun
  | [d1, d2] => { results := [.lit (.bool false)], args := [d1, d2] }
  | _ => none }
def FnExactOneWrongFalsely : Prop := fnExactOneRow.holds Try.pinned (OpenSpec.ofChange fnExactOneWrong)

/-- 'laws.FnExactTwo': WHATEVER THE INPUT: true; the input reads as it did. -/
def fnExactTwoSpec : ChangeSpec := { name := "fnExactTwo", fn := fun _ => fun
  | [d1, d2, d3] => { results := [.lit (.bool true)], args := [d1, d2, d3] }
  | _ => none }
def fnExactTwoRow : OpenClaim := { program := "ytpjmnblkbejdlal", sum := "81f55c9ceaf824118c572999f5ececedfea484a4b3ab5b456bb8ee063864632f", func := "loop.example/g00182/laws.FnExactTwo", spec := "fnExactTwo", unfollowed := true, recurses := true, apart := false }
def FnExactTwoSaid : Prop := fnExactTwoRow.holds Try.pinned (OpenSpec.ofChange fnExactTwoSpec)

/-- ITS FALSE NEIGHBOUR: 'it returns false'. Refute it at one input. -/
def fnExactTwoWrong : ChangeSpec := { name := "fnExactTwo", fn := fun _ => fun
  | [d1, d2, d3] => { results := [.lit (.bool false)], args := [d1, d2, d3] }
  | _ => none }
def FnExactTwoWrongFalsely : Prop := fnExactTwoRow.holds Try.pinned (OpenSpec.ofChange fnExactTwoWrong)

/-- 'laws.FnExactNeutral': WHATEVER THE INPUT: true; the input reads as it did. -/
def fnExactNeutralSpec : ChangeSpec := { name := "fnExactNeutral", fn := fun _ => fun
  | [d] => { results := [.lit (.bool true)], args := [d] }
  | _ => none }
def fnExactNeutralRow : OpenClaim := { program := "ytpjmnblkbejdlal", sum := "81f55c9ceaf824118c572999f5ececedfea484a4b3ab5b456bb8ee063864632f", func := "loop.example/g00182/laws.FnExactNeutral", spec := "fnExactNeutral", apart := false }
def FnExactNeutralSaid : Prop := fnExactNeutralRow.holds Try.pinned (OpenSpec.ofChange fnExactNeutralSpec)

/-- ITS FALSE NEIGHBOUR: 'it returns false'. Refute it at one input. -/
def fnExactNeutralWrong : ChangeSpec := { name := "fnExactNeutral", fn := fun _ => fun
  | [d] => { results := [.lit (.bool false)], args := [d] }
  | _ => none }
def FnExactNeutralWrongFalsely : Prop := fnExactNeutralRow.holds Try.pinned (OpenSpec.ofChange fnExactNeutralWrong)

/-- 'laws.FnExactShapeOk': WHATEVER THE INPUT: true; the input reads as it did. -/
def fnExactShapeOkSpec : ChangeSpec := { name := "fnExactShapeOk", fn := fun _ => fun
  | [d] => { results := [.lit (.bool true)], args := [d] }
  | _ => none }
def fnExactShapeOkRow : OpenClaim := { program := "ytpjmnblkbejdlal", sum := "81f55c9ceaf824118c572999f5ececedfea484a4b3ab5b456bb8ee063864632f", func := "loop.example/g00182/laws.FnExactShapeOk", spec := "fnExactShapeOk", apart := false }
def FnExactShapeOkSaid : Prop := fnExactShapeOkRow.holds Try.pinned (OpenSpec.ofChange fnExactShapeOkSpec)

/-- ITS FALSE NEIGHBOUR: 'it returns false'. Refute it at one input. -/
def fnExactShapeOkWrong : ChangeSpec := { name := "fnExactShapeOk", fn := fun _ => fun
  | [d] => { results := [.lit (.bool false)], args := [d] }
  | _ => none }
def FnExactShapeOkWrongFalsely : Prop := fnExactShapeOkRow.holds Try.pinned (OpenSpec.ofChange fnExactShapeOkWrong)

/-- 'laws.FnExactSizeOf': WHATEVER THE INPUT: true; the input reads as it did. -/
def fnExactSizeOfSpec : ChangeSpec := { name := "fnExactSizeOf", fn := fun _ => fun
  | [d] => { results := [.lit (.bool true)], args := [d] }
  | _ => none }
def fnExactSizeOfRow : OpenClaim := { program := "ytpjmnblkbejdlal", sum := "81f55c9ceaf824118c572999f5ececedfea484a4b3ab5b456bb8ee063864632f", func := "loop.example/g00182/laws.FnExactSizeOf", spec := "fnExactSizeOf", apart := false }
def FnExactSizeOfSaid : Prop := fnExactSizeOfRow.holds Try.pinned (OpenSpec.ofChange fnExactSizeOfSpec)

/-- ITS FALSE NEIGHBOUR: 'it returns false'. Refute it at one input. -/
def fnExactSizeOfWrong : ChangeSpec := { name := "fnExactSizeOf", fn := fun _ => fun
  | [d] => { results := [.lit (.bool false)], args := [d] }
  | _ => none }
def FnExactSizeOfWrongFalsely : Prop := fnExactSizeOfRow.holds Try.pinned (OpenSpec.ofChange fnExactSizeOfWrong)

/-- 'laws.FnExactPlaceOf': WHATEVER THE INPUT: true; the input reads as it did. -/
def fnExactPlaceOfSpec : ChangeSpec := { name := "fnExactPlaceOf", fn := fun _ => fun
  | [d1, d2] => { results := [.lit (.bool true)], args := [d1, d2] }
  | _ => none }
def fnExactPlaceOfRow : OpenClaim := { program := "ytpjmnblkbejdlal", sum := "81f55c9ceaf824118c572999f5ececedfea484a4b3ab5b456bb8ee063864632f", func := "loop.example/g00182/laws.FnExactPlaceOf", spec := "fnExactPlaceOf", apart := false }
def FnExactPlaceOfSaid : Prop := fnExactPlaceOfRow.holds Try.pinned (OpenSpec.ofChange fnExactPlaceOfSpec)

/-- ITS FALSE NEIGHBOUR: 'it returns false'. Refute it at one input. -/
def fnExactPlaceOfWrong : ChangeSpec := { name := "fnExactPlaceOf", fn := fun _ => fun
  | [d1, d2] => { results := [.lit (.bool false)], args := [d1, d2] }
  | _ => none }
def FnExactPlaceOfWrongFalsely : Prop := fnExactPlaceOfRow.holds Try.pinned (OpenSpec.ofChange fnExactPlaceOfWrong)

/- THE SECOND FORM. 'bulk': how many values and letters a reading holds, each counted each time it is reached (what is shared counts as often as it is met; a slice's spare places count too). A statement '..UptoSaid' is the law's where the arguments, and the package variables that the reading takes, are together of bulk at most 1048576: NARROWER than '..Said'. Prove '..Said' where nothing that the law and all that it calls make is longer than what came in: it says more and counts as full. Else prove '..UptoSaid'. A law counts once. -/
mutual
def uptoBulk {H : Type} : DataW H → Nat
  | .lit (.string bytes) => bytes.length + 1
  | .lit _ => 1
  | .nil => 1
  | .ptr d => uptoBulk d + 1
  | .slice elems spare => uptoBulkAll elems + uptoBulkAll spare + 1
  | .agg parts => uptoBulkAll parts + 1
  | .iface _ d => uptoBulk d + 1
  | .map entries => uptoBulkEntries entries + 1
  | .held _ => 1
def uptoBulkAll {H : Type} : List (DataW H) → Nat
  | [] => 0
  | d :: r => uptoBulk d + uptoBulkAll r
def uptoBulkEntries {H : Type} : List (Lit × DataW H) → Nat
  | [] => 0
  | x :: r => uptoBulkEntry x + uptoBulkEntries r
def uptoBulkEntry {H : Type} : Lit × DataW H → Nat
  | (.string bytes, d) => bytes.length + uptoBulk d + 1
  | (_, d) => uptoBulk d + 1
 end
def uptoSmall : (H : Type) → List (DataW H) → Bool := fun _ ds => decide (uptoBulkAll ds ≤ 1048576)
def OpenSpec.upto (s : _root_.Go.ChangeSpec) : _root_.Go.OpenSpec := { _root_.Go.OpenSpec.ofChange s with cond := some uptoSmall }

/-- 'laws.FnExactOne', WHERE WHAT IT READS IS OF BULK AT MOST 1048576: true; the input reads as it did. -/
def fnExactOneUptoRow : OpenClaim := { program := "ytpjmnblkbejdlal", sum := "81f55c9ceaf824118c572999f5ececedfea484a4b3ab5b456bb8ee063864632f", func := "loop.example/g00182/laws.FnExactOne", spec := "fnExactOne", unfollowed := true, recurses := true, apart := false, narrowed := true }
def FnExactOneUptoSaid : Prop := fnExactOneUptoRow.holds Try.pinned (OpenSpec.upto fnExactOneSpec)

/-- 'laws.FnExactTwo', WHERE WHAT IT READS IS OF BULK AT MOST 1048576: true; the input reads as it did. -/
def fnExactTwoUptoRow : OpenClaim := { program := "ytpjmnblkbejdlal", sum := "81f55c9ceaf824118c572999f5ececedfea484a4b3ab5b456bb8ee063864632f", func := "loop.example/g00182/laws.FnExactTwo", spec := "fnExactTwo", unfollowed := true, recurses := true, apart := false, narrowed := true }
def FnExactTwoUptoSaid : Prop := fnExactTwoUptoRow.holds Try.pinned (OpenSpec.upto fnExactTwoSpec)

/-- 'laws.FnExactNeutral', WHERE WHAT IT READS IS OF BULK AT MOST 1048576: true; the input reads as it did. -/
def fnExactNeutralUptoRow : OpenClaim := { program := "ytpjmnblkbejdlal", sum := "81f55c9ceaf824118c572999f5ececedfea484a4b3ab5b456bb8ee063864632f", func := "loop.example/g00182/laws.FnExactNeutral", spec := "fnExactNeutral", apart := false, narrowed := true }
def FnExactNeutralUptoSaid : Prop := fnExactNeutralUptoRow.holds Try.pinned (OpenSpec.upto fnExactNeutralSpec)

/-- 'laws.FnExactShapeOk', WHERE WHAT IT READS IS OF BULK AT MOST 1048576: true; the input reads as it did. -/
def fnExactShapeOkUptoRow : OpenClaim := { program := "ytpjmnblkbejdlal", sum := "81f55c9ceaf824118c572999f5ececedfea484a4b3ab5b456bb8ee063864632f", func := "loop.example/g00182/laws.FnExactShapeOk", spec := "fnExactShapeOk", apart := false, narrowed := true }
def FnExactShapeOkUptoSaid : Prop := fnExactShapeOkUptoRow.holds Try.pinned (OpenSpec.upto fnExactShapeOkSpec)

/-- 'laws.FnExactSizeOf', WHERE WHAT IT READS IS OF BULK AT MOST 1048576: true; the input reads as it did. -/
def fnExactSizeOfUptoRow : OpenClaim := { program := "ytpjmnblkbejdlal", sum := "81f55c9ceaf824118c572999f5ececedfea484a4b3ab5b456bb8ee063864632f", func := "loop.example/g00182/laws.FnExactSizeOf", spec := "fnExactSizeOf", apart := false, narrowed := true }
def FnExactSizeOfUptoSaid : Prop := fnExactSizeOfUptoRow.holds Try.pinned (OpenSpec.upto fnExactSizeOfSpec)

/-- 'laws.FnExactPlaceOf', WHERE WHAT IT READS IS OF BULK AT MOST 1048576: true; the input reads as it did. -/
def fnExactPlaceOfUptoRow : OpenClaim := { program := "ytpjmnblkbejdlal", sum := "81f55c9ceaf824118c572999f5ececedfea484a4b3ab5b456bb8ee063864632f", func := "loop.example/g00182/laws.FnExactPlaceOf", spec := "fnExactPlaceOf", apart := false, narrowed := true }
def FnExactPlaceOfUptoSaid : Prop := fnExactPlaceOfUptoRow.holds Try.pinned (OpenSpec.upto fnExactPlaceOfSpec)

end Rows
end Go.Proofs.Ytpjmnblkbejdlal
