/-
  NARROWER THAN 'FOR EVERY INPUT', by the rows' own cells (each row's printed sentence says how): FnExactParse: ifaces, laid · FnBrackets: ifaces, laid.
  DERIVED. THE GIVEN ROWS OF THIS SEAT. 2 by the template 'for every input the law returns true; each argument reads behind the call as it read before'; 0 by the template 'total and deterministic' (their statements: YtnebjnglcfebeaaDoorTotals.lean).
  GIVEN WITH THE SEED: the statements are not yours to turn. If you find one false, say at which input.
  Laid BY PROGRAM, IN A SANDBOX (cutbox-rows.mjs): the forced cells as the released guide's own fill.sh prints them over the translation d478dc62a1c4b597… (all of the seat's roots in one cut). By AI agents, Wed Nov 11 2026. No macro, syntax, notation, axiom, sorry.
-/
import Derived.Test.YtnebjnglcfebeaaDoorChecked
import GoSem.Claim
import GoSem.ClaimJoined
import GoSem.ClaimMapViews
import Derived.JoinedTies
import Derived.KernelRfl
namespace Go.Proofs.YtnebjnglcfebeaaDoor
/- THE CELL 'sum', in the pinned program and in every row, IS THE sha256 OF THE DUMP (.gsa) THAT YtnebjnglcfebeaaDoorProg.lean LOADS. Nothing in Lean hashes anything: it is a label: what it is worth is what the hold of that sum in a sandbox is worth. -/
noncomputable def Tryd.pinned : Pinned := { name := "ytnebjnglcfebeaadoor", sum := "d478dc62a1c4b5977218f1e08fe0627fe6329a865a11398a2132457a22f3fd85", checked := Tryd.checked }
namespace Rows
def none {H : Type} : Left H := { results := [], args := [] }

/- WHAT THE LISTED PACKAGE-LEVEL VARIABLES READ AS WHEN THE CALL BEGINS. Each datum BY PROGRAM (the guide's laid-datum.mjs) off the statement by which the dump's own 'gosem.cut.vars' lays the variable. In a bare row this is a premise. The card (YtnebjnglcfebeaaDoorCards.lean) ties it to the program's text. -/
def laid_loop_example_g00182_impl_errNoLine {H : Type} : DataW H := .iface "*errors.errorString" (.ptr (.agg [.lit (.string [116, 104, 101, 115, 101, 32, 116, 111, 107, 101, 110, 115, 32, 97, 114, 101, 32, 110, 111, 32, 108, 105, 110, 101])]))

/-- 'laws.FnExactParse': WHATEVER THE INPUT: true; the input reads as it did. -/
def fnExactParseSpec : ChangeSpec := { name := "fnExactParse", vars := ["loop.example/g00182/impl.errNoLine"], fn := fun _ => fun
  | [d, g1] => { results := [.lit (.bool true)], args := [d], vars := [g1] }
  | _ => none }
def fnExactParseRow : OpenClaim := { program := "ytnebjnglcfebeaadoor", sum := "d478dc62a1c4b5977218f1e08fe0627fe6329a865a11398a2132457a22f3fd85", func := "loop.example/g00182/laws.FnExactParse", spec := "fnExactParse", unfollowed := true, recurses := true, named := ["loop.example/g00182/impl.errNoLine"], ifaces := true, apart := false, laid := [("loop.example/g00182/impl.errNoLine", laid_loop_example_g00182_impl_errNoLine)] }
def FnExactParseSaid : Prop := fnExactParseRow.holds Tryd.pinned (OpenSpec.ofChange fnExactParseSpec)

/-- ITS FALSE NEIGHBOUR: 'it returns false'. Refute it at one input. -/
def fnExactParseWrong : ChangeSpec := { name := "fnExactParse", vars := ["loop.example/g00182/impl.errNoLine"], fn := fun _ => fun
  | [d, g1] => { results := [.lit (.bool false)], args := [d], vars := [g1] }
  | _ => none }
def FnExactParseWrongFalsely : Prop := fnExactParseRow.holds Tryd.pinned (OpenSpec.ofChange fnExactParseWrong)

/-- 'laws.FnBrackets': WHATEVER THE INPUT: true; the input reads as it did. -/
def fnBracketsSpec : ChangeSpec := { name := "fnBrackets", vars := ["loop.example/g00182/impl.errNoLine"], fn := fun _ => fun
  | [d, g1] => { results := [.lit (.bool true)], args := [d], vars := [g1] }
  | _ => none }
def fnBracketsRow : OpenClaim := { program := "ytnebjnglcfebeaadoor", sum := "d478dc62a1c4b5977218f1e08fe0627fe6329a865a11398a2132457a22f3fd85", func := "loop.example/g00182/laws.FnBrackets", spec := "fnBrackets", unfollowed := true, recurses := true, named := ["loop.example/g00182/impl.errNoLine"], ifaces := true, apart := false, laid := [("loop.example/g00182/impl.errNoLine", laid_loop_example_g00182_impl_errNoLine)] }
def FnBracketsSaid : Prop := fnBracketsRow.holds Tryd.pinned (OpenSpec.ofChange fnBracketsSpec)

/-- ITS FALSE NEIGHBOUR: 'it returns false'. Refute it at one input. -/
def fnBracketsWrong : ChangeSpec := { name := "fnBrackets", vars := ["loop.example/g00182/impl.errNoLine"], fn := fun _ => fun
  | [d, g1] => { results := [.lit (.bool false)], args := [d], vars := [g1] }
  | _ => none }
def FnBracketsWrongFalsely : Prop := fnBracketsRow.holds Tryd.pinned (OpenSpec.ofChange fnBracketsWrong)

/- THE SECOND FORM. 'bulk': how many values and letters a reading holds, each counted each time it is reached (what is shared counts as often as it is met; a slice's spare places count too). A statement '..UptoSaid' is the law's where the arguments, and the package variables that the reading takes, are together of bulk at most 1048576: NARROWER than '..Said'. Prove '..Said' where nothing that the law and all that it calls make is longer than what came in: it says more and counts as full. Else prove '..UptoSaid'. A law counts once. -/
mutual
def uptoBulk {H : Type} : DataW H → Nat
  | .lit (.string bytes) => bytes.length + 1
  | .lit _ => 1
  | .nil => 1
  | .ptr d => uptoBulk d + 1
  | .slice elems spare => uptoBulkAll elems + uptoBulkAll spare + 1
  | .agg parts => uptoBulkAll parts + 1
  | .iface _ d => uptoBulk d + 1
  | .map entries => uptoBulkEntries entries + 1
  | .held _ => 1
def uptoBulkAll {H : Type} : List (DataW H) → Nat
  | [] => 0
  | d :: r => uptoBulk d + uptoBulkAll r
def uptoBulkEntries {H : Type} : List (Lit × DataW H) → Nat
  | [] => 0
  | x :: r => uptoBulkEntry x + uptoBulkEntries r
def uptoBulkEntry {H : Type} : Lit × DataW H → Nat
  | (.string bytes, d) => bytes.length + uptoBulk d + 1
  | (_, d) => uptoBulk d + 1
 end
def uptoSmall : (H : Type) → List (DataW H) → Bool := fun _ ds => decide (uptoBulkAll ds ≤ 1048576)
def OpenSpec.upto (s : _root_.Go.ChangeSpec) : _root_.Go.OpenSpec := { _root_.Go.OpenSpec.ofChange s with cond := some uptoSmall }

/-- 'laws.FnExactParse', WHERE WHAT IT READS IS OF BULK AT MOST 1048576: true; the input reads as it did. -/
def fnExactParseUptoRow : OpenClaim := { program := "ytnebjnglcfebeaadoor", sum := "d478dc62a1c4b5977218f1e08fe0627fe6329a865a11398a2132457a22f3fd85", func := "loop.example/g00182/laws.FnExactParse", spec := "fnExactParse", unfollowed := true, recurses := true, named := ["loop.example/g00182/impl.errNoLine"], ifaces := true, apart := false, laid := [("loop.example/g00182/impl.errNoLine", laid_loop_example_g00182_impl_errNoLine)], narrowed := true }
def FnExactParseUptoSaid : Prop := fnExactParseUptoRow.holds Tryd.pinned (OpenSpec.upto fnExactParseSpec)

/-- 'laws.FnBrackets', WHERE WHAT IT READS IS OF BULK AT MOST 1048576: true; the input reads as it did. -/
def fnBracketsUptoRow : OpenClaim := { program := "ytnebjnglcfebeaadoor", sum := "d478dc62a1c4b5977218f1e08fe0627fe6329a865a11398a2132457a22f3fd85", func := "loop.example/g00182/laws.FnBrackets", spec := "fnBrackets", unfollowed := true, recurses := true, named := ["loop.example/g00182/impl.errNoLine"], ifaces := true, apart := false, laid := [("loop.example/g00182/impl.errNoLine", laid_loop_example_g00182_impl_errNoLine)], narrowed := true }
def FnBracketsUptoSaid : Prop := fnBracketsUptoRow.holds Tryd.pinned (OpenSpec.upto fnBracketsSpec)

end Rows
end Go.Proofs.YtnebjnglcfebeaaDoor
