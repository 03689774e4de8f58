/-
  No cell of these rows narrows 'for every input' (looked for: loops, veiled, ifaces, maps, wideKeys, modest, calm, conditions, laid).
  DERIVED. THE GIVEN ROWS OF THIS SEAT. 6 by the template 'for every input the law returns true; each argument reads behind the call as it read before'; 0 by the template 'total and deterministic' (their statements: YtfmheanmkfdjnacTotals.lean).
  GIVEN WITH THE SEED: the statements are not yours to turn. If you find one false, say at which input.
  Laid BY PROGRAM, IN A SANDBOX (cutbox-rows.mjs): the forced cells as the released guide's own fill.sh prints them over the translation 97b15481bac0ecca… (all of the seat's roots in one cut). By AI agents, Wed Nov 11 2026. No macro, syntax, notation, axiom, sorry.
-/
import Derived.Test.YtfmheanmkfdjnacChecked
import GoSem.Claim
import GoSem.ClaimJoined
import GoSem.ClaimMapViews
import Derived.JoinedTies
import Derived.KernelRfl
namespace Go.Proofs.Ytfmheanmkfdjnac
/- THE CELL 'sum', in the pinned program and in every row, IS THE sha256 OF THE DUMP (.gsa) THAT YtfmheanmkfdjnacProg.lean LOADS. Nothing in Lean hashes anything: it is a label: what it is worth is what the hold of that sum in a sandbox is worth. -/
noncomputable def Try.pinned : Pinned := { name := "ytfmheanmkfdjnac", sum := "97b15481bac0ecca46ef9e99650ce83b16fbe56a7434a324b53975e649467efa", checked := Try.checked }
namespace Rows
def none {H : Type} : Left H := { results := [], args := [] }

/-- 'laws.FnEach': WHATEVER THE INPUT: true; the input reads as it did. -/
def fnEachSpec : ChangeSpec := { name := "fnEach", fn := fun _ => fun
  | [d] => { results := [.lit (.bool true)], args := [d] }
  | _ => none }
def fnEachRow : OpenClaim := { program := "ytfmheanmkfdjnac", sum := "97b15481bac0ecca46ef9e99650ce83b16fbe56a7434a324b53975e649467efa", func := "loop.example/g00182/laws.FnEach", spec := "fnEach", unfollowed := true, recurses := true, plainKeys := false, apart := false }
def FnEachSaid : Prop := fnEachRow.holds Try.pinned (OpenSpec.ofChange fnEachSpec)

/-- ITS FALSE NEIGHBOUR: 'it returns false'. Refute it at one input. -/
def fnEachWrong : ChangeSpec := { name := "fnEach", fn := fun _ => fun
  | [d] => { results := [.lit (.bool false)], args := [d] }
  | _ => none }
def FnEachWrongFalsely : Prop := fnEachRow.holds Try.pinned (OpenSpec.ofChange fnEachWrong)

/-- 'laws.FnEachOne': WHATEVER THE INPUT: true; the input reads as it did. -/
def fnEachOneSpec : ChangeSpec := { name := "fnEachOne", fn := fun _ => fun
  | [d] => { results := [.lit (.bool true)], args := [d] }
  | _ => none }
def fnEachOneRow : OpenClaim := { program := "ytfmheanmkfdjnac", sum := "97b15481bac0ecca46ef9e99650ce83b16fbe56a7434a324b53975e649467efa", func := "loop.example/g00182/laws.FnEachOne", spec := "fnEachOne", unfollowed := true, recurses := true, plainKeys := false, apart := false }
def FnEachOneSaid : Prop := fnEachOneRow.holds Try.pinned (OpenSpec.ofChange fnEachOneSpec)

/-- ITS FALSE NEIGHBOUR: 'it returns false'. Refute it at one input. -/
def fnEachOneWrong : ChangeSpec := { name := "fnEachOne", fn := fun _ => fun
  | [d] => { results := [.lit (.bool false)], args := [d] }
  | _ => none }
def FnEachOneWrongFalsely : Prop := fnEachOneRow.holds Try.pinned (OpenSpec.ofChange fnEachOneWrong)

/-- 'laws.FnReshaped': WHATEVER THE INPUT: true; the input reads as it did. -/
def fnReshapedSpec : ChangeSpec := { name := "fnReshaped", fn := fun _ => fun
  | [d] => { results := [.lit (.bool true)], args := [d] }
  | _ => none }
def fnReshapedRow : OpenClaim := { program := "ytfmheanmkfdjnac", sum := "97b15481bac0ecca46ef9e99650ce83b16fbe56a7434a324b53975e649467efa", func := "loop.example/g00182/laws.FnReshaped", spec := "fnReshaped", unfollowed := true, recurses := true, plainKeys := false, apart := false }
def FnReshapedSaid : Prop := fnReshapedRow.holds Try.pinned (OpenSpec.ofChange fnReshapedSpec)

/-- ITS FALSE NEIGHBOUR: 'it returns false'. Refute it at one input. -/
def fnReshapedWrong : ChangeSpec := { name := "fnReshaped", fn := fun _ => fun
  | [d] => { results := [.lit (.bool false)], args := [d] }
  | _ => none }
def FnReshapedWrongFalsely : Prop := fnReshapedRow.holds Try.pinned (OpenSpec.ofChange fnReshapedWrong)

/-- 'laws.FnRavel': WHATEVER THE INPUT: true; the input reads as it did. -/
def fnRavelSpec : ChangeSpec := { name := "fnRavel", fn := fun _ => fun
  | [d] => { results := [.lit (.bool true)], args := [d] }
  | _ => none }
def fnRavelRow : OpenClaim := { program := "ytfmheanmkfdjnac", sum := "97b15481bac0ecca46ef9e99650ce83b16fbe56a7434a324b53975e649467efa", func := "loop.example/g00182/laws.FnRavel", spec := "fnRavel", unfollowed := true, recurses := true, plainKeys := false, apart := false }
def FnRavelSaid : Prop := fnRavelRow.holds Try.pinned (OpenSpec.ofChange fnRavelSpec)

/-- ITS FALSE NEIGHBOUR: 'it returns false'. Refute it at one input. -/
def fnRavelWrong : ChangeSpec := { name := "fnRavel", fn := fun _ => fun
  | [d] => { results := [.lit (.bool false)], args := [d] }
  | _ => none }
def FnRavelWrongFalsely : Prop := fnRavelRow.holds Try.pinned (OpenSpec.ofChange fnRavelWrong)

/-- 'laws.FnIota': WHATEVER THE INPUT: true; the input reads as it did. -/
def fnIotaSpec : ChangeSpec := { name := "fnIota", fn := fun _ => fun
  | [d] => { results := [.lit (.bool true)], args := [d] }
  | _ => none }
def fnIotaRow : OpenClaim := { program := "ytfmheanmkfdjnac", sum := "97b15481bac0ecca46ef9e99650ce83b16fbe56a7434a324b53975e649467efa", func := "loop.example/g00182/laws.FnIota", spec := "fnIota", unfollowed := true, recurses := true, plainKeys := false, apart := false }
def FnIotaSaid : Prop := fnIotaRow.holds Try.pinned (OpenSpec.ofChange fnIotaSpec)

/-- ITS FALSE NEIGHBOUR: 'it returns false'. Refute it at one input. -/
def fnIotaWrong : ChangeSpec := { name := "fnIota", fn := fun _ => fun
  | [d] => { results := [.lit (.bool false)], args := [d] }
  | _ => none }
def FnIotaWrongFalsely : Prop := fnIotaRow.holds Try.pinned (OpenSpec.ofChange fnIotaWrong)

/-- 'laws.FnJoined': WHATEVER THE INPUT: true; the input reads as it did. -/
def fnJoinedSpec : ChangeSpec := { name := "fnJoined", fn := fun _ => fun
  | [d] => { results := [.lit (.bool true)], args := [d] }
  | _ => none }
def fnJoinedRow : OpenClaim := { program := "ytfmheanmkfdjnac", sum := "97b15481bac0ecca46ef9e99650ce83b16fbe56a7434a324b53975e649467efa", func := "loop.example/g00182/laws.FnJoined", spec := "fnJoined", unfollowed := true, recurses := true, plainKeys := false, apart := false }
def FnJoinedSaid : Prop := fnJoinedRow.holds Try.pinned (OpenSpec.ofChange fnJoinedSpec)

/-- ITS FALSE NEIGHBOUR: 'it returns false'. Refute it at one input. -/
def fnJoinedWrong : ChangeSpec := { name := "fnJoined", fn := fun _ => fun
  | [d] => { results := [.lit (.bool false)], args := [d] }
  | _ => none }
def FnJoinedWrongFalsely : Prop := fnJoinedRow.holds Try.pinned (OpenSpec.ofChange fnJoinedWrong)

/- THE SECOND FORM. 'bulk': how many values and letters a reading holds, each counted each time it is reached (what is shared counts as often as it is met; a slice's spare places count too). A statement '..UptoSaid' is the law's where the arguments, and the package variables that the reading takes, are together of bulk at most 1048576: NARROWER than '..Said'. Prove '..Said' where nothing that the law and all that it calls make is longer than what came in: it says more and counts as full. Else prove '..UptoSaid'. A law counts once. -/
mutual
def uptoBulk {H : Type} : DataW H → Nat
  | .lit (.string bytes) => bytes.length + 1
  | .lit _ => 1
  | .nil => 1
  | .ptr d => uptoBulk d + 1
  | .slice elems spare => uptoBulkAll elems + uptoBulkAll spare + 1
  | .agg parts => uptoBulkAll parts + 1
  | .iface _ d => uptoBulk d + 1
  | .map entries => uptoBulkEntries entries + 1
  | .held _ => 1
def uptoBulkAll {H : Type} : List (DataW H) → Nat
  | [] => 0
  | d :: r => uptoBulk d + uptoBulkAll r
def uptoBulkEntries {H : Type} : List (Lit × DataW H) → Nat
  | [] => 0
  | x :: r => uptoBulkEntry x + uptoBulkEntries r
def uptoBulkEntry {H : Type} : Lit × DataW H → Nat
  | (.string bytes, d) => bytes.length + uptoBulk d + 1
  | (_, d) => uptoBulk d + 1
 end
def uptoSmall : (H : Type) → List (DataW H) → Bool := fun _ ds => decide (uptoBulkAll ds ≤ 1048576)
def OpenSpec.upto (s : _root_.Go.ChangeSpec) : _root_.Go.OpenSpec := { _root_.Go.OpenSpec.ofChange s with cond := some uptoSmall }

/-- 'laws.FnEach', WHERE WHAT IT READS IS OF BULK AT MOST 1048576: true; the input reads as it did. -/
def fnEachUptoRow : OpenClaim := { program := "ytfmheanmkfdjnac", sum := "97b15481bac0ecca46ef9e99650ce83b16fbe56a7434a324b53975e649467efa", func := "loop.example/g00182/laws.FnEach", spec := "fnEach", unfollowed := true, recurses := true, plainKeys := false, apart := false, narrowed := true }
def FnEachUptoSaid : Prop := fnEachUptoRow.holds Try.pinned (OpenSpec.upto fnEachSpec)

/-- 'laws.FnEachOne', WHERE WHAT IT READS IS OF BULK AT MOST 1048576: true; the input reads as it did. -/
def fnEachOneUptoRow : OpenClaim := { program := "ytfmheanmkfdjnac", sum := "97b15481bac0ecca46ef9e99650ce83b16fbe56a7434a324b53975e649467efa", func := "loop.example/g00182/laws.FnEachOne", spec := "fnEachOne", unfollowed := true, recurses := true, plainKeys := false, apart := false, narrowed := true }
def FnEachOneUptoSaid : Prop := fnEachOneUptoRow.holds Try.pinned (OpenSpec.upto fnEachOneSpec)

/-- 'laws.FnReshaped', WHERE WHAT IT READS IS OF BULK AT MOST 1048576: true; the input reads as it did. -/
def fnReshapedUptoRow : OpenClaim := { program := "ytfmheanmkfdjnac", sum := "97b15481bac0ecca46ef9e99650ce83b16fbe56a7434a324b53975e649467efa", func := "loop.example/g00182/laws.FnReshaped", spec := "fnReshaped", unfollowed := true, recurses := true, plainKeys := false, apart := false, narrowed := true }
def FnReshapedUptoSaid : Prop := fnReshapedUptoRow.holds Try.pinned (OpenSpec.upto fnReshapedSpec)

/-- 'laws.FnRavel', WHERE WHAT IT READS IS OF BULK AT MOST 1048576: true; the input reads as it did. -/
def fnRavelUptoRow : OpenClaim := { program := "ytfmheanmkfdjnac", sum := "97b15481bac0ecca46ef9e99650ce83b16fbe56a7434a324b53975e649467efa", func := "loop.example/g00182/laws.FnRavel", spec := "fnRavel", unfollowed := true, recurses := true, plainKeys := false, apart := false, narrowed := true }
def FnRavelUptoSaid : Prop := fnRavelUptoRow.holds Try.pinned (OpenSpec.upto fnRavelSpec)

/-- 'laws.FnIota', WHERE WHAT IT READS IS OF BULK AT MOST 1048576: true; the input reads as it did. -/
def fnIotaUptoRow : OpenClaim := { program := "ytfmheanmkfdjnac", sum := "97b15481bac0ecca46ef9e99650ce83b16fbe56a7434a324b53975e649467efa", func := "loop.example/g00182/laws.FnIota", spec := "fnIota", unfollowed := true, recurses := true, plainKeys := false, apart := false, narrowed := true }
def FnIotaUptoSaid : Prop := fnIotaUptoRow.holds Try.pinned (OpenSpec.upto fnIotaSpec)

/-- 'laws.FnJoined', WHERE WHAT IT READS IS OF BULK AT MOST 1048576: true; the input reads as it did. -/
def fnJoinedUptoRow : OpenClaim := { program := "ytfmheanmkfdjnac", sum := "97b15481bac0ecca46ef9e99650ce83b16fbe56a7434a324b53975e649467efa", func := "loop.example/g00182/laws.FnJoined", spec := "fnJoined", unfollowed := true, recurses := true, plainKeys := false, apart := false, narrowed := true }
def FnJoinedUptoSaid : Prop := fnJoinedUptoRow.holds Try.pinned (OpenSpec.upto fnJoinedSpec)

end Rows
end Go.Proofs.Ytfmheanmkfdjnac
