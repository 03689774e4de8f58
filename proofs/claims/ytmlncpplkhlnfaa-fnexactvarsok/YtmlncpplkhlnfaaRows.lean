/-
  No cell of these rows narrows 'for every input' (looked for: loops, veiled, ifaces, maps, wideKeys, modest, calm, conditions, laid).
  DERIVED. THE GIVEN ROWS OF THIS SEAT. 2 by the template 'for every input the law returns true; each argument reads behind the call as it read before'; 0 by the template 'total and deterministic' (their statements: YtmlncpplkhlnfaaTotals.lean).
  GIVEN WITH THE SEED: the statements are not yours to turn. If you find one false, say at which input.
  Laid BY PROGRAM, IN A SANDBOX (cutbox-rows.mjs): the forced cells as the released guide's own fill.sh prints them over the translation 4b34855671a2c006… (all of the seat's roots in one cut). By AI agents, Wed Nov 11 2026. No macro, syntax, notation, axiom, sorry.
-/
import Derived.Test.YtmlncpplkhlnfaaChecked
import GoSem.Claim
import GoSem.ClaimJoined
import GoSem.ClaimMapViews
import Derived.JoinedTies
import Derived.KernelRfl
namespace Go.Proofs.Ytmlncpplkhlnfaa
/- THE CELL 'sum', in the pinned program and in every row, IS THE sha256 OF THE DUMP (.gsa) THAT YtmlncpplkhlnfaaProg.lean LOADS. Nothing in Lean hashes anything: it is a label: what it is worth is what the hold of that sum in a sandbox is worth. -/
noncomputable def Try.pinned : Pinned := { name := "ytmlncpplkhlnfaa", sum := "4b34855671a2c0067f7d04620978b27f5eef699df1360f301127873acd1584a0", checked := Try.checked }
namespace Rows
def none {H : Type} : Left H := { results := [], args := [] }

/-- 'laws.FnExactVarsOk': WHATEVER THE INPUT: true; the input reads as it did. -/
def fnExactVarsOkSpec : ChangeSpec := { name := "fnExactVarsOk", fn := fun _ => fun
  | [d] => { results := [.lit (.bool true)], args := [d] }
  | _ => none }
def fnExactVarsOkRow : OpenClaim := { program := "ytmlncpplkhlnfaa", sum := "4b34855671a2c0067f7d04620978b27f5eef699df1360f301127873acd1584a0", func := "loop.example/g00182/laws.FnExactVarsOk", spec := "fnExactVarsOk", unfollowed := true, recurses := true, apart := false }
def FnExactVarsOkSaid : Prop := fnExactVarsOkRow.holds Try.pinned (OpenSpec.ofChange fnExactVarsOkSpec)

/-- ITS FALSE NEIGHBOUR: 'it returns false'. Refute it at one input. -/
def fnExactVarsOkWrong : ChangeSpec := { name := "fnExactVarsOk", fn := fun _ => fun
  | [d] => { results := [.lit (.bool false)], args := [d] }
  | _ => none }
def FnExactVarsOkWrongFalsely : Prop := fnExactVarsOkRow.holds Try.pinned (OpenSpec.ofChange fnExactVarsOkWrong)

/-- 'laws.FnExactVarsNew': WHATEVER THE INPUT: true; the input reads as it did. -/
def fnExactVarsNewSpec : ChangeSpec := { name := "fnExactVarsNew", fn := fun _ => fun
  | [] => { results := [.lit (.bool true)], args := [] }
  | _ => none }
def fnExactVarsNewRow : OpenClaim := { program := "ytmlncpplkhlnfaa", sum := "4b34855671a2c0067f7d04620978b27f5eef699df1360f301127873acd1584a0", func := "loop.example/g00182/laws.FnExactVarsNew", spec := "fnExactVarsNew", apart := false }
def FnExactVarsNewSaid : Prop := fnExactVarsNewRow.holds Try.pinned (OpenSpec.ofChange fnExactVarsNewSpec)

/-- ITS FALSE NEIGHBOUR: 'it returns false'. Refute it at one input. -/
def fnExactVarsNewWrong : ChangeSpec := { name := "fnExactVarsNew", fn := fun _ => fun
  | [] => { results := [.lit (.bool false)], args := [] }
  | _ => none }
def FnExactVarsNewWrongFalsely : Prop := fnExactVarsNewRow.holds Try.pinned (OpenSpec.ofChange fnExactVarsNewWrong)

/- THE SECOND FORM. 'bulk': how many values and letters a reading holds, each counted each time it is reached (what is shared counts as often as it is met; a slice's spare places count too). A statement '..UptoSaid' is the law's where the arguments, and the package variables that the reading takes, are together of bulk at most 1048576: NARROWER than '..Said'. Prove '..Said' where nothing that the law and all that it calls make is longer than what came in: it says more and counts as full. Else prove '..UptoSaid'. A law counts once. -/
mutual
def uptoBulk {H : Type} : DataW H → Nat
  | .lit (.string bytes) => bytes.length + 1
  | .lit _ => 1
  | .nil => 1
  | .ptr d => uptoBulk d + 1
  | .slice elems spare => uptoBulkAll elems + uptoBulkAll spare + 1
  | .agg parts => uptoBulkAll parts + 1
  | .iface _ d => uptoBulk d + 1
  | .map entries => uptoBulkEntries entries + 1
  | .held _ => 1
def uptoBulkAll {H : Type} : List (DataW H) → Nat
  | [] => 0
  | d :: r => uptoBulk d + uptoBulkAll r
def uptoBulkEntries {H : Type} : List (Lit × DataW H) → Nat
  | [] => 0
  | x :: r => uptoBulkEntry x + uptoBulkEntries r
def uptoBulkEntry {H : Type} : Lit × DataW H → Nat
  | (.string bytes, d) => bytes.length + uptoBulk d + 1
  | (_, d) => uptoBulk d + 1
 end
def uptoSmall : (H : Type) → List (DataW H) → Bool := fun _ ds => decide (uptoBulkAll ds ≤ 1048576)
def OpenSpec.upto (s : _root_.Go.ChangeSpec) : _root_.Go.OpenSpec := { _root_.Go.OpenSpec.ofChange s with cond := some uptoSmall }

/-- 'laws.FnExactVarsOk', WHERE WHAT IT READS IS OF BULK AT MOST 1048576: true; the input reads as it did. -/
def fnExactVarsOkUptoRow : OpenClaim := { program := "ytmlncpplkhlnfaa", sum := "4b34855671a2c0067f7d04620978b27f5eef699df1360f301127873acd1584a0", func := "loop.example/g00182/laws.FnExactVarsOk", spec := "fnExactVarsOk", unfollowed := true, recurses := true, apart := false, narrowed := true }
def FnExactVarsOkUptoSaid : Prop := fnExactVarsOkUptoRow.holds Try.pinned (OpenSpec.upto fnExactVarsOkSpec)

/-- 'laws.FnExactVarsNew', WHERE WHAT IT READS IS OF BULK AT MOST 1048576: true; the input reads as it did. -/
def fnExactVarsNewUptoRow : OpenClaim := { program := "ytmlncpplkhlnfaa", sum := "4b34855671a2c0067f7d04620978b27f5eef699df1360f301127873acd1584a0", func := "loop.example/g00182/laws.FnExactVarsNew", spec := "fnExactVarsNew", apart := false, narrowed := true }
def FnExactVarsNewUptoSaid : Prop := fnExactVarsNewUptoRow.holds Try.pinned (OpenSpec.upto fnExactVarsNewSpec)

end Rows
end Go.Proofs.Ytmlncpplkhlnfaa
