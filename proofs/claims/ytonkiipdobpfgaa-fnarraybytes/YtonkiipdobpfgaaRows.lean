/-
  No cell of these rows narrows 'for every input' (looked for: loops, veiled, ifaces, maps, wideKeys, modest, calm, conditions, laid).
  DERIVED. THE GIVEN ROWS OF THIS SEAT. 3 by the template 'for every input the law returns true; each argument reads behind the call as it read before'; 0 by the template 'total and deterministic' (their statements: YtonkiipdobpfgaaTotals.lean).
  GIVEN WITH THE SEED: the statements are not yours to turn. If you find one false, say at which input.
  Laid BY PROGRAM, IN A SANDBOX (cutbox-rows.mjs): the forced cells as the released guide's own fill.sh prints them over the translation c5f8463c512aafad… (all of the seat's roots in one cut). By AI agents, Wed Nov 11 2026. No macro, syntax, notation, axiom, sorry.
-/
import Derived.Test.YtonkiipdobpfgaaChecked
import GoSem.Claim
import GoSem.ClaimJoined
import GoSem.ClaimMapViews
import Derived.JoinedTies
import Derived.KernelRfl
namespace Go.Proofs.Ytonkiipdobpfgaa
/- THE CELL 'sum', in the pinned program and in every row, IS THE sha256 OF THE DUMP (.gsa) THAT YtonkiipdobpfgaaProg.lean LOADS. Nothing in Lean hashes anything: it is a label: what it is worth is what the hold of that sum in a sandbox is worth. -/
noncomputable def Try.pinned : Pinned := { name := "ytonkiipdobpfgaa", sum := "c5f8463c512aafad0381bbd547bc38694ce84a9065bc13272242b4dd922d54f4", checked := Try.checked }
namespace Rows
def none {H : Type} : Left H := { results := [], args := [] }

/-- 'laws.FnExactArrayPack': WHATEVER THE INPUT: true; the input reads as it did. -/
def fnExactArrayPackSpec : ChangeSpec := { name := "fnExactArrayPack", fn := fun _ => fun
  | [d] => { results := [.lit (.bool true)], args := [d] }
  | _ => none }
def fnExactArrayPackRow : OpenClaim := { program := "ytonkiipdobpfgaa", sum := "c5f8463c512aafad0381bbd547bc38694ce84a9065bc13272242b4dd922d54f4", func := "loop.example/g00182/laws.FnExactArrayPack", spec := "fnExactArrayPack", apart := false }
def FnExactArrayPackSaid : Prop := fnExactArrayPackRow.holds Try.pinned (OpenSpec.ofChange fnExactArrayPackSpec)

/-- ITS FALSE NEIGHBOUR: 'it returns false'. Refute it at one input. -/
def fnExactArrayPackWrong : ChangeSpec := { name := "fnExactArrayPack", fn := fun _ => fun
  | [d] => { results := [.lit (.bool false)], args := [d] }
  | _ => none }
def FnExactArrayPackWrongFalsely : Prop := fnExactArrayPackRow.holds Try.pinned (OpenSpec.ofChange fnExactArrayPackWrong)

/-- 'laws.FnExactArrayRead': WHATEVER THE INPUT: true; the input reads as it did. -/
def fnExactArrayReadSpec : ChangeSpec := { name := "fnExactArrayRead", fn := fun _ => fun
  | [d] => { results := [.lit (.bool true)], args := [d] }
  | _ => none }
def fnExactArrayReadRow : OpenClaim := { program := "ytonkiipdobpfgaa", sum := "c5f8463c512aafad0381bbd547bc38694ce84a9065bc13272242b4dd922d54f4", func := "loop.example/g00182/laws.FnExactArrayRead", spec := "fnExactArrayRead", apart := false }
def FnExactArrayReadSaid : Prop := fnExactArrayReadRow.holds Try.pinned (OpenSpec.ofChange fnExactArrayReadSpec)

/-- ITS FALSE NEIGHBOUR: 'it returns false'. Refute it at one input. -/
def fnExactArrayReadWrong : ChangeSpec := { name := "fnExactArrayRead", fn := fun _ => fun
  | [d] => { results := [.lit (.bool false)], args := [d] }
  | _ => none }
def FnExactArrayReadWrongFalsely : Prop := fnExactArrayReadRow.holds Try.pinned (OpenSpec.ofChange fnExactArrayReadWrong)

/-- 'laws.FnArrayBytes': WHATEVER THE INPUT: true; the input reads as it did. -/
def fnArrayBytesSpec : ChangeSpec := { name := "fnArrayBytes", fn := fun _ => fun
  | [d] => { results := [.lit (.bool true)], args := [d] }
  | _ => none }
def fnArrayBytesRow : OpenClaim := { program := "ytonkiipdobpfgaa", sum := "c5f8463c512aafad0381bbd547bc38694ce84a9065bc13272242b4dd922d54f4", func := "loop.example/g00182/laws.FnArrayBytes", spec := "fnArrayBytes", apart := false }
def FnArrayBytesSaid : Prop := fnArrayBytesRow.holds Try.pinned (OpenSpec.ofChange fnArrayBytesSpec)

/-- ITS FALSE NEIGHBOUR: 'it returns false'. Refute it at one input. -/
def fnArrayBytesWrong : ChangeSpec := { name := "fnArrayBytes", fn := fun _ => fun
  | [d] => { results := [.lit (.bool false)], args := [d] }
  | _ => none }
def FnArrayBytesWrongFalsely : Prop := fnArrayBytesRow.holds Try.pinned (OpenSpec.ofChange fnArrayBytesWrong)

/- THE SECOND FORM. 'bulk': how many values and letters a reading holds, each counted each time it is reached (what is shared counts as often as it is met; a slice's spare places count too). A statement '..UptoSaid' is the law's where the arguments, and the package variables that the reading takes, are together of bulk at most 1048576: NARROWER than '..Said'. Prove '..Said' where nothing that the law and all that it calls make is longer than what came in: it says more and counts as full. Else prove '..UptoSaid'. A law counts once. -/
mutual
def uptoBulk {H : Type} : DataW H → Nat
  | .lit (.string bytes) => bytes.length + 1
  | .lit _ => 1
  | .nil => 1
  | .ptr d => uptoBulk d + 1
  | .slice elems spare => uptoBulkAll elems + uptoBulkAll spare + 1
  | .agg parts => uptoBulkAll parts + 1
  | .iface _ d => uptoBulk d + 1
  | .map entries => uptoBulkEntries entries + 1
  | .held _ => 1
def uptoBulkAll {H : Type} : List (DataW H) → Nat
  | [] => 0
  | d :: r => uptoBulk d + uptoBulkAll r
def uptoBulkEntries {H : Type} : List (Lit × DataW H) → Nat
  | [] => 0
  | x :: r => uptoBulkEntry x + uptoBulkEntries r
def uptoBulkEntry {H : Type} : Lit × DataW H → Nat
  | (.string bytes, d) => bytes.length + uptoBulk d + 1
  | (_, d) => uptoBulk d + 1
 end
def uptoSmall : (H : Type) → List (DataW H) → Bool := fun _ ds => decide (uptoBulkAll ds ≤ 1048576)
def OpenSpec.upto (s : _root_.Go.ChangeSpec) : _root_.Go.OpenSpec := { _root_.Go.OpenSpec.ofChange s with cond := some uptoSmall }

/-- 'laws.FnExactArrayPack', WHERE WHAT IT READS IS OF BULK AT MOST 1048576: true; the input reads as it did. -/
def fnExactArrayPackUptoRow : OpenClaim := { program := "ytonkiipdobpfgaa", sum := "c5f8463c512aafad0381bbd547bc38694ce84a9065bc13272242b4dd922d54f4", func := "loop.example/g00182/laws.FnExactArrayPack", spec := "fnExactArrayPack", apart := false, narrowed := true }
def FnExactArrayPackUptoSaid : Prop := fnExactArrayPackUptoRow.holds Try.pinned (OpenSpec.upto fnExactArrayPackSpec)

/-- 'laws.FnExactArrayRead', WHERE WHAT IT READS IS OF BULK AT MOST 1048576: true; the input reads as it did. -/
def fnExactArrayReadUptoRow : OpenClaim := { program := "ytonkiipdobpfgaa", sum := "c5f8463c512aafad0381bbd547bc38694ce84a9065bc13272242b4dd922d54f4", func := "loop.example/g00182/laws.FnExactArrayRead", spec := "fnExactArrayRead", apart := false, narrowed := true }
def FnExactArrayReadUptoSaid : Prop := fnExactArrayReadUptoRow.holds Try.pinned (OpenSpec.upto fnExactArrayReadSpec)

/-- 'laws.FnArrayBytes', WHERE WHAT IT READS IS OF BULK AT MOST 1048576: true; the input reads as it did. -/
def fnArrayBytesUptoRow : OpenClaim := { program := "ytonkiipdobpfgaa", sum := "c5f8463c512aafad0381bbd547bc38694ce84a9065bc13272242b4dd922d54f4", func := "loop.example/g00182/laws.FnArrayBytes", spec := "fnArrayBytes", apart := false, narrowed := true }
def FnArrayBytesUptoSaid : Prop := fnArrayBytesUptoRow.holds Try.pinned (OpenSpec.upto fnArrayBytesSpec)

end Rows
end Go.Proofs.Ytonkiipdobpfgaa
