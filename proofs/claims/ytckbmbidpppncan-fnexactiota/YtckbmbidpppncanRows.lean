/-
  No cell of these rows narrows 'for every input' (looked for: loops, veiled, ifaces, maps, wideKeys, modest, calm, conditions, laid).
  DERIVED. THE GIVEN ROWS OF THIS SEAT. 6 by the template 'for every input the law returns true; each argument reads behind the call as it read before'; 0 by the template 'total and deterministic' (their statements: YtckbmbidpppncanTotals.lean).
  GIVEN WITH THE SEED: the statements are not yours to turn. If you find one false, say at which input.
  Laid BY PROGRAM, IN A SANDBOX (cutbox-rows.mjs): the forced cells as the released guide's own fill.sh prints them over the translation b8c81bbeda5fda02… (all of the seat's roots in one cut). By AI agents, Wed Nov 11 2026. No macro, syntax, notation, axiom, sorry.
-/
import Derived.Test.YtckbmbidpppncanChecked
import GoSem.Claim
import GoSem.ClaimJoined
import GoSem.ClaimMapViews
import Derived.JoinedTies
import Derived.KernelRfl
namespace Go.Proofs.Ytckbmbidpppncan
/- THE CELL 'sum', in the pinned program and in every row, IS THE sha256 OF THE DUMP (.gsa) THAT YtckbmbidpppncanProg.lean LOADS. Nothing in Lean hashes anything: it is a label: what it is worth is what the hold of that sum in a sandbox is worth. -/
noncomputable def Try.pinned : Pinned := { name := "ytckbmbidpppncan", sum := "b8c81bbeda5fda026654adbe76ef299917c55f62329caea6c55976f96b01cc2c", checked := Try.checked }
namespace Rows
def none {H : Type} : Left H := { results := [], args := [] }

/-- 'laws.FnExactNumAt': WHATEVER THE INPUT: true; the input reads as it did. -/
def fnExactNumAtSpec : ChangeSpec := { name := "fnExactNumAt", fn := fun _ => fun
  | [d1, d2] => { results := [.lit (.bool true)], args := [d1, d2] }
  | _ => none }
def fnExactNumAtRow : OpenClaim := { program := "ytckbmbidpppncan", sum := "b8c81bbeda5fda026654adbe76ef299917c55f62329caea6c55976f96b01cc2c", func := "loop.example/g00182/laws.FnExactNumAt", spec := "fnExactNumAt", plainKeys := false, apart := false }
def FnExactNumAtSaid : Prop := fnExactNumAtRow.holds Try.pinned (OpenSpec.ofChange fnExactNumAtSpec)

/-- ITS FALSE NEIGHBOUR: 'it returns false'. Refute it at one input. -/
def fnExactNumAtWrong : ChangeSpec := { name := "fnExactNumAt", fn := fun _ => fun
  | [d1, d2] => { results := [.lit (.bool false)], args := [d1, d2] }
  | _ => none }
def FnExactNumAtWrongFalsely : Prop := fnExactNumAtRow.holds Try.pinned (OpenSpec.ofChange fnExactNumAtWrong)

/-- 'laws.FnExactRows': WHATEVER THE INPUT: true; the input reads as it did. -/
def fnExactRowsSpec : ChangeSpec := { name := "fnExactRows", fn := fun _ => fun
  | [d] => { results := [.lit (.bool true)], args := [d] }
  | _ => none }
def fnExactRowsRow : OpenClaim := { program := "ytckbmbidpppncan", sum := "b8c81bbeda5fda026654adbe76ef299917c55f62329caea6c55976f96b01cc2c", func := "loop.example/g00182/laws.FnExactRows", spec := "fnExactRows", unfollowed := true, recurses := true, plainKeys := false, apart := false }
def FnExactRowsSaid : Prop := fnExactRowsRow.holds Try.pinned (OpenSpec.ofChange fnExactRowsSpec)

/-- ITS FALSE NEIGHBOUR: 'it returns false'. Refute it at one input. -/
def fnExactRowsWrong : ChangeSpec := { name := "fnExactRows", fn := fun _ => fun
  | [d] => { results := [.lit (.bool false)], args := [d] }
  | _ => none }
def FnExactRowsWrongFalsely : Prop := fnExactRowsRow.holds Try.pinned (OpenSpec.ofChange fnExactRowsWrong)

/-- 'laws.FnExactEachOne': WHATEVER THE INPUT: true; the input reads as it did. -/
def fnExactEachOneSpec : ChangeSpec := { name := "fnExactEachOne", fn := fun _ => fun
  | [d1, d2] => { results := [.lit (.bool true)], args := [d1, d2] }
  | _ => none }
def fnExactEachOneRow : OpenClaim := { program := "ytckbmbidpppncan", sum := "b8c81bbeda5fda026654adbe76ef299917c55f62329caea6c55976f96b01cc2c", func := "loop.example/g00182/laws.FnExactEachOne", spec := "fnExactEachOne", unfollowed := true, recurses := true, plainKeys := false, apart := false }
def FnExactEachOneSaid : Prop := fnExactEachOneRow.holds Try.pinned (OpenSpec.ofChange fnExactEachOneSpec)

/-- ITS FALSE NEIGHBOUR: 'it returns false'. Refute it at one input. -/
def fnExactEachOneWrong : ChangeSpec := { name := "fnExactEachOne", fn := fun _ => fun
  | [d1, d2] => { results := [.lit (.bool false)], args := [d1, d2] }
  | _ => none }
def FnExactEachOneWrongFalsely : Prop := fnExactEachOneRow.holds Try.pinned (OpenSpec.ofChange fnExactEachOneWrong)

/-- 'laws.FnExactFit': WHATEVER THE INPUT: true; the input reads as it did. -/
def fnExactFitSpec : ChangeSpec := { name := "fnExactFit", fn := fun _ => fun
  | [d1, d2] => { results := [.lit (.bool true)], args := [d1, d2] }
  | _ => none }
def fnExactFitRow : OpenClaim := { program := "ytckbmbidpppncan", sum := "b8c81bbeda5fda026654adbe76ef299917c55f62329caea6c55976f96b01cc2c", func := "loop.example/g00182/laws.FnExactFit", spec := "fnExactFit", plainKeys := false, apart := false }
def FnExactFitSaid : Prop := fnExactFitRow.holds Try.pinned (OpenSpec.ofChange fnExactFitSpec)

/-- ITS FALSE NEIGHBOUR: 'it returns false'. Refute it at one input. -/
def fnExactFitWrong : ChangeSpec := { name := "fnExactFit", fn := fun _ => fun
  | [d1, d2] => { results := [.lit (.bool false)], args := [d1, d2] }
  | _ => none }
def FnExactFitWrongFalsely : Prop := fnExactFitRow.holds Try.pinned (OpenSpec.ofChange fnExactFitWrong)

/-- 'laws.FnExactEachTwo': WHATEVER THE INPUT: true; the input reads as it did. -/
def fnExactEachTwoSpec : ChangeSpec := { name := "fnExactEachTwo", fn := fun _ => fun
  | [d1, d2, d3] => { results := [.lit (.bool true)], args := [d1, d2, d3] }
  | _ => none }
def fnExactEachTwoRow : OpenClaim := { program := "ytckbmbidpppncan", sum := "b8c81bbeda5fda026654adbe76ef299917c55f62329caea6c55976f96b01cc2c", func := "loop.example/g00182/laws.FnExactEachTwo", spec := "fnExactEachTwo", unfollowed := true, recurses := true, plainKeys := false, apart := false }
def FnExactEachTwoSaid : Prop := fnExactEachTwoRow.holds Try.pinned (OpenSpec.ofChange fnExactEachTwoSpec)

/-- ITS FALSE NEIGHBOUR: 'it returns false'. Refute it at one input. -/
def fnExactEachTwoWrong : ChangeSpec := { name := "fnExactEachTwo", fn := fun _ => fun
  | [d1, d2, d3] => { results := [.lit (.bool false)], args := [d1, d2, d3] }
  | _ => none }
def FnExactEachTwoWrongFalsely : Prop := fnExactEachTwoRow.holds Try.pinned (OpenSpec.ofChange fnExactEachTwoWrong)

/-- 'laws.FnExactIota': WHATEVER THE INPUT: true; the input reads as it did. -/
def fnExactIotaSpec : ChangeSpec := { name := "fnExactIota", fn := fun _ => fun
  | [d] => { results := [.lit (.bool true)], args := [d] }
  | _ => none }
def fnExactIotaRow : OpenClaim := { program := "ytckbmbidpppncan", sum := "b8c81bbeda5fda026654adbe76ef299917c55f62329caea6c55976f96b01cc2c", func := "loop.example/g00182/laws.FnExactIota", spec := "fnExactIota", plainKeys := false, apart := false }
def FnExactIotaSaid : Prop := fnExactIotaRow.holds Try.pinned (OpenSpec.ofChange fnExactIotaSpec)

/-- ITS FALSE NEIGHBOUR: 'it returns false'. Refute it at one input. -/
def fnExactIotaWrong : ChangeSpec := { name := "fnExactIota", fn := fun _ => fun
  | [d] => { results := [.lit (.bool false)], args := [d] }
  | _ => none }
def FnExactIotaWrongFalsely : Prop := fnExactIotaRow.holds Try.pinned (OpenSpec.ofChange fnExactIotaWrong)

/- THE SECOND FORM. 'bulk': how many values and letters a reading holds, each counted each time it is reached (what is shared counts as often as it is met; a slice's spare places count too). A statement '..UptoSaid' is the law's where the arguments, and the package variables that the reading takes, are together of bulk at most 1048576: NARROWER than '..Said'. Prove '..Said' where nothing that the law and all that it calls make is longer than what came in: it says more and counts as full. Else prove '..UptoSaid'. A law counts once. -/
mutual
def uptoBulk {H : Type} : DataW H → Nat
  | .lit (.string bytes) => bytes.length + 1
  | .lit _ => 1
  | .nil => 1
  | .ptr d => uptoBulk d + 1
  | .slice elems spare => uptoBulkAll elems + uptoBulkAll spare + 1
  | .agg parts => uptoBulkAll parts + 1
  | .iface _ d => uptoBulk d + 1
  | .map entries => uptoBulkEntries entries + 1
  | .held _ => 1
def uptoBulkAll {H : Type} : List (DataW H) → Nat
  | [] => 0
  | d :: r => uptoBulk d + uptoBulkAll r
def uptoBulkEntries {H : Type} : List (Lit × DataW H) → Nat
  | [] => 0
  | x :: r => uptoBulkEntry x + uptoBulkEntries r
def uptoBulkEntry {H : Type} : Lit × DataW H → Nat
  | (.string bytes, d) => bytes.length + uptoBulk d + 1
  | (_, d) => uptoBulk d + 1
 end
def uptoSmall : (H : Type) → List (DataW H) → Bool := fun _ ds => decide (uptoBulkAll ds ≤ 1048576)
def OpenSpec.upto (s : _root_.Go.ChangeSpec) : _root_.Go.OpenSpec := { _root_.Go.OpenSpec.ofChange s with cond := some uptoSmall }

/-- 'laws.FnExactNumAt', WHERE WHAT IT READS IS OF BULK AT MOST 1048576: true; the input reads as it did. -/
def fnExactNumAtUptoRow : OpenClaim := { program := "ytckbmbidpppncan", sum := "b8c81bbeda5fda026654adbe76ef299917c55f62329caea6c55976f96b01cc2c", func := "loop.example/g00182/laws.FnExactNumAt", spec := "fnExactNumAt", plainKeys := false, apart := false, narrowed := true }
def FnExactNumAtUptoSaid : Prop := fnExactNumAtUptoRow.holds Try.pinned (OpenSpec.upto fnExactNumAtSpec)

/-- 'laws.FnExactRows', WHERE WHAT IT READS IS OF BULK AT MOST 1048576: true; the input reads as it did. -/
def fnExactRowsUptoRow : OpenClaim := { program := "ytckbmbidpppncan", sum := "b8c81bbeda5fda026654adbe76ef299917c55f62329caea6c55976f96b01cc2c", func := "loop.example/g00182/laws.FnExactRows", spec := "fnExactRows", unfollowed := true, recurses := true, plainKeys := false, apart := false, narrowed := true }
def FnExactRowsUptoSaid : Prop := fnExactRowsUptoRow.holds Try.pinned (OpenSpec.upto fnExactRowsSpec)

/-- 'laws.FnExactEachOne', WHERE WHAT IT READS IS OF BULK AT MOST 1048576: true; the input reads as it did. -/
def fnExactEachOneUptoRow : OpenClaim := { program := "ytckbmbidpppncan", sum := "b8c81bbeda5fda026654adbe76ef299917c55f62329caea6c55976f96b01cc2c", func := "loop.example/g00182/laws.FnExactEachOne", spec := "fnExactEachOne", unfollowed := true, recurses := true, plainKeys := false, apart := false, narrowed := true }
def FnExactEachOneUptoSaid : Prop := fnExactEachOneUptoRow.holds Try.pinned (OpenSpec.upto fnExactEachOneSpec)

/-- 'laws.FnExactFit', WHERE WHAT IT READS IS OF BULK AT MOST 1048576: true; the input reads as it did. -/
def fnExactFitUptoRow : OpenClaim := { program := "ytckbmbidpppncan", sum := "b8c81bbeda5fda026654adbe76ef299917c55f62329caea6c55976f96b01cc2c", func := "loop.example/g00182/laws.FnExactFit", spec := "fnExactFit", plainKeys := false, apart := false, narrowed := true }
def FnExactFitUptoSaid : Prop := fnExactFitUptoRow.holds Try.pinned (OpenSpec.upto fnExactFitSpec)

/-- 'laws.FnExactEachTwo', WHERE WHAT IT READS IS OF BULK AT MOST 1048576: true; the input reads as it did. -/
def fnExactEachTwoUptoRow : OpenClaim := { program := "ytckbmbidpppncan", sum := "b8c81bbeda5fda026654adbe76ef299917c55f62329caea6c55976f96b01cc2c", func := "loop.example/g00182/laws.FnExactEachTwo", spec := "fnExactEachTwo", unfollowed := true, recurses := true, plainKeys := false, apart := false, narrowed := true }
def FnExactEachTwoUptoSaid : Prop := fnExactEachTwoUptoRow.holds Try.pinned (OpenSpec.upto fnExactEachTwoSpec)

/-- 'laws.FnExactIota', WHERE WHAT IT READS IS OF BULK AT MOST 1048576: true; the input reads as it did. -/
def fnExactIotaUptoRow : OpenClaim := { program := "ytckbmbidpppncan", sum := "b8c81bbeda5fda026654adbe76ef299917c55f62329caea6c55976f96b01cc2c", func := "loop.example/g00182/laws.FnExactIota", spec := "fnExactIota", plainKeys := false, apart := false, narrowed := true }
def FnExactIotaUptoSaid : Prop := fnExactIotaUptoRow.holds Try.pinned (OpenSpec.upto fnExactIotaSpec)

end Rows
end Go.Proofs.Ytckbmbidpppncan
