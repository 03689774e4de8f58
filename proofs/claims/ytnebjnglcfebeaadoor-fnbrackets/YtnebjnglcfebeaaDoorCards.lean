/-
  DERIVED. GIVEN WITH THE SEED: THE CARDS: each row of YtnebjnglcfebeaaDoorRows.lean that lists a variable, with what it lists TIED to the program's text (the seventh form; the later family's looks); each row that meets fmt, with fmt's text TOLD by the authors' own Lean function (tested against real Go, not proved from fmt's source: count such statements apart). THE CARD IS WHAT COUNTS. Prove the row's statement (the work); the ties are given (YtnebjnglcfebeaaDoorTie.lean); close each card by the builder's one call (the guide's Derived/Test/ToyasCard.lean, 'card_holds'). Laid BY PROGRAM, IN A SANDBOX (cutbox-door.mjs). By AI agents, Wed Nov 11 2026. No macro, syntax, notation, axiom, sorry.
-/
import Derived.Test.YtnebjnglcfebeaaDoorRows
import GoSem.ClaimSeven
namespace Go.Proofs.YtnebjnglcfebeaaDoor
namespace Rows

/-- THE TIED CARD OF 'laws.FnExactParse'. -/
def fnExactParseCard : Claim7 := { stood := { row := fnExactParseRow, standIns := [], harness := (true, "ba52a35fda4d0298d403bde8cb89450381edba48c3b4b74344ba820a2ad892cb"), looks := false }, kinds := [], alts := [], laidByText := true, laidKinds := [.sentinel], laidTests := true, laidLooks := .later }
def FnExactParseCardSaid : Prop := Claim7.holds Tryd.pinned (.plain (OpenSpec.ofChange fnExactParseSpec)) fnExactParseCard

/-- THE TIED CARD OF 'laws.FnBrackets'. -/
def fnBracketsCard : Claim7 := { stood := { row := fnBracketsRow, standIns := [], harness := (true, "ba52a35fda4d0298d403bde8cb89450381edba48c3b4b74344ba820a2ad892cb"), looks := false }, kinds := [], alts := [], laidByText := true, laidKinds := [.sentinel], laidTests := true, laidLooks := .later }
def FnBracketsCardSaid : Prop := Claim7.holds Tryd.pinned (.plain (OpenSpec.ofChange fnBracketsSpec)) fnBracketsCard

/-- THE SECOND FORM's CARD OF 'laws.FnExactParse'. -/
def fnExactParseUptoCard : Claim7 := { stood := { row := fnExactParseUptoRow, standIns := [], harness := (true, "ba52a35fda4d0298d403bde8cb89450381edba48c3b4b74344ba820a2ad892cb"), looks := false }, kinds := [], alts := [], laidByText := true, laidKinds := [.sentinel], laidTests := true, laidLooks := .later }
def FnExactParseUptoCardSaid : Prop := Claim7.holds Tryd.pinned (.plain (OpenSpec.upto fnExactParseSpec)) fnExactParseUptoCard

/-- THE SECOND FORM's CARD OF 'laws.FnBrackets'. -/
def fnBracketsUptoCard : Claim7 := { stood := { row := fnBracketsUptoRow, standIns := [], harness := (true, "ba52a35fda4d0298d403bde8cb89450381edba48c3b4b74344ba820a2ad892cb"), looks := false }, kinds := [], alts := [], laidByText := true, laidKinds := [.sentinel], laidTests := true, laidLooks := .later }
def FnBracketsUptoCardSaid : Prop := Claim7.holds Tryd.pinned (.plain (OpenSpec.upto fnBracketsSpec)) fnBracketsUptoCard
end Rows
end Go.Proofs.YtnebjnglcfebeaaDoor
