/-
  DERIVED. GIVEN WITH THE SEED: THE CARDS: each row of YtdcemlghnoecnaaDoorRows.lean that lists a variable, with what it lists TIED to the program's text (the seventh form; the later family's looks); each row that meets fmt, with fmt's text TOLD by the authors' own Lean function (tested against real Go, not proved from fmt's source: count such statements apart). THE CARD IS WHAT COUNTS. Prove the row's statement (the work); the ties are given (YtdcemlghnoecnaaDoorTie.lean); close each card by the builder's one call (the guide's Derived/Test/ToyasCard.lean, 'card_holds'). Laid BY PROGRAM, IN A SANDBOX (cutbox-door.mjs). By AI agents, Wed Nov 11 2026. No macro, syntax, notation, axiom, sorry.
-/
import Derived.Test.YtdcemlghnoecnaaDoorRows
import GoSem.ClaimSeven
namespace Go.Proofs.YtdcemlghnoecnaaDoor
namespace Rows

/-- THE TIED CARD OF 'laws.FnExactShowNum'. -/
def fnExactShowNumCard : Claim7 := { stood := { row := fnExactShowNumRow, standIns := [], harness := (true, "cbd06bbc1b1304764073302f544b398fa226db8822f2ddfe07e40e85488dd877"), looks := false }, kinds := [], alts := [], laidByText := true, laidKinds := [.data, .data, .data], laidTests := true, laidLooks := .later }
def FnExactShowNumCardSaid : Prop := Claim7.holds Tryd.pinned (.plain (OpenSpec.ofChange fnExactShowNumSpec)) fnExactShowNumCard

/-- THE TIED CARD OF 'laws.FnExactShowRow'. -/
def fnExactShowRowCard : Claim7 := { stood := { row := fnExactShowRowRow, standIns := [], harness := (true, "cbd06bbc1b1304764073302f544b398fa226db8822f2ddfe07e40e85488dd877"), looks := false }, kinds := [], alts := [], laidByText := true, laidKinds := [.data, .data, .data], laidTests := true, laidLooks := .later }
def FnExactShowRowCardSaid : Prop := Claim7.holds Tryd.pinned (.plain (OpenSpec.ofChange fnExactShowRowSpec)) fnExactShowRowCard

/-- THE TIED CARD OF 'laws.FnExactShowWide'. -/
def fnExactShowWideCard : Claim7 := { stood := { row := fnExactShowWideRow, standIns := [], harness := (true, "cbd06bbc1b1304764073302f544b398fa226db8822f2ddfe07e40e85488dd877"), looks := false }, kinds := [], alts := [], laidByText := true, laidKinds := [.data, .data, .data], laidTests := true, laidLooks := .later }
def FnExactShowWideCardSaid : Prop := Claim7.holds Tryd.pinned (.plain (OpenSpec.ofChange fnExactShowWideSpec)) fnExactShowWideCard

/-- THE TIED CARD OF 'laws.FnExactShow'. -/
def fnExactShowCard : Claim7 := { stood := { row := fnExactShowRow, standIns := [], harness := (true, "cbd06bbc1b1304764073302f544b398fa226db8822f2ddfe07e40e85488dd877"), looks := false }, kinds := [], alts := [], laidByText := true, laidKinds := [.data, .data, .data], laidTests := true, laidLooks := .later }
def FnExactShowCardSaid : Prop := Claim7.holds Tryd.pinned (.plain (OpenSpec.ofChange fnExactShowSpec)) fnExactShowCard

/-- THE TIED CARD OF 'laws.FnShow'. -/
def fnShowCard : Claim7 := { stood := { row := fnShowRow, standIns := [], harness := (true, "cbd06bbc1b1304764073302f544b398fa226db8822f2ddfe07e40e85488dd877"), looks := false }, kinds := [], alts := [], laidByText := true, laidKinds := [.data, .data, .data], laidTests := true, laidLooks := .later }
def FnShowCardSaid : Prop := Claim7.holds Tryd.pinned (.plain (OpenSpec.ofChange fnShowSpec)) fnShowCard

/-- THE TIED CARD OF 'laws.FnWidth'. -/
def fnWidthCard : Claim7 := { stood := { row := fnWidthRow, standIns := [], harness := (true, "cbd06bbc1b1304764073302f544b398fa226db8822f2ddfe07e40e85488dd877"), looks := false }, kinds := [], alts := [], laidByText := true, laidKinds := [.data, .data, .data], laidTests := true, laidLooks := .later }
def FnWidthCardSaid : Prop := Claim7.holds Tryd.pinned (.plain (OpenSpec.ofChange fnWidthSpec)) fnWidthCard

/-- THE SECOND FORM's CARD OF 'laws.FnExactShowNum'. -/
def fnExactShowNumUptoCard : Claim7 := { stood := { row := fnExactShowNumUptoRow, standIns := [], harness := (true, "cbd06bbc1b1304764073302f544b398fa226db8822f2ddfe07e40e85488dd877"), looks := false }, kinds := [], alts := [], laidByText := true, laidKinds := [.data, .data, .data], laidTests := true, laidLooks := .later }
def FnExactShowNumUptoCardSaid : Prop := Claim7.holds Tryd.pinned (.plain (OpenSpec.upto fnExactShowNumSpec)) fnExactShowNumUptoCard

/-- THE SECOND FORM's CARD OF 'laws.FnExactShowRow'. -/
def fnExactShowRowUptoCard : Claim7 := { stood := { row := fnExactShowRowUptoRow, standIns := [], harness := (true, "cbd06bbc1b1304764073302f544b398fa226db8822f2ddfe07e40e85488dd877"), looks := false }, kinds := [], alts := [], laidByText := true, laidKinds := [.data, .data, .data], laidTests := true, laidLooks := .later }
def FnExactShowRowUptoCardSaid : Prop := Claim7.holds Tryd.pinned (.plain (OpenSpec.upto fnExactShowRowSpec)) fnExactShowRowUptoCard

/-- THE SECOND FORM's CARD OF 'laws.FnExactShowWide'. -/
def fnExactShowWideUptoCard : Claim7 := { stood := { row := fnExactShowWideUptoRow, standIns := [], harness := (true, "cbd06bbc1b1304764073302f544b398fa226db8822f2ddfe07e40e85488dd877"), looks := false }, kinds := [], alts := [], laidByText := true, laidKinds := [.data, .data, .data], laidTests := true, laidLooks := .later }
def FnExactShowWideUptoCardSaid : Prop := Claim7.holds Tryd.pinned (.plain (OpenSpec.upto fnExactShowWideSpec)) fnExactShowWideUptoCard

/-- THE SECOND FORM's CARD OF 'laws.FnExactShow'. -/
def fnExactShowUptoCard : Claim7 := { stood := { row := fnExactShowUptoRow, standIns := [], harness := (true, "cbd06bbc1b1304764073302f544b398fa226db8822f2ddfe07e40e85488dd877"), looks := false }, kinds := [], alts := [], laidByText := true, laidKinds := [.data, .data, .data], laidTests := true, laidLooks := .later }
def FnExactShowUptoCardSaid : Prop := Claim7.holds Tryd.pinned (.plain (OpenSpec.upto fnExactShowSpec)) fnExactShowUptoCard

/-- THE SECOND FORM's CARD OF 'laws.FnShow'. -/
def fnShowUptoCard : Claim7 := { stood := { row := fnShowUptoRow, standIns := [], harness := (true, "cbd06bbc1b1304764073302f544b398fa226db8822f2ddfe07e40e85488dd877"), looks := false }, kinds := [], alts := [], laidByText := true, laidKinds := [.data, .data, .data], laidTests := true, laidLooks := .later }
def FnShowUptoCardSaid : Prop := Claim7.holds Tryd.pinned (.plain (OpenSpec.upto fnShowSpec)) fnShowUptoCard

/-- THE SECOND FORM's CARD OF 'laws.FnWidth'. -/
def fnWidthUptoCard : Claim7 := { stood := { row := fnWidthUptoRow, standIns := [], harness := (true, "cbd06bbc1b1304764073302f544b398fa226db8822f2ddfe07e40e85488dd877"), looks := false }, kinds := [], alts := [], laidByText := true, laidKinds := [.data, .data, .data], laidTests := true, laidLooks := .later }
def FnWidthUptoCardSaid : Prop := Claim7.holds Tryd.pinned (.plain (OpenSpec.upto fnWidthSpec)) fnWidthUptoCard
end Rows
end Go.Proofs.YtdcemlghnoecnaaDoor
