/-
  DERIVED. GIVEN WITH THE SEED: THE CARDS: each row of YtiajjgehnmkokaaGreatDoorRows.lean that lists a variable, with what it lists TIED to the program's text (the seventh form; the later family's looks); each row that meets fmt, with fmt's text TOLD by the authors' own Lean function (tested against real Go, not proved from fmt's source: count such statements apart). THE CARD IS WHAT COUNTS. Prove the row's statement (the work); the ties are given (YtiajjgehnmkokaaGreatDoorTie.lean); close each card by the builder's one call (the guide's Derived/Test/ToyasCard.lean, 'card_holds'). Laid BY PROGRAM, IN A SANDBOX (cutbox-door.mjs). By AI agents, Wed Nov 11 2026. No macro, syntax, notation, axiom, sorry.
-/
import Derived.Test.YtiajjgehnmkokaaGreatDoorRows
import GoSem.ClaimSeven
namespace Go.Proofs.YtiajjgehnmkokaaGreatDoor
namespace Rows

/-- THE TIED CARD OF 'aqueductlaw10.ExprEvals'. -/
def exprEvalsCard : Claim7 := { stood := { row := exprEvalsRow, standIns := [], harness := (true, "4c9138e971672e0bff71b35a83536fa0f3314f64c5e09028fe8e820db8a36bd8"), looks := false }, kinds := [], alts := [], laidByText := true, laidKinds := [.data, .pinned], laidTests := true, laidLooks := .later }
def ExprEvalsCardSaid : Prop := Claim7.holds Tryz.pinned (.plain (OpenSpec.ofChange exprEvalsSpec)) exprEvalsCard

/-- THE TIED CARD OF 'aqueductlaw10.ExprCompares'. -/
def exprComparesCard : Claim7 := { stood := { row := exprComparesRow, standIns := [], harness := (true, "4c9138e971672e0bff71b35a83536fa0f3314f64c5e09028fe8e820db8a36bd8"), looks := false }, kinds := [], alts := [], laidByText := true, laidKinds := [.data, .pinned], laidTests := true, laidLooks := .later }
def ExprComparesCardSaid : Prop := Claim7.holds Tryz.pinned (.plain (OpenSpec.ofChange exprComparesSpec)) exprComparesCard

/-- THE TIED CARD OF 'aqueductlaw10.ExprLists'. -/
def exprListsCard : Claim7 := { stood := { row := exprListsRow, standIns := [], harness := (true, "4c9138e971672e0bff71b35a83536fa0f3314f64c5e09028fe8e820db8a36bd8"), looks := false }, kinds := [], alts := [], laidByText := true, laidKinds := [.data, .pinned], laidTests := true, laidLooks := .later }
def ExprListsCardSaid : Prop := Claim7.holds Tryz.pinned (.plain (OpenSpec.ofChange exprListsSpec)) exprListsCard

/-- THE TIED CARD OF 'aqueductlaw10.ExprKnown'. -/
def exprKnownCard : Claim7 := { stood := { row := exprKnownRow, standIns := [], harness := (true, "4c9138e971672e0bff71b35a83536fa0f3314f64c5e09028fe8e820db8a36bd8"), looks := false }, kinds := [], alts := [], laidByText := true, laidKinds := [.data, .pinned], laidTests := true, laidLooks := .later }
def ExprKnownCardSaid : Prop := Claim7.holds Tryz.pinned (.plain (OpenSpec.ofChange exprKnownSpec)) exprKnownCard

/-- THE SECOND FORM's CARD OF 'aqueductlaw10.ExprEvals'. -/
def exprEvalsUptoCard : Claim7 := { stood := { row := exprEvalsUptoRow, standIns := [], harness := (true, "4c9138e971672e0bff71b35a83536fa0f3314f64c5e09028fe8e820db8a36bd8"), looks := false }, kinds := [], alts := [], laidByText := true, laidKinds := [.data, .pinned], laidTests := true, laidLooks := .later }
def ExprEvalsUptoCardSaid : Prop := Claim7.holds Tryz.pinned (.plain (OpenSpec.upto exprEvalsSpec)) exprEvalsUptoCard

/-- THE SECOND FORM's CARD OF 'aqueductlaw10.ExprCompares'. -/
def exprComparesUptoCard : Claim7 := { stood := { row := exprComparesUptoRow, standIns := [], harness := (true, "4c9138e971672e0bff71b35a83536fa0f3314f64c5e09028fe8e820db8a36bd8"), looks := false }, kinds := [], alts := [], laidByText := true, laidKinds := [.data, .pinned], laidTests := true, laidLooks := .later }
def ExprComparesUptoCardSaid : Prop := Claim7.holds Tryz.pinned (.plain (OpenSpec.upto exprComparesSpec)) exprComparesUptoCard

/-- THE SECOND FORM's CARD OF 'aqueductlaw10.ExprLists'. -/
def exprListsUptoCard : Claim7 := { stood := { row := exprListsUptoRow, standIns := [], harness := (true, "4c9138e971672e0bff71b35a83536fa0f3314f64c5e09028fe8e820db8a36bd8"), looks := false }, kinds := [], alts := [], laidByText := true, laidKinds := [.data, .pinned], laidTests := true, laidLooks := .later }
def ExprListsUptoCardSaid : Prop := Claim7.holds Tryz.pinned (.plain (OpenSpec.upto exprListsSpec)) exprListsUptoCard

/-- THE SECOND FORM's CARD OF 'aqueductlaw10.ExprKnown'. -/
def exprKnownUptoCard : Claim7 := { stood := { row := exprKnownUptoRow, standIns := [], harness := (true, "4c9138e971672e0bff71b35a83536fa0f3314f64c5e09028fe8e820db8a36bd8"), looks := false }, kinds := [], alts := [], laidByText := true, laidKinds := [.data, .pinned], laidTests := true, laidLooks := .later }
def ExprKnownUptoCardSaid : Prop := Claim7.holds Tryz.pinned (.plain (OpenSpec.upto exprKnownSpec)) exprKnownUptoCard
end Rows
end Go.Proofs.YtiajjgehnmkokaaGreatDoor
