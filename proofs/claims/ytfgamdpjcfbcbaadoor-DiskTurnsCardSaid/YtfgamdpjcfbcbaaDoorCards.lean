/-
  DERIVED. GIVEN WITH THE SEED: THE CARDS: each row of YtfgamdpjcfbcbaaDoorRows.lean that lists a variable, with what it lists TIED to the program's text (the seventh form; the later family's looks); each row that meets fmt, with fmt's text TOLD by the authors' own Lean function (tested against real Go, not proved from fmt's source: count such statements apart). THE CARD IS WHAT COUNTS. Prove the row's statement (the work); the ties are given (YtfgamdpjcfbcbaaDoorTie.lean); close each card by the builder's one call (the guide's Derived/Test/ToyasCard.lean, 'card_holds'). Laid BY PROGRAM, IN A SANDBOX (cutbox-door.mjs). By AI agents, Wed Nov 11 2026. No macro, syntax, notation, axiom, sorry.
-/
import Derived.Test.YtfgamdpjcfbcbaaDoorRows
import GoSem.ClaimSeven
namespace Go.Proofs.YtfgamdpjcfbcbaaDoor
namespace Rows

/-- THE TIED CARD OF 'aqueductlaw1.DiskLeast'. -/
def diskLeastCard : Claim7 := { stood := { row := diskLeastRow, standIns := [], harness := (true, "54eee9d767ba0ef2a0ea30521bab10950060dd0d9a5d76cb00b027fcc385915e"), looks := false }, kinds := [], alts := [], laidByText := true, laidKinds := [.data], laidTests := true, laidLooks := .later }
def DiskLeastCardSaid : Prop := Claim7.holds Tryd.pinned (.plain (OpenSpec.ofChange diskLeastSpec)) diskLeastCard

/-- THE TIED CARD OF 'aqueductlaw1.DiskFails'. -/
def diskFailsCard : Claim7 := { stood := { row := diskFailsRow, standIns := [], harness := (true, "54eee9d767ba0ef2a0ea30521bab10950060dd0d9a5d76cb00b027fcc385915e"), looks := false }, kinds := [], alts := [], laidByText := true, laidKinds := [.data], laidTests := true, laidLooks := .later }
def DiskFailsCardSaid : Prop := Claim7.holds Tryd.pinned (.plain (OpenSpec.ofChange diskFailsSpec)) diskFailsCard

/-- THE TIED CARD OF 'aqueductlaw1.DiskTurns'. -/
def diskTurnsCard : Claim7 := { stood := { row := diskTurnsRow, standIns := [], harness := (true, "54eee9d767ba0ef2a0ea30521bab10950060dd0d9a5d76cb00b027fcc385915e"), looks := false }, kinds := [], alts := [], laidByText := true, laidKinds := [.data], laidTests := true, laidLooks := .later }
def DiskTurnsCardSaid : Prop := Claim7.holds Tryd.pinned (.plain (OpenSpec.ofChange diskTurnsSpec)) diskTurnsCard

/-- THE SECOND FORM's CARD OF 'aqueductlaw1.DiskLeast'. -/
def diskLeastUptoCard : Claim7 := { stood := { row := diskLeastUptoRow, standIns := [], harness := (true, "54eee9d767ba0ef2a0ea30521bab10950060dd0d9a5d76cb00b027fcc385915e"), looks := false }, kinds := [], alts := [], laidByText := true, laidKinds := [.data], laidTests := true, laidLooks := .later }
def DiskLeastUptoCardSaid : Prop := Claim7.holds Tryd.pinned (.plain (OpenSpec.upto diskLeastSpec)) diskLeastUptoCard

/-- THE SECOND FORM's CARD OF 'aqueductlaw1.DiskFails'. -/
def diskFailsUptoCard : Claim7 := { stood := { row := diskFailsUptoRow, standIns := [], harness := (true, "54eee9d767ba0ef2a0ea30521bab10950060dd0d9a5d76cb00b027fcc385915e"), looks := false }, kinds := [], alts := [], laidByText := true, laidKinds := [.data], laidTests := true, laidLooks := .later }
def DiskFailsUptoCardSaid : Prop := Claim7.holds Tryd.pinned (.plain (OpenSpec.upto diskFailsSpec)) diskFailsUptoCard

/-- THE SECOND FORM's CARD OF 'aqueductlaw1.DiskTurns'. -/
def diskTurnsUptoCard : Claim7 := { stood := { row := diskTurnsUptoRow, standIns := [], harness := (true, "54eee9d767ba0ef2a0ea30521bab10950060dd0d9a5d76cb00b027fcc385915e"), looks := false }, kinds := [], alts := [], laidByText := true, laidKinds := [.data], laidTests := true, laidLooks := .later }
def DiskTurnsUptoCardSaid : Prop := Claim7.holds Tryd.pinned (.plain (OpenSpec.upto diskTurnsSpec)) diskTurnsUptoCard
end Rows
end Go.Proofs.YtfgamdpjcfbcbaaDoor
