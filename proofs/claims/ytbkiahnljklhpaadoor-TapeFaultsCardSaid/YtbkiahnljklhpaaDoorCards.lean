/-
  DERIVED. GIVEN WITH THE SEED: THE CARDS: each row of YtbkiahnljklhpaaDoorRows.lean that lists a variable, with what it lists TIED to the program's text (the seventh form; the later family's looks); each row that meets fmt, with fmt's text TOLD by the authors' own Lean function (tested against real Go, not proved from fmt's source: count such statements apart). THE CARD IS WHAT COUNTS. Prove the row's statement (the work); the ties are given (YtbkiahnljklhpaaDoorTie.lean); close each card by the builder's one call (the guide's Derived/Test/ToyasCard.lean, 'card_holds'). Laid BY PROGRAM, IN A SANDBOX (cutbox-door.mjs). By AI agents, Wed Nov 11 2026. No macro, syntax, notation, axiom, sorry.
-/
import Derived.Test.YtbkiahnljklhpaaDoorRows
import GoSem.ClaimSeven
namespace Go.Proofs.YtbkiahnljklhpaaDoor
namespace Rows

/-- THE TIED CARD OF 'aqueductlaw1.DiskFails'. -/
def diskFailsCard : Claim7 := { stood := { row := diskFailsRow, standIns := [], harness := (true, "52848eb34f641b182e192c4e6e1d32e906c84c6ca6847d44952eedc8943dcf33"), looks := false }, kinds := [], alts := [], laidByText := true, laidKinds := [.data], laidTests := true, laidLooks := .later }
def DiskFailsCardSaid : Prop := Claim7.holds Tryd.pinned (.plain (OpenSpec.ofChange diskFailsSpec)) diskFailsCard

/-- THE TIED CARD OF 'aqueductlaw4.TapeFaults'. -/
def tapeFaultsCard : Claim7 := { stood := { row := tapeFaultsRow, standIns := [], harness := (true, "52848eb34f641b182e192c4e6e1d32e906c84c6ca6847d44952eedc8943dcf33"), looks := false }, kinds := [], alts := [], laidByText := true, laidKinds := [.data, .data], laidTests := true, laidLooks := .later }
def TapeFaultsCardSaid : Prop := Claim7.holds Tryd.pinned (.plain (OpenSpec.ofChange tapeFaultsSpec)) tapeFaultsCard

/-- THE SECOND FORM's CARD OF 'aqueductlaw1.DiskFails'. -/
def diskFailsUptoCard : Claim7 := { stood := { row := diskFailsUptoRow, standIns := [], harness := (true, "52848eb34f641b182e192c4e6e1d32e906c84c6ca6847d44952eedc8943dcf33"), looks := false }, kinds := [], alts := [], laidByText := true, laidKinds := [.data], laidTests := true, laidLooks := .later }
def DiskFailsUptoCardSaid : Prop := Claim7.holds Tryd.pinned (.plain (OpenSpec.upto diskFailsSpec)) diskFailsUptoCard

/-- THE SECOND FORM's CARD OF 'aqueductlaw4.TapeFaults'. -/
def tapeFaultsUptoCard : Claim7 := { stood := { row := tapeFaultsUptoRow, standIns := [], harness := (true, "52848eb34f641b182e192c4e6e1d32e906c84c6ca6847d44952eedc8943dcf33"), looks := false }, kinds := [], alts := [], laidByText := true, laidKinds := [.data, .data], laidTests := true, laidLooks := .later }
def TapeFaultsUptoCardSaid : Prop := Claim7.holds Tryd.pinned (.plain (OpenSpec.upto tapeFaultsSpec)) tapeFaultsUptoCard
end Rows
end Go.Proofs.YtbkiahnljklhpaaDoor
