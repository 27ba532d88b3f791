/-
  DERIVED. GIVEN WITH THE SEED: THE CARDS: each row of YtlfjffpbofigmaaDoorRows.lean that lists a variable, with what it lists TIED to the program's text (the seventh form; the later family's looks); each row that meets fmt, with fmt's text TOLD by the authors' own Lean function (tested against real Go, not proved from fmt's source: count such statements apart). THE CARD IS WHAT COUNTS. Prove the row's statement (the work); the ties are given (YtlfjffpbofigmaaDoorTie.lean); close each card by the builder's one call (the guide's Derived/Test/ToyasCard.lean, 'card_holds'). Laid BY PROGRAM, IN A SANDBOX (cutbox-door.mjs). By AI agents, Wed Nov 11 2026. No macro, syntax, notation, axiom, sorry.
-/
import Derived.Test.YtlfjffpbofigmaaDoorRows
import GoSem.ClaimSeven
namespace Go.Proofs.YtlfjffpbofigmaaDoor
namespace Rows

/-- THE TIED CARD OF 'aqueductlaw4.TapeBack'. -/
def tapeBackCard : Claim7 := { stood := { row := tapeBackRow, standIns := [], harness := (true, "30dcdc3661fe86615e79e4407b14bb6dabcc613d3cc29dfb6e09242664def4fa"), looks := false }, kinds := [], alts := [], laidByText := true, laidKinds := [.data, .data], laidTests := true, laidLooks := .later }
def TapeBackCardSaid : Prop := Claim7.holds Tryd.pinned (.plain (OpenSpec.ofChange tapeBackSpec)) tapeBackCard

/-- THE TIED CARD OF 'aqueductlaw4.TapeTwo'. -/
def tapeTwoCard : Claim7 := { stood := { row := tapeTwoRow, standIns := [], harness := (true, "30dcdc3661fe86615e79e4407b14bb6dabcc613d3cc29dfb6e09242664def4fa"), looks := false }, kinds := [], alts := [], laidByText := true, laidKinds := [.data, .data], laidTests := true, laidLooks := .later }
def TapeTwoCardSaid : Prop := Claim7.holds Tryd.pinned (.plain (OpenSpec.ofChange tapeTwoSpec)) tapeTwoCard

/-- THE TIED CARD OF 'aqueductlaw4.TapeFaults'. -/
def tapeFaultsCard : Claim7 := { stood := { row := tapeFaultsRow, standIns := [], harness := (true, "30dcdc3661fe86615e79e4407b14bb6dabcc613d3cc29dfb6e09242664def4fa"), looks := false }, kinds := [], alts := [], laidByText := true, laidKinds := [.data, .data], laidTests := true, laidLooks := .later }
def TapeFaultsCardSaid : Prop := Claim7.holds Tryd.pinned (.plain (OpenSpec.ofChange tapeFaultsSpec)) tapeFaultsCard

/-- THE TIED CARD OF 'aqueductlaw4.TapeEdges'. -/
def tapeEdgesCard : Claim7 := { stood := { row := tapeEdgesRow, standIns := [], harness := (true, "30dcdc3661fe86615e79e4407b14bb6dabcc613d3cc29dfb6e09242664def4fa"), looks := false }, kinds := [], alts := [], laidByText := true, laidKinds := [.data, .data], laidTests := true, laidLooks := .later }
def TapeEdgesCardSaid : Prop := Claim7.holds Tryd.pinned (.plain (OpenSpec.ofChange tapeEdgesSpec)) tapeEdgesCard

/-- THE TIED CARD OF 'aqueductlaw4.TapeTurned'. -/
def tapeTurnedCard : Claim7 := { stood := { row := tapeTurnedRow, standIns := [], harness := (true, "30dcdc3661fe86615e79e4407b14bb6dabcc613d3cc29dfb6e09242664def4fa"), looks := false }, kinds := [], alts := [], laidByText := true, laidKinds := [.data, .data], laidTests := true, laidLooks := .later }
def TapeTurnedCardSaid : Prop := Claim7.holds Tryd.pinned (.plain (OpenSpec.ofChange tapeTurnedSpec)) tapeTurnedCard

/-- THE TIED CARD OF 'aqueductlaw4.TapeAborts'. -/
def tapeAbortsCard : Claim7 := { stood := { row := tapeAbortsRow, standIns := [], harness := (true, "30dcdc3661fe86615e79e4407b14bb6dabcc613d3cc29dfb6e09242664def4fa"), looks := false }, kinds := [], alts := [], laidByText := true, laidKinds := [.data, .data], laidTests := true, laidLooks := .later }
def TapeAbortsCardSaid : Prop := Claim7.holds Tryd.pinned (.plain (OpenSpec.ofChange tapeAbortsSpec)) tapeAbortsCard

/-- THE SECOND FORM's CARD OF 'aqueductlaw4.TapeBack'. -/
def tapeBackUptoCard : Claim7 := { stood := { row := tapeBackUptoRow, standIns := [], harness := (true, "30dcdc3661fe86615e79e4407b14bb6dabcc613d3cc29dfb6e09242664def4fa"), looks := false }, kinds := [], alts := [], laidByText := true, laidKinds := [.data, .data], laidTests := true, laidLooks := .later }
def TapeBackUptoCardSaid : Prop := Claim7.holds Tryd.pinned (.plain (OpenSpec.upto tapeBackSpec)) tapeBackUptoCard

/-- THE SECOND FORM's CARD OF 'aqueductlaw4.TapeTwo'. -/
def tapeTwoUptoCard : Claim7 := { stood := { row := tapeTwoUptoRow, standIns := [], harness := (true, "30dcdc3661fe86615e79e4407b14bb6dabcc613d3cc29dfb6e09242664def4fa"), looks := false }, kinds := [], alts := [], laidByText := true, laidKinds := [.data, .data], laidTests := true, laidLooks := .later }
def TapeTwoUptoCardSaid : Prop := Claim7.holds Tryd.pinned (.plain (OpenSpec.upto tapeTwoSpec)) tapeTwoUptoCard

/-- THE SECOND FORM's CARD OF 'aqueductlaw4.TapeFaults'. -/
def tapeFaultsUptoCard : Claim7 := { stood := { row := tapeFaultsUptoRow, standIns := [], harness := (true, "30dcdc3661fe86615e79e4407b14bb6dabcc613d3cc29dfb6e09242664def4fa"), looks := false }, kinds := [], alts := [], laidByText := true, laidKinds := [.data, .data], laidTests := true, laidLooks := .later }
def TapeFaultsUptoCardSaid : Prop := Claim7.holds Tryd.pinned (.plain (OpenSpec.upto tapeFaultsSpec)) tapeFaultsUptoCard

/-- THE SECOND FORM's CARD OF 'aqueductlaw4.TapeEdges'. -/
def tapeEdgesUptoCard : Claim7 := { stood := { row := tapeEdgesUptoRow, standIns := [], harness := (true, "30dcdc3661fe86615e79e4407b14bb6dabcc613d3cc29dfb6e09242664def4fa"), looks := false }, kinds := [], alts := [], laidByText := true, laidKinds := [.data, .data], laidTests := true, laidLooks := .later }
def TapeEdgesUptoCardSaid : Prop := Claim7.holds Tryd.pinned (.plain (OpenSpec.upto tapeEdgesSpec)) tapeEdgesUptoCard

/-- THE SECOND FORM's CARD OF 'aqueductlaw4.TapeTurned'. -/
def tapeTurnedUptoCard : Claim7 := { stood := { row := tapeTurnedUptoRow, standIns := [], harness := (true, "30dcdc3661fe86615e79e4407b14bb6dabcc613d3cc29dfb6e09242664def4fa"), looks := false }, kinds := [], alts := [], laidByText := true, laidKinds := [.data, .data], laidTests := true, laidLooks := .later }
def TapeTurnedUptoCardSaid : Prop := Claim7.holds Tryd.pinned (.plain (OpenSpec.upto tapeTurnedSpec)) tapeTurnedUptoCard

/-- THE SECOND FORM's CARD OF 'aqueductlaw4.TapeAborts'. -/
def tapeAbortsUptoCard : Claim7 := { stood := { row := tapeAbortsUptoRow, standIns := [], harness := (true, "30dcdc3661fe86615e79e4407b14bb6dabcc613d3cc29dfb6e09242664def4fa"), looks := false }, kinds := [], alts := [], laidByText := true, laidKinds := [.data, .data], laidTests := true, laidLooks := .later }
def TapeAbortsUptoCardSaid : Prop := Claim7.holds Tryd.pinned (.plain (OpenSpec.upto tapeAbortsSpec)) tapeAbortsUptoCard
end Rows
end Go.Proofs.YtlfjffpbofigmaaDoor
