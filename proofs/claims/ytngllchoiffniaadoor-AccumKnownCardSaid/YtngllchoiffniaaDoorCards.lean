/-
  DERIVED. GIVEN WITH THE SEED: THE CARDS: each row of YtngllchoiffniaaDoorRows.lean that lists a variable, with what it lists TIED to the program's text (the seventh form; the later family's looks); each row that meets fmt, with fmt's text TOLD by the authors' own Lean function (tested against real Go, not proved from fmt's source: count such statements apart). THE CARD IS WHAT COUNTS. Prove the row's statement (the work); the ties are given (YtngllchoiffniaaDoorTie.lean); close each card by the builder's one call (the guide's Derived/Test/ToyasCard.lean, 'card_holds'). Laid BY PROGRAM, IN A SANDBOX (cutbox-door.mjs). By AI agents, Wed Nov 11 2026. No macro, syntax, notation, axiom, sorry.
-/
import Derived.Test.YtngllchoiffniaaDoorRows
import GoSem.ClaimSeven
namespace Go.Proofs.YtngllchoiffniaaDoor
namespace Rows

/-- THE TIED CARD OF 'aqueductlaw12.AccumLong'. -/
def accumLongCard : Claim7 := { stood := { row := accumLongRow, standIns := [], harness := (true, "a1a3f32da27d4579391b09dc7ab0b52b3a29d4c14ddb7661f079a8938efcbf5b"), looks := false }, kinds := [], alts := [], laidByText := true, laidKinds := [.data, .data, .data, .data, .widerDeep, .pinned], laidTests := true, laidLooks := .later }
def AccumLongCardSaid : Prop := Claim7.holds Tryd.pinned (.plain (OpenSpec.ofChange accumLongSpec)) accumLongCard

/-- THE TIED CARD OF 'aqueductlaw12.AccumKnown'. -/
def accumKnownCard : Claim7 := { stood := { row := accumKnownRow, standIns := [], harness := (true, "a1a3f32da27d4579391b09dc7ab0b52b3a29d4c14ddb7661f079a8938efcbf5b"), looks := false }, kinds := [], alts := [], laidByText := true, laidKinds := [.data, .data, .data, .data, .widerDeep, .pinned], laidTests := true, laidLooks := .later }
def AccumKnownCardSaid : Prop := Claim7.holds Tryd.pinned (.plain (OpenSpec.ofChange accumKnownSpec)) accumKnownCard

/-- THE SECOND FORM's CARD OF 'aqueductlaw12.AccumLong'. -/
def accumLongUptoCard : Claim7 := { stood := { row := accumLongUptoRow, standIns := [], harness := (true, "a1a3f32da27d4579391b09dc7ab0b52b3a29d4c14ddb7661f079a8938efcbf5b"), looks := false }, kinds := [], alts := [], laidByText := true, laidKinds := [.data, .data, .data, .data, .widerDeep, .pinned], laidTests := true, laidLooks := .later }
def AccumLongUptoCardSaid : Prop := Claim7.holds Tryd.pinned (.plain (OpenSpec.upto accumLongSpec)) accumLongUptoCard

/-- THE SECOND FORM's CARD OF 'aqueductlaw12.AccumKnown'. -/
def accumKnownUptoCard : Claim7 := { stood := { row := accumKnownUptoRow, standIns := [], harness := (true, "a1a3f32da27d4579391b09dc7ab0b52b3a29d4c14ddb7661f079a8938efcbf5b"), looks := false }, kinds := [], alts := [], laidByText := true, laidKinds := [.data, .data, .data, .data, .widerDeep, .pinned], laidTests := true, laidLooks := .later }
def AccumKnownUptoCardSaid : Prop := Claim7.holds Tryd.pinned (.plain (OpenSpec.upto accumKnownSpec)) accumKnownUptoCard
end Rows
end Go.Proofs.YtngllchoiffniaaDoor
