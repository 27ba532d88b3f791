/-
  DERIVED. GIVEN WITH THE SEED: THE CARDS: each row of YtngllchoiffniaaGreatDoorRows.lean that lists a variable, with what it lists TIED to the program's text (the seventh form; the later family's looks); each row that meets fmt, with fmt's text TOLD by the authors' own Lean function (tested against real Go, not proved from fmt's source: count such statements apart). THE CARD IS WHAT COUNTS. Prove the row's statement (the work); the ties are given (YtngllchoiffniaaGreatDoorTie.lean); close each card by the builder's one call (the guide's Derived/Test/ToyasCard.lean, 'card_holds'). Laid BY PROGRAM, IN A SANDBOX (cutbox-door.mjs). By AI agents, Wed Nov 11 2026. No macro, syntax, notation, axiom, sorry.
-/
import Derived.Test.YtngllchoiffniaaGreatDoorRows
import GoSem.ClaimSeven
namespace Go.Proofs.YtngllchoiffniaaGreatDoor
namespace Rows

/-- THE TIED CARD OF 'aqueductlaw12.AccumAdds'. -/
def accumAddsCard : Claim7 := { stood := { row := accumAddsRow, standIns := [], harness := (true, "dc7b130b6cd8b5b41d279ba2f6f488919146c8e5cea7faeebaa90e8e0d0008f9"), looks := false }, kinds := [], alts := [], laidByText := true, laidKinds := [.data, .data, .data, .data, .widerDeep, .pinned], laidTests := true, laidLooks := .later }
def AccumAddsCardSaid : Prop := Claim7.holds Tryz.pinned (.plain (OpenSpec.ofChange accumAddsSpec)) accumAddsCard

/-- THE TIED CARD OF 'aqueductlaw12.AccumOrder'. -/
def accumOrderCard : Claim7 := { stood := { row := accumOrderRow, standIns := [], harness := (true, "dc7b130b6cd8b5b41d279ba2f6f488919146c8e5cea7faeebaa90e8e0d0008f9"), looks := false }, kinds := [], alts := [], laidByText := true, laidKinds := [.data, .data, .data, .data, .widerDeep, .pinned], laidTests := true, laidLooks := .later }
def AccumOrderCardSaid : Prop := Claim7.holds Tryz.pinned (.plain (OpenSpec.ofChange accumOrderSpec)) accumOrderCard

/-- THE SECOND FORM's CARD OF 'aqueductlaw12.AccumAdds'. -/
def accumAddsUptoCard : Claim7 := { stood := { row := accumAddsUptoRow, standIns := [], harness := (true, "dc7b130b6cd8b5b41d279ba2f6f488919146c8e5cea7faeebaa90e8e0d0008f9"), looks := false }, kinds := [], alts := [], laidByText := true, laidKinds := [.data, .data, .data, .data, .widerDeep, .pinned], laidTests := true, laidLooks := .later }
def AccumAddsUptoCardSaid : Prop := Claim7.holds Tryz.pinned (.plain (OpenSpec.upto accumAddsSpec)) accumAddsUptoCard

/-- THE SECOND FORM's CARD OF 'aqueductlaw12.AccumOrder'. -/
def accumOrderUptoCard : Claim7 := { stood := { row := accumOrderUptoRow, standIns := [], harness := (true, "dc7b130b6cd8b5b41d279ba2f6f488919146c8e5cea7faeebaa90e8e0d0008f9"), looks := false }, kinds := [], alts := [], laidByText := true, laidKinds := [.data, .data, .data, .data, .widerDeep, .pinned], laidTests := true, laidLooks := .later }
def AccumOrderUptoCardSaid : Prop := Claim7.holds Tryz.pinned (.plain (OpenSpec.upto accumOrderSpec)) accumOrderUptoCard
end Rows
end Go.Proofs.YtngllchoiffniaaGreatDoor
