/-
  DERIVED. GIVEN WITH THE SEED: THE CARDS: each row of YtdihelpimpkfoaaDoorRows.lean that lists a variable, with what it lists TIED to the program's text (the seventh form; the later family's looks); each row that meets fmt, with fmt's text TOLD by the authors' own Lean function (tested against real Go, not proved from fmt's source: count such statements apart). THE CARD IS WHAT COUNTS. Prove the row's statement (the work); the ties are given (YtdihelpimpkfoaaDoorTie.lean); close each card by the builder's one call (the guide's Derived/Test/ToyasCard.lean, 'card_holds'). Laid BY PROGRAM, IN A SANDBOX (cutbox-door.mjs). By AI agents, Wed Nov 11 2026. No macro, syntax, notation, axiom, sorry.
-/
import Derived.Test.YtdihelpimpkfoaaDoorRows
import GoSem.ClaimSeven
namespace Go.Proofs.YtdihelpimpkfoaaDoor
namespace Rows

/-- THE TIED CARD OF 'aqueductlaw5.BsonOrder'. -/
def bsonOrderCard : Claim7 := { stood := { row := bsonOrderRow, standIns := [], harness := (true, "ce1adab3cb02be652fc4400bdfd7edc48ec1239a2d787a65e49540cea3619f3d"), looks := false }, kinds := [], alts := [], laidByText := true, laidKinds := [.data, .data, .data, .data, .pinned], laidTests := true, laidLooks := .later }
def BsonOrderCardSaid : Prop := Claim7.holds Tryd.pinned (.plain (OpenSpec.ofChange bsonOrderSpec)) bsonOrderCard

/-- THE SECOND FORM's CARD OF 'aqueductlaw5.BsonOrder'. -/
def bsonOrderUptoCard : Claim7 := { stood := { row := bsonOrderUptoRow, standIns := [], harness := (true, "ce1adab3cb02be652fc4400bdfd7edc48ec1239a2d787a65e49540cea3619f3d"), looks := false }, kinds := [], alts := [], laidByText := true, laidKinds := [.data, .data, .data, .data, .pinned], laidTests := true, laidLooks := .later }
def BsonOrderUptoCardSaid : Prop := Claim7.holds Tryd.pinned (.plain (OpenSpec.upto bsonOrderSpec)) bsonOrderUptoCard
end Rows
end Go.Proofs.YtdihelpimpkfoaaDoor
